import Derived.Test.YtoiampkdmjpljaaGreatDoorPa20
import Derived.Test.YtoiampkdmjpljaaGreatDoorPa22
import Derived.Test.YtoiampkdmjpljaaGreatDoorPa7
/- What the reference's Unquote returns, for every string up to a bound. -/
namespace Go.Proofs.YtoiampkdmjpljaaGreatDoor
open Go.RowKit

def RUnqPost (s : ByteArray) (w : World) (e : Ending) (w' : World) : Prop :=
  w = w' ∧
  match unqO s.data.toList with
  | none => e = .returned (.tuple #[.string ⟨#[]⟩, .bool false])
  | some l => e = .returned (.tuple #[.string (strB l), .bool true])
theorem RUnqPost.none {s : ByteArray} {w : World} (h : unqO s.data.toList = none) : RUnqPost s w (.returned (.tuple #[.string ⟨#[]⟩, .bool false])) w :=
  ⟨rfl, by rw [h]⟩
def RUnqRel (s : ByteArray) (o i : Value) : Prop :=
  ∃ (k : Nat) (out : List UInt8), i = .int .i64 k ∧ o = .string (strB out) ∧ RInv s.data.toList out k

set_option maxHeartbeats 2000000 in
set_option maxRecDepth 100000 in
theorem refUnquote_any (s : ByteArray) (w : World) (hs : s.size ≤ 1000000000) :
    Calls Tryz.prog 133 #[.string s] w fun e w' => RUnqPost s w e w' := by
  by_cases hc : ctlS s.data.toList = true
  · go_enter Tryz.func133, Tryz.ntmps133
    go_wp2_with (go_at_call 115; refine (refControl_any _ _ (by unfold maxLen; omega)).mono ?_; rintro e w' ⟨rfl, rfl⟩)
    go_ret2
    exact RUnqPost.none (unq_ctl hc)
  · have hc' : ctlS s.data.toList = false := by simpa using hc
    clear hc
    by_cases h2 : s.size < 2
    · go_enter Tryz.func133, Tryz.ntmps133
      go_wp2_with (go_at_call 115; refine (refControl_any _ _ (by unfold maxLen; omega)).mono ?_; rintro e w' ⟨rfl, rfl⟩)
      go_ret2
      exact RUnqPost.none (unq_short h2)
    · by_cases h0 : s[0] = 34
      · have t0 : ((s[0].toNat : Int) != 34) = false := by rw [h0]; rfl
        have hu := unq_go (by omega) hc' h0
        have HU := Lib.hid hu
        clear h0 hu
        go_enter Tryz.func133, Tryz.ntmps133
        go_wp2_with (go_at_call 115; refine (refControl_any _ _ (by unfold maxLen; omega)).mono ?_; rintro e w' ⟨rfl, rfl⟩)
        go_loop [4, 5] (fun o i => RUnqRel s o i) (fun _ i => s.size - (intOf i).toNat)
        case atStart => exact ⟨1, [], rfl, rfl, RInv0 _ (by simp; omega)⟩
        case round =>
          obtain ⟨k, out, rfl, rfl, hI⟩ := hrel
          have hL : s.data.toList.length = s.size := by simp
          have HI := Lib.hid hI
          have HLen := Lib.hid hL
          have hk1 : 1 ≤ k := hI.1
          have ho : out.length ≤ k := hI.2.1
          have hke : k ≤ s.size + 1 := by rcases hI.2.2 with h | h <;> omega
          have hz := strB_size out
          have hz2 : (strB out).size ≤ k := by omega
          clear hI hL hz
          by_cases hlt : k < s.size
          · by_cases h34 : s[k] = 34
            · have t34 : ((s[k].toNat : Int) != 34) = false := by rw [h34]; rfl
              have hst := HI.out.stop (by rw [HLen.out]; exact hlt) h34
              rw [HLen.out] at hst
              have HST := Lib.hid hst
              clear h34 hst
              by_cases hend : k + 1 = s.size
              · have te : ((k : Int) != (s.size : Int) - 1) = false := by simp; omega
                have HE := Lib.hid hend
                clear hend
                go_wp2
                go_ret2
                refine ⟨rfl, ?_⟩
                rw [HU.out, HST.out, if_pos HE.out]
                rfl
              · have te : ((k : Int) != (s.size : Int) - 1) = true := by simp; omega
                have HE := Lib.hid hend
                clear hend
                go_wp2
                go_ret2
                exact RUnqPost.none (by rw [HU.out, HST.out, if_neg HE.out])
            · have t34 : ((s[k].toNat : Int) != 34) = true := by
                simp; intro h; exact h34 (UInt8.toNat_inj.mp (by show s[k].toNat = 34; omega))
              have H34 := Lib.hid h34
              clear h34
              by_cases h92 : s[k] = 92
              · have t92 : ((s[k].toNat : Int) == 92) = true := by rw [h92]; rfl
                have H92 := Lib.hid h92
                clear h92
                by_cases hend : k + 1 < s.size
                · have h1 := one_byte s (k + 1) hend
                  have H1 := Lib.hid h1
                  clear h1
                  go_wp2
                  go_round
                  case rel => exact ⟨k + 2, out ++ [s[k + 1]], by go_num, by rw [strB_app, H1.out], HI.out.two (by rw [HLen.out]; exact hend) H92.out⟩
                  case measure => simp [intOf]; omega
                · go_wp2
                  go_round
                  case rel => exact ⟨k + 2, out, by go_num, rfl, HI.out.last (by rw [HLen.out]; exact hlt) H92.out (by rw [HLen.out]; omega)⟩
                  case measure => simp [intOf]; omega
              · have t92 : ((s[k].toNat : Int) == 92) = false := by
                  simp; intro h; exact h92 (UInt8.toNat_inj.mp (by show s[k].toNat = 92; omega))
                have H92 := Lib.hid h92
                clear h92
                have h1 := one_byte s k hlt
                have H1 := Lib.hid h1
                clear h1
                go_wp2
                go_round
                case rel => exact ⟨k + 1, out ++ [s[k]], by go_num, by rw [strB_app, H1.out], HI.out.step (by rw [HLen.out]; exact hlt) H34.out H92.out⟩
                case measure => simp [intOf]; omega
          · have te : ((k : Int) != (s.size : Int) - 1) = true := by simp; omega
            have hp := HI.out.past (by rw [HLen.out]; omega)
            have HP := Lib.hid hp
            clear hp
            go_wp2
            go_ret2
            exact RUnqPost.none (by rw [HU.out]; exact HP.out)
      · have t0 : ((s[0].toNat : Int) != 34) = true := by
          simp; intro h; exact h0 (UInt8.toNat_inj.mp (by show s[0].toNat = 34; omega))
        have H0 := Lib.hid h0
        clear h0
        go_enter Tryz.func133, Tryz.ntmps133
        go_wp2_with (go_at_call 115; refine (refControl_any _ _ (by unfold maxLen; omega)).mono ?_; rintro e w' ⟨rfl, rfl⟩)
        go_ret2
        exact RUnqPost.none (unq_head (by omega) H0.out)
end Go.Proofs.YtoiampkdmjpljaaGreatDoor

/- What the reference's least and number return. -/
namespace Go.Proofs.YtoiampkdmjpljaaGreatDoor
open Go.RowKit

theorem refLeast11_any (a b : Int) (w : World) (ha : -1 ≤ a ∧ a ≤ 2147483647) (hb : 0 ≤ b ∧ b ≤ 2147483647) :
    Calls Tryz.prog 110 #[.int .i64 a, .int .i64 b] w fun e w' => e = .returned (.int .i64 (leastD a b)) ∧ w = w' := by
  by_cases h1 : a < 0
  · have HR := Lib.hid (show leastD a b = b by unfold leastD; rw [if_pos (by omega)])
    go_enter Tryz.func110, Tryz.ntmps110
    go_wp2
    go_ret
    exact ⟨by first | (rw [HR.out]; rfl) | rw [HR.out], rfl⟩
  · have HR := Lib.hid (show leastD a b = min a b by unfold leastD; rw [if_neg (by omega), if_neg (by omega)])
    go_enter Tryz.func110, Tryz.ntmps110
    go_wp2
    go_ret
    exact ⟨by first | (rw [HR.out]; rfl) | rw [HR.out], rfl⟩
abbrev numRV (o : Option Int) : Value := .tuple #[.int .i64 (o.getD 0), .bool o.isSome]
theorem sec_plain {a : List UInt8} (h : a.headD 0 ≠ 34) (hn : a ≠ []) : secL a = numA a 0 := by
  unfold secL argL; rw [if_neg h, if_neg hn]
theorem sec_quoted {a l : List UInt8} (h : a.headD 0 = 34) (hu : unqO a = some l) : secL a = if l = [] then none else numA l 0 := by
  unfold secL argL; rw [if_pos h, hu]; rfl
theorem sec_bad {a : List UInt8} (h : a.headD 0 = 34) (hu : unqO a = none) : secL a = none := by
  unfold secL argL; rw [if_pos h, hu]; rfl
theorem unq_len {a l : List UInt8} (hu : unqO a = some l) : l.length ≤ a.length := by
  unfold unqO at hu
  split at hu
  · cases hu
  · have := rq_len _ _ _ hu
    simp only [List.length_drop] at this
    omega
set_option maxHeartbeats 2000000 in
set_option maxRecDepth 100000 in
theorem refNum11_any (a : List UInt8) (w : World) (ha : a.length ≤ 1000000) :
    Calls Tryz.prog 109 #[.string (strB a)] w fun e w' => e = .returned (numRV (secL a)) ∧ w = w' := by
  have hxs : (strB a).size = a.length := strB_size a
  by_cases hae : a = []
  · have hem := empty_yes hae
    have hd : (strB a).toList = [] := by rw [ByteArray.toList_eq, strB_list, hae]
    have hz : a.length = 0 := by rw [hae]; rfl
    have HR := Lib.hid (show numRV (secL a) = .tuple #[.int .i64 0, .bool false] by rw [hae]; rfl)
    clear hae
    go_enter Tryz.func109, Tryz.ntmps109
    go_wp2
    go_loop [6, 25] (fun n i => n = .int .i64 0 ∧ i = .int .i64 0) (fun _ _ => 0)
    case atStart => exact ⟨rfl, rfl⟩
    case round =>
      obtain ⟨rfl, rfl⟩ := hrel
      go_wp2
      go_ret2
      exact ⟨by first | (rw [HR.out]; rfl) | rw [HR.out], rfl⟩
  · have hem := empty_no hae
    have hd : ¬ (strB a).toList = [] := by rw [ByteArray.toList_eq, strB_list]; exact hae
    have hpos : 0 < a.length := List.length_pos_iff.mpr hae
    have hg0 : (strB a)[0]'(by omega) = a[0] := rfl
    have hh : a.headD 0 = a[0] := by cases a with | nil => exact absurd rfl hae | cons c r => rfl
    by_cases hq : a[0] = 34
    · have hq0 : a.headD 0 = 34 := hh.trans hq
      have hqn : a[0].toNat = 34 := by rw [hq]; rfl
      have hqa : 34 ≤ a[0].toNat := by omega
      have hqb : a[0].toNat ≤ 34 := by omega
      have HU := Lib.hid (fun w => refUnquote_any (strB a) w (by omega))
      cases hu : unqO a with
      | none =>
        have HR := Lib.hid (show numRV (secL a) = .tuple #[.int .i64 0, .bool false] by rw [sec_bad hq0 hu]; rfl)
        have HU2 := Lib.hid hu
        clear hu hq hqn hq0 hh hae
        go_enter Tryz.func109, Tryz.ntmps109
        go_wp2_with fail
        refine (HU.out _).mono ?_
        rintro e w' ⟨rfl, hc⟩
        rw [strB_list, HU2.out] at hc
        subst hc
        go_wp2_with fail
        go_ret2
        exact ⟨by first | (rw [HR.out]; rfl) | rw [HR.out], rfl⟩
      | some l =>
        have hln := unq_len hu
        have hlz : (strB l).size = l.length := strB_size l
        have HU2 := Lib.hid hu
        have HQ := Lib.hid (sec_quoted hq0 hu)
        clear hu hq hqn hq0 hh hae
        by_cases hle : l = []
        · have hem2 := empty_yes hle
          have hd2 : (strB l).toList = [] := by rw [ByteArray.toList_eq, strB_list, hle]
          have hz : l.length = 0 := by rw [hle]; rfl
          have HR := Lib.hid (show numRV (secL a) = .tuple #[.int .i64 0, .bool false] by rw [HQ.out, if_pos hle]; rfl)
          clear hle
          go_enter Tryz.func109, Tryz.ntmps109
          go_wp2_with fail
          refine (HU.out _).mono ?_
          rintro e w' ⟨rfl, hc⟩
          rw [strB_list, HU2.out] at hc
          subst hc
          go_wp2_with fail
          go_loop [6, 25] (fun n i => n = .int .i64 0 ∧ i = .int .i64 0) (fun _ _ => 0)
          case atStart => exact ⟨rfl, rfl⟩
          case round =>
            obtain ⟨rfl, rfl⟩ := hrel
            go_wp2
            go_ret2
            exact ⟨by first | (rw [HR.out]; rfl) | rw [HR.out], rfl⟩
        · have hem2 := empty_no hle
          have hd2 : ¬ (strB l).toList = [] := by rw [ByteArray.toList_eq, strB_list]; exact hle
          have HR := Lib.hid (show secL a = numA l 0 by rw [HQ.out, if_neg hle])
          clear hle
          go_enter Tryz.func109, Tryz.ntmps109
          go_wp2_with fail
          refine (HU.out _).mono ?_
          rintro e w' ⟨rfl, hc⟩
          rw [strB_list, HU2.out] at hc
          subst hc
          go_wp2_with fail
          go_loop [6, 25] (fun n i => SecRel l n i) (fun _ i => l.length - (intOf i).toNat)
          case atStart => exact ⟨0, 0, rfl, Nat.zero_le _, rfl, by omega, by omega, rfl⟩
          case round =>
            obtain ⟨k, m, rfl, hk, rfl, hm0, hm1, hrel⟩ := hrel
            have HREL := Lib.hid hrel
            clear hrel
            by_cases hlt : k < l.length
            · have hg : (strB l)[k]'(by omega) = l[k] := rfl
              by_cases h1 : l[k].toNat < 48
              · have HN := Lib.hid (show numRV (secL a) = .tuple #[.int .i64 0, .bool false] by rw [HR.out, ← HREL.out, num_drop hlt m, if_neg (by omega)]; rfl)
                go_wp2
                go_ret2
                exact ⟨by first | (rw [HN.out]; rfl) | rw [HN.out], rfl⟩
              · by_cases h2 : 57 < l[k].toNat
                · have HN := Lib.hid (show numRV (secL a) = .tuple #[.int .i64 0, .bool false] by rw [HR.out, ← HREL.out, num_drop hlt m, if_neg (by omega)]; rfl)
                  go_wp2
                  go_ret2
                  exact ⟨by first | (rw [HN.out]; rfl) | rw [HN.out], rfl⟩
                · have HN := Lib.hid (HREL.out.symm.trans ((num_drop hlt m).trans (if_pos (by omega))))
                  go_wp2
                  go_round
                  case rel => exact ⟨k + 1, min (10 * m + ((l[k].toNat : Int) - 48)) 2147483647, by go_num, by omega, rfl, by omega, by omega, HN.out.symm⟩
                  case measure => simp [intOf]; omega
            · have HN := Lib.hid (show numRV (secL a) = .tuple #[.int .i64 m, .bool true] by rw [HR.out, ← HREL.out, List.drop_eq_nil_of_le (by omega)]; rfl)
              go_wp2
              go_ret2
              exact ⟨by first | (rw [HN.out]; rfl) | rw [HN.out], rfl⟩
    · have hqn : ((a[0].toNat : Int) == 34) = false := by simp; intro h; exact hq (UInt8.toNat_inj.mp (by show a[0].toNat = 34; omega))
      have HR := Lib.hid (sec_plain (by rw [hh]; exact hq) hae)
      clear hq hh hae
      go_enter Tryz.func109, Tryz.ntmps109
      go_wp2
      go_loop [6, 25] (fun n i => SecRel a n i) (fun _ i => a.length - (intOf i).toNat)
      case atStart => exact ⟨0, 0, rfl, Nat.zero_le _, rfl, by omega, by omega, rfl⟩
      case round =>
        obtain ⟨k, m, rfl, hk, rfl, hm0, hm1, hrel⟩ := hrel
        have HREL := Lib.hid hrel
        clear hrel
        by_cases hlt : k < a.length
        · have hg : (strB a)[k]'(by omega) = a[k] := rfl
          by_cases h1 : a[k].toNat < 48
          · have HN := Lib.hid (show numRV (secL a) = .tuple #[.int .i64 0, .bool false] by rw [HR.out, ← HREL.out, num_drop hlt m, if_neg (by omega)]; rfl)
            go_wp2
            go_ret2
            exact ⟨by first | (rw [HN.out]; rfl) | rw [HN.out], rfl⟩
          · by_cases h2 : 57 < a[k].toNat
            · have HN := Lib.hid (show numRV (secL a) = .tuple #[.int .i64 0, .bool false] by rw [HR.out, ← HREL.out, num_drop hlt m, if_neg (by omega)]; rfl)
              go_wp2
              go_ret2
              exact ⟨by first | (rw [HN.out]; rfl) | rw [HN.out], rfl⟩
            · have HN := Lib.hid (HREL.out.symm.trans ((num_drop hlt m).trans (if_pos (by omega))))
              go_wp2
              go_round
              case rel => exact ⟨k + 1, min (10 * m + ((a[k].toNat : Int) - 48)) 2147483647, by go_num, by omega, rfl, by omega, by omega, HN.out.symm⟩
              case measure => simp [intOf]; omega
        · have HN := Lib.hid (show numRV (secL a) = .tuple #[.int .i64 m, .bool true] by rw [HR.out, ← HREL.out, List.drop_eq_nil_of_le (by omega)]; rfl)
          go_wp2
          go_ret2
          exact ⟨by first | (rw [HN.out]; rfl) | rw [HN.out], rfl⟩
end Go.Proofs.YtoiampkdmjpljaaGreatDoor

/- What the reference's with returns: directives with an element more. -/
namespace Go.Proofs.YtoiampkdmjpljaaGreatDoor
open Go.RowKit

/-- An element before its equals sign, and behind it. -/
def EqAt (e nm ar : List UInt8) (fd : Bool) : Prop :=
  nm.length ≤ e.length ∧ ar.length ≤ e.length ∧ (∀ d, elemD d e = putD d (lowS nm) (if fd = true then some ar else none)) ∧ (fd = false → ar = []) ∧
  e.take nm.length = nm ∧ 61 ∉ nm ∧ (fd = true → nm.length < e.length ∧ e[nm.length]? = some 61 ∧ e.drop (nm.length + 1) = ar) ∧ (fd = false → nm.length = e.length)
theorem eqAt_ex (e : List UInt8) : ∃ nm ar fd, EqAt e nm ar fd := by
  cases hc : cutE e with
  | none =>
    refine ⟨e, [], false, Nat.le_refl _, by simp, fun d => ?_, fun _ => rfl, by simp, ?_, (fun h => by cases h), fun _ => rfl⟩
    · unfold elemD; rw [hc]; rfl
    · have : ∀ l : List UInt8, cutE l = none → 61 ∉ l := by
        intro l
        induction l with
        | nil => intro _ h; cases h
        | cons c r ih =>
          intro h hm
          unfold cutE at h
          split at h
          · cases h
          · rename_i hc'
            have hr : cutE r = none := by cases hr : cutE r with
              | none => rfl
              | some p => rw [hr] at h; cases h
            rcases List.mem_cons.1 hm with e1 | e1
            · exact hc' e1.symm
            · exact ih hr e1
      exact this e hc
  | some p =>
    obtain ⟨a, b⟩ := p
    have hl := cutE_len hc
    obtain ⟨h1, h2⟩ := cutE_eq hc
    refine ⟨a, b, true, by omega, by omega, fun d => ?_, (fun h => by cases h), ?_, h2, fun _ => ⟨by omega, ?_, ?_⟩, (fun h => by cases h)⟩
    · unfold elemD; rw [hc]; rfl
    · rw [h1]; simp
    · rw [h1]; simp
    · rw [h1]; simp
theorem seg0 (e : List UInt8) (k : Nat) : (strB e).extract 0 k = strB (e.take k) := strB_ext (by rw [seg_list, strB_list]; simp)
theorem segTo (e : List UInt8) (k : Nat) : (strB e).extract k e.length = strB (e.drop k) := strB_ext (by rw [seg_list, strB_list, List.take_of_length_le (by simp)])
theorem argOk {ar : List UInt8} {fd : Bool} (h : fd = false → ar = []) : argX (if fd = true then some ar else none) = (secL ar).getD 0 ∧ argZ (if fd = true then some ar else none) = (secL ar).getD 2147483647 := ⟨argX_of h, argZ_of h⟩
theorem num_ex (ar : List UInt8) : ∃ (ok : Bool) (z0 : Int), numRV (secL ar) = .tuple #[.int .i64 z0, .bool ok] ∧ argX (some ar) = z0 ∧ argY (some ar) = z0 ∧ argZ (some ar) = (if ok = true then z0 else 2147483647) ∧ (ok = false → z0 = 0) ∧ 0 ≤ z0 ∧ z0 ≤ 2147483647 := by
  have hb := sec_bdD ar 0 (by omega)
  refine ⟨(secL ar).isSome, (secL ar).getD 0, rfl, rfl, rfl, ?_, ?_, hb⟩
  · show (secL ar).getD 2147483647 = _
    cases secL ar <;> rfl
  · cases secL ar with
    | none => intro _; rfl
    | some n => intro h; cases h
def WithRel (nm : List UInt8) (i : Value) : Prop := ∃ k : Nat, i = .int .i64 k ∧ k ≤ nm.length

end Go.Proofs.YtoiampkdmjpljaaGreatDoor
