import Derived.Test.YtieolalohindgaaGreatDoorPa15
import Derived.Test.YtieolalohindgaaGreatDoorPa4
import Derived.Deep.QuietTactic
import Derived.BigQuiet
import Derived.Test.YtieolalohindgaaGreatDoorPa0
/- What the code's Unquote and the reference's Unquote return, for every string up to a bound. -/
namespace Go.Proofs.YtieolalohindgaaGreatDoor
open Go.RowKit

theorem getU (s : ByteArray) (k : Nat) (h : k < s.data.toList.length) : s.data.toList[k] = s[k]'(by simpa using h) := rfl
theorem unq_short {s : ByteArray} (h : s.size < 2) : unqO s.data.toList = none := by
  unfold unqO; rw [if_pos (.inr (.inl (by simpa using h)))]
theorem unq_ctl {s : ByteArray} (h : ctlS s.data.toList = true) : unqO s.data.toList = none := by
  unfold unqO; rw [if_pos (.inl h)]
theorem headD_get {s : ByteArray} (h : 0 < s.size) : s.data.toList.headD 0 = s[0] := by
  have : s.data.toList ≠ [] := by
    intro e
    have h2 : s.data.toList.length = s.size := by simp
    rw [e] at h2; simp at h2; omega
  cases hl : s.data.toList with
  | nil => exact absurd hl this
  | cons c t =>
    have e : s.data.toList[0]'(by simpa using h) = c := by simp [hl]
    rw [List.headD_cons, ← e]; rfl
theorem unq_head {s : ByteArray} (h0 : 0 < s.size) (h : s[0] ≠ 34) : unqO s.data.toList = none := by
  unfold unqO; rw [if_pos (.inr (.inr (by rw [headD_get h0]; exact h)))]
theorem unq_go {s : ByteArray} (h2 : 2 ≤ s.size) (hc : ctlS s.data.toList = false) (h : s[0] = 34) : unqO s.data.toList = rq false (s.data.toList.drop 1) := by
  unfold unqO; rw [if_neg]
  rintro (h1 | h1 | h1)
  · rw [hc] at h1; cases h1
  · simp at h1; omega
  · exact h1 (by rw [headD_get (by omega)]; exact h)
theorem drop_last {s : ByteArray} (h2 : 2 ≤ s.size) : s.data.toList.drop 1 = (s.extract 1 (s.size - 1)).data.toList ++ [s[s.size - 1]] := by
  rw [seg_list, ← List.take_append_drop (s.size - 1 - 1) (s.data.toList.drop 1)]
  congr 1
  · rw [List.take_append_drop]
  · rw [List.drop_drop, show 1 + (s.size - 1 - 1) = s.size - 1 by omega, List.drop_eq_getElem_cons (by simp; omega), List.drop_eq_nil_of_le (by simp; omega)]
    rfl
theorem unq_last {s : ByteArray} (h2 : 2 ≤ s.size) (h : s[s.size - 1] ≠ 34) : unqO s.data.toList = none := by
  unfold unqO; split
  · rfl
  · rw [drop_last h2, rq_uq, if_neg h]
theorem unq_items {s : ByteArray} (h2 : 2 ≤ s.size) (hc : ctlS s.data.toList = false) (h : s[0] = 34) (hl : s[s.size - 1] = 34) :
    unqO s.data.toList = uq false (s.extract 1 (s.size - 1)).data.toList := by
  rw [unq_go h2 hc h, drop_last h2, rq_uq, if_pos hl]

def UnqPost (s : ByteArray) (w : World) (e : Ending) (w' : World) : Prop :=
  Below w.heap.size w w' ∧
  match unqO s.data.toList with
  | none => e = .returned (.tuple #[.string ⟨#[]⟩, errForm])
  | some l => e = .returned (.tuple #[.string (strB l), .nilIface])
theorem UnqPost.none {s : ByteArray} {w w' : World} (h : unqO s.data.toList = none) (hb : Below w.heap.size w w') : UnqPost s w (.returned (.tuple #[.string ⟨#[]⟩, errForm])) w' :=
  ⟨hb, by rw [h]⟩

def UnqRel (it : ByteArray) (w : World) (i : Value) (wr : World) : Prop :=
  ∃ (k : Nat) (out : List UInt8), i = .int .i64 k ∧ UInv it.data.toList out k ∧ Bld w.heap.size w.heap.size out wr ∧ Below w.heap.size w wr
set_option maxHeartbeats 2000000 in
set_option maxRecDepth 100000 in
theorem unquote_any (s : ByteArray) (w : World) (hs : s.size ≤ 1000000000) :
    Calls Tryz.prog 96 #[.string s] w fun e w' => UnqPost s w e w' := by
  by_cases h2 : s.size < 2
  · go_enter Tryz.func96, Tryz.ntmps96
    go_wp2
    go_ret2
    exact UnqPost.none (unq_short h2) (Below.refl _ _)
  · by_cases h0 : s[0] = 34
    · have t0 : ((s[0].toNat : Int) != 34) = false := by rw [h0]; rfl
      have H0 := Lib.hid h0
      clear h0
      by_cases hl : s[s.size - 1] = 34
      · have tl : ((s[s.size - 1].toNat : Int) != 34) = false := by rw [hl]; rfl
        have HL := Lib.hid hl
        clear hl
        by_cases hc : ctlS s.data.toList = true
        · go_enter Tryz.func96, Tryz.ntmps96
          go_wp2_with (go_at_call 92; refine (hasControl_any _ _ (by unfold maxLen; omega)).mono ?_; rintro e w' ⟨rfl, rfl⟩)
          go_ret2
          exact UnqPost.none (unq_ctl hc) (Below.refl _ _)
        · have hc' : ctlS s.data.toList = false := by simpa using hc
          clear hc
          have hu := unq_items (by omega) hc' H0.out HL.out
          have HU := Lib.hid hu
          clear hu
          go_enter Tryz.func96, Tryz.ntmps96
          go_wp2_with (go_at_call 92; refine (hasControl_any _ _ (by unfold maxLen; omega)).mono ?_; rintro e w' ⟨rfl, rfl⟩)
          have hB0 : Below w.heap.size w (w.alloc (.cells #[.pointer none, .slice none 0 0] 135)) := (Below.refl _ _).alloc (Nat.le_refl _) _
          have hits : (s.extract 1 (s.size - 1)).size ≤ 1000000000 := by simp; omega
          revert HU hits
          generalize s.extract 1 (s.size - 1) = it
          intro HU hits
          go_loopw [6] (fun i wr => UnqRel it w i wr) (fun i _ => it.size - (intOf i).toNat)
          case atStart => exact ⟨0, [], rfl, UInv0 _, bld_new w, hB0⟩
          case round =>
            obtain ⟨k, out, rfl, hI, hb, hB⟩ := hrel
            have hL : it.data.toList.length = it.size := by simp
            have HI := Lib.hid hI
            have HLen := Lib.hid hL
            have hk : k ≤ it.size := by have := hI.1; omega
            have ho : out.length ≤ k := hI.2.1
            have hsz := hB.size
            clear hI hL
            by_cases hlt : k < it.size
            · by_cases h34 : it[k] = 34
              · have t34 : ((it[k].toNat : Int) == 34) = true := by rw [h34]; rfl
                have H34 := Lib.hid h34
                clear h34
                go_wp2
                go_ret2
                exact UnqPost.none (by rw [HU.out]; exact HI.out.bad (by rw [HLen.out]; exact hlt) H34.out) hB
              · have t34 : ((it[k].toNat : Int) == 34) = false := by
                  simp; intro h; exact h34 (UInt8.toNat_inj.mp (by show it[k].toNat = 34; omega))
                have H34 := Lib.hid h34
                clear h34
                by_cases h92 : it[k] = 92
                · have t92 : ((it[k].toNat : Int) == 92) = true := by rw [h92]; rfl
                  have H92 := Lib.hid h92
                  clear h92
                  by_cases hend : k + 1 < it.size
                  · have te : ((k : Int) + 1 == (it.size : Int)) = false := by simp; omega
                    go_wp2_with fail
                    refine (writeByte_any _ _ out it[k + 1] _ hb (by omega) hsz).mono ?_
                    rintro e w2 ⟨rfl, hb2, hBB⟩
                    go_wp2_with fail
                    go_roundw
                    case rel => exact ⟨k + 2, out ++ [it[k + 1]], by go_num, HI.out.two (by rw [HLen.out]; exact hend) H92.out, hb2, hB.trans hBB⟩
                    case measure => simp [intOf]; omega
                  · have te : ((k : Int) + 1 == (it.size : Int)) = true := by simp; omega
                    go_wp2
                    go_ret2
                    exact UnqPost.none (by rw [HU.out]; exact HI.out.last (by rw [HLen.out]; exact hlt) H92.out (by rw [HLen.out]; omega)) hB
                · have t92 : ((it[k].toNat : Int) == 92) = false := by
                    simp; intro h; exact h92 (UInt8.toNat_inj.mp (by show it[k].toNat = 92; omega))
                  have H92 := Lib.hid h92
                  clear h92
                  go_wp2_with fail
                  refine (writeByte_any _ _ out it[k] _ hb (by omega) hsz).mono ?_
                  rintro e w2 ⟨rfl, hb2, hBB⟩
                  go_wp2_with fail
                  go_roundw
                  case rel => exact ⟨k + 1, out ++ [it[k]], by go_num, HI.out.step (by rw [HLen.out]; exact hlt) H34.out H92.out, hb2, hB.trans hBB⟩
                  case measure => simp [intOf]; omega
            · go_wp2_with fail
              refine (builder_string _ _ _ _ hb hsz).mono ?_
              rintro e w3 ⟨rfl, hBB⟩
              go_wp2_with fail
              go_ret2
              refine ⟨hB.trans hBB, ?_⟩
              rw [HU.out, HI.out.done (by rw [HLen.out]; omega)]
              rfl
      · have tl : ((s[s.size - 1].toNat : Int) != 34) = true := by
          simp; intro h; exact hl (UInt8.toNat_inj.mp (by show s[s.size - 1].toNat = 34; omega))
        have HL := Lib.hid hl
        clear hl
        go_enter Tryz.func96, Tryz.ntmps96
        go_wp2
        go_ret2
        exact UnqPost.none (unq_last (by omega) HL.out) (Below.refl _ _)
    · have t0 : ((s[0].toNat : Int) != 34) = true := by
        simp; intro h; exact h0 (UInt8.toNat_inj.mp (by show s[0].toNat = 34; omega))
      have H0 := Lib.hid h0
      clear h0
      go_enter Tryz.func96, Tryz.ntmps96
      go_wp2
      go_ret2
      exact UnqPost.none (unq_head (by omega) H0.out) (Below.refl _ _)
end Go.Proofs.YtieolalohindgaaGreatDoor

/- What least and seconds return: the lesser time that is there; the number that an argument stands for. -/
namespace Go.Proofs.YtieolalohindgaaGreatDoor
open Go.RowKit

theorem least_any (a b : Int) (w : World) (_ha : -9223372036854775808 ≤ a ∧ a ≤ 9223372036854775807) (_hb : -9223372036854775808 ≤ b ∧ b ≤ 9223372036854775807) :
    Calls Tryz.prog 55 #[.int .i64 a, .int .i64 b] w fun e w' => e = .returned (.int .i64 (leastD a b)) ∧ w = w' := by
  by_cases h1 : a = -1
  · have hc : (a == -1) = true := by simpa using h1
    have HR := Lib.hid (show leastD a b = b by unfold leastD; rw [if_pos h1])
    clear h1
    go_enter Tryz.func55, Tryz.ntmps55
    go_wp2
    go_ret
    exact ⟨by first | (rw [HR.out]; rfl) | rw [HR.out], rfl⟩
  · have hc : (a == -1) = false := by simpa using h1
    by_cases h2 : b = -1
    · have hd : (b == -1) = true := by simpa using h2
      have HR := Lib.hid (show leastD a b = a by unfold leastD; rw [if_neg h1, if_pos h2])
      clear h1 h2
      go_enter Tryz.func55, Tryz.ntmps55
      go_wp2
      go_ret
      exact ⟨by first | (rw [HR.out]; rfl) | rw [HR.out], rfl⟩
    · have hd : (b == -1) = false := by simpa using h2
      have HR := Lib.hid (show leastD a b = min a b by unfold leastD; rw [if_neg h1, if_neg h2])
      clear h1 h2
      go_enter Tryz.func55, Tryz.ntmps55
      go_wp2
      go_ret
      exact ⟨by first | (rw [HR.out]; rfl) | rw [HR.out], rfl⟩

theorem pre34 (a : List UInt8) (b : Bool) (h : decide (a.headD 0 = 34) = b) : Lib.hasPrefix (strB a).data.toList (⟨#[34]⟩ : ByteArray).data.toList = b := by
  rw [strB_list, ← h]
  cases a with
  | nil => rfl
  | cons c r =>
    show ([34] : List UInt8).isPrefixOf (c :: r) = decide (c = 34)
    by_cases hc : c = 34
    · subst hc; simp [List.isPrefixOf]
    · have : ((34 : UInt8) == c) = false := by simpa using fun e => hc (e.symm)
      simp [List.isPrefixOf, this, hc]
/-- Unquote of an argument that begins with a quotation mark, whatever error comes with it. -/
theorem unqA_any (a : List UInt8) (w : World) (ha : a.length ≤ 1000000) (h : a.headD 0 = 34) :
    Calls Tryz.prog 96 #[.string (strB a)] w fun e w' => ∃ ev, e = .returned (.tuple #[.string (strB (argL a)), ev]) ∧ Below w.heap.size w w' := by
  refine (unquote_any (strB a) w (by rw [strB_size]; omega)).mono ?_
  rintro e w' ⟨hB, hc⟩
  rw [strB_list] at hc
  have e1 : argL a = (unqO a).getD [] := by unfold argL; rw [if_pos h]
  rw [e1]
  cases hu : unqO a with
  | none => rw [hu] at hc; exact ⟨_, hc, hB⟩
  | some l => rw [hu] at hc; exact ⟨_, hc, hB⟩
theorem rq_len : ∀ (l : List UInt8) (e : Bool) (m : List UInt8), rq e l = some m → m.length ≤ l.length := by
  intro l
  induction l with
  | nil => intro e m h; cases e <;> simp [rq] at h
  | cons c r ih =>
    intro e m h
    cases e
    · unfold rq at h
      split at h
      · split at h
        · simp only [Option.some.injEq] at h; subst h; simp
        · cases h
      · split at h
        · have := ih _ _ h; simp only [List.length_cons]; omega
        · cases hr : rq false r with
          | none => rw [hr] at h; cases h
          | some q =>
            rw [hr] at h; simp only [Option.map_some, Option.some.injEq] at h; subst h
            have := ih _ _ hr; simp only [List.length_cons]; omega
    · unfold rq at h
      cases hr : rq false r with
      | none => rw [hr] at h; cases h
      | some q =>
        rw [hr] at h; simp only [Option.map_some, Option.some.injEq] at h; subst h
        have := ih _ _ hr; simp only [List.length_cons]; omega
theorem arg_len (a : List UInt8) : (argL a).length ≤ a.length := by
  unfold argL
  split
  · cases hu : unqO a with
    | none => simp
    | some m =>
      unfold unqO at hu
      split at hu
      · cases hu
      · have := rq_len _ _ _ hu
        simp only [List.length_drop, Option.getD_some] at *
        omega
  · omega

/-- The number read so far. -/
def SecRel (x : List UInt8) (n i : Value) : Prop := ∃ (k : Nat) (m : Int), i = .int .i64 k ∧ k ≤ x.length ∧ n = .int .i64 m ∧ 0 ≤ m ∧ m ≤ 2147483647 ∧ numA (x.drop k) m = numA x 0
theorem num_drop {x : List UInt8} {k : Nat} (h : k < x.length) (m : Int) : numA (x.drop k) m = if 48 ≤ x[k].toNat ∧ x[k].toNat ≤ 57 then numA (x.drop (k + 1)) (min (10 * m + ((x[k].toNat : Int) - 48)) 2147483647) else none := by
  rw [List.drop_eq_getElem_cons h]; rfl
set_option maxHeartbeats 2000000 in
set_option maxRecDepth 100000 in
theorem seconds_any (a : List UInt8) (c : Int) (w : World) (ha : a.length ≤ 1000000) :
    Calls Tryz.prog 80 #[.string (strB a), .int .i64 c] w fun e w' => e = .returned (.int .i64 ((secL a).getD c)) ∧ Below w.heap.size w w' := by
  have hal := arg_len a
  have hxa : argL a = (if a.headD 0 = 34 then (unqO a).getD [] else a) := rfl
  have hse : secL a = if argL a = [] then none else numA (argL a) 0 := rfl
  have HU := Lib.hid (fun (w : World) (h : a.headD 0 = 34) => unqA_any a w ha h)
  obtain ⟨x, hx⟩ : ∃ x, argL a = x := ⟨_, rfl⟩
  rw [hx] at hal hse hxa HU
  have HSE := Lib.hid hse
  have HXA := Lib.hid hxa
  have hxs : (strB x).size = x.length := strB_size x
  clear hse hxa hx
  have hP := pre34 a
  have HP := Lib.hid hP
  clear hP
  cases hq : decide (a.headD 0 = 34) with
  | true =>
    have HP1 := Lib.hid (HP.out true hq)
    have HU1 := Lib.hid (fun w => HU.out w (of_decide_eq_true hq))
    clear HP HU hq HXA
    go_enter Tryz.func80, Tryz.ntmps80
    go_wp2_with fail
    refine (Tryz.strings_HasPrefix _ _ _).mono ?_
    rintro e w' ⟨rfl, rfl⟩
    rw [HP1.out]
    go_wp2_with fail
    refine (HU1.out _).mono ?_
    rintro e w1 ⟨ev, rfl, hB⟩
    by_cases hxe : x = []
    · have hem := empty_yes hxe
      have HR := Lib.hid (show (secL a).getD c = c by rw [HSE.out, if_pos hxe]; rfl)
      have hd : (strB x).toList = [] := by rw [ByteArray.toList_eq, strB_list, hxe]
      clear hxe
      go_wp2
      go_ret
      exact ⟨by first | (rw [HR.out]; rfl) | rw [HR.out], hB⟩
    · have hem := empty_no hxe
      have HR := Lib.hid (show secL a = numA x 0 by rw [HSE.out, if_neg hxe])
      have hd : ¬ (strB x).toList = [] := by rw [ByteArray.toList_eq, strB_list]; exact hxe
      clear hxe
      go_wp2
      go_loop [5, 6] (fun n i => SecRel x n i) (fun _ i => x.length - (intOf i).toNat)
      case atStart => exact ⟨0, 0, rfl, Nat.zero_le _, rfl, by omega, by omega, rfl⟩
      case round =>
        obtain ⟨k, m, rfl, hk, rfl, hm0, hm1, hrel⟩ := hrel
        have HREL := Lib.hid hrel
        clear hrel
        by_cases hlt : k < x.length
        · have hg : (strB x)[k]'(by omega) = x[k] := rfl
          by_cases hdg : digB x[k] = true
          · have hdd : 48 ≤ x[k].toNat ∧ x[k].toNat ≤ 57 := by simpa [digB] using hdg
            have HN := Lib.hid (HREL.out.symm.trans ((num_drop hlt m).trans (if_pos hdd)))
            go_wp2_with (go_at_call 97; refine (isDigit_any _ _).mono ?_; rintro e w' ⟨rfl, rfl⟩)
            go_round
            case rel => exact ⟨k + 1, min (10 * m + ((x[k].toNat : Int) - 48)) 2147483647, by go_num, by omega, rfl, by omega, by omega, HN.out.symm⟩
            case measure => simp [intOf]; omega
          · have hdd : ¬ (48 ≤ x[k].toNat ∧ x[k].toNat ≤ 57) := by simpa [digB] using hdg
            have hdf : digB x[k] = false := by simpa using hdg
            have HN := Lib.hid (show (secL a).getD c = c by rw [HR.out, ← HREL.out, num_drop hlt m, if_neg hdd]; rfl)
            clear hdg hdd
            go_wp2_with (go_at_call 97; refine (isDigit_any _ _).mono ?_; rintro e w' ⟨rfl, rfl⟩)
            go_ret
            exact ⟨by first | (rw [HN.out]; rfl) | rw [HN.out], hB⟩
        · have HN := Lib.hid (show (secL a).getD c = m by rw [HR.out, ← HREL.out, List.drop_eq_nil_of_le (by omega)]; rfl)
          go_wp2
          go_ret
          exact ⟨by first | (rw [HN.out]; rfl) | rw [HN.out], hB⟩
  | false =>
    obtain rfl : x = a := by rw [HXA.out, if_neg (of_decide_eq_false hq)]
    have HP1 := Lib.hid (HP.out false hq)
    clear HP HU hq HXA
    by_cases hxe : x = []
    · have hem := empty_yes hxe
      have HR := Lib.hid (show (secL x).getD c = c by rw [HSE.out, if_pos hxe]; rfl)
      have hd : (strB x).toList = [] := by rw [ByteArray.toList_eq, strB_list, hxe]
      clear hxe
      go_enter Tryz.func80, Tryz.ntmps80
      go_wp2_with fail
      refine (Tryz.strings_HasPrefix _ _ _).mono ?_
      rintro e w' ⟨rfl, rfl⟩
      rw [HP1.out]
      go_wp2_with fail
      go_ret
      exact ⟨by first | (rw [HR.out]; rfl) | rw [HR.out], Below.refl _ _⟩
    · have hem := empty_no hxe
      have HR := Lib.hid (show secL x = numA x 0 by rw [HSE.out, if_neg hxe])
      have hd : ¬ (strB x).toList = [] := by rw [ByteArray.toList_eq, strB_list]; exact hxe
      clear hxe
      go_enter Tryz.func80, Tryz.ntmps80
      go_wp2_with fail
      refine (Tryz.strings_HasPrefix _ _ _).mono ?_
      rintro e w' ⟨rfl, rfl⟩
      rw [HP1.out]
      go_wp2_with fail
      go_loop [5, 6] (fun n i => SecRel x n i) (fun _ i => x.length - (intOf i).toNat)
      case atStart => exact ⟨0, 0, rfl, Nat.zero_le _, rfl, by omega, by omega, rfl⟩
      case round =>
        obtain ⟨k, m, rfl, hk, rfl, hm0, hm1, hrel⟩ := hrel
        have HREL := Lib.hid hrel
        clear hrel
        by_cases hlt : k < x.length
        · have hg : (strB x)[k]'(by omega) = x[k] := rfl
          by_cases hdg : digB x[k] = true
          · have hdd : 48 ≤ x[k].toNat ∧ x[k].toNat ≤ 57 := by simpa [digB] using hdg
            have HN := Lib.hid (HREL.out.symm.trans ((num_drop hlt m).trans (if_pos hdd)))
            go_wp2_with (go_at_call 97; refine (isDigit_any _ _).mono ?_; rintro e w' ⟨rfl, rfl⟩)
            go_round
            case rel => exact ⟨k + 1, min (10 * m + ((x[k].toNat : Int) - 48)) 2147483647, by go_num, by omega, rfl, by omega, by omega, HN.out.symm⟩
            case measure => simp [intOf]; omega
          · have hdd : ¬ (48 ≤ x[k].toNat ∧ x[k].toNat ≤ 57) := by simpa [digB] using hdg
            have hdf : digB x[k] = false := by simpa using hdg
            have HN := Lib.hid (show (secL x).getD c = c by rw [HR.out, ← HREL.out, num_drop hlt m, if_neg hdd]; rfl)
            clear hdg hdd
            go_wp2_with (go_at_call 97; refine (isDigit_any _ _).mono ?_; rintro e w' ⟨rfl, rfl⟩)
            go_ret
            exact ⟨by first | (rw [HN.out]; rfl) | rw [HN.out], Below.refl _ _⟩
        · have HN := Lib.hid (show (secL x).getD c = m by rw [HR.out, ← HREL.out, List.drop_eq_nil_of_le (by omega)]; rfl)
          go_wp2
          go_ret
          exact ⟨by first | (rw [HN.out]; rfl) | rw [HN.out], Below.refl _ _⟩
end Go.Proofs.YtieolalohindgaaGreatDoor

/- What the contracts of Cut ask of a world: MaxLen is an int. -/
namespace Go.Proofs.YtieolalohindgaaGreatDoor
open Go.RowKit

/-- MaxLen is an int. -/
def MaxIs (w : World) : Prop := ∃ m, w.cell? ⟨0, 0, none⟩ = some (.int .i64 m)
theorem MaxIs.below {w w' : World} (h : MaxIs w) (hb : Below w.heap.size w w') : MaxIs w' := by
  obtain ⟨m, hm⟩ := h
  exact ⟨m, (hb.cell (p := ⟨0, 0, none⟩) (World.block_lt_of_cell? _ _ hm)).trans hm⟩
theorem MaxIs.alloc {w : World} (h : MaxIs w) (o : Obj) : MaxIs (w.alloc o) := h.below (below_new w o)
theorem MaxIs.drewN {w : World} (h : MaxIs w) (n : Nat) : MaxIs (w.drewN n) := h.below (below_drewN (Below.refl _ _) n)
end Go.Proofs.YtieolalohindgaaGreatDoor
