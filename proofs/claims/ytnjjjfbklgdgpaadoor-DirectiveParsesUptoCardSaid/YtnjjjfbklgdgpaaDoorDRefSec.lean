/- What the reference's least and number return. -/
import Derived.Test.YtnjjjfbklgdgpaaDoorDSec
import Derived.Test.YtnjjjfbklgdgpaaDoorRefUnquote
namespace Go.Proofs.YtnjjjfbklgdgpaaDoor
open Go.RowKit

theorem refLeast11_any (a b : Int) (w : World) (ha : -1 ≤ a ∧ a ≤ 2147483647) (hb : 0 ≤ b ∧ b ≤ 2147483647) :
    Calls Tryd.prog 48 #[.int .i64 a, .int .i64 b] w fun e w' => e = .returned (.int .i64 (leastD a b)) ∧ w = w' := by
  by_cases h1 : a < 0
  · have HR := Lib.hid (show leastD a b = b by unfold leastD; rw [if_pos (by omega)])
    go_enter Tryd.func48, Tryd.ntmps48
    go_wp2
    go_ret
    exact ⟨by first | (rw [HR.out]; rfl) | rw [HR.out], rfl⟩
  · have HR := Lib.hid (show leastD a b = min a b by unfold leastD; rw [if_neg (by omega), if_neg (by omega)])
    go_enter Tryd.func48, Tryd.ntmps48
    go_wp2
    go_ret
    exact ⟨by first | (rw [HR.out]; rfl) | rw [HR.out], rfl⟩
abbrev numRV (o : Option Int) : Value := .tuple #[.int .i64 (o.getD 0), .bool o.isSome]
theorem sec_plain {a : List UInt8} (h : a.headD 0 ≠ 34) (hn : a ≠ []) : secL a = numA a 0 := by
  unfold secL argL; rw [if_neg h, if_neg hn]
theorem sec_quoted {a l : List UInt8} (h : a.headD 0 = 34) (hu : unqO a = some l) : secL a = if l = [] then none else numA l 0 := by
  unfold secL argL; rw [if_pos h, hu]; rfl
theorem sec_bad {a : List UInt8} (h : a.headD 0 = 34) (hu : unqO a = none) : secL a = none := by
  unfold secL argL; rw [if_pos h, hu]; rfl
theorem unq_len {a l : List UInt8} (hu : unqO a = some l) : l.length ≤ a.length := by
  unfold unqO at hu
  split at hu
  · cases hu
  · have := rq_len _ _ _ hu
    simp only [List.length_drop] at this
    omega
set_option maxHeartbeats 2000000 in
set_option maxRecDepth 100000 in
theorem refNumber_any (a : List UInt8) (w : World) (ha : a.length ≤ 1000000) :
    Calls Tryd.prog 47 #[.string (strB a)] w fun e w' => e = .returned (numRV (secL a)) ∧ w = w' := by
  have hxs : (strB a).size = a.length := strB_size a
  by_cases hae : a = []
  · have hem := empty_yes hae
    have hd : (strB a).toList = [] := by rw [ByteArray.toList_eq, strB_list, hae]
    have hz : a.length = 0 := by rw [hae]; rfl
    have HR := Lib.hid (show numRV (secL a) = .tuple #[.int .i64 0, .bool false] by rw [hae]; rfl)
    clear hae
    go_enter Tryd.func47, Tryd.ntmps47
    go_wp2
    go_loop [6, 25] (fun n i => n = .int .i64 0 ∧ i = .int .i64 0) (fun _ _ => 0)
    case atStart => exact ⟨rfl, rfl⟩
    case round =>
      obtain ⟨rfl, rfl⟩ := hrel
      go_wp2
      go_ret2
      exact ⟨by first | (rw [HR.out]; rfl) | rw [HR.out], rfl⟩
  · have hem := empty_no hae
    have hd : ¬ (strB a).toList = [] := by rw [ByteArray.toList_eq, strB_list]; exact hae
    have hpos : 0 < a.length := List.length_pos_iff.mpr hae
    have hg0 : (strB a)[0]'(by omega) = a[0] := rfl
    have hh : a.headD 0 = a[0] := by cases a with | nil => exact absurd rfl hae | cons c r => rfl
    by_cases hq : a[0] = 34
    · have hq0 : a.headD 0 = 34 := hh.trans hq
      have hqn : a[0].toNat = 34 := by rw [hq]; rfl
      have hqa : 34 ≤ a[0].toNat := by omega
      have hqb : a[0].toNat ≤ 34 := by omega
      have HU := Lib.hid (fun w => refUnquote_any (strB a) w (by omega))
      cases hu : unqO a with
      | none =>
        have HR := Lib.hid (show numRV (secL a) = .tuple #[.int .i64 0, .bool false] by rw [sec_bad hq0 hu]; rfl)
        have HU2 := Lib.hid hu
        clear hu hq hqn hq0 hh hae
        go_enter Tryd.func47, Tryd.ntmps47
        go_wp2_with fail
        refine (HU.out _).mono ?_
        rintro e w' ⟨rfl, hc⟩
        rw [strB_list, HU2.out] at hc
        subst hc
        go_wp2_with fail
        go_ret2
        exact ⟨by first | (rw [HR.out]; rfl) | rw [HR.out], rfl⟩
      | some l =>
        have hln := unq_len hu
        have hlz : (strB l).size = l.length := strB_size l
        have HU2 := Lib.hid hu
        have HQ := Lib.hid (sec_quoted hq0 hu)
        clear hu hq hqn hq0 hh hae
        by_cases hle : l = []
        · have hem2 := empty_yes hle
          have hd2 : (strB l).toList = [] := by rw [ByteArray.toList_eq, strB_list, hle]
          have hz : l.length = 0 := by rw [hle]; rfl
          have HR := Lib.hid (show numRV (secL a) = .tuple #[.int .i64 0, .bool false] by rw [HQ.out, if_pos hle]; rfl)
          clear hle
          go_enter Tryd.func47, Tryd.ntmps47
          go_wp2_with fail
          refine (HU.out _).mono ?_
          rintro e w' ⟨rfl, hc⟩
          rw [strB_list, HU2.out] at hc
          subst hc
          go_wp2_with fail
          go_loop [6, 25] (fun n i => n = .int .i64 0 ∧ i = .int .i64 0) (fun _ _ => 0)
          case atStart => exact ⟨rfl, rfl⟩
          case round =>
            obtain ⟨rfl, rfl⟩ := hrel
            go_wp2
            go_ret2
            exact ⟨by first | (rw [HR.out]; rfl) | rw [HR.out], rfl⟩
        · have hem2 := empty_no hle
          have hd2 : ¬ (strB l).toList = [] := by rw [ByteArray.toList_eq, strB_list]; exact hle
          have HR := Lib.hid (show secL a = numA l 0 by rw [HQ.out, if_neg hle])
          clear hle
          go_enter Tryd.func47, Tryd.ntmps47
          go_wp2_with fail
          refine (HU.out _).mono ?_
          rintro e w' ⟨rfl, hc⟩
          rw [strB_list, HU2.out] at hc
          subst hc
          go_wp2_with fail
          go_loop [6, 25] (fun n i => SecRel l n i) (fun _ i => l.length - (intOf i).toNat)
          case atStart => exact ⟨0, 0, rfl, Nat.zero_le _, rfl, by omega, by omega, rfl⟩
          case round =>
            obtain ⟨k, m, rfl, hk, rfl, hm0, hm1, hrel⟩ := hrel
            have HREL := Lib.hid hrel
            clear hrel
            by_cases hlt : k < l.length
            · have hg : (strB l)[k]'(by omega) = l[k] := rfl
              by_cases h1 : l[k].toNat < 48
              · have HN := Lib.hid (show numRV (secL a) = .tuple #[.int .i64 0, .bool false] by rw [HR.out, ← HREL.out, num_drop hlt m, if_neg (by omega)]; rfl)
                go_wp2
                go_ret2
                exact ⟨by first | (rw [HN.out]; rfl) | rw [HN.out], rfl⟩
              · by_cases h2 : 57 < l[k].toNat
                · have HN := Lib.hid (show numRV (secL a) = .tuple #[.int .i64 0, .bool false] by rw [HR.out, ← HREL.out, num_drop hlt m, if_neg (by omega)]; rfl)
                  go_wp2
                  go_ret2
                  exact ⟨by first | (rw [HN.out]; rfl) | rw [HN.out], rfl⟩
                · have HN := Lib.hid (HREL.out.symm.trans ((num_drop hlt m).trans (if_pos (by omega))))
                  go_wp2
                  go_round
                  case rel => exact ⟨k + 1, min (10 * m + ((l[k].toNat : Int) - 48)) 2147483647, by go_num, by omega, rfl, by omega, by omega, HN.out.symm⟩
                  case measure => simp [intOf]; omega
            · have HN := Lib.hid (show numRV (secL a) = .tuple #[.int .i64 m, .bool true] by rw [HR.out, ← HREL.out, List.drop_eq_nil_of_le (by omega)]; rfl)
              go_wp2
              go_ret2
              exact ⟨by first | (rw [HN.out]; rfl) | rw [HN.out], rfl⟩
    · have hqn : ((a[0].toNat : Int) == 34) = false := by simp; intro h; exact hq (UInt8.toNat_inj.mp (by show a[0].toNat = 34; omega))
      have HR := Lib.hid (sec_plain (by rw [hh]; exact hq) hae)
      clear hq hh hae
      go_enter Tryd.func47, Tryd.ntmps47
      go_wp2
      go_loop [6, 25] (fun n i => SecRel a n i) (fun _ i => a.length - (intOf i).toNat)
      case atStart => exact ⟨0, 0, rfl, Nat.zero_le _, rfl, by omega, by omega, rfl⟩
      case round =>
        obtain ⟨k, m, rfl, hk, rfl, hm0, hm1, hrel⟩ := hrel
        have HREL := Lib.hid hrel
        clear hrel
        by_cases hlt : k < a.length
        · have hg : (strB a)[k]'(by omega) = a[k] := rfl
          by_cases h1 : a[k].toNat < 48
          · have HN := Lib.hid (show numRV (secL a) = .tuple #[.int .i64 0, .bool false] by rw [HR.out, ← HREL.out, num_drop hlt m, if_neg (by omega)]; rfl)
            go_wp2
            go_ret2
            exact ⟨by first | (rw [HN.out]; rfl) | rw [HN.out], rfl⟩
          · by_cases h2 : 57 < a[k].toNat
            · have HN := Lib.hid (show numRV (secL a) = .tuple #[.int .i64 0, .bool false] by rw [HR.out, ← HREL.out, num_drop hlt m, if_neg (by omega)]; rfl)
              go_wp2
              go_ret2
              exact ⟨by first | (rw [HN.out]; rfl) | rw [HN.out], rfl⟩
            · have HN := Lib.hid (HREL.out.symm.trans ((num_drop hlt m).trans (if_pos (by omega))))
              go_wp2
              go_round
              case rel => exact ⟨k + 1, min (10 * m + ((a[k].toNat : Int) - 48)) 2147483647, by go_num, by omega, rfl, by omega, by omega, HN.out.symm⟩
              case measure => simp [intOf]; omega
        · have HN := Lib.hid (show numRV (secL a) = .tuple #[.int .i64 m, .bool true] by rw [HR.out, ← HREL.out, List.drop_eq_nil_of_le (by omega)]; rfl)
          go_wp2
          go_ret2
          exact ⟨by first | (rw [HN.out]; rfl) | rw [HN.out], rfl⟩
end Go.Proofs.YtnjjjfbklgdgpaaDoor
