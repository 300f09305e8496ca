/- What least and seconds return: the lesser time that is there; the number that an argument stands for. -/
import Derived.Test.YtnjjjfbklgdgpaaDoorDPure
import Derived.Test.YtnjjjfbklgdgpaaDoorUnquote
import Derived.Deep.QuietTactic
import Derived.BigQuiet
namespace Go.Proofs.YtnjjjfbklgdgpaaDoor
open Go.RowKit

theorem least_any (a b : Int) (w : World) (ha : -9223372036854775808 ≤ a ∧ a ≤ 9223372036854775807) (hb : -9223372036854775808 ≤ b ∧ b ≤ 9223372036854775807) :
    Calls Tryd.prog 39 #[.int .i64 a, .int .i64 b] w fun e w' => e = .returned (.int .i64 (leastD a b)) ∧ w = w' := by
  by_cases h1 : a = -1
  · have hc : (a == -1) = true := by simpa using h1
    have HR := Lib.hid (show leastD a b = b by unfold leastD; rw [if_pos h1])
    clear h1
    go_enter Tryd.func39, Tryd.ntmps39
    go_wp2
    go_ret
    exact ⟨by first | (rw [HR.out]; rfl) | rw [HR.out], rfl⟩
  · have hc : (a == -1) = false := by simpa using h1
    by_cases h2 : b = -1
    · have hd : (b == -1) = true := by simpa using h2
      have HR := Lib.hid (show leastD a b = a by unfold leastD; rw [if_neg h1, if_pos h2])
      clear h1 h2
      go_enter Tryd.func39, Tryd.ntmps39
      go_wp2
      go_ret
      exact ⟨by first | (rw [HR.out]; rfl) | rw [HR.out], rfl⟩
    · have hd : (b == -1) = false := by simpa using h2
      have HR := Lib.hid (show leastD a b = min a b by unfold leastD; rw [if_neg h1, if_neg h2])
      clear h1 h2
      go_enter Tryd.func39, Tryd.ntmps39
      go_wp2
      go_ret
      exact ⟨by first | (rw [HR.out]; rfl) | rw [HR.out], rfl⟩

theorem pre34 (a : List UInt8) (b : Bool) (h : decide (a.headD 0 = 34) = b) : Lib.hasPrefix (strB a).data.toList (⟨#[34]⟩ : ByteArray).data.toList = b := by
  rw [strB_list, ← h]
  cases a with
  | nil => rfl
  | cons c r =>
    show ([34] : List UInt8).isPrefixOf (c :: r) = decide (c = 34)
    by_cases hc : c = 34
    · subst hc; simp [List.isPrefixOf]
    · have : ((34 : UInt8) == c) = false := by simpa using fun e => hc (e.symm)
      simp [List.isPrefixOf, this, hc]
/-- Unquote of an argument that begins with a quotation mark, whatever error comes with it. -/
theorem unqA_any (a : List UInt8) (w : World) (ha : a.length ≤ 1000000) (h : a.headD 0 = 34) :
    Calls Tryd.prog 60 #[.string (strB a)] w fun e w' => ∃ ev, e = .returned (.tuple #[.string (strB (argL a)), ev]) ∧ Below w.heap.size w w' := by
  refine (unquote_any (strB a) w (by rw [strB_size]; omega)).mono ?_
  rintro e w' ⟨hB, hc⟩
  rw [strB_list] at hc
  have e1 : argL a = (unqO a).getD [] := by unfold argL; rw [if_pos h]
  rw [e1]
  cases hu : unqO a with
  | none => rw [hu] at hc; exact ⟨_, hc, hB⟩
  | some l => rw [hu] at hc; exact ⟨_, hc, hB⟩
theorem rq_len : ∀ (l : List UInt8) (e : Bool) (m : List UInt8), rq e l = some m → m.length ≤ l.length := by
  intro l
  induction l with
  | nil => intro e m h; cases e <;> simp [rq] at h
  | cons c r ih =>
    intro e m h
    cases e
    · unfold rq at h
      split at h
      · split at h
        · simp only [Option.some.injEq] at h; subst h; simp
        · cases h
      · split at h
        · have := ih _ _ h; simp only [List.length_cons]; omega
        · cases hr : rq false r with
          | none => rw [hr] at h; cases h
          | some q =>
            rw [hr] at h; simp only [Option.map_some, Option.some.injEq] at h; subst h
            have := ih _ _ hr; simp only [List.length_cons]; omega
    · unfold rq at h
      cases hr : rq false r with
      | none => rw [hr] at h; cases h
      | some q =>
        rw [hr] at h; simp only [Option.map_some, Option.some.injEq] at h; subst h
        have := ih _ _ hr; simp only [List.length_cons]; omega
theorem arg_len (a : List UInt8) : (argL a).length ≤ a.length := by
  unfold argL
  split
  · cases hu : unqO a with
    | none => simp
    | some m =>
      unfold unqO at hu
      split at hu
      · cases hu
      · have := rq_len _ _ _ hu
        simp only [List.length_drop, Option.getD_some] at *
        omega
  · omega

/-- The number read so far. -/
def SecRel (x : List UInt8) (n i : Value) : Prop := ∃ (k : Nat) (m : Int), i = .int .i64 k ∧ k ≤ x.length ∧ n = .int .i64 m ∧ 0 ≤ m ∧ m ≤ 2147483647 ∧ numA (x.drop k) m = numA x 0
theorem num_drop {x : List UInt8} {k : Nat} (h : k < x.length) (m : Int) : numA (x.drop k) m = if 48 ≤ x[k].toNat ∧ x[k].toNat ≤ 57 then numA (x.drop (k + 1)) (min (10 * m + ((x[k].toNat : Int) - 48)) 2147483647) else none := by
  rw [List.drop_eq_getElem_cons h]; rfl
set_option maxHeartbeats 2000000 in
set_option maxRecDepth 100000 in
theorem seconds_any (a : List UInt8) (c : Int) (w : World) (ha : a.length ≤ 1000000) :
    Calls Tryd.prog 45 #[.string (strB a), .int .i64 c] w fun e w' => e = .returned (.int .i64 ((secL a).getD c)) ∧ Below w.heap.size w w' := by
  have hal := arg_len a
  have hxa : argL a = (if a.headD 0 = 34 then (unqO a).getD [] else a) := rfl
  have hse : secL a = if argL a = [] then none else numA (argL a) 0 := rfl
  have HU := Lib.hid (fun (w : World) (h : a.headD 0 = 34) => unqA_any a w ha h)
  obtain ⟨x, hx⟩ : ∃ x, argL a = x := ⟨_, rfl⟩
  rw [hx] at hal hse hxa HU
  have HSE := Lib.hid hse
  have HXA := Lib.hid hxa
  have hxs : (strB x).size = x.length := strB_size x
  clear hse hxa hx
  have hP := pre34 a
  have HP := Lib.hid hP
  clear hP
  cases hq : decide (a.headD 0 = 34) with
  | true =>
    have HP1 := Lib.hid (HP.out true hq)
    have HU1 := Lib.hid (fun w => HU.out w (of_decide_eq_true hq))
    clear HP HU hq HXA
    go_enter Tryd.func45, Tryd.ntmps45
    go_wp2_with fail
    refine (Tryd.strings_HasPrefix _ _ _).mono ?_
    rintro e w' ⟨rfl, rfl⟩
    rw [HP1.out]
    go_wp2_with fail
    refine (HU1.out _).mono ?_
    rintro e w1 ⟨ev, rfl, hB⟩
    by_cases hxe : x = []
    · have hem := empty_yes hxe
      have HR := Lib.hid (show (secL a).getD c = c by rw [HSE.out, if_pos hxe]; rfl)
      have hd : (strB x).toList = [] := by rw [ByteArray.toList_eq, strB_list, hxe]
      clear hxe
      go_wp2
      go_ret
      exact ⟨by first | (rw [HR.out]; rfl) | rw [HR.out], hB⟩
    · have hem := empty_no hxe
      have HR := Lib.hid (show secL a = numA x 0 by rw [HSE.out, if_neg hxe])
      have hd : ¬ (strB x).toList = [] := by rw [ByteArray.toList_eq, strB_list]; exact hxe
      clear hxe
      go_wp2
      go_loop [5, 6] (fun n i => SecRel x n i) (fun _ i => x.length - (intOf i).toNat)
      case atStart => exact ⟨0, 0, rfl, Nat.zero_le _, rfl, by omega, by omega, rfl⟩
      case round =>
        obtain ⟨k, m, rfl, hk, rfl, hm0, hm1, hrel⟩ := hrel
        have HREL := Lib.hid hrel
        clear hrel
        by_cases hlt : k < x.length
        · have hg : (strB x)[k]'(by omega) = x[k] := rfl
          by_cases hdg : digB x[k] = true
          · have hdd : 48 ≤ x[k].toNat ∧ x[k].toNat ≤ 57 := by simpa [digB] using hdg
            have HN := Lib.hid (HREL.out.symm.trans ((num_drop hlt m).trans (if_pos hdd)))
            go_wp2_with (go_at_call 61; refine (isDigit_any _ _).mono ?_; rintro e w' ⟨rfl, rfl⟩)
            go_round
            case rel => exact ⟨k + 1, min (10 * m + ((x[k].toNat : Int) - 48)) 2147483647, by go_num, by omega, rfl, by omega, by omega, HN.out.symm⟩
            case measure => simp [intOf]; omega
          · have hdd : ¬ (48 ≤ x[k].toNat ∧ x[k].toNat ≤ 57) := by simpa [digB] using hdg
            have hdf : digB x[k] = false := by simpa using hdg
            have HN := Lib.hid (show (secL a).getD c = c by rw [HR.out, ← HREL.out, num_drop hlt m, if_neg hdd]; rfl)
            clear hdg hdd
            go_wp2_with (go_at_call 61; refine (isDigit_any _ _).mono ?_; rintro e w' ⟨rfl, rfl⟩)
            go_ret
            exact ⟨by first | (rw [HN.out]; rfl) | rw [HN.out], hB⟩
        · have HN := Lib.hid (show (secL a).getD c = m by rw [HR.out, ← HREL.out, List.drop_eq_nil_of_le (by omega)]; rfl)
          go_wp2
          go_ret
          exact ⟨by first | (rw [HN.out]; rfl) | rw [HN.out], hB⟩
  | false =>
    obtain rfl : x = a := by rw [HXA.out, if_neg (of_decide_eq_false hq)]
    have HP1 := Lib.hid (HP.out false hq)
    clear HP HU hq HXA
    by_cases hxe : x = []
    · have hem := empty_yes hxe
      have HR := Lib.hid (show (secL x).getD c = c by rw [HSE.out, if_pos hxe]; rfl)
      have hd : (strB x).toList = [] := by rw [ByteArray.toList_eq, strB_list, hxe]
      clear hxe
      go_enter Tryd.func45, Tryd.ntmps45
      go_wp2_with fail
      refine (Tryd.strings_HasPrefix _ _ _).mono ?_
      rintro e w' ⟨rfl, rfl⟩
      rw [HP1.out]
      go_wp2_with fail
      go_ret
      exact ⟨by first | (rw [HR.out]; rfl) | rw [HR.out], Below.refl _ _⟩
    · have hem := empty_no hxe
      have HR := Lib.hid (show secL x = numA x 0 by rw [HSE.out, if_neg hxe])
      have hd : ¬ (strB x).toList = [] := by rw [ByteArray.toList_eq, strB_list]; exact hxe
      clear hxe
      go_enter Tryd.func45, Tryd.ntmps45
      go_wp2_with fail
      refine (Tryd.strings_HasPrefix _ _ _).mono ?_
      rintro e w' ⟨rfl, rfl⟩
      rw [HP1.out]
      go_wp2_with fail
      go_loop [5, 6] (fun n i => SecRel x n i) (fun _ i => x.length - (intOf i).toNat)
      case atStart => exact ⟨0, 0, rfl, Nat.zero_le _, rfl, by omega, by omega, rfl⟩
      case round =>
        obtain ⟨k, m, rfl, hk, rfl, hm0, hm1, hrel⟩ := hrel
        have HREL := Lib.hid hrel
        clear hrel
        by_cases hlt : k < x.length
        · have hg : (strB x)[k]'(by omega) = x[k] := rfl
          by_cases hdg : digB x[k] = true
          · have hdd : 48 ≤ x[k].toNat ∧ x[k].toNat ≤ 57 := by simpa [digB] using hdg
            have HN := Lib.hid (HREL.out.symm.trans ((num_drop hlt m).trans (if_pos hdd)))
            go_wp2_with (go_at_call 61; refine (isDigit_any _ _).mono ?_; rintro e w' ⟨rfl, rfl⟩)
            go_round
            case rel => exact ⟨k + 1, min (10 * m + ((x[k].toNat : Int) - 48)) 2147483647, by go_num, by omega, rfl, by omega, by omega, HN.out.symm⟩
            case measure => simp [intOf]; omega
          · have hdd : ¬ (48 ≤ x[k].toNat ∧ x[k].toNat ≤ 57) := by simpa [digB] using hdg
            have hdf : digB x[k] = false := by simpa using hdg
            have HN := Lib.hid (show (secL x).getD c = c by rw [HR.out, ← HREL.out, num_drop hlt m, if_neg hdd]; rfl)
            clear hdg hdd
            go_wp2_with (go_at_call 61; refine (isDigit_any _ _).mono ?_; rintro e w' ⟨rfl, rfl⟩)
            go_ret
            exact ⟨by first | (rw [HN.out]; rfl) | rw [HN.out], Below.refl _ _⟩
        · have HN := Lib.hid (show (secL x).getD c = m by rw [HR.out, ← HREL.out, List.drop_eq_nil_of_le (by omega)]; rfl)
          go_wp2
          go_ret
          exact ⟨by first | (rw [HN.out]; rfl) | rw [HN.out], Below.refl _ _⟩
end Go.Proofs.YtnjjjfbklgdgpaaDoor
