import Derived.Test.YtkfmfjlapkpeaaaGreatDoorPa3
import Derived.Lib.Hide
import Derived.Test.YtkfmfjlapkpeaaaGreatDoorPa4
import Derived.Test.YtkfmfjlapkpeaaaGreatDoorPa7
import Derived.Test.YtkfmfjlapkpeaaaGreatDoorPa11
import Derived.Test.YtkfmfjlapkpeaaaGreatDoorPa9
import Derived.Test.YtkfmfjlapkpeaaaGreatDoorPa6
/- What the code's Number returns, for every string. -/
namespace Go.Proofs.YtkfmfjlapkpeaaaGreatDoor
open Go.RowKit

def allDig (s : ByteArray) (k : Nat) : Prop := (s.data.toList.take k).all digB = true
theorem allDig0 (s : ByteArray) : allDig s 0 := by simp [allDig]
theorem allDig_step {s : ByteArray} {k : Nat} (h : k < s.size) (hn : allDig s k) (hb : digB s[k] = true) : allDig s (k + 1) := by
  unfold allDig at *; rw [take_snoc s k h, List.all_append, hn]; simp [hb]
def numV (l : List UInt8) : Nat := l.foldl (fun n c => 10 * n + (c.toNat - 48)) 0
theorem numV_snoc (l : List UInt8) (c : UInt8) : numV (l ++ [c]) = 10 * numV l + (c.toNat - 48) := by simp [numV]
theorem fold_lt : ∀ (l : List UInt8) (a : Nat), l.all digB = true → l.foldl (fun n c => 10 * n + (c.toNat - 48)) a < (a + 1) * 10 ^ l.length := by
  intro l
  induction l with
  | nil => intro a _; simp
  | cons c t ih =>
    intro a h
    simp only [List.all_cons, Bool.and_eq_true] at h
    have hc := h.1
    simp [digB] at hc
    have := ih (10 * a + (c.toNat - 48)) h.2
    rw [List.foldl_cons, List.length_cons, Nat.pow_succ]
    refine Nat.lt_of_lt_of_le this ?_
    have e : (a + 1) * (10 ^ t.length * 10) = (10 * (a + 1)) * 10 ^ t.length := by
      rw [← Nat.mul_assoc, Nat.mul_right_comm, Nat.mul_comm (a + 1) 10]
    rw [e]
    exact Nat.mul_le_mul_right _ (by omega)
theorem numV_lt (l : List UInt8) (h : l.all digB = true) : numV l < 10 ^ l.length := by
  have := fold_lt l 0 h
  simpa [numV] using this
theorem numV_le (l : List UInt8) (h : l.all digB = true) (hl : l.length ≤ 15) : numV l < 1000000000000000 := by
  have h1 := numV_lt l h
  have h2 : 10 ^ l.length ≤ 10 ^ 15 := Nat.pow_le_pow_right (by omega) hl
  have h3 : (10 : Nat) ^ 15 = 1000000000000000 := by decide
  omega
theorem int_eq {k : IntKind} {a b : Int} (h : a = b) : Value.int k a = Value.int k b := by rw [h]
abbrev errForm' : Value := .iface 67 (.int .i64 2)
abbrev errLarge' : Value := .iface 67 (.int .i64 5)
def numR (s : ByteArray) : Value := if s.size ≤ 15 then .tuple #[.int .i64 (numV s.data.toList), .nilIface] else .tuple #[.int .i64 0, errLarge']
theorem numR_large {s : ByteArray} (h : 15 < s.size) : Ending.returned (.tuple #[.int .i64 0, errLarge']) = .returned (numR s) := by unfold numR; rw [if_neg (by omega)]
theorem numR_small {s : ByteArray} {l : List UInt8} (h : ¬ 15 < s.size) (hl : l = s.data.toList) : Ending.returned (.tuple #[.int .i64 (numV l), .nilIface]) = .returned (numR s) := by unfold numR; rw [if_pos (by omega), hl]
def numGood (s : ByteArray) : Prop := s.data.toList ≠ [] ∧ s.data.toList.all digB = true

theorem digit_not {s : ByteArray} {k : Nat} (h : k < s.size) (hb : ¬ digB s[k] = true) (hg : s.data.toList.all digB = true) : False := by
  rw [List.all_eq_true] at hg
  exact hb (hg _ (get_mem s k h))
theorem digB_of {s : ByteArray} {k : Nat} (h : k < s.size) (hg : s.data.toList.all digB = true) : 48 ≤ s[k].toNat ∧ s[k].toNat ≤ 57 := by
  rw [List.all_eq_true] at hg
  have := hg _ (get_mem s k h)
  simpa [digB] using this

set_option maxHeartbeats 1000000 in
theorem number_form (s : ByteArray) (w : World) (hs : s.size ≤ maxLen) (hg : ¬ numGood s) :
    Calls Tryz.prog 68 #[.string s] w fun e w' => e = .returned (.tuple #[.int .i64 0, errForm']) ∧ w = w' := by
  unfold maxLen at hs
  by_cases he : s.data.toList = []
  · have h1 : s.toList.isEmpty = true := by rw [ByteArray.toList_eq, he]; rfl
    have h2 : s.toList = [] := by rw [ByteArray.toList_eq, he]
    have HE := Lib.hid he
    have HG := Lib.hid hg
    clear he hg
    go_enter Tryz.func68, Tryz.ntmps68
    go_wp2
    go_ret2
    exact ⟨rfl, rfl⟩
  · have h1 : s.toList.isEmpty = false := by
      rw [ByteArray.toList_eq]
      cases h : s.data.toList with
      | nil => exact absurd h he
      | cons a t => rfl
    have HE := Lib.hid he
    have HG := Lib.hid hg
    clear he hg
    go_enter Tryz.func68, Tryz.ntmps68
    go_wp2
    go_loop [4] (fun i => ∃ k : Nat, k ≤ s.size ∧ i = .int .i64 k ∧ allDig s k) (fun i => s.size - (intOf i).toNat)
    case atStart => exact ⟨0, by omega, rfl, allDig0 s⟩
    case round =>
      obtain ⟨k, hk, rfl, hn⟩ := hrel
      by_cases hlt : k < s.size
      · by_cases hb : digB s[k] = true
        all_goals
          go_wp2_with (go_at_call 95; refine (isDigit_any _ _).mono ?_; rintro e w' ⟨rfl, rfl⟩)
        · go_round
          case rel => exact ⟨k + 1, by omega, by go_num, allDig_step hlt hn hb⟩
          case measure => simp [intOf]; omega
        · go_ret2
          exact ⟨rfl, rfl⟩
      · exfalso
        apply HG.out
        refine ⟨HE.out, ?_⟩
        unfold allDig at hn
        rwa [take_all s k (by omega)] at hn
set_option maxHeartbeats 1000000 in
theorem number_good (s : ByteArray) (w : World) (hs : s.size ≤ maxLen) (hg : numGood s) :
    Calls Tryz.prog 68 #[.string s] w fun e w' => e = .returned (numR s) ∧ w = w' := by
  unfold maxLen at hs
  obtain ⟨he, hg⟩ := hg
  have h1 : s.toList.isEmpty = false := by
    rw [ByteArray.toList_eq]
    cases h : s.data.toList with
    | nil => exact absurd h he
    | cons a t => rfl
  have HG := Lib.hid hg
  clear he hg
  go_enter Tryz.func68, Tryz.ntmps68
  go_wp2
  go_loop [4] (fun i => ∃ k : Nat, k ≤ s.size ∧ i = .int .i64 k) (fun i => s.size - (intOf i).toNat)
  case atStart => exact ⟨0, by omega, rfl⟩
  case round =>
    obtain ⟨k, hk, rfl⟩ := hrel
    by_cases hlt : k < s.size
    · by_cases hb : digB s[k] = true
      · go_wp2_with (go_at_call 95; refine (isDigit_any _ _).mono ?_; rintro e w' ⟨rfl, rfl⟩)
        go_round
        case rel => exact ⟨k + 1, by omega, by go_num⟩
        case measure => simp [intOf]; omega
      · exact (digit_not hlt hb HG.out).elim
    · by_cases h15 : 15 < s.size
      · go_wp2
        go_ret2
        exact ⟨numR_large h15, rfl⟩
      · go_wp2
        go_loop [5, 6] (fun n i => ∃ k : Nat, k ≤ s.size ∧ i = .int .i64 k ∧ n = .int .i64 (numV (s.data.toList.take k))) (fun _ i => s.size - (intOf i).toNat)
        case atStart => exact ⟨0, by omega, rfl, rfl⟩
        case round =>
          obtain ⟨j, hj, rfl, rfl⟩ := hrel
          by_cases hlj : j < s.size
          · have hd := digB_of hlj HG.out
            have hd1 := hd.1
            have hd2 := hd.2
            have hv : numV (s.data.toList.take j) < 1000000000000000 := numV_le _ (by
              rw [List.all_eq_true]; intro c hc
              have := HG.out; rw [List.all_eq_true] at this
              exact this c (List.mem_of_mem_take hc)) (by simp; omega)
            have hv2 : Hid (numV (s.data.toList.take (j + 1)) = 10 * numV (s.data.toList.take j) + (s[j].toNat - 48)) := by
              rw [take_snoc s j hlj]; exact numV_snoc _ _
            clear hd
            go_wp2
            go_round
            case rel => exact ⟨j + 1, by omega, by go_num, int_eq (by rw [hv2.out]; omega)⟩
            case measure => simp [intOf]; omega
          · go_wp2
            go_ret2
            exact ⟨numR_small h15 (take_all s j (by omega)), rfl⟩
theorem number_small (s : ByteArray) (w : World) (hg : numGood s) (h15 : s.size ≤ 15) :
    Calls Tryz.prog 68 #[.string s] w fun e w' => e = .returned (.tuple #[.int .i64 (numV s.data.toList), .nilIface]) ∧ w = w' := by
  refine (number_good s w (by unfold maxLen; omega) hg).mono ?_
  rintro e w' ⟨he, hw⟩
  exact ⟨by rw [he]; unfold numR; rw [if_pos h15], hw⟩
theorem number_large (s : ByteArray) (w : World) (hs : s.size ≤ maxLen) (hg : numGood s) (h15 : 15 < s.size) :
    Calls Tryz.prog 68 #[.string s] w fun e w' => e = .returned (.tuple #[.int .i64 0, errLarge']) ∧ w = w' := by
  refine (number_good s w hs hg).mono ?_
  rintro e w' ⟨he, hw⟩
  exact ⟨by rw [he]; unfold numR; rw [if_neg (by omega)], hw⟩
end Go.Proofs.YtkfmfjlapkpeaaaGreatDoor

/- The status line: what the program's readStatusLine and the reference's status return. -/
namespace Go.Proofs.YtkfmfjlapkpeaaaGreatDoor
open Go.RowKit

theorem statusN_eq (l : List UInt8) : statusN l = if 3 ≤ l.length ∧ (l.length = 3 ∨ l[3]? = some 32) ∧ (l.take 3).all digB = true ∧ (l.drop 3).any ctlB = false ∧ 100 ≤ numV (l.take 3) ∧ numV (l.take 3) ≤ 599 then numV (l.take 3) else 0 := by
  match l with
  | [] => rfl
  | [_] => rfl
  | [_, _] => rfl
  | a :: b :: c :: r =>
    have e1 : numV ((a :: b :: c :: r).take 3) = 100 * (a.toNat - 48) + 10 * (b.toNat - 48) + (c.toNat - 48) := by
      show 10 * (10 * (10 * 0 + (a.toNat - 48)) + (b.toNat - 48)) + (c.toNat - 48) = _
      omega
    have e2 : ((a :: b :: c :: r).take 3).all digB = (dgB a && (dgB b && (dgB c && true))) := rfl
    have e3 : ((a :: b :: c :: r).drop 3).any ctlB = r.any ctlG := rfl
    have e4 : 3 ≤ (a :: b :: c :: r).length := by simp
    have e5 : ((a :: b :: c :: r).length = 3 ∨ (a :: b :: c :: r)[3]? = some 32) ↔ (r = [] ∨ r.head? = some 32) := by
      cases r <;> simp
    simp only [statusN]
    rw [e1, e2, e3]
    generalize 100 * (a.toNat - 48) + 10 * (b.toNat - 48) + (c.toNat - 48) = n
    by_cases h1 : (r = [] ∨ r.head? = some 32) ∧ dgB a = true ∧ dgB b = true ∧ dgB c = true ∧ r.any ctlG = false
    · rw [if_pos h1]
      obtain ⟨x1, x2, x3, x4, x5⟩ := h1
      by_cases h2 : 100 ≤ n ∧ n ≤ 599
      · rw [if_pos h2, if_pos ⟨e4, e5.2 x1, by rw [x2, x3, x4]; rfl, x5, h2⟩]
      · rw [if_neg h2, if_neg (fun h => h2 h.2.2.2.2)]
    · rw [if_neg h1, if_neg]
      rintro ⟨_, x1, x2, x5, _⟩
      simp only [Bool.and_eq_true, and_true] at x2
      exact h1 ⟨e5.1 x1, x2.1, x2.2.1, x2.2.2, x5⟩
theorem cutG_no {c : UInt8} : ∀ {l : List UInt8}, c ∉ l → cutG c l = (l, []) := by
  intro l h
  unfold cutG
  have : cut1 c l = none := by
    induction l with
    | nil => rfl
    | cons x t ih =>
      simp only [List.mem_cons, not_or] at h
      rw [cut1, if_neg (fun e => h.1 e.symm), ih h.2]; rfl
  rw [this]; rfl
theorem dig_no32 {l : List UInt8} (h : l.all digB = true) : (32 : UInt8) ∉ l := fun hm => absurd (List.all_eq_true.1 h 32 hm) (by decide)
theorem status_cut (l : List UInt8) : statusN l = if (cutG 32 l).1.length = 3 ∧ (cutG 32 l).1.all digB = true ∧ (cutG 32 l).2.any ctlB = false ∧ 100 ≤ numV (cutG 32 l).1 ∧ numV (cutG 32 l).1 ≤ 599 then numV (cutG 32 l).1 else 0 := by
  rw [statusN_eq]
  by_cases h : 3 ≤ l.length ∧ (l.length = 3 ∨ l[3]? = some 32) ∧ (l.take 3).all digB = true
  · obtain ⟨h1, h2, h3⟩ := h
    have hl3 : (l.take 3).length = 3 := by rw [List.length_take]; omega
    have key : cutG 32 l = (l.take 3, (l.drop 3).tail) ∧ (l.drop 3).any ctlB = (l.drop 3).tail.any ctlB := by
      rcases h2 with h2 | h2
      · have e1 : l.take 3 = l := List.take_of_length_le (by omega)
        have e2 : l.drop 3 = [] := List.drop_of_length_le (by omega)
        rw [e1] at h3
        rw [e1, e2, cutG_no (dig_no32 h3)]
        exact ⟨rfl, rfl⟩
      · obtain ⟨hlt, he⟩ := List.getElem?_eq_some_iff.1 h2
        have e3 : l.drop 3 = 32 :: l.drop 4 := by rw [List.drop_eq_getElem_cons hlt, he]
        have e4 : l = l.take 3 ++ 32 :: l.drop 4 := by rw [← e3, List.take_append_drop]
        refine ⟨?_, ?_⟩
        · rw [e3]; conv => lhs; rw [e4]
          exact cutG_at (dig_no32 h3) _
        · rw [e3, List.any_cons]; rfl
    rw [key.1, key.2]
    simp only
    by_cases h5 : (l.drop 3).tail.any ctlB = false ∧ 100 ≤ numV (l.take 3) ∧ numV (l.take 3) ≤ 599
    · rw [if_pos ⟨h1, h2, h3, h5⟩, if_pos ⟨hl3, h3, h5⟩]
    · rw [if_neg (fun h => h5 h.2.2.2), if_neg (fun h => h5 h.2.2)]
  · rw [if_neg (fun h' => h ⟨h'.1, h'.2.1, h'.2.2.1⟩), if_neg]
    rintro ⟨h1, h2, _⟩
    apply h
    rcases cutG_or 32 l with e | ⟨_, e⟩
    · generalize cutG 32 l = p at *
      obtain ⟨a, b⟩ := p
      simp only at h1 h2 e
      subst e
      refine ⟨by simp; omega, .inr ?_, ?_⟩
      · rw [List.getElem?_append_right (by omega), h1]; rfl
      · rw [List.take_append_of_le_length (by omega), List.take_of_length_le (by omega)]; exact h2
    · rw [e] at h1 h2
      exact ⟨by omega, .inl h1, by rw [List.take_of_length_le (by omega)]; exact h2⟩
/-- The number of the error of a status line. -/
def statC (l : List UInt8) : Nat := if (cutG 32 l).1 ≠ verL then 28 else if statusN (cutG 32 l).2 = 0 then 2 else 0
def statV (l : List UInt8) : Value := if statC l = 0 then .tuple #[.int .i64 (statusN (cutG 32 l).2 : Int), .nilIface] else .tuple #[.int .i64 0, .iface 67 (.int .i64 (statC l))]
theorem statV_no {l : List UInt8} (h : statC l ≠ 0) : statV l = .tuple #[.int .i64 0, .iface 67 (.int .i64 (statC l))] := by unfold statV; rw [if_neg h]
theorem statV_yes {l : List UInt8} (h : statC l = 0) : statV l = .tuple #[.int .i64 (statusN (cutG 32 l).2 : Int), .nilIface] := by unfold statV; rw [if_pos h]
theorem statC_2 {l : List UInt8} (h : (cutG 32 l).1 = verL) (h2 : statusN (cutG 32 l).2 = 0) : statC l = 2 := by unfold statC; rw [if_neg (by simp [h]), if_pos h2]
theorem statC_28 {l : List UInt8} (h : (cutG 32 l).1 ≠ verL) : statC l = 28 := by unfold statC; rw [if_pos h]
theorem statC_0 {l : List UInt8} (h : (cutG 32 l).1 = verL) (h2 : statusN (cutG 32 l).2 ≠ 0) : statC l = 0 := by unfold statC; rw [if_neg (by simp [h]), if_neg h2]
theorem statV_2 {l : List UInt8} (h : (cutG 32 l).1 = verL) (h2 : statusN (cutG 32 l).2 = 0) : statV l = .tuple #[.int .i64 0, .iface 67 (.int .i64 2)] := by
  rw [statV_no (by rw [statC_2 h h2]; decide), statC_2 h h2]; rfl
set_option maxHeartbeats 8000000 in
set_option maxRecDepth 100000 in
theorem readStatus_any (l : List UInt8) (w : World) (hM : HasMax w) (hs : l.length ≤ 1000000) :
    Calls Tryz.prog 39 #[.string (strB l)] w fun e w' => e = .returned (statV l) ∧ Below w.heap.size w w' := by
  have hl1 := cutG_len 32 l
  have hl2 := cutG_len 32 (cutG 32 l).2
  have C1 := Lib.hid (fun w hM => cutGM_any l w hM hs)
  have C2 := Lib.hid (fun w hM => cutGM_any (cutG 32 l).2 w hM (by omega))
  have HM := Lib.hid hM
  have SC := status_cut (cutG 32 l).2
  clear hM
  by_cases h1 : (cutG 32 l).1 = verL
  · have q := list_yes h1
    unfold verL at q
    have E2 := Lib.hid (fun h => statV_2 (l := l) h1 h)
    have E0 := Lib.hid (fun h => (statV_yes (l := l) (statC_0 h1 h)))
    have hcs : (strB (cutG 32 (cutG 32 l).2).1).size = (cutG 32 (cutG 32 l).2).1.length := strB_size _
    have hcl : (strB (cutG 32 (cutG 32 l).2).1).data.toList = (cutG 32 (cutG 32 l).2).1 := strB_list _
    have hct := hasControl_any (strB (cutG 32 (cutG 32 l).2).2)
    rw [strB_list, strB_size] at hct
    have HC := Lib.hid (fun w => hct w (by unfold maxLen; omega))
    have hle : (cutG 32 (cutG 32 l).2).1.length ≤ 1000000 := by omega
    clear h1 hct hl1 hl2 hs
    rw [← hcl] at SC
    generalize strB (cutG 32 (cutG 32 l).2).1 = sc at *
    generalize (cutG 32 (cutG 32 l).2).2 = rs at *
    have hsz : sc.data.toList.length = sc.size := by rw [Array.length_toList]; rfl
    rw [hsz] at SC
    have hle : sc.size ≤ 1000000 := by omega
    clear hsz hcl hcs
    by_cases hg : numGood sc
    · by_cases h15 : sc.size ≤ 15
      · have NU := Lib.hid (fun w => number_small sc w hg h15)
        have hdig := hg.2
        generalize hn : numV sc.data.toList = n at *
        by_cases h3 : sc.size = 3
        · cases h4 : stB (n : Int) with
          | false =>
            have HE := Lib.hid (E2.out (by
              rw [SC, if_neg]
              rintro ⟨_, _, _, a, b⟩
              unfold stB at h4
              rw [decide_eq_true (show (100 : Int) ≤ n by omega), decide_eq_true (show (n : Int) ≤ 599 by omega)] at h4
              cases h4))
            have ST := Lib.hid (fun w => isStatus_any (n : Int) w)
            rw [h4] at ST
            clear h4 SC hg hdig hn
            go_enter Tryz.func39, Tryz.ntmps39
            go_wp2_with fail
            refine (C1.out _ HM.out).mono ?_
            rintro e w1 ⟨b1, rfl, hB1⟩
            go_wp2_with fail
            refine (C2.out _ (HM.out.below hB1)).mono ?_
            rintro e w2 ⟨b2, rfl, hB2⟩
            have hB2' := hB1.trans (hB2.mono hB1.size)
            go_wp2_with fail
            refine (NU.out _).mono ?_
            rintro e w3 ⟨rfl, rfl⟩
            go_wp2_with fail
            refine (ST.out _).mono ?_
            rintro e w3 ⟨rfl, rfl⟩
            go_wp2_with fail
            refine bodyPost_ret (v := .tuple #[.int .i64 0, .iface 67 (.int .i64 2)]) (by simp [results, Tryz.results39, go_sem]) rfl ?_
            exact ⟨by rw [HE.out], hB2'⟩
          | true =>
            have ST := Lib.hid (fun w => isStatus_any (n : Int) w)
            rw [h4] at ST
            unfold stB at h4
            simp only [Bool.and_eq_true, decide_eq_true_eq] at h4
            cases h5 : ctlS rs with
            | true =>
              rw [h5] at HC
              have HE := Lib.hid (E2.out (by
                rw [SC, if_neg]
                rintro ⟨_, _, a, _⟩
                rw [show rs.any ctlB = true from h5] at a
                cases a))
              clear h4 h5 SC hg hdig hn
              go_enter Tryz.func39, Tryz.ntmps39
              go_wp2_with fail
              refine (C1.out _ HM.out).mono ?_
              rintro e w1 ⟨b1, rfl, hB1⟩
              go_wp2_with fail
              refine (C2.out _ (HM.out.below hB1)).mono ?_
              rintro e w2 ⟨b2, rfl, hB2⟩
              have hB2' := hB1.trans (hB2.mono hB1.size)
              go_wp2_with fail
              refine (NU.out _).mono ?_
              rintro e w3 ⟨rfl, rfl⟩
              go_wp2_with fail
              refine (ST.out _).mono ?_
              rintro e w3 ⟨rfl, rfl⟩
              go_wp2_with fail
              refine (HC.out _).mono ?_
              rintro e w3 ⟨rfl, rfl⟩
              go_wp2_with fail
              refine bodyPost_ret (v := .tuple #[.int .i64 0, .iface 67 (.int .i64 2)]) (by simp [results, Tryz.results39, go_sem]) rfl ?_
              exact ⟨by rw [HE.out], hB2'⟩
            | false =>
              rw [h5] at HC
              have e0 : statusN (cutG 32 l).2 = n := by rw [SC, if_pos ⟨h3, hdig, h5, by omega, by omega⟩]
              have HE := Lib.hid (E0.out (by rw [e0]; omega))
              rw [e0] at HE
              clear h4 h5 SC hg hdig hn
              go_enter Tryz.func39, Tryz.ntmps39
              go_wp2_with fail
              refine (C1.out _ HM.out).mono ?_
              rintro e w1 ⟨b1, rfl, hB1⟩
              go_wp2_with fail
              refine (C2.out _ (HM.out.below hB1)).mono ?_
              rintro e w2 ⟨b2, rfl, hB2⟩
              have hB2' := hB1.trans (hB2.mono hB1.size)
              go_wp2_with fail
              refine (NU.out _).mono ?_
              rintro e w3 ⟨rfl, rfl⟩
              go_wp2_with fail
              refine (ST.out _).mono ?_
              rintro e w3 ⟨rfl, rfl⟩
              go_wp2_with fail
              refine (HC.out _).mono ?_
              rintro e w3 ⟨rfl, rfl⟩
              go_wp2_with fail
              refine bodyPost_ret (v := .tuple #[.int .i64 (n : Int), .nilIface]) (by simp [results, Tryz.results39, go_sem]) rfl ?_
              exact ⟨by rw [HE.out], hB2'⟩
        · have HE := Lib.hid (E2.out (by rw [SC, if_neg]; rintro ⟨a, _⟩; exact h3 a))
          clear SC hg hdig hn
          go_enter Tryz.func39, Tryz.ntmps39
          go_wp2_with fail
          refine (C1.out _ HM.out).mono ?_
          rintro e w1 ⟨b1, rfl, hB1⟩
          go_wp2_with fail
          refine (C2.out _ (HM.out.below hB1)).mono ?_
          rintro e w2 ⟨b2, rfl, hB2⟩
          have hB2' := hB1.trans (hB2.mono hB1.size)
          go_wp2_with fail
          refine (NU.out _).mono ?_
          rintro e w3 ⟨rfl, rfl⟩
          go_wp2_with fail
          refine bodyPost_ret (v := .tuple #[.int .i64 0, .iface 67 (.int .i64 2)]) (by simp [results, Tryz.results39, go_sem]) rfl ?_
          exact ⟨by rw [HE.out], hB2'⟩
      · have HE := Lib.hid (E2.out (by rw [SC, if_neg]; rintro ⟨a, _⟩; omega))
        have NU := Lib.hid (fun w => number_large sc w (by unfold maxLen; omega) hg (by omega))
        clear SC hg
        go_enter Tryz.func39, Tryz.ntmps39
        go_wp2_with fail
        refine (C1.out _ HM.out).mono ?_
        rintro e w1 ⟨b1, rfl, hB1⟩
        go_wp2_with fail
        refine (C2.out _ (HM.out.below hB1)).mono ?_
        rintro e w2 ⟨b2, rfl, hB2⟩
        have hB2' := hB1.trans (hB2.mono hB1.size)
        go_wp2_with fail
        refine (NU.out _).mono ?_
        rintro e w3 ⟨rfl, rfl⟩
        go_wp2_with fail
        refine bodyPost_ret (v := .tuple #[.int .i64 0, .iface 67 (.int .i64 2)]) (by simp [results, Tryz.results39, go_sem]) rfl ?_
        exact ⟨by rw [HE.out], hB2'⟩
    · have HE := Lib.hid (E2.out (by
        rw [SC, if_neg]
        rintro ⟨a, b, _⟩
        refine hg ⟨fun h0 => ?_, b⟩
        have : sc.data.toList.length = sc.size := by rw [Array.length_toList]; rfl
        rw [h0] at this
        simp at this
        omega))
      have NU := Lib.hid (fun w => number_form sc w (by unfold maxLen; omega) hg)
      clear SC hg
      go_enter Tryz.func39, Tryz.ntmps39
      go_wp2_with fail
      refine (C1.out _ HM.out).mono ?_
      rintro e w1 ⟨b1, rfl, hB1⟩
      go_wp2_with fail
      refine (C2.out _ (HM.out.below hB1)).mono ?_
      rintro e w2 ⟨b2, rfl, hB2⟩
      have hB2' := hB1.trans (hB2.mono hB1.size)
      go_wp2_with fail
      refine (NU.out _).mono ?_
      rintro e w3 ⟨rfl, rfl⟩
      go_wp2_with fail
      refine bodyPost_ret (v := .tuple #[.int .i64 0, .iface 67 (.int .i64 2)]) (by simp [results, Tryz.results39, go_sem]) rfl ?_
      exact ⟨by rw [HE.out], hB2'⟩
  · have q := list_no h1
    unfold verL at q
    have HE := Lib.hid (show statV l = .tuple #[.int .i64 0, .iface 67 (.int .i64 28)] by rw [statV_no (by rw [statC_28 h1]; decide), statC_28 h1]; rfl)
    clear h1 SC
    go_enter Tryz.func39, Tryz.ntmps39
    go_wp2_with fail
    refine (C1.out _ HM.out).mono ?_
    rintro e w1 ⟨b1, rfl, hB1⟩
    go_wp2_with fail
    refine bodyPost_ret (v := .tuple #[.int .i64 0, .iface 67 (.int .i64 28)]) (by simp [results, Tryz.results39, go_sem]) rfl ?_
    exact ⟨by rw [HE.out], hB1⟩
end Go.Proofs.YtkfmfjlapkpeaaaGreatDoor

/- What the program's ReadResponse returns. -/
namespace Go.Proofs.YtkfmfjlapkpeaaaGreatDoor
open Go.RowKit

abbrev rdP (l : List UInt8) := readP nmO vlO l
theorem respL_cons (nm vl : List UInt8 → Option (List UInt8)) (x : List UInt8) (t : List (List UInt8)) : respL nm vl (x :: t) =
    (if (cutG 32 x).1 ≠ verL then (28, 0, [])
    else if statusN (cutG 32 x).2 = 0 then (2, 0, [])
    else if (readFs nm vl t).1 ≠ 0 then ((readFs nm vl t).1, 0, [])
    else (0, statusN (cutG 32 x).2, (readFs nm vl t).2)) := rfl
theorem respL_start {nm vl : List UInt8 → Option (List UInt8)} {x : List UInt8} {t : List (List UInt8)} (h : statC x ≠ 0) : respL nm vl (x :: t) = (statC x, 0, []) := by
  rw [respL_cons]
  by_cases h1 : (cutG 32 x).1 ≠ verL
  · rw [if_pos h1, statC_28 h1]
  · rw [if_neg h1]
    by_cases h2 : statusN (cutG 32 x).2 = 0
    · rw [if_pos h2, statC_2 (by simpa using h1) h2]
    · exact absurd (statC_0 (by simpa using h1) h2) h
theorem statC_zero {x : List UInt8} (h : statC x = 0) : (cutG 32 x).1 = verL ∧ statusN (cutG 32 x).2 ≠ 0 := by
  unfold statC at h
  by_cases h1 : (cutG 32 x).1 ≠ verL
  · rw [if_pos h1] at h; cases h
  · rw [if_neg h1] at h
    by_cases h2 : statusN (cutG 32 x).2 = 0
    · rw [if_pos h2] at h; cases h
    · exact ⟨by simpa using h1, h2⟩
theorem respL_rest {nm vl : List UInt8 → Option (List UInt8)} {x : List UInt8} {t : List (List UInt8)} (h : statC x = 0) :
    respL nm vl (x :: t) = if (readFs nm vl t).1 ≠ 0 then ((readFs nm vl t).1, 0, []) else (0, statusN (cutG 32 x).2, (readFs nm vl t).2) := by
  obtain ⟨h1, h2⟩ := statC_zero h
  rw [respL_cons, if_neg (by simp [h1]), if_neg h2]
theorem rdP_split {l : List UInt8} {c : Nat} (h : (splitG l).1 = c) (hc : c ≠ 0) : rdP l = (c, (0, []), 0) := by
  unfold rdP readP; rw [h, if_pos hc]
theorem rdP_lines {l : List UInt8} (h : (splitG l).1 = 0) : rdP l = if (respL nmO vlO (splitG l).2.1).1 ≠ 0 then ((respL nmO vlO (splitG l).2.1).1, (0, []), 0) else (0, (respL nmO vlO (splitG l).2.1).2, (splitG l).2.2) := by
  unfold rdP readP; rw [if_neg (by rw [h]; simp)]
theorem rdP_start {l x : List UInt8} {t : List (List UInt8)} {c : Nat} (h : (splitG l).1 = 0) (hx : (splitG l).2.1 = x :: t) (h1 : statC x = c) (hc : c ≠ 0) : rdP l = (c, (0, []), 0) := by
  rw [rdP_lines h, hx, respL_start (by rw [h1]; exact hc), h1, if_pos hc]
theorem rdP_f {l x : List UInt8} {t : List (List UInt8)} (h : (splitG l).1 = 0) (hx : (splitG l).2.1 = x :: t) (h1 : statC x = 0) (h2 : (readFs nmO vlO t).1 ≠ 0) : rdP l = ((readFs nmO vlO t).1, (0, []), 0) := by
  rw [rdP_lines h, hx, respL_rest h1, if_pos h2, if_pos h2]
theorem rdP_g {l x : List UInt8} {t : List (List UInt8)} (h : (splitG l).1 = 0) (hx : (splitG l).2.1 = x :: t) (h1 : statC x = 0) (h2 : (readFs nmO vlO t).1 = 0) : rdP l = (0, (statusN (cutG 32 x).2, (readFs nmO vlO t).2), (splitG l).2.2) := by
  have e : respL nmO vlO (x :: t) = (0, statusN (cutG 32 x).2, (readFs nmO vlO t).2) := by rw [respL_rest h1, if_neg (by simp [h2])]
  rw [rdP_lines h, hx, e]; rfl
/-- A slice of the call's own is kept when the first block is written. -/
theorem ownsP_two (w : World) {T : TypeId} {w' : World} {v : Value} {ps : Fs} (h : OwnsP T (w.heap.size + 1) w' v ps) (a b : Value) :
    OwnsP T w.heap.size ((w'.setCell ⟨w.heap.size, 0, none⟩ a).setCell ⟨w.heap.size, 1, none⟩ b) v ps := by
  have hn : ∀ k, v.ownBlock ≠ some (⟨w.heap.size, k, none⟩ : Addr).block := fun k hq => by have := (World.ownsRow.lt h _ hq).1; simp at this; omega
  exact OwnsP.mono (Nat.le_succ _) (ownsRow_setCell_other (ownsRow_setCell_other h (hn 0) a) (hn 1) b)
/-- What ReadResponse leaves. -/
def ResPost (l : List UInt8) (w : World) (e : Ending) (w' : World) : Prop :=
  ∃ v, e = .returned (.tuple #[.agg #[.int .i64 ((rdP l).2.1.1 : Int), v], .int .i64 ((rdP l).2.2 : Int), errV (rdP l).1]) ∧ OwnsP 97 w.heap.size w' v (rdP l).2.1.2 ∧ Below w.heap.size w w'
theorem resPost_err {l : List UInt8} {w w' : World} {c : Nat} (h : rdP l = (c, (0, []), 0)) (hc : c ≠ 0) (hB : Below w.heap.size w w') :
    ResPost l w (.returned (.tuple #[.agg #[.int .i64 0, .slice none 0 0], .int .i64 0, .iface 67 (.int .i64 c)])) w' :=
  ⟨.slice none 0 0, by rw [h, errV_no hc]; rfl, by rw [h]; exact OwnsP.nil _ _ _, hB⟩
set_option maxHeartbeats 8000000 in
set_option maxRecDepth 100000 in
theorem readResponse_any (v : Value) (l : List UInt8) (w : World) (hr : ReadsB w v l) (hM : HasMax w) (hl : l.length ≤ 100000) :
    Calls Tryz.prog 15 #[v] w (ResPost l w) := by
  have hB0 : Below w.heap.size w (w.alloc (.cells #[.int .i64 0, .slice none 0 0] 41)) := below_new _ _
  have hM0 := hM.below hB0
  have D := divide_any v l _ (hr.below hB0) hM0 hl
  have HM := Lib.hid hM0
  clear hr hM hM0
  go_enter Tryz.func15, Tryz.ntmps15
  go_wp2_with fail
  refine D.mono ?_
  rintro e w1 ⟨v1, he, hO, hB⟩
  clear D
  by_cases hs : (splitG l).1 = 0
  · obtain ⟨x, t, hx, ht, hpl⟩ := split_lines hs
    rw [hs, show errV 0 = .nilIface from rfl] at he
    rw [hx] at hO
    have HS := Lib.hid hs
    have HX := Lib.hid hx
    have HPL := Lib.hid hpl
    subst he
    obtain ⟨g, cap, rfl, hcap, hg, hc⟩ := hO.room
    have hc0 := hc 0 x rfl
    have HC := Lib.hid hc
    have R := Lib.hid (fun W hM => readStatus_any x W hM (by have := hpl x (by simp); omega))
    have F := Lib.hid (fun ao cp W (hr : ReadsS W (.slice ao t.length cp) t) hM => readFields_any (.slice ao t.length cp) t W hr hM (by omega) (fun y hy => by have := hpl y (by simp [hy]); omega))
    clear hs hx hpl hc hO
    go_wp2_with fail
    refine (R.out _ (HM.out.below hB)).mono ?_
    rintro e w2 ⟨rfl, hB2⟩
    have hBx := hB.trans (hB2.mono hB.size)
    have hg2 := Nat.lt_of_lt_of_le hg hB2.size
    have HC2 := Lib.hid (fun j y (hj : (x :: t)[j]? = some y) => (hB2.cell (p := ⟨g, j, none⟩) hg).trans (HC.out j y hj))
    clear hB hB2 HC hg R hc0
    by_cases h1 : statC x = 0
    · rw [statV_yes h1]
      have H1 := Lib.hid h1
      clear h1
      by_cases hcp : 2 ≤ cap
      · have HT := Lib.hid (tail_reads (some ⟨g, 1, none⟩) (cap - 1) hg2 HC2.out (fun _ => rfl))
        go_wp2_with fail
        refine (F.out _ _ _ HT.out (HM.out.below hBx)).mono ?_
        rintro e w3 ⟨v3, he3, hO3, hB3⟩
        have hzx := hBx.size
        have hBy := hBx.trans (hB3.mono hBx.size)
        clear hBx F
        obtain ⟨c0, c1, f0, f1, hz⟩ := box_kept w hBy
        by_cases h2 : (readFs nmO vlO t).1 = 0
        · rw [h2, show errV 0 = .nilIface from rfl] at he3
          have HE := Lib.hid (rdP_g HS.out HX.out H1.out h2)
          have hO3 := OwnsP.mono (show w.heap.size + 1 ≤ w2.heap.size by simp at hzx; omega) hO3
          obtain ⟨ao3, cap3, rfl, _⟩ := hO3.reads
          have hO5 := ownsP_two w hO3
          subst he3
          clear h2 hO3
          go_wp2_with fail
          refine bodyPost_ret (v := .tuple #[.agg #[.int .i64 (statusN (cutG 32 x).2 : Int), .slice ao3 (readFs nmO vlO t).2.length cap3], .int .i64 ((splitG l).2.2 : Int), .nilIface]) (by simp [results, Tryz.results15, go_sem, c0, c1]) rfl ?_
          exact ⟨_, by rw [HE.out]; rfl, by rw [HE.out]; exact hO5 _ _, below_two (hB0.trans (hBy.mono hB0.size)) _ _⟩
        · rw [errV_no h2] at he3
          have HE := Lib.hid (rdP_f HS.out HX.out H1.out h2)
          have H2 := Lib.hid h2
          subst he3
          clear h2
          go_wp2_with fail
          refine bodyPost_ret (v := .tuple #[.agg #[.int .i64 0, .slice none 0 0], .int .i64 0, .iface 67 (.int .i64 ((readFs nmO vlO t).1))]) (by simp [results, Tryz.results15, go_sem, c0, c1]) rfl ?_
          exact resPost_err HE.out H2.out (below_two (hB0.trans (hBy.mono hB0.size)) _ _)
      · have ht0 : t = [] := List.eq_nil_of_length_eq_zero (by omega)
        obtain rfl : cap = 1 := by omega
        subst ht0
        have HT := Lib.hid (fun ao cp => tail_reads (w := w2) (x := x) (t := []) ao cp hg2 HC2.out (fun h => absurd rfl h))
        go_wp2_with fail
        refine (F.out _ _ _ (HT.out _ _) (HM.out.below hBx)).mono ?_
        rintro e w3 ⟨v3, he3, hO3, hB3⟩
        have hzx := hBx.size
        have hBy := hBx.trans (hB3.mono hBx.size)
        clear hBx F
        obtain ⟨c0, c1, f0, f1, hz⟩ := box_kept w hBy
        by_cases h2 : (readFs nmO vlO []).1 = 0
        · rw [h2, show errV 0 = .nilIface from rfl] at he3
          have HE := Lib.hid (rdP_g HS.out HX.out H1.out h2)
          have hO3 := OwnsP.mono (show w.heap.size + 1 ≤ w2.heap.size by simp at hzx; omega) hO3
          obtain ⟨ao3, cap3, rfl, _⟩ := hO3.reads
          have hO5 := ownsP_two w hO3
          subst he3
          clear h2 hO3
          go_wp2_with fail
          refine bodyPost_ret (v := .tuple #[.agg #[.int .i64 (statusN (cutG 32 x).2 : Int), .slice ao3 (readFs nmO vlO []).2.length cap3], .int .i64 ((splitG l).2.2 : Int), .nilIface]) (by simp [results, Tryz.results15, go_sem, c0, c1]) rfl ?_
          exact ⟨_, by rw [HE.out]; rfl, by rw [HE.out]; exact hO5 _ _, below_two (hB0.trans (hBy.mono hB0.size)) _ _⟩
        · rw [errV_no h2] at he3
          have HE := Lib.hid (rdP_f HS.out HX.out H1.out h2)
          have H2 := Lib.hid h2
          subst he3
          clear h2
          go_wp2_with fail
          refine bodyPost_ret (v := .tuple #[.agg #[.int .i64 0, .slice none 0 0], .int .i64 0, .iface 67 (.int .i64 ((readFs nmO vlO []).1))]) (by simp [results, Tryz.results15, go_sem, c0, c1]) rfl ?_
          exact resPost_err HE.out H2.out (below_two (hB0.trans (hBy.mono hB0.size)) _ _)
    · rw [statV_no h1]
      have HE := Lib.hid (rdP_start HS.out HX.out rfl h1)
      have H1 := Lib.hid h1
      clear h1
      obtain ⟨c0, c1, f0, f1, hz⟩ := box_kept w hBx
      go_wp2_with fail
      refine bodyPost_ret (v := .tuple #[.agg #[.int .i64 0, .slice none 0 0], .int .i64 0, .iface 67 (.int .i64 (statC x))]) (by simp [results, Tryz.results15, go_sem, c0, c1]) rfl ?_
      exact resPost_err HE.out H1.out (below_two (hB0.trans (hBx.mono hB0.size)) _ _)
  · have HE := Lib.hid (rdP_split rfl hs)
    rw [errV_no hs] at he
    subst he
    have H1 := Lib.hid hs
    clear hs
    obtain ⟨c0, c1, f0, f1, hz⟩ := box_kept w hB
    go_wp2_with fail
    refine bodyPost_ret (v := .tuple #[.agg #[.int .i64 0, .slice none 0 0], .int .i64 0, .iface 67 (.int .i64 (splitG l).1)]) (by simp [results, Tryz.results15, go_sem, c0, c1]) rfl ?_
    exact resPost_err HE.out H1.out (below_two (hB0.trans (hB.mono hB0.size)) _ _)
end Go.Proofs.YtkfmfjlapkpeaaaGreatDoor

/- What the reference's status and ReadResponse return. -/
namespace Go.Proofs.YtkfmfjlapkpeaaaGreatDoor
open Go.RowKit

/-- No control byte behind the first three, up to k. -/
def tailOk (s : ByteArray) (k : Nat) : Prop := ((s.data.toList.take k).drop 3).any ctlB = false
theorem tailOk0 (s : ByteArray) : tailOk s 3 := by
  unfold tailOk
  rw [List.drop_of_length_le (by rw [List.length_take]; omega)]; rfl
theorem tailOk_step {s : ByteArray} {k : Nat} (hk : k < s.size) (h3 : 3 ≤ k) (h : tailOk s k) (hb : ctlB s[k] = false) : tailOk s (k + 1) := by
  unfold tailOk at *
  have hl : (s.data.toList.take k).length = k := by
    have : s.data.toList.length = s.size := by rw [Array.length_toList]; rfl
    rw [List.length_take]; omega
  rw [take_snoc s k hk, List.drop_append_of_le_length (by omega), List.any_append, h]
  simp [hb]
theorem tail_end {s : ByteArray} {k : Nat} (hk : s.size ≤ k) (h : tailOk s k) : (s.data.toList.drop 3).any ctlB = false := by
  unfold tailOk at h
  rwa [take_all s k hk] at h
theorem tail_bad {s : ByteArray} {k : Nat} (hk : k < s.size) (h3 : 3 ≤ k) (hb : ctlB s[k] = true) : (s.data.toList.drop 3).any ctlB = true := by
  rw [List.any_eq_true]
  have hsz : s.data.toList.length = s.size := by rw [Array.length_toList]; rfl
  refine ⟨s[k], ?_, hb⟩
  rw [List.mem_iff_getElem?]
  refine ⟨k - 3, ?_⟩
  rw [List.getElem?_drop, show 3 + (k - 3) = k by omega, List.getElem?_eq_getElem (by omega)]
  rfl
theorem status_short {s : ByteArray} (h : s.size < 3) : statusN s.data.toList = 0 := by
  have : s.data.toList.length = s.size := by rw [Array.length_toList]; rfl
  rw [statusN_eq, if_neg]; rintro ⟨a, _⟩; omega
theorem status_form {s : ByteArray} (h : 3 < s.size) (hb : s[3] ≠ 32) : statusN s.data.toList = 0 := by
  have : s.data.toList.length = s.size := by rw [Array.length_toList]; rfl
  rw [statusN_eq, if_neg]
  rintro ⟨_, h2, _⟩
  rcases h2 with h2 | h2
  · omega
  · rw [List.getElem?_eq_getElem (by omega)] at h2
    exact hb (Option.some.inj h2)
theorem status_dig {s : ByteArray} {k : Nat} (hk : k < 3) (h3 : 3 ≤ s.size) (hb : digB s[k] = false) : statusN s.data.toList = 0 := by
  have hsz : s.data.toList.length = s.size := by rw [Array.length_toList]; rfl
  rw [statusN_eq, if_neg]
  rintro ⟨_, _, a, _⟩
  have hm : s[k] ∈ s.data.toList.take 3 := by
    rw [List.mem_iff_getElem?]
    exact ⟨k, by rw [List.getElem?_take_of_lt hk, List.getElem?_eq_getElem (by omega)]; rfl⟩
  have := List.all_eq_true.1 a _ hm
  rw [hb] at this; cases this
theorem status_ctl {s : ByteArray} (h : (s.data.toList.drop 3).any ctlB = true) : statusN s.data.toList = 0 := by
  rw [statusN_eq, if_neg]
  rintro ⟨_, _, _, a, _⟩
  rw [h] at a; cases a
theorem status_out {s : ByteArray} (h : ¬ (100 ≤ numV (s.data.toList.take 3) ∧ numV (s.data.toList.take 3) ≤ 599)) : statusN s.data.toList = 0 := by
  rw [statusN_eq, if_neg]
  rintro ⟨_, _, _, _, a⟩
  exact h a
theorem status_good {s : ByteArray} (h3 : 3 ≤ s.size) (hf : s.size = 3 ∨ ∃ h : 3 < s.size, s[3] = 32) (hd : (s.data.toList.take 3).all digB = true) (hc : (s.data.toList.drop 3).any ctlB = false) (h : 100 ≤ numV (s.data.toList.take 3) ∧ numV (s.data.toList.take 3) ≤ 599) :
    statusN s.data.toList = numV (s.data.toList.take 3) := by
  have hsz : s.data.toList.length = s.size := by rw [Array.length_toList]; rfl
  rw [statusN_eq, if_pos]
  refine ⟨by omega, ?_, hd, hc, h⟩
  rcases hf with hf | ⟨hlt, hf⟩
  · exact .inl (by omega)
  · refine .inr ?_
    rw [List.getElem?_eq_getElem (by omega)]
    exact congrArg some hf
set_option maxHeartbeats 8000000 in
set_option maxRecDepth 100000 in
theorem refStatus_tail (s : ByteArray) (w : World) (hs : s.size ≤ 1000000) (h3 : 3 ≤ s.size) (hf : s.size = 3 ∨ ∃ h : 3 < s.size, s[3] = 32) :
    Calls Tryz.prog 40 #[.string s] w fun e w' => e = .returned (.int .i64 (statusN s.data.toList : Int)) ∧ w = w' := by
  have q3 : ∀ h : 3 < s.size, ((s[3].toNat : Int) != 32) = false := by
    intro h
    rcases hf with e | ⟨_, e⟩
    · omega
    · rw [e]; rfl
  by_cases hlt3 : 3 < s.size
  all_goals
    have q := q3
    have HF := Lib.hid hf
    clear hf q3
    first
      | (have q := q hlt3)
      | skip
    go_enter Tryz.func40, Tryz.ntmps40
    go_wp2
    go_loop [3, 4] (fun n i => ∃ k : Nat, k ≤ 3 ∧ i = .int .i64 k ∧ n = .int .i64 (numV (s.data.toList.take k) : Int) ∧ allDig s k) (fun _ i => 3 - (intOf i).toNat)
    case atStart => exact ⟨0, by omega, rfl, rfl, allDig0 s⟩
    case round =>
      obtain ⟨k, hk, rfl, rfl, hn⟩ := hrel
      have HN := Lib.hid hn
      by_cases hlt : k < 3
      · have hks : k < s.size := by omega
        by_cases ha : 48 ≤ s[k].toNat
        · by_cases hb : s[k].toNat ≤ 57
          · have hv : numV (s.data.toList.take k) < 1000000000000000 := numV_le _ hn (by simp; omega)
            have hv2 : Hid (numV (s.data.toList.take (k + 1)) = 10 * numV (s.data.toList.take k) + (s[k].toNat - 48)) := by
              rw [take_snoc s k hks]; exact numV_snoc _ _
            have hd := Lib.hid (allDig_step hks hn (by simp [digB, ha, hb]))
            clear hn
            go_wp2
            go_round
            case rel => exact ⟨k + 1, by omega, by go_num, int_eq (by rw [hv2.out]; omega), hd.out⟩
            case measure => simp [intOf]; omega
          · have HE := Lib.hid (status_dig hlt h3 (by rw [Bool.eq_false_iff]; simp [digB]; omega))
            clear hn
            go_wp2
            go_ret
            exact ⟨by rw [HE.out]; rfl, rfl⟩
        · have HE := Lib.hid (status_dig hlt h3 (by rw [Bool.eq_false_iff]; simp [digB]; omega))
          clear hn
          go_wp2
          go_ret
          exact ⟨by rw [HE.out]; rfl, rfl⟩
      · obtain rfl : k = 3 := by omega
        have HD := Lib.hid hn
        clear hn
        generalize hnv : numV (s.data.toList.take 3) = nv at *
        have HV := Lib.hid hnv
        clear hnv
        go_wp2
        go_loop [5] (fun i => ∃ k : Nat, 3 ≤ k ∧ k ≤ s.size ∧ i = .int .i64 k ∧ tailOk s k) (fun i => s.size - (intOf i).toNat)
        case atStart => exact ⟨3, by omega, by omega, rfl, tailOk0 s⟩
        case round =>
          obtain ⟨j, hj3, hj, rfl, ht⟩ := hrel
          have HT := Lib.hid ht
          clear ht
          by_cases hlj : j < s.size
          · by_cases hb : ctlB s[j] = true
            · have HE := Lib.hid (status_ctl (tail_bad hlj hj3 hb))
              simp [ctlB] at hb
              rcases hb with ⟨hb1, hb2⟩ | hb
              · go_wp2
                all_goals go_ret
                all_goals exact ⟨by rw [HE.out]; rfl, rfl⟩
              · go_wp2
                all_goals go_ret
                all_goals exact ⟨by rw [HE.out]; rfl, rfl⟩
            · have HS := Lib.hid (tailOk_step hlj hj3 HT.out (by simpa using hb))
              simp [ctlB] at hb
              obtain ⟨hb1, hb2⟩ := hb
              by_cases h32 : s[j].toNat < 32
              · have h9 := hb1 h32
                go_wp2
                go_round
                case rel => exact ⟨j + 1, by omega, by omega, by go_num, HS.out⟩
                case measure => simp [intOf]; omega
              · clear hb1
                go_wp2
                all_goals
                  go_round
                  case rel => exact ⟨j + 1, by omega, by omega, by go_num, HS.out⟩
                  case measure => simp [intOf]; omega
          · have hc := tail_end (by omega) HT.out
            by_cases h100 : 100 ≤ nv
            · by_cases h599 : nv ≤ 599
              · have HE := Lib.hid (status_good h3 HF.out HD.out hc (by rw [HV.out]; exact ⟨h100, h599⟩))
                clear hc
                go_wp2
                go_ret
                exact ⟨by rw [HE.out, HV.out]; rfl, rfl⟩
              · have HE := Lib.hid (status_out (s := s) (by rw [HV.out]; omega))
                clear hc
                go_wp2
                go_ret
                exact ⟨by rw [HE.out]; rfl, rfl⟩
            · have HE := Lib.hid (status_out (s := s) (by rw [HV.out]; omega))
              clear hc
              go_wp2
              go_ret
              exact ⟨by rw [HE.out]; rfl, rfl⟩
set_option maxHeartbeats 8000000 in
set_option maxRecDepth 100000 in
theorem refStatus_any (s : ByteArray) (w : World) (hs : s.size ≤ 1000000) :
    Calls Tryz.prog 40 #[.string s] w fun e w' => e = .returned (.int .i64 (statusN s.data.toList : Int)) ∧ w = w' := by
  by_cases h3 : 3 ≤ s.size
  · by_cases hlt : 3 < s.size
    · by_cases hb : s[3].toNat = 32
      · exact refStatus_tail s w hs h3 (.inr ⟨hlt, nat_of_u8 hb⟩)
      · have HE := Lib.hid (status_form hlt (fun e => hb (by rw [e]; rfl)))
        have q : ((s[3].toNat : Int) != 32) = true := by simp; omega
        go_enter Tryz.func40, Tryz.ntmps40
        go_wp2
        go_ret
        exact ⟨by rw [HE.out]; rfl, rfl⟩
    · exact refStatus_tail s w hs h3 (.inl (by omega))
  · have HE := Lib.hid (status_short (s := s) (by omega))
    go_enter Tryz.func40, Tryz.ntmps40
    go_wp2
    go_ret
    exact ⟨by rw [HE.out]; rfl, rfl⟩
end Go.Proofs.YtkfmfjlapkpeaaaGreatDoor
