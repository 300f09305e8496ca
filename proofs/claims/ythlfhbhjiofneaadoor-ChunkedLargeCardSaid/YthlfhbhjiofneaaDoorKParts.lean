/- A slice of slices of bytes that is read; its sum; what sum and fits return. -/
import Derived.Test.YthlfhbhjiofneaaDoorKBytes
namespace Go.Proofs.YthlfhbhjiofneaaDoor
open Go.RowKit

/-- The value v is a slice of slices of bytes that reads as ls in the world w. -/
def ReadsL (w : World) (v : Value) (ls : List (List UInt8)) : Prop :=
  ∃ ao cap, v = .slice ao ls.length cap ∧ ∀ j l, ls[j]? = some l → ∃ g off u, ao = some ⟨g, off, none⟩ ∧ g < w.heap.size ∧ w.cell? ⟨g, off + j, none⟩ = some u ∧ ReadsD w u l
theorem ReadsL.below {w w' : World} {v : Value} {ls : List (List UInt8)} (h : ReadsL w v ls) (hb : Below w.heap.size w w') : ReadsL w' v ls := by
  obtain ⟨ao, cap, rfl, hc⟩ := h
  refine ⟨ao, cap, rfl, fun j l hj => ?_⟩
  obtain ⟨g, off, u, h1, h2, h3, h4⟩ := hc j l hj
  exact ⟨g, off, u, h1, Nat.lt_of_lt_of_le h2 hb.size, (hb.cell (p := ⟨g, off + j, none⟩) h2).trans h3, h4.below hb⟩
def sumL (ls : List (List UInt8)) : Nat := (ls.map List.length).foldr (· + ·) 0
theorem sumL_cons (l : List UInt8) (r : List (List UInt8)) : sumL (l :: r) = l.length + sumL r := rfl
theorem sumL_app (a b : List (List UInt8)) : sumL (a ++ b) = sumL a + sumL b := by
  induction a with
  | nil => simp [sumL]
  | cons x r ih => rw [List.cons_append, sumL_cons, sumL_cons, ih]; omega
theorem sumL_flat (a : List (List UInt8)) : a.flatten.length = sumL a := by
  induction a with
  | nil => rfl
  | cons x r ih => rw [List.flatten_cons, List.length_append, ih, sumL_cons]
theorem moreK_at {α : Type} {ls : List α} {k : Nat} {l : α} (h : ls[k]? = some l) : ls.take (k + 1) = ls.take k ++ [l] := by
  rw [List.take_add_one, h]; rfl
theorem sumL_more {ls : List (List UInt8)} {k : Nat} {l : List UInt8} (h : ls[k]? = some l) : sumL (ls.take (k + 1)) = sumL (ls.take k) + l.length := by
  rw [moreK_at h, sumL_app]; simp [sumL]
theorem sumL_le {ls : List (List UInt8)} {M : Nat} (hb : ∀ l ∈ ls, l.length ≤ M) (k : Nat) : sumL (ls.take k) ≤ k * M := by
  induction k with
  | zero => simp [sumL]
  | succ k ih =>
    cases hp : ls[k]? with
    | none =>
      have e : ls.take (k + 1) = ls.take k := by rw [List.take_add_one, hp]; simp
      rw [e]; exact Nat.le_trans ih (Nat.mul_le_mul_right _ (Nat.le_succ k))
    | some p =>
      rw [sumL_more hp, Nat.succ_mul]
      have := hb p (List.mem_of_getElem? hp)
      omega
theorem sumL_take_le (ls : List (List UInt8)) (k : Nat) : sumL (ls.take k) ≤ sumL ls := by
  have := sumL_app (ls.take k) (ls.drop k)
  rw [List.take_append_drop] at this; omega
theorem sumL_mem {ls : List (List UInt8)} {l : List UInt8} (h : l ∈ ls) : l.length ≤ sumL ls := by
  induction ls with
  | nil => cases h
  | cons x r ih =>
    rw [sumL_cons]
    rcases List.mem_cons.1 h with rfl | h
    · omega
    · have := ih h; omega
def fits7B (ls : List (List UInt8)) : Bool := decide (ls.length ≤ 100 ∧ sumL ls ≤ 12000)
set_option maxHeartbeats 1000000 in
set_option maxRecDepth 100000 in
theorem sum7_any (v : Value) (ls : List (List UInt8)) (w : World) (hr : ReadsL w v ls) (hl : ls.length ≤ 100) (hb : ∀ l ∈ ls, l.length ≤ 140737488355328) :
    Calls Tryd.prog 22 #[v] w fun e w' => e = .returned (.int .i64 (sumL ls : Int)) ∧ w = w' := by
  obtain ⟨ao, cap, rfl, hc⟩ := hr
  have HC := Lib.hid hc
  have HS := Lib.hid (sumL_le hb)
  have HB := Lib.hid hb
  clear hc hb
  go_enter Tryd.func22, Tryd.ntmps22
  go_wp2_with fail
  go_loop [3, 4] (fun n i => ∃ k : Nat, i = .int .i64 k ∧ k ≤ ls.length ∧ n = .int .i64 (sumL (ls.take k))) (fun _ i => ls.length - (intOf i).toNat)
  case atStart => exact ⟨0, rfl, Nat.zero_le _, rfl⟩
  case round =>
    obtain ⟨k, rfl, hk, rfl⟩ := hrel
    have hsk : sumL (ls.take k) ≤ 100 * 140737488355328 := Nat.le_trans (HS.out k) (Nat.mul_le_mul_right _ (by omega))
    by_cases hlt : k < ls.length
    · obtain ⟨l, hl'⟩ : ∃ l, ls[k]? = some l := ⟨ls[k], by simp [hlt]⟩
      obtain ⟨g, off, u, rfl, hg, hcell, hu⟩ := HC.out k l hl'
      have hll := HB.out l (List.mem_of_getElem? hl')
      obtain ⟨ua, uc, rfl, _⟩ := hu
      have HM := Lib.hid (sumL_more hl')
      clear hl'
      go_wp2_with fail
      go_round
      case rel => exact ⟨k + 1, by go_num, by omega, by rw [HM.out]; go_num⟩
      case measure => simp [intOf]; omega
    · have htk : ls.take k = ls := List.take_of_length_le (by omega)
      rw [htk]
      go_wp2_with fail
      go_ret
      exact ⟨rfl, rfl⟩
set_option maxHeartbeats 1000000 in
set_option maxRecDepth 100000 in
theorem fits7_any (v : Value) (ls : List (List UInt8)) (w : World) (hr : ReadsL w v ls) (hl : ls.length ≤ 9223372036854775807) (hb : ∀ l ∈ ls, l.length ≤ 140737488355328) :
    Calls Tryd.prog 7 #[v] w fun e w' => e = .returned (.bool (fits7B ls)) ∧ w = w' := by
  by_cases h1 : ls.length ≤ 100
  · have S := Lib.hid (sum7_any v ls w hr h1 hb)
    have hs := sumL_le hb ls.length
    rw [List.take_length] at hs
    have hs2 : sumL ls ≤ 100 * 140737488355328 := Nat.le_trans hs (Nat.mul_le_mul_right _ h1)
    obtain ⟨ao, cap, rfl, hc⟩ := hr
    clear hc hb hs
    by_cases h2 : sumL ls ≤ 12000
    · have e1 : fits7B ls = true := decide_eq_true ⟨h1, h2⟩
      rw [e1]
      clear e1
      go_enter Tryd.func7, Tryd.ntmps7
      go_wp2_with fail
      refine S.out.mono ?_
      rintro e w' ⟨rfl, rfl⟩
      go_wp2_with fail
      go_ret
      exact ⟨ret_bool (decide_eq_true (by omega)), rfl⟩
    · have e1 : fits7B ls = false := decide_eq_false fun h => h2 h.2
      rw [e1]
      clear e1
      have h3 : ¬ (sumL ls : Int) ≤ 12000 := by omega
      go_enter Tryd.func7, Tryd.ntmps7
      go_wp2_with fail
      refine S.out.mono ?_
      rintro e w' ⟨rfl, rfl⟩
      go_wp2_with fail
      go_ret
      exact ⟨ret_bool (decide_eq_false (by omega)), rfl⟩
  · have e1 : fits7B ls = false := decide_eq_false fun h => h1 h.1
    rw [e1]
    obtain ⟨ao, cap, rfl, hc⟩ := hr
    have h3 : ¬ (ls.length : Int) ≤ 100 := by omega
    clear hc hb e1 h1
    go_enter Tryd.func7, Tryd.ntmps7
    go_wp2_with fail
    go_ret
    exact ⟨rfl, rfl⟩
set_option maxHeartbeats 1000000 in
set_option maxRecDepth 100000 in
theorem bytes7_any (va vb : Value) (la lb : List UInt8) (w : World) (ha : ReadsD w va la) (hb : ReadsD w vb lb) :
    Calls Tryd.prog 10 #[va, vb] w fun e w' => e = .returned (.bool (decide (la = lb))) ∧ w = w' := by
  have c1 := convB ha
  have c2 := convB hb
  have hq : ((strB la).toList == (strB lb).toList) = decide (la = lb) := by
    rw [ByteArray.toList_eq, ByteArray.toList_eq, strB_list, strB_list]
    by_cases h : la = lb <;> simp [h]
  obtain ⟨ao, ca, rfl, _⟩ := ha
  obtain ⟨bo, cb, rfl, _⟩ := hb
  go_enter Tryd.func10, Tryd.ntmps10
  go_wp2_with fail
  go_ret
  exact ⟨rfl, rfl⟩
end Go.Proofs.YthlfhbhjiofneaaDoor
