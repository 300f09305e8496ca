/- AddressSegments: what the scan of the path finds; what Arg finds in the query that the law builds. -/
import Derived.Test.YtllkldbiagkbcaaDoorARefArg
import Derived.Test.YtllkldbiagkbcaaDoorADots
namespace Go.Proofs.YtllkldbiagkbcaaDoor
open Go.RowKit

def noSl (c : UInt8) : Bool := c != 47
def plainQ (c : UInt8) : Bool := c != 38 && c != 61
theorem not_mem_of_all {p : UInt8 → Bool} {l : List UInt8} {c : UInt8} (h : l.all p = true) (hc : p c = false) : c ∉ l := by
  intro hm
  have := List.all_eq_true.mp h c hm
  rw [hc] at this; cases this
theorem scan_at {s : ByteArray} {k : Nat} (h : okTo noSl s k) (hk : k < s.size) (hc : s[k].toNat = 47) : slashed (segL s.data.toList) = (s.extract k s.size).data.toList := by
  have e : s[k] = 47 := nat_of_u8 hc
  have hn : (47 : UInt8) ∉ s.data.toList.take k := not_mem_of_all h (by decide)
  have hd : s.data.toList.drop k = 47 :: s.data.toList.drop (k + 1) := by
    rw [List.drop_eq_getElem_cons (by simpa using hk)]
    have : s.data.toList[k]'(by simpa using hk) = s[k] := rfl
    rw [this, e]
  have hs : s.data.toList = s.data.toList.take k ++ 47 :: s.data.toList.drop (k + 1) := by
    rw [← hd, List.take_append_drop]
  have hx : segL s.data.toList = cutL 47 (s.data.toList.drop (k + 1)) := by
    unfold segL
    have := cutC_at hn (s.data.toList.drop (k + 1))
    rw [← hs] at this
    rw [this]; rfl
  rw [hx, slashed_cutL, seg_list, hd, List.take_of_length_le (by rw [← hd, List.length_drop, Array.length_toList]; exact Nat.le_refl _)]
theorem scan_none {s : ByteArray} {k : Nat} (h : okTo noSl s k) (hk : s.size ≤ k) (hk2 : k ≤ s.size) : slashed (segL s.data.toList) = (s.extract k s.size).data.toList := by
  have hn : (47 : UInt8) ∉ s.data.toList := not_mem_of_all (okTo_end hk h) (by decide)
  have : segL s.data.toList = [] := by unfold segL; rw [cutC_no hn]; rfl
  rw [this, seg_list, show s.size - k = 0 by omega]; rfl
/-- The query that the law builds of a name and a value. -/
def lawQ (n v : List UInt8) : List UInt8 := [97, 61, 49, 38] ++ n ++ [61] ++ v ++ [38] ++ n ++ [61, 111, 116, 104, 101, 114]
theorem lawQ_cut {n v : List UInt8} (hn : n.all plainQ = true) (hv : v.all plainQ = true) : cutL 38 (lawQ n v) = [[97, 61, 49], n ++ 61 :: v, n ++ [61, 111, 116, 104, 101, 114]] := by
  have n1 : (38 : UInt8) ∉ n := not_mem_of_all hn (by decide)
  have v1 : (38 : UInt8) ∉ v := not_mem_of_all hv (by decide)
  have e : lawQ n v = [97, 61, 49] ++ 38 :: ((n ++ 61 :: v) ++ 38 :: (n ++ [61, 111, 116, 104, 101, 114])) := by simp [lawQ]
  rw [e, cutL_app, cutL_app, cutL_none (by decide), cutL_none (by simp [n1, v1]), cutL_none (by simp [n1])]; rfl
theorem hit_own (n v : List UInt8) : hitP n (n ++ 61 :: v) = true := by
  unfold hitP
  rw [List.isPrefixOf_iff_prefix]
  exact ⟨v, by simp⟩
theorem hit_a {n : List UInt8} (hn : n.all plainQ = true) : hitP n [97, 61, 49] = decide (n = [97]) := by
  have n2 : (61 : UInt8) ∉ n := not_mem_of_all hn (by decide)
  by_cases h : n = [97]
  · subst h; decide
  · rw [decide_eq_false h]
    unfold hitP
    rw [Bool.eq_false_iff, Ne, List.isPrefixOf_iff_prefix]
    rintro ⟨r, hr⟩
    match n, h, n2, hr with
    | [], _, _, hr => simp at hr
    | [x], h, _, hr => simp at hr; exact h (by rw [hr.1])
    | x :: y :: t, _, n2, hr =>
      simp at hr
      exact n2 (by simp [hr.2.1])
theorem argO_law {n v : List UInt8} (hn : n.all plainQ = true) (hv : v.all plainQ = true) : argO (lawQ n v) n = some (if n = [97] then [49] else v) := by
  unfold argO
  rw [lawQ_cut hn hv, List.findSome?_cons, hit_a hn]
  by_cases h : n = [97]
  · rw [decide_eq_true h, if_pos rfl, if_pos h]
    subst h; rfl
  · rw [decide_eq_false h, if_neg (by decide), if_neg h, List.findSome?_cons, hit_own, if_pos rfl]
    simp
theorem argO_more {n v : List UInt8} (hn : n.all plainQ = true) (hv : v.all plainQ = true) : argO (lawQ n v) (n ++ [61, 120]) = none := by
  have n2 : (61 : UInt8) ∉ n := not_mem_of_all hn (by decide)
  have v2 : (61 : UInt8) ∉ v := not_mem_of_all hv (by decide)
  unfold argO
  rw [lawQ_cut hn hv]
  refine find_none ?_
  intro l hl
  unfold hitP
  rw [Bool.eq_false_iff, Ne, List.isPrefixOf_iff_prefix]
  rintro ⟨r, hr⟩
  simp only [List.mem_cons, List.not_mem_nil, or_false] at hl
  rcases hl with rfl | rfl | rfl
  · match n, hr with
    | [], hr => simp at hr
    | x :: t, hr =>
      have := congrArg List.length hr
      simp only [List.length_append, List.length_cons, List.length_nil] at this
      omega
  · simp only [List.append_assoc, List.append_cancel_left_eq, List.cons_append, List.nil_append, List.cons.injEq, true_and] at hr
    exact v2 (by rw [← hr]; simp)
  · simp only [List.append_assoc, List.append_cancel_left_eq, List.cons_append, List.nil_append, List.cons.injEq, true_and] at hr
    exact absurd hr.1 (by decide)
/-- The pieces of a text so far. -/
def JoinTo (ls : List (List UInt8)) (k : Nat) (t : ByteArray) : Prop := t = strB (slashed (ls.take k))
theorem joinTo0 (ls : List (List UInt8)) : JoinTo ls 0 ⟨#[]⟩ := rfl
theorem joinTo_step {ls : List (List UInt8)} {k : Nat} {t : ByteArray} {l : List UInt8} (h : JoinTo ls k t) (hl : ls[k]? = some l) : JoinTo ls (k + 1) (t ++ ((⟨#[47]⟩ : ByteArray) ++ strB l)) := by
  unfold JoinTo at *
  have e : (⟨#[47]⟩ : ByteArray) ++ strB l = strB (47 :: l) := by apply ByteArray.ext; simp [strB]
  rw [h, e, strB_app, strB_list, List.take_add_one, hl, slashed_app]; simp [slashed]
theorem joinTo_end {ls : List (List UInt8)} {k : Nat} {t : ByteArray} (h : JoinTo ls k t) (hk : ls.length ≤ k) : t = strB (slashed ls) := by
  unfold JoinTo at h; rw [List.take_of_length_le hk] at h; exact h
theorem joinTo_size {ls : List (List UInt8)} {k : Nat} {t : ByteArray} (h : JoinTo ls k t) (hb : ∀ l ∈ ls, l.length ≤ 100000) (hk : k ≤ 200000) : t.size ≤ 20000200000 := by
  unfold JoinTo at h
  rw [h, strB_size]
  have h1 := slashed_len (ls.take k) 100000 (fun l hl => hb l (List.mem_of_mem_take hl))
  have h2 : (ls.take k).length ≤ 200000 := by rw [List.length_take]; omega
  have h3 : (ls.take k).length * (100000 + 1) ≤ 200000 * (100000 + 1) := Nat.mul_le_mul_right _ h2
  omega
theorem segL_part (s : ByteArray) (l : List UInt8) (h : l ∈ segL s.data.toList) : l.length ≤ s.size := by
  rw [segL_tail] at h
  have := cutL_part_le 47 _ _ (List.mem_of_mem_tail h)
  rw [Array.length_toList] at this; exact this
theorem lawQ_bytes (n v : ByteArray) : (((((⟨#[97, 61, 49, 38]⟩ : ByteArray) ++ n ++ ⟨#[61]⟩) ++ v) ++ ⟨#[38]⟩) ++ n) ++ ⟨#[61, 111, 116, 104, 101, 114]⟩ = strB (lawQ n.data.toList v.data.toList) := by
  apply ByteArray.ext; simp [strB, lawQ]
theorem all_app {p : UInt8 → Bool} {n v : ByteArray} (h : (n ++ v).data.toList.all p = true) : n.data.toList.all p = true ∧ v.data.toList.all p = true := by
  simpa [List.all_append] using h
theorem four_flag {N : Nat} {w : World} {u0 u1 u2 u3 : Value} (h : Four N w u0 u1 u2 u3) (v3 : Value) : Four N (w.setCell ⟨N, 3, none⟩ v3) u0 u1 u2 v3 := by
  obtain ⟨a0, a1, a2, a3, f0, f1, f2, f3, hB⟩ := h
  have ne : ∀ i j : Nat, i ≠ j → (⟨N, i, none⟩ : Addr) ≠ ⟨N, j, none⟩ := fun i j h e => h (by injection e)
  refine ⟨?_, ?_, ?_, ?_, by simpa using f0, by simpa using f1, by simpa using f2, by simpa using f3, by simpa using hB⟩
  all_goals simp [go_sem, a0, a1, a2, a3]
end Go.Proofs.YtllkldbiagkbcaaDoor
