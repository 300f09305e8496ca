/- What the code's number, parseSpan, isEmpty and within return. -/
import Derived.Test.YtdcnoegnkopfdaaDoorRSpec
import Derived.Test.YtdcnoegnkopfdaaDoorRMem
import Derived.Test.YtdcnoegnkopfdaaDoorNumber
namespace Go.Proofs.YtdcnoegnkopfdaaDoor
open Go.RowKit

theorem num9_good {s : ByteArray} {n : Nat} (h : num9 s.data.toList = some n) : numGood s ∧ s.size ≤ 15 ∧ numV s.data.toList = n := by
  unfold num9 at h
  split at h
  · rename_i hc
    have hl : s.data.toList.length = s.size := by simp
    exact ⟨⟨hc.1, hc.2.1⟩, by omega, by simpa using h⟩
  · cases h
theorem num9_bad {s : ByteArray} (h : num9 s.data.toList = none) : ¬ numGood s ∨ 15 < s.size := by
  unfold num9 at h
  split at h
  · cases h
  · rename_i hc
    have hl : s.data.toList.length = s.size := by simp
    by_cases hg : numGood s
    · refine .inr ?_
      rcases Nat.lt_or_ge 15 s.size with h1 | h1
      · exact h1
      · exact absurd ⟨hg.1, hg.2, by omega⟩ hc
    · exact .inl hg
def num9V (l : List UInt8) : Value := match num9 l with | some n => .tuple #[.int .i64 n, .nilIface] | none => .tuple #[.int .i64 0, errForm']
theorem num9V_some {l : List UInt8} {n : Nat} (h : num9 l = some n) : num9V l = .tuple #[.int .i64 n, .nilIface] := by unfold num9V; rw [h]
theorem num9V_none {l : List UInt8} (h : num9 l = none) : num9V l = .tuple #[.int .i64 0, errForm'] := by unfold num9V; rw [h]
set_option maxHeartbeats 1000000 in
set_option maxRecDepth 100000 in
theorem number9_any (s : ByteArray) (w : World) (hs : s.size ≤ maxLen) :
    Calls Tryd.prog 48 #[.string s] w fun e w' => e = .returned (num9V s.data.toList) ∧ w = w' := by
  cases hn : num9 s.data.toList with
  | some n =>
    obtain ⟨hg, h15, hv⟩ := num9_good hn
    rw [num9V_some hn, ← hv]
    clear hn hv
    go_enter Tryd.func48, Tryd.ntmps48
    go_wp2_with (go_at_call 65; refine (number_small _ _ hg h15).mono ?_; rintro e w' ⟨rfl, rfl⟩)
    go_ret2
    exact ⟨rfl, rfl⟩
  | none =>
    rw [num9V_none hn]
    rcases num9_bad hn with hg | h15
    · clear hn
      go_enter Tryd.func48, Tryd.ntmps48
      go_wp2_with (go_at_call 65; refine (number_form _ _ hs hg).mono ?_; rintro e w' ⟨rfl, rfl⟩)
      go_ret2
      exact ⟨rfl, rfl⟩
    · by_cases hg : numGood s
      · clear hn
        go_enter Tryd.func48, Tryd.ntmps48
        go_wp2_with (go_at_call 65; refine (number_large _ _ hs hg h15).mono ?_; rintro e w' ⟨rfl, rfl⟩)
        go_ret2
        exact ⟨rfl, rfl⟩
      · clear hn
        go_enter Tryd.func48, Tryd.ntmps48
        go_wp2_with (go_at_call 65; refine (number_form _ _ hs hg).mono ?_; rintro e w' ⟨rfl, rfl⟩)
        go_ret2
        exact ⟨rfl, rfl⟩

def rgE : Value := .tuple #[rgV (0, 0), errForm']
abbrev rgOk (r : Rg) : Value := .tuple #[rgV r, .nilIface]
def rgO : Option Rg → Value
  | none => rgE
  | some r => rgOk r
def spanO (a b : List UInt8) : Option Rg := match num9 a, num9 b with
  | some x, some y => if y < x then none else some ((x : Int), (y : Int) + 1)
  | _, _ => none
theorem spanO_none1 {a b : List UInt8} (h : num9 a = none) : spanO a b = none := by unfold spanO; rw [h]
theorem spanO_none2 {a b : List UInt8} (h : num9 b = none) : spanO a b = none := by unfold spanO; rw [h]; cases num9 a <;> rfl
theorem spanO_no {a b : List UInt8} {x y : Nat} (h : num9 a = some x) (g : num9 b = some y) (hxy : y < x) : spanO a b = none := by unfold spanO; rw [h, g]; exact if_pos hxy
theorem spanO_yes {a b : List UInt8} {x y : Nat} (h : num9 a = some x) (g : num9 b = some y) (hxy : x ≤ y) : spanO a b = some ((x : Int), (y : Int) + 1) := by unfold spanO; rw [h, g]; exact if_neg (by omega)
set_option maxHeartbeats 2000000 in
set_option maxRecDepth 100000 in
theorem parseSpan_any (a b : ByteArray) (w : World) (ha : a.size ≤ maxLen) (hb : b.size ≤ maxLen) :
    Calls Tryd.prog 47 #[.string a, .string b] w fun e w' => e = .returned (rgO (spanO a.data.toList b.data.toList)) ∧ Below w.heap.size w w' := by
  have H1 := Lib.hid (fun w => number9_any a w ha)
  have H2 := Lib.hid (fun w => number9_any b w hb)
  cases ha : num9 a.data.toList with
  | none =>
    rw [spanO_none1 ha]
    rw [num9V_none ha] at H1
    clear ha
    go_enter Tryd.func47, Tryd.ntmps47
    go_wp2_with (go_at_call 48; refine (H1.out _).mono ?_; rintro e w' ⟨rfl, rfl⟩)
    exact bodyPost_ret (v := rgE) (by simp [results, Tryd.results47, go_sem, rgE]) rfl ⟨rfl, below_new _ _⟩
  | some x =>
    have hx := num9_lt ha
    cases hb : num9 b.data.toList with
    | none =>
      rw [spanO_none2 hb]
      rw [num9V_none hb] at H2
      rw [num9V_some ha] at H1
      clear ha hb
      go_enter Tryd.func47, Tryd.ntmps47
      go_wp2_with fail
      refine (H1.out _).mono ?_
      rintro e w' ⟨rfl, rfl⟩
      go_wp2_with fail
      refine (H2.out _).mono ?_
      rintro e w' ⟨rfl, rfl⟩
      go_wp2_with fail
      exact bodyPost_ret (v := rgE) (by simp [results, Tryd.results47, go_sem, rgE]) rfl ⟨rfl, below_new _ _⟩
    | some y =>
      have hy := num9_lt hb
      rw [num9V_some hb] at H2
      rw [num9V_some ha] at H1
      by_cases hxy : y < x
      · rw [spanO_no ha hb hxy]
        clear ha hb
        go_enter Tryd.func47, Tryd.ntmps47
        go_wp2_with fail
        refine (H1.out _).mono ?_
        rintro e w' ⟨rfl, rfl⟩
        go_wp2_with fail
        refine (H2.out _).mono ?_
        rintro e w' ⟨rfl, rfl⟩
        go_wp2_with fail
        exact bodyPost_ret (v := rgE) (by simp [results, Tryd.results47, go_sem, rgE]) rfl ⟨rfl, below_new _ _⟩
      · have hxy' : x ≤ y := by omega
        rw [spanO_yes ha hb hxy']
        clear ha hb hxy
        go_enter Tryd.func47, Tryd.ntmps47
        go_wp2_with fail
        refine (H1.out _).mono ?_
        rintro e w' ⟨rfl, rfl⟩
        go_wp2_with fail
        refine (H2.out _).mono ?_
        rintro e w' ⟨rfl, rfl⟩
        go_wp2_with fail
        exact bodyPost_ret (v := rgOk ((x : Int), (y : Int) + 1)) (by simp [results, Tryd.results47, go_sem]) rfl ⟨rfl, below_new _ _⟩
theorem below_new2 (w : World) (o p : Obj) : Below w.heap.size w ((w.alloc o).alloc p) := (below_new w o).alloc (by simp) p
/-- A block of a range's two cells. -/
def TwoI (N : Nat) (w : World) (x y : Int) : Prop :=
  w.cell? ⟨N, 0, none⟩ = some (.int .i64 x) ∧ w.cell? ⟨N, 1, none⟩ = some (.int .i64 y) ∧ w.frozen? ⟨N, 0, none⟩ = false ∧ w.frozen? ⟨N, 1, none⟩ = false ∧ N < w.heap.size
theorem TwoI.below {N : Nat} {w w' : World} {x y : Int} (h : TwoI N w x y) (hb : Below w.heap.size w w') : TwoI N w' x y := by
  obtain ⟨h1, h2, h3, h4, h5⟩ := h
  exact ⟨(hb.cell (p := ⟨N, 0, none⟩) h5).trans h1, (hb.cell (p := ⟨N, 1, none⟩) h5).trans h2, (hb.frozen (p := ⟨N, 0, none⟩) h5).trans h3, (hb.frozen (p := ⟨N, 1, none⟩) h5).trans h4, Nat.lt_of_lt_of_le h5 hb.size⟩
theorem twoI_new (w : World) (x y : Int) (T : TypeId) : TwoI w.heap.size (w.alloc (.cells #[.int .i64 x, .int .i64 y] T)) x y :=
  ⟨by rw [World.cell?_alloc_at _ _ _ _ rfl]; rfl, by rw [World.cell?_alloc_at _ _ _ _ rfl]; rfl, World.frozen?_alloc_new _ _ _ _, World.frozen?_alloc_new _ _ _ _, by simp⟩
theorem TwoI.drewN {N : Nat} {w : World} {x y : Int} (h : TwoI N w x y) (n : Nat) : TwoI N (w.drewN n) x y := h.below (below_drewN (Below.refl _ _) n)
theorem below_two {B N : Nat} {w w1 : World} (h : Below B w w1) (hN : B ≤ N) (x y : Value) : Below B w ((w1.setCell ⟨N, 0, none⟩ x).setCell ⟨N, 1, none⟩ y) :=
  (h.setCell (p := ⟨N, 0, none⟩) hN _).setCell (p := ⟨N, 1, none⟩) hN _
theorem TwoI.set {N : Nat} {w : World} {x y : Int} (h : TwoI N w x y) (a b : Int) : TwoI N ((w.setCell ⟨N, 0, none⟩ (.int .i64 a)).setCell ⟨N, 1, none⟩ (.int .i64 b)) a b := by
  obtain ⟨a0, a1, f0, f1, hB⟩ := h
  have ne : ∀ i j : Nat, i ≠ j → (⟨N, i, none⟩ : Addr) ≠ ⟨N, j, none⟩ := fun i j h e => h (by injection e)
  refine ⟨?_, ?_, by simpa using f0, by simpa using f1, by simpa using hB⟩
  all_goals simp [go_sem, a0, a1]
set_option maxHeartbeats 1000000 in
theorem isEmpty_any (r : Rg) (w : World) :
    Calls Tryd.prog 38 #[rgV r] w fun e w' => e = .returned (.bool (decide (r.2 ≤ r.1))) ∧ Below w.heap.size w w' := by
  obtain ⟨a, b⟩ := r
  by_cases h : b ≤ a
  all_goals
    go_enter Tryd.func38, Tryd.ntmps38
    go_wp2
    go_ret
    exact ⟨by simp [h], below_new _ _⟩
set_option maxHeartbeats 1000000 in
theorem within_any (r : Rg) (n : Int) (w : World) :
    Calls Tryd.prog 37 #[rgV r, .int .i64 n] w fun e w' => e = .returned (rgV (withinR r n)) ∧ Below w.heap.size w w' := by
  obtain ⟨a, b⟩ := r
  unfold withinR
  go_enter Tryd.func37, Tryd.ntmps37
  go_wp2
  exact bodyPost_ret (v := rgV (max a 0, min b n)) (by simp [results, Tryd.results37, go_sem]) rfl ⟨rfl, below_new2 _ _ _⟩
end Go.Proofs.YtdcnoegnkopfdaaDoor
