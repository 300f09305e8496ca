/- What the statements' tag, same, State and few return. -/
import Derived.Test.YtkpeaghbacoehaaGreatDoorYEvaluate
import Derived.Deep.RegionHeld3
namespace Go.Proofs.YtkpeaghbacoehaaGreatDoor
open Go.RowKit

set_option maxHeartbeats 1000000 in
theorem tag_any (t : Tg) (w : World) :
    Calls Tryz.prog 13 #[tgV t] w fun e w' => e = .returned (tgV t) ∧ Below w.heap.size w w' := by
  obtain ⟨k, a⟩ := t
  go_enter Tryz.func13, Tryz.ntmps13
  go_wp2
  exact bodyPost_ret (v := tgV (k, a)) (by simp [results, Tryz.results13, go_sem]) rfl ⟨rfl, below_newY _ _ _⟩
theorem decide_tg (k j : Bool) (a b : List UInt8) : decide (((k, a) : Tg) = (j, b)) = (decide (k = j) && decide (a = b)) := by
  by_cases h1 : k = j <;> by_cases h2 : a = b <;> simp [h1, h2]
set_option maxHeartbeats 1000000 in
theorem same_any (t u : Tg) (w : World) :
    Calls Tryz.prog 17 #[tgV t, tgV u] w fun e w' => e = .returned (.bool (decide (t = u))) ∧ Below w.heap.size w w' := by
  obtain ⟨k, a⟩ := t
  obtain ⟨j, b⟩ := u
  have hs := same_strB a b
  cases k <;> cases j
  all_goals
    go_enter Tryz.func17, Tryz.ntmps17
    go_wp2
    go_ret
    exact ⟨by rw [decide_tg]; simp, below_newY _ _ _⟩
def zS : StV := ⟨false, false, false, (false, []), 0⟩
theorem StB.other {N M : Nat} {w : World} {s : StV} (h : StB N w s) (hn : M ≠ N) (a b c d e f : Value) : StB N ((((((w.setCell ⟨M, 0, none⟩ a).setCell ⟨M, 1, none⟩ b).setCell ⟨M, 2, none⟩ c).setCell ⟨M, 3, none⟩ d).setCell ⟨M, 4, none⟩ e).setCell ⟨M, 5, none⟩ f) s := by
  obtain ⟨c0, c1, c2, c3, c4, c5, fr, lt⟩ := h
  have ne : ∀ i j : Nat, (⟨M, i, none⟩ : Addr) ≠ ⟨N, j, none⟩ := fun i j he => hn (by injection he)
  have ne2 : ∀ i j : Nat, (⟨N, i, none⟩ : Addr) ≠ ⟨M, j, none⟩ := fun i j he => hn (by injection he with h1; exact h1.symm)
  refine ⟨?_, ?_, ?_, ?_, ?_, ?_, fun j => by simpa using fr j, by simpa using lt⟩
  all_goals simp [go_sem, c0, c1, c2, c3, c4, c5]
theorem tag_at (s : StV) (N M B : Nat) (w w' : World) (hS : (w'.cell? ⟨N, 0, none⟩ = some (.bool s.ex) ∧ w'.cell? ⟨N, 1, none⟩ = some (.bool s.ht) ∧ w'.cell? ⟨N, 2, none⟩ = some (.bool s.hm) ∧ w'.cell? ⟨N, 3, none⟩ = some (.bool s.tag.1) ∧ w'.cell? ⟨N, 4, none⟩ = some (.string (strB s.tag.2)) ∧ w'.cell? ⟨N, 5, none⟩ = some (.int .i64 s.md) ∧ StB N w' s ∧ (∃ z, StB M w' z) ∧ Below B w w' ∧ B ≤ w'.heap.size)) :
    Calls Tryz.prog 13 #[tgV s.tag] w' fun e w' => e = .returned (tgV s.tag) ∧ (w'.cell? ⟨N, 0, none⟩ = some (.bool s.ex) ∧ w'.cell? ⟨N, 1, none⟩ = some (.bool s.ht) ∧ w'.cell? ⟨N, 2, none⟩ = some (.bool s.hm) ∧ w'.cell? ⟨N, 3, none⟩ = some (.bool s.tag.1) ∧ w'.cell? ⟨N, 4, none⟩ = some (.string (strB s.tag.2)) ∧ w'.cell? ⟨N, 5, none⟩ = some (.int .i64 s.md) ∧ StB N w' s ∧ (∃ z, StB M w' z) ∧ Below B w w' ∧ B ≤ w'.heap.size) ∧ ∃ z, StB M w' z := by
  obtain ⟨_, _, _, _, _, _, hA, ⟨z, hZ⟩, hB, hb⟩ := hS
  refine (tag_any s.tag w').mono ?_
  rintro e w2 ⟨rfl, hB2⟩
  have hA2 := hA.below hB2
  have hZ2 := hZ.below hB2
  exact ⟨rfl, ⟨hA2.c0, hA2.c1, hA2.c2, hA2.c3, hA2.c4, hA2.c5, hA2, ⟨z, hZ2⟩, hB.trans (hB2.mono hb), Nat.le_trans hb hB2.size⟩, z, hZ2⟩
theorem store_at {s : StV} {N M B : Nat} {w w' : World} (hn : M ≠ N) (hM : B ≤ M) (t : StV) (hS : (w'.cell? ⟨N, 0, none⟩ = some (.bool s.ex) ∧ w'.cell? ⟨N, 1, none⟩ = some (.bool s.ht) ∧ w'.cell? ⟨N, 2, none⟩ = some (.bool s.hm) ∧ w'.cell? ⟨N, 3, none⟩ = some (.bool s.tag.1) ∧ w'.cell? ⟨N, 4, none⟩ = some (.string (strB s.tag.2)) ∧ w'.cell? ⟨N, 5, none⟩ = some (.int .i64 s.md) ∧ StB N w' s ∧ (∃ z, StB M w' z) ∧ Below B w w' ∧ B ≤ w'.heap.size)) (W : World)
    (hW : W = (((((w'.setCell ⟨M, 0, none⟩ (.bool t.ex)).setCell ⟨M, 1, none⟩ (.bool t.ht)).setCell ⟨M, 2, none⟩ (.bool t.hm)).setCell ⟨M, 3, none⟩ (.bool t.tag.1)).setCell ⟨M, 4, none⟩ (.string (strB t.tag.2))).setCell ⟨M, 5, none⟩ (.int .i64 t.md)) :
    (W.cell? ⟨N, 0, none⟩ = some (.bool s.ex) ∧ W.cell? ⟨N, 1, none⟩ = some (.bool s.ht) ∧ W.cell? ⟨N, 2, none⟩ = some (.bool s.hm) ∧ W.cell? ⟨N, 3, none⟩ = some (.bool s.tag.1) ∧ W.cell? ⟨N, 4, none⟩ = some (.string (strB s.tag.2)) ∧ W.cell? ⟨N, 5, none⟩ = some (.int .i64 s.md) ∧ StB N W s ∧ (∃ z, StB M W z) ∧ Below B w W ∧ B ≤ W.heap.size) := by
  obtain ⟨_, _, _, _, _, _, hA, ⟨z, hZ⟩, hB, hb⟩ := hS
  subst hW
  have hA2 := hA.other hn (.bool t.ex) (.bool t.ht) (.bool t.hm) (.bool t.tag.1) (.string (strB t.tag.2)) (.int .i64 t.md)
  exact ⟨hA2.c0, hA2.c1, hA2.c2, hA2.c3, hA2.c4, hA2.c5, hA2, ⟨t, hZ.set t⟩, below_six hB hM _ _ _ _ _ _, by simpa using hb⟩
set_option maxHeartbeats 8000000 in
set_option maxRecDepth 100000 in
theorem state_any (s : StV) (w : World) :
    Calls Tryz.prog 26 #[stV s] w fun e w' => e = .returned (stV s) ∧ Below w.heap.size w w' := by
  have hB0 : Below w.heap.size w (w.alloc (.cells (stC s) 52)) := below_new _ _
  have hB1 := below_newY w (.cells (stC s) 52) (.cells (stC zS) 61)
  have HA := Lib.hid ((stB_new w s 52).below (below_new _ (.cells (stC zS) 61)))
  have HZ := Lib.hid (stB_new (w.alloc (.cells (stC s) 52)) zS 61)
  have e1 : (w.alloc (.cells (stC s) 52)).heap.size = w.heap.size + 1 := by simp
  rw [e1] at HZ
  have HB1 := Lib.hid hB1
  clear hB0 hB1 e1
  go_enter Tryz.func26, Tryz.ntmps26
  go_wp2_with fail
  change Code.wp _ _ _ _ ((w.alloc (.cells (stC s) 52)).alloc (.cells (stC zS) 61))
  generalize ((w.alloc (.cells (stC s) 52)).alloc (.cells (stC zS) 61)) = W at *
  have HBd := Lib.hid (HB1.out.trans ((Below.refl W.heap.size W).drew.mono HB1.out.size))
  have HAd := Lib.hid (HA.out.below (Below.refl W.heap.size W).drew)
  have HZd := Lib.hid (HZ.out.below (Below.refl W.heap.size W).drew)
  have HSt := Lib.hid (show W.drew.cell? ⟨w.heap.size, 0, none⟩ = some (.bool s.ex) ∧ W.drew.cell? ⟨w.heap.size, 1, none⟩ = some (.bool s.ht) ∧ W.drew.cell? ⟨w.heap.size, 2, none⟩ = some (.bool s.hm) ∧ W.drew.cell? ⟨w.heap.size, 3, none⟩ = some (.bool s.tag.1) ∧ W.drew.cell? ⟨w.heap.size, 4, none⟩ = some (.string (strB s.tag.2)) ∧ W.drew.cell? ⟨w.heap.size, 5, none⟩ = some (.int .i64 s.md) ∧ StB w.heap.size W.drew s ∧ (∃ z, StB (w.heap.size + 1) W.drew z) ∧ Below w.heap.size w W.drew ∧ w.heap.size ≤ W.drew.heap.size from ⟨HAd.out.c0, HAd.out.c1, HAd.out.c2, HAd.out.c3, HAd.out.c4, HAd.out.c5, HAd.out, ⟨zS, HZd.out⟩, HBd.out, HBd.out.size⟩)
  go_region_held3 (fun w' => w'.cell? ⟨w.heap.size, 0, none⟩ = some (.bool s.ex) ∧ w'.cell? ⟨w.heap.size, 1, none⟩ = some (.bool s.ht) ∧ w'.cell? ⟨w.heap.size, 2, none⟩ = some (.bool s.hm) ∧ w'.cell? ⟨w.heap.size, 3, none⟩ = some (.bool s.tag.1) ∧ w'.cell? ⟨w.heap.size, 4, none⟩ = some (.string (strB s.tag.2)) ∧ w'.cell? ⟨w.heap.size, 5, none⟩ = some (.int .i64 s.md) ∧ StB w.heap.size w' s ∧ (∃ z, StB (w.heap.size + 1) w' z) ∧ Below w.heap.size w w' ∧ w.heap.size ≤ w'.heap.size)
    (first | with_reducible exact h5 | with_reducible exact HSt.out | with_reducible exact store_at (by omega) (by omega) s h5 _ rfl)
    (first | (go_at_call 13; refine (tag_at s w.heap.size (w.heap.size + 1) w.heap.size w _ (by assumption)).mono ?_; rintro e w1 ⟨rfl, h5, z, d0, d1, d2, d3, d4, d5, fd, ld⟩; have f0 := fd 0; have f1 := fd 1; have f2 := fd 2; have f3 := fd 3; have f4 := fd 4; have f5 := fd 5; clear fd))
  go_wp2_with fail
  refine bodyPost_ret (v := stV s) (by simp [results, Tryz.results26, go_sem, d0, d1, d2, d3, d4, d5]) rfl ?_
  exact ⟨rfl, below_six h5.2.2.2.2.2.2.2.2.1 (by omega) _ _ _ _ _ _⟩
end Go.Proofs.YtkpeaghbacoehaaGreatDoor
