/- What the statements' Response returns (alone: for the seat of HeadAnswers). -/
import Derived.Test.YtboemdhmmdcmpaaDoorGFits
import Derived.Test.YtboemdhmmdcmpaaDoorFSetOne
import Derived.Deep.RegionWith
import Derived.BigRegion
import Derived.BigFrame
namespace Go.Proofs.YtboemdhmmdcmpaaDoor
open Go.RowKit

theorem ownsP_set2 {T : TypeId} {B C g : Nat} {w' : World} {v : Value} {ps : Fs} (h : OwnsP T B w' v ps) (hg : g < B) (hC : C ≤ B) (a b : Value) :
    OwnsP T C ((w'.setCell ⟨g, 0, none⟩ a).setCell ⟨g, 1, none⟩ b) v ps := by
  have hn : ∀ k, v.ownBlock ≠ some (⟨g, k, none⟩ : Addr).block := fun k hq => by have := (World.ownsRow.lt h _ hq).1; simp at this; omega
  exact OwnsP.mono hC (ownsRow_setCell_other (ownsRow_setCell_other h (hn 0) a) (hn 1) b)
theorem below_set2 {w w' : World} {g : Nat} (h : Below w.heap.size w w') (hg : w.heap.size ≤ g) (a b : Value) : Below w.heap.size w ((w'.setCell ⟨g, 0, none⟩ a).setCell ⟨g, 1, none⟩ b) :=
  (h.setCell (p := ⟨g, 0, none⟩) hg a).setCell (p := ⟨g, 1, none⟩) hg b
set_option maxHeartbeats 8000000 in
set_option maxRecDepth 100000 in
theorem response_any (z : Int) (lv : Value) (ps : Flds) (w : World) (hr : ReadsQ w lv ps) (hl : ps.length ≤ 1000) (hb : ∀ p ∈ ps, p.1.length + p.2.length ≤ 1000000) :
    Calls Tryd.prog 11 #[.agg #[.int .i64 z, lv]] w fun e w' => ∃ a n c, e = .returned (.agg #[.int .i64 z, .slice a n c]) ∧ OwnsP 62 w.heap.size w' (.slice a n c) ps ∧ Below w.heap.size w w' := by
  have F := Lib.hid (fun w (hr : ReadsQ w lv ps) => fields_any lv ps w hr hl hb)
  have HR := Lib.hid hr
  obtain ⟨ao, cap, rfl, hc⟩ := hr
  have hB0 : Below w.heap.size w (w.alloc (.cells #[.int .i64 z, .slice ao ps.length cap] 24)) := below_new _ _
  have hB1 : Below w.heap.size w ((w.alloc (.cells #[.int .i64 z, .slice ao ps.length cap] 24)).alloc (.cells #[.int .i64 0, .slice none 0 0] 35)) := hB0.alloc hB0.size _
  have hxa : ∀ j, ((w.alloc (.cells #[.int .i64 z, .slice ao ps.length cap] 24)).alloc (.cells #[.int .i64 0, .slice none 0 0] 35)).cell? ⟨w.heap.size, j, none⟩ = (#[.int .i64 z, .slice ao ps.length cap] : Array Value)[j]? := fun j => by
    have hb2 := below_new (w.alloc (.cells #[.int .i64 z, .slice ao ps.length cap] 24)) (.cells #[.int .i64 0, .slice none 0 0] 35)
    rw [hb2.cell (p := ⟨w.heap.size, j, none⟩) (by simp), World.cell?_alloc_at _ _ _ _ rfl]
  have hxb : ∀ j, ((w.alloc (.cells #[.int .i64 z, .slice ao ps.length cap] 24)).alloc (.cells #[.int .i64 0, .slice none 0 0] 35)).cell? ⟨w.heap.size + 1, j, none⟩ = (#[.int .i64 0, .slice none 0 0] : Array Value)[j]? := fun j => by
    rw [World.cell?_alloc_at _ _ _ _ (by simp)]
  have hfb : ∀ j, ((w.alloc (.cells #[.int .i64 z, .slice ao ps.length cap] 24)).alloc (.cells #[.int .i64 0, .slice none 0 0] 35)).frozen? ⟨w.heap.size + 1, j, none⟩ = false := fun j => World.frozen?_alloc_at _ _ _ _ (by simp)
  have hsz : ((w.alloc (.cells #[.int .i64 z, .slice ao ps.length cap] 24)).alloc (.cells #[.int .i64 0, .slice none 0 0] 35)).heap.size = w.heap.size + 2 := by simp
  have a0 := hxa 0
  have a1 := hxa 1
  have b0 := hxb 0
  have b1 := hxb 1
  have g0 := hfb 0
  have g1 := hfb 1
  clear hc hxa hxb hfb
  go_enter Tryd.func11, Tryd.ntmps11
  go_wp2_with fail
  generalize ((w.alloc (.cells #[.int .i64 z, .slice ao ps.length cap] 24)).alloc (.cells #[.int .i64 0, .slice none 0 0] 35)) = W at *
  have HF := Lib.hid (F.out _ (HR.out.below hB1))
  have HFd := Lib.hid (F.out _ (HR.out.below (hB1.trans ((Below.refl W.heap.size W).drew.mono hB1.size))))
  go_region_with (first
    | (go_at_call 24; refine HFd.out.mono ?_; rintro e w1 ⟨v1, rfl, hO1, hB2⟩; have c0 := (hB2.cell (p := ⟨w.heap.size, 0, none⟩) (by show w.heap.size < W.heap.size; omega)).trans a0; have c1 := (hB2.cell (p := ⟨w.heap.size, 1, none⟩) (by show w.heap.size < W.heap.size; omega)).trans a1; have d0 := (hB2.cell (p := ⟨w.heap.size + 1, 0, none⟩) (by show w.heap.size + 1 < W.heap.size; omega)).trans b0; have d1 := (hB2.cell (p := ⟨w.heap.size + 1, 1, none⟩) (by show w.heap.size + 1 < W.heap.size; omega)).trans b1; have f0 := (hB2.frozen (p := ⟨w.heap.size + 1, 0, none⟩) (by show w.heap.size + 1 < W.heap.size; omega)).trans g0; have f1 := (hB2.frozen (p := ⟨w.heap.size + 1, 1, none⟩) (by show w.heap.size + 1 < W.heap.size; omega)).trans g1; obtain ⟨ao1, cap1, rfl, hcc⟩ := hO1.reads; clear hcc))
  all_goals
    go_wp2_with fail
    refine bodyPost_ret (v := .agg #[.int .i64 z, .slice ao1 ps.length cap1]) (by simp [results, Tryd.results11, go_sem, d0, d1]) rfl ?_
    exact ⟨_, _, _, rfl, ownsP_set2 hO1 (by show w.heap.size + 1 < W.heap.size; omega) (by show w.heap.size ≤ W.heap.size; omega) _ _, below_set2 ((hB1.trans ((Below.refl W.heap.size W).drew.mono hB1.size)).trans (hB2.mono hB1.size)) (by omega) _ _⟩
end Go.Proofs.YtboemdhmmdcmpaaDoor
