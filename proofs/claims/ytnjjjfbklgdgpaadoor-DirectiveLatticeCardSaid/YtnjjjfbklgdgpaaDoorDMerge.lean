/- What Merge returns. -/
import Derived.Test.YtnjjjfbklgdgpaaDoorDNormal
import Derived.Test.YtnjjjfbklgdgpaaDoorDSec
import Derived.Test.YtnjjjfbklgdgpaaDoorHeld
import Derived.Test.YtnjjjfbklgdgpaaDoorDLat
namespace Go.Proofs.YtnjjjfbklgdgpaaDoor
open Go.RowKit

/-- Both directives' cells, the result's, and what else is there. -/
structure MeS (N M R : Nat) (d e : Dv) (w w' : World) : Prop where
  a : DvB N w' d
  b : DvB M w' e
  r : ∃ z, DvB R w' z
  l : Below w.heap.size w w'
theorem MeS.below {N M R : Nat} {d e : Dv} {w w1 w2 : World} (h : MeS N M R d e w w1) (hb : Below w1.heap.size w1 w2) : MeS N M R d e w w2 := ⟨h.a.below hb, h.b.below hb, h.r.elim fun z hz => ⟨z, hz.below hb⟩, h.l.trans (hb.mono h.l.size)⟩
theorem meS_all {N M R : Nat} {d e : Dv} {w w' : World} (h : MeS N M R d e w w') : w'.cell? ⟨N, 0, none⟩ = some (.bool d.ns) ∧ w'.cell? ⟨N, 1, none⟩ = some (.bool d.nc) ∧ w'.cell? ⟨N, 2, none⟩ = some (.bool d.pr) ∧ w'.cell? ⟨N, 3, none⟩ = some (.bool d.pu) ∧ w'.cell? ⟨N, 4, none⟩ = some (.bool d.mr) ∧ w'.cell? ⟨N, 5, none⟩ = some (.bool d.oc) ∧ w'.cell? ⟨N, 6, none⟩ = some (.int .i64 d.ma) ∧ w'.cell? ⟨N, 7, none⟩ = some (.int .i64 d.sa) ∧ w'.cell? ⟨N, 8, none⟩ = some (.int .i64 d.ws) ∧ w'.cell? ⟨N, 9, none⟩ = some (.int .i64 d.oe) ∧ w'.cell? ⟨N, 10, none⟩ = some (.int .i64 d.ms) ∧ w'.cell? ⟨N, 11, none⟩ = some (.int .i64 d.mf) ∧ w'.cell? ⟨M, 0, none⟩ = some (.bool e.ns) ∧ w'.cell? ⟨M, 1, none⟩ = some (.bool e.nc) ∧ w'.cell? ⟨M, 2, none⟩ = some (.bool e.pr) ∧ w'.cell? ⟨M, 3, none⟩ = some (.bool e.pu) ∧ w'.cell? ⟨M, 4, none⟩ = some (.bool e.mr) ∧ w'.cell? ⟨M, 5, none⟩ = some (.bool e.oc) ∧ w'.cell? ⟨M, 6, none⟩ = some (.int .i64 e.ma) ∧ w'.cell? ⟨M, 7, none⟩ = some (.int .i64 e.sa) ∧ w'.cell? ⟨M, 8, none⟩ = some (.int .i64 e.ws) ∧ w'.cell? ⟨M, 9, none⟩ = some (.int .i64 e.oe) ∧ w'.cell? ⟨M, 10, none⟩ = some (.int .i64 e.ms) ∧ w'.cell? ⟨M, 11, none⟩ = some (.int .i64 e.mf) ∧ MeS N M R d e w w' :=
  ⟨h.a.c0, h.a.c1, h.a.c2, h.a.c3, h.a.c4, h.a.c5, h.a.c6, h.a.c7, h.a.c8, h.a.c9, h.a.c10, h.a.c11, h.b.c0, h.b.c1, h.b.c2, h.b.c3, h.b.c4, h.b.c5, h.b.c6, h.b.c7, h.b.c8, h.b.c9, h.b.c10, h.b.c11, h⟩
theorem MeS.setA {N M R : Nat} {d e : Dv} {w w1 : World} (h : MeS N M R d e w w1) (h1 : N ≠ M) (h2 : N ≠ R) (h3 : w.heap.size ≤ N) (x : Dv) : MeS N M R x e w (((((((((((((w1).setCell ⟨N, 0, none⟩ (.bool x.ns)).setCell ⟨N, 1, none⟩ (.bool x.nc)).setCell ⟨N, 2, none⟩ (.bool x.pr)).setCell ⟨N, 3, none⟩ (.bool x.pu)).setCell ⟨N, 4, none⟩ (.bool x.mr)).setCell ⟨N, 5, none⟩ (.bool x.oc)).setCell ⟨N, 6, none⟩ (.int .i64 x.ma)).setCell ⟨N, 7, none⟩ (.int .i64 x.sa)).setCell ⟨N, 8, none⟩ (.int .i64 x.ws)).setCell ⟨N, 9, none⟩ (.int .i64 x.oe)).setCell ⟨N, 10, none⟩ (.int .i64 x.ms)).setCell ⟨N, 11, none⟩ (.int .i64 x.mf)) :=
  ⟨h.a.set x, h.b.other h1 _ _ _ _ _ _ _ _ _ _ _ _, h.r.elim fun z hz => ⟨z, hz.other h2 _ _ _ _ _ _ _ _ _ _ _ _⟩, below_dv h.l h3 _ _ _ _ _ _ _ _ _ _ _ _⟩
theorem MeS.setB {N M R : Nat} {d e : Dv} {w w1 : World} (h : MeS N M R d e w w1) (h1 : M ≠ N) (h2 : M ≠ R) (h3 : w.heap.size ≤ M) (x : Dv) : MeS N M R d x w (((((((((((((w1).setCell ⟨M, 0, none⟩ (.bool x.ns)).setCell ⟨M, 1, none⟩ (.bool x.nc)).setCell ⟨M, 2, none⟩ (.bool x.pr)).setCell ⟨M, 3, none⟩ (.bool x.pu)).setCell ⟨M, 4, none⟩ (.bool x.mr)).setCell ⟨M, 5, none⟩ (.bool x.oc)).setCell ⟨M, 6, none⟩ (.int .i64 x.ma)).setCell ⟨M, 7, none⟩ (.int .i64 x.sa)).setCell ⟨M, 8, none⟩ (.int .i64 x.ws)).setCell ⟨M, 9, none⟩ (.int .i64 x.oe)).setCell ⟨M, 10, none⟩ (.int .i64 x.ms)).setCell ⟨M, 11, none⟩ (.int .i64 x.mf)) :=
  ⟨h.a.other h1 _ _ _ _ _ _ _ _ _ _ _ _, h.b.set x, h.r.elim fun z hz => ⟨z, hz.other h2 _ _ _ _ _ _ _ _ _ _ _ _⟩, below_dv h.l h3 _ _ _ _ _ _ _ _ _ _ _ _⟩
theorem MeS.setR {N M R : Nat} {d e : Dv} {w w1 : World} (h : MeS N M R d e w w1) (h1 : R ≠ N) (h2 : R ≠ M) (h3 : w.heap.size ≤ R) (x : Dv) : MeS N M R d e w (((((((((((((w1).setCell ⟨R, 0, none⟩ (.bool x.ns)).setCell ⟨R, 1, none⟩ (.bool x.nc)).setCell ⟨R, 2, none⟩ (.bool x.pr)).setCell ⟨R, 3, none⟩ (.bool x.pu)).setCell ⟨R, 4, none⟩ (.bool x.mr)).setCell ⟨R, 5, none⟩ (.bool x.oc)).setCell ⟨R, 6, none⟩ (.int .i64 x.ma)).setCell ⟨R, 7, none⟩ (.int .i64 x.sa)).setCell ⟨R, 8, none⟩ (.int .i64 x.ws)).setCell ⟨R, 9, none⟩ (.int .i64 x.oe)).setCell ⟨R, 10, none⟩ (.int .i64 x.ms)).setCell ⟨R, 11, none⟩ (.int .i64 x.mf)) :=
  ⟨h.a.other h1 _ _ _ _ _ _ _ _ _ _ _ _, h.b.other h2 _ _ _ _ _ _ _ _ _ _ _ _, h.r.elim fun _ hz => ⟨_, hz.set x⟩, below_dv h.l h3 _ _ _ _ _ _ _ _ _ _ _ _⟩
set_option maxHeartbeats 32000000 in
set_option maxRecDepth 100000 in
theorem merge_any (d e : Dv) (w : World) (hd : FitD d) (he : FitD e) :
    Calls Tryd.prog 25 #[dvV d, dvV e] w fun en w' => en = .returned (dvV (mergeD d e)) ∧ Below w.heap.size w w' := by
  have HFd := Lib.hid hd
  have HFe := Lib.hid he
  have HB := Lib.hid (((below_new w (.cells (dvC d) 28)).alloc (by simp) (.cells (dvC e) 28)).alloc (by simp; omega) (.cells (dvC zD) 28))
  have e1 : (w.alloc (.cells (dvC d) 28)).heap.size = w.heap.size + 1 := by simp
  have e2 : ((w.alloc (.cells (dvC d) 28)).alloc (.cells (dvC e) 28)).heap.size = w.heap.size + 2 := by simp
  have hA := ((dvB_new w d 28).below (below_new _ (.cells (dvC e) 28))).below (below_new _ (.cells (dvC zD) 28))
  have hBb := (dvB_new (w.alloc (.cells (dvC d) 28)) e 28).below (below_new _ (.cells (dvC zD) 28))
  have hR := dvB_new ((w.alloc (.cells (dvC d) 28)).alloc (.cells (dvC e) 28)) zD 28
  rw [e1] at hBb
  rw [e2] at hR
  have HS := Lib.hid (⟨hA, hBb, ⟨_, hR⟩, HB.out⟩ : MeS w.heap.size (w.heap.size + 1) (w.heap.size + 2) d e w (((w.alloc (.cells (dvC d) 28)).alloc (.cells (dvC e) 28)).alloc (.cells (dvC zD) 28)))
  clear hA hBb hR hd he e1 e2 HB
  go_enter Tryd.func25, Tryd.ntmps25
  go_upto_region 1 with fail
  change Code.wp _ _ _ _ (((w.alloc (.cells (dvC d) 28)).alloc (.cells (dvC e) 28)).alloc (.cells (dvC zD) 28))
  generalize (((w.alloc (.cells (dvC d) 28)).alloc (.cells (dvC e) 28)).alloc (.cells (dvC zD) 28)) = W at *
  have hS0 := HS.out.below (Below.refl _ _).drew
  clear HS
  refine heldU_begin (S := (fun w' => w'.cell? ⟨w.heap.size, 0, none⟩ = some (.bool d.ns) ∧ w'.cell? ⟨w.heap.size, 1, none⟩ = some (.bool d.nc) ∧ w'.cell? ⟨w.heap.size, 2, none⟩ = some (.bool d.pr) ∧ w'.cell? ⟨w.heap.size, 3, none⟩ = some (.bool d.pu) ∧ w'.cell? ⟨w.heap.size, 4, none⟩ = some (.bool d.mr) ∧ w'.cell? ⟨w.heap.size, 5, none⟩ = some (.bool d.oc) ∧ w'.cell? ⟨w.heap.size, 6, none⟩ = some (.int .i64 d.ma) ∧ w'.cell? ⟨w.heap.size, 7, none⟩ = some (.int .i64 d.sa) ∧ w'.cell? ⟨w.heap.size, 8, none⟩ = some (.int .i64 d.ws) ∧ w'.cell? ⟨w.heap.size, 9, none⟩ = some (.int .i64 d.oe) ∧ w'.cell? ⟨w.heap.size, 10, none⟩ = some (.int .i64 d.ms) ∧ w'.cell? ⟨w.heap.size, 11, none⟩ = some (.int .i64 d.mf) ∧ w'.cell? ⟨w.heap.size + 1, 0, none⟩ = some (.bool e.ns) ∧ w'.cell? ⟨w.heap.size + 1, 1, none⟩ = some (.bool e.nc) ∧ w'.cell? ⟨w.heap.size + 1, 2, none⟩ = some (.bool e.pr) ∧ w'.cell? ⟨w.heap.size + 1, 3, none⟩ = some (.bool e.pu) ∧ w'.cell? ⟨w.heap.size + 1, 4, none⟩ = some (.bool e.mr) ∧ w'.cell? ⟨w.heap.size + 1, 5, none⟩ = some (.bool e.oc) ∧ w'.cell? ⟨w.heap.size + 1, 6, none⟩ = some (.int .i64 e.ma) ∧ w'.cell? ⟨w.heap.size + 1, 7, none⟩ = some (.int .i64 e.sa) ∧ w'.cell? ⟨w.heap.size + 1, 8, none⟩ = some (.int .i64 e.ws) ∧ w'.cell? ⟨w.heap.size + 1, 9, none⟩ = some (.int .i64 e.oe) ∧ w'.cell? ⟨w.heap.size + 1, 10, none⟩ = some (.int .i64 e.ms) ∧ w'.cell? ⟨w.heap.size + 1, 11, none⟩ = some (.int .i64 e.mf) ∧ MeS w.heap.size (w.heap.size + 1) (w.heap.size + 2) d e w w')) 4 (by kernel_rfl) (meS_all hS0) (fun hHeld => ?_)
  generalize W.drew = V at *
  refine heldU_take (i := 0) (k := 0) (oi := { dst := some 5, op := _, type := _, pos := _, after := _, guard := _ }) (v := dvV d) rfl (by kernel_rfl) (by kernel_rfl) (by kernel_rfl) (by kernel_rfl) (by kernel_rfl) (by kernel_rfl) (fun _ _ _ h => h) (Or.inl ⟨by rfl, ?_⟩) (by assumption) ?_
  focus (intro w hSw; (try dsimp only at hSw); first | (go_simp; done) | (go_simp; with_reducible rfl))
  (try simp only [Act.put, List.setIfInBounds_toArray, List.set_cons_zero, List.set_cons_succ])
  refine heldU_take (i := 2) (k := 3) (oi := { dst := some 7, op := _, type := _, pos := _, after := _, guard := _ }) (v := dvV e) rfl (by kernel_rfl) (by kernel_rfl) (by kernel_rfl) (by kernel_rfl) (by kernel_rfl) (by kernel_rfl) (fun _ _ _ h => h) (Or.inl ⟨by rfl, ?_⟩) (by assumption) ?_
  focus (intro w hSw; (try dsimp only at hSw); first | (go_simp; done) | (go_simp; with_reducible rfl))
  (try simp only [Act.put, List.setIfInBounds_toArray, List.set_cons_zero, List.set_cons_succ])
  clear hHeld
  refine heldU_one (i := 1) (o := { dst := some 6, op := _, type := _, pos := _, after := _, guard := _ }) (by kernel_rfl) rfl (by decide) (fun K hK => ?_)
  go_simp
  refine (normal_any _ _ HFd.out).mono ?_
  rintro en V1 ⟨rfl, hBc⟩
  have hS1 := hS0.below hBc
  refine hK.out _ _ (meS_all hS1) (fun hH1 => ?_)
  clear hK K hBc hS0
  (try simp only [Act.put, List.setIfInBounds_toArray, List.set_cons_zero, List.set_cons_succ])
  refine heldU_one (i := 3) (o := { dst := some 8, op := _, type := _, pos := _, after := _, guard := _ }) (by kernel_rfl) rfl (by decide) (fun K hK => ?_)
  go_simp
  refine (normal_any _ _ HFe.out).mono ?_
  rintro en V2 ⟨rfl, hBc⟩
  have hS2 := hS1.below hBc
  refine hK.out _ _ (meS_all hS2) (fun hH2 => ?_)
  clear hK K hBc hS1
  (try simp only [Act.put, List.setIfInBounds_toArray, List.set_cons_zero, List.set_cons_succ])
  have HNx := Lib.hid (nor_norm d)
  have HNy := Lib.hid (nor_norm e)
  have HMD := Lib.hid (merge_mer d e)
  generalize normD d = x at *
  generalize normD e = y at *
  clear hH1 hH2
  obtain ⟨a0, a1, a2, a3, a4, a5, a6, a7, a8, a9, a10, a11, fa, la⟩ := hS2.a
  refine heldU_store (o := { dst := none, op := _, type := _, pos := _, after := _, guard := _ }) (by kernel_rfl) rfl (fun K hK => ?_)
  go_simp
  refine hK.out _ _ ?_
  clear hK K a0 a1 a2 a3 a4 a5 a6 a7 a8 a9 a10 a11 fa la
  (try simp only [Act.put, List.setIfInBounds_toArray, List.set_cons_zero, List.set_cons_succ])
  have hS3 := hS2.setA (by omega) (by omega) (Nat.le_refl _) x
  clear hS2
  generalize ((((((((((((V2).setCell ⟨w.heap.size, 0, none⟩ (.bool x.ns)).setCell ⟨w.heap.size, 1, none⟩ (.bool x.nc)).setCell ⟨w.heap.size, 2, none⟩ (.bool x.pr)).setCell ⟨w.heap.size, 3, none⟩ (.bool x.pu)).setCell ⟨w.heap.size, 4, none⟩ (.bool x.mr)).setCell ⟨w.heap.size, 5, none⟩ (.bool x.oc)).setCell ⟨w.heap.size, 6, none⟩ (.int .i64 x.ma)).setCell ⟨w.heap.size, 7, none⟩ (.int .i64 x.sa)).setCell ⟨w.heap.size, 8, none⟩ (.int .i64 x.ws)).setCell ⟨w.heap.size, 9, none⟩ (.int .i64 x.oe)).setCell ⟨w.heap.size, 10, none⟩ (.int .i64 x.ms)).setCell ⟨w.heap.size, 11, none⟩ (.int .i64 x.mf) = V3 at *
  obtain ⟨a0, a1, a2, a3, a4, a5, a6, a7, a8, a9, a10, a11, fa, la⟩ := hS3.b
  refine wpAnyH_ready (rs := [5]) (by kernel_rfl) (by simp) ?_
  refine AllReadyH.cons (o := { dst := none, op := _, type := _, pos := _, after := _, guard := _ }) rfl (fun K hK => ?_) AllReadyH.nil
  go_simp
  refine hK.out _ _ trivial (fun _ => ?_)
  clear hK K a0 a1 a2 a3 a4 a5 a6 a7 a8 a9 a10 a11 fa la
  (try simp only [Act.put, List.setIfInBounds_toArray, List.set_cons_zero, List.set_cons_succ])
  have hS4 := hS3.setB (by omega) (by omega) (by omega) y
  clear hS3
  generalize ((((((((((((V3).setCell ⟨w.heap.size + 1, 0, none⟩ (.bool y.ns)).setCell ⟨w.heap.size + 1, 1, none⟩ (.bool y.nc)).setCell ⟨w.heap.size + 1, 2, none⟩ (.bool y.pr)).setCell ⟨w.heap.size + 1, 3, none⟩ (.bool y.pu)).setCell ⟨w.heap.size + 1, 4, none⟩ (.bool y.mr)).setCell ⟨w.heap.size + 1, 5, none⟩ (.bool y.oc)).setCell ⟨w.heap.size + 1, 6, none⟩ (.int .i64 y.ma)).setCell ⟨w.heap.size + 1, 7, none⟩ (.int .i64 y.sa)).setCell ⟨w.heap.size + 1, 8, none⟩ (.int .i64 y.ws)).setCell ⟨w.heap.size + 1, 9, none⟩ (.int .i64 y.oe)).setCell ⟨w.heap.size + 1, 10, none⟩ (.int .i64 y.ms)).setCell ⟨w.heap.size + 1, 11, none⟩ (.int .i64 y.mf) = V4 at *
  refine wpAnyH_done (by kernel_rfl) ?_ _
  (try simp only [Exit.inBlock, Exit.then])
  go_upto_region 2 with fail
  have hS5 := hS4.below (Below.refl _ _).drew
  clear hS4
  refine wp_region_held_drew (S := (fun w' => w'.cell? ⟨w.heap.size, 0, none⟩ = some (.bool x.ns) ∧ w'.cell? ⟨w.heap.size, 1, none⟩ = some (.bool x.nc) ∧ w'.cell? ⟨w.heap.size, 2, none⟩ = some (.bool x.pr) ∧ w'.cell? ⟨w.heap.size, 3, none⟩ = some (.bool x.pu) ∧ w'.cell? ⟨w.heap.size, 4, none⟩ = some (.bool x.mr) ∧ w'.cell? ⟨w.heap.size, 5, none⟩ = some (.bool x.oc) ∧ w'.cell? ⟨w.heap.size, 6, none⟩ = some (.int .i64 x.ma) ∧ w'.cell? ⟨w.heap.size, 7, none⟩ = some (.int .i64 x.sa) ∧ w'.cell? ⟨w.heap.size, 8, none⟩ = some (.int .i64 x.ws) ∧ w'.cell? ⟨w.heap.size, 9, none⟩ = some (.int .i64 x.oe) ∧ w'.cell? ⟨w.heap.size, 10, none⟩ = some (.int .i64 x.ms) ∧ w'.cell? ⟨w.heap.size, 11, none⟩ = some (.int .i64 x.mf) ∧ w'.cell? ⟨w.heap.size + 1, 0, none⟩ = some (.bool y.ns) ∧ w'.cell? ⟨w.heap.size + 1, 1, none⟩ = some (.bool y.nc) ∧ w'.cell? ⟨w.heap.size + 1, 2, none⟩ = some (.bool y.pr) ∧ w'.cell? ⟨w.heap.size + 1, 3, none⟩ = some (.bool y.pu) ∧ w'.cell? ⟨w.heap.size + 1, 4, none⟩ = some (.bool y.mr) ∧ w'.cell? ⟨w.heap.size + 1, 5, none⟩ = some (.bool y.oc) ∧ w'.cell? ⟨w.heap.size + 1, 6, none⟩ = some (.int .i64 y.ma) ∧ w'.cell? ⟨w.heap.size + 1, 7, none⟩ = some (.int .i64 y.sa) ∧ w'.cell? ⟨w.heap.size + 1, 8, none⟩ = some (.int .i64 y.ws) ∧ w'.cell? ⟨w.heap.size + 1, 9, none⟩ = some (.int .i64 y.oe) ∧ w'.cell? ⟨w.heap.size + 1, 10, none⟩ = some (.int .i64 y.ms) ∧ w'.cell? ⟨w.heap.size + 1, 11, none⟩ = some (.int .i64 y.mf) ∧ MeS w.heap.size (w.heap.size + 1) (w.heap.size + 2) x y w w')) (by kernel_rfl) (meS_all hS5) (fun hHeld => ?_)
  generalize V4.drew = V5 at *
  refine wpAnyH_take (i := 0) (oi := { dst := some 9, op := _, type := _, pos := _, after := _, guard := _ }) (v := ?_) rfl (by kernel_rfl) (by kernel_rfl) (by kernel_rfl) (fun _ _ _ h => h) (Or.inl ⟨by rfl, ?_⟩) (by assumption) ?_
  rotate_left
  focus (intro w hSw; (try dsimp only at hSw); first | (go_simp; done) | (go_simp; with_reducible rfl))
  (try simp only [Act.put, List.setIfInBounds_toArray, List.set_cons_zero, List.set_cons_succ])
  refine wpAnyH_take (i := 1) (oi := { dst := some 10, op := _, type := _, pos := _, after := _, guard := _ }) (v := ?_) rfl (by kernel_rfl) (by kernel_rfl) (by kernel_rfl) (fun _ _ _ h => h) (Or.inl ⟨by rfl, ?_⟩) (by assumption) ?_
  rotate_left
  focus (intro w hSw; (try dsimp only at hSw); first | (go_simp; done) | (go_simp; with_reducible rfl))
  (try simp only [Act.put, List.setIfInBounds_toArray, List.set_cons_zero, List.set_cons_succ])
  refine wpAnyH_take (i := 2) (oi := { dst := some 11, op := _, type := _, pos := _, after := _, guard := _ }) (v := ?_) rfl (by kernel_rfl) (by kernel_rfl) (by kernel_rfl) (fun _ _ _ h => h) (Or.inl ⟨by rfl, ?_⟩) (by assumption) ?_
  rotate_left
  focus (intro w hSw; (try dsimp only at hSw); first | (go_simp; done) | (go_simp; with_reducible rfl))
  (try simp only [Act.put, List.setIfInBounds_toArray, List.set_cons_zero, List.set_cons_succ])
  refine wpAnyH_take (i := 3) (oi := { dst := some 12, op := _, type := _, pos := _, after := _, guard := _ }) (v := cond x.ns undef (.pointer (some ⟨w.heap.size + 1, 0, none⟩))) rfl (by kernel_rfl) (by kernel_rfl) (by kernel_rfl) (fun _ _ _ h => h) ?_ (by assumption) ?_
  · cases hxk : x.ns with
    | true => exact Or.inr ⟨by rfl, rfl⟩
    | false => exact Or.inl ⟨by rfl, by intro w hSw; (try dsimp only at hSw); first | (go_simp; done) | (go_simp; with_reducible rfl)⟩
  (try simp only [Act.put, List.setIfInBounds_toArray, List.set_cons_zero, List.set_cons_succ])
  refine wpAnyH_take (i := 4) (oi := { dst := some 13, op := _, type := _, pos := _, after := _, guard := _ }) (v := cond x.ns undef (.bool y.ns)) rfl (by kernel_rfl) (by kernel_rfl) (by kernel_rfl) (fun _ _ _ h => h) ?_ (by assumption) ?_
  · cases hxk : x.ns with
    | true => exact Or.inr ⟨by rfl, rfl⟩
    | false => exact Or.inl ⟨by rfl, by intro w hSw; (try dsimp only at hSw); first | (go_simp; done) | (go_simp; with_reducible rfl)⟩
  (try simp only [Act.put, List.setIfInBounds_toArray, List.set_cons_zero, List.set_cons_succ])
  refine wpAnyH_take (i := 5) (oi := { dst := some 14, op := _, type := _, pos := _, after := _, guard := _ }) (v := .bool (x.ns || y.ns)) rfl (by kernel_rfl) (by kernel_rfl) (by kernel_rfl) (fun _ _ _ h => h) ?_ (by assumption) ?_
  · cases hxk : x.ns with
    | true => exact Or.inl ⟨by rfl, by intro w hSw; (try dsimp only at hSw); first | (go_simp; done) | (go_simp; with_reducible rfl)⟩
    | false => exact Or.inl ⟨by rfl, by intro w hSw; (try dsimp only at hSw); first | (go_simp; done) | (go_simp; with_reducible rfl)⟩
  (try simp only [Act.put, List.setIfInBounds_toArray, List.set_cons_zero, List.set_cons_succ])
  refine wpAnyH_take (i := 6) (oi := { dst := some 15, op := _, type := _, pos := _, after := _, guard := _ }) (v := ?_) rfl (by kernel_rfl) (by kernel_rfl) (by kernel_rfl) (fun _ _ _ h => h) (Or.inl ⟨by rfl, ?_⟩) (by assumption) ?_
  rotate_left
  focus (intro w hSw; (try dsimp only at hSw); first | (go_simp; done) | (go_simp; with_reducible rfl))
  (try simp only [Act.put, List.setIfInBounds_toArray, List.set_cons_zero, List.set_cons_succ])
  refine wpAnyH_take (i := 7) (oi := { dst := some 16, op := _, type := _, pos := _, after := _, guard := _ }) (v := ?_) rfl (by kernel_rfl) (by kernel_rfl) (by kernel_rfl) (fun _ _ _ h => h) (Or.inl ⟨by rfl, ?_⟩) (by assumption) ?_
  rotate_left
  focus (intro w hSw; (try dsimp only at hSw); first | (go_simp; done) | (go_simp; with_reducible rfl))
  (try simp only [Act.put, List.setIfInBounds_toArray, List.set_cons_zero, List.set_cons_succ])
  refine wpAnyH_take (i := 8) (oi := { dst := some 17, op := _, type := _, pos := _, after := _, guard := _ }) (v := ?_) rfl (by kernel_rfl) (by kernel_rfl) (by kernel_rfl) (fun _ _ _ h => h) (Or.inl ⟨by rfl, ?_⟩) (by assumption) ?_
  rotate_left
  focus (intro w hSw; (try dsimp only at hSw); first | (go_simp; done) | (go_simp; with_reducible rfl))
  (try simp only [Act.put, List.setIfInBounds_toArray, List.set_cons_zero, List.set_cons_succ])
  refine wpAnyH_take (i := 9) (oi := { dst := some 18, op := _, type := _, pos := _, after := _, guard := _ }) (v := cond x.nc undef (.pointer (some ⟨w.heap.size + 1, 1, none⟩))) rfl (by kernel_rfl) (by kernel_rfl) (by kernel_rfl) (fun _ _ _ h => h) ?_ (by assumption) ?_
  · cases hxk : x.nc with
    | true => exact Or.inr ⟨by rfl, rfl⟩
    | false => exact Or.inl ⟨by rfl, by intro w hSw; (try dsimp only at hSw); first | (go_simp; done) | (go_simp; with_reducible rfl)⟩
  (try simp only [Act.put, List.setIfInBounds_toArray, List.set_cons_zero, List.set_cons_succ])
  refine wpAnyH_take (i := 10) (oi := { dst := some 19, op := _, type := _, pos := _, after := _, guard := _ }) (v := cond x.nc undef (.bool y.nc)) rfl (by kernel_rfl) (by kernel_rfl) (by kernel_rfl) (fun _ _ _ h => h) ?_ (by assumption) ?_
  · cases hxk : x.nc with
    | true => exact Or.inr ⟨by rfl, rfl⟩
    | false => exact Or.inl ⟨by rfl, by intro w hSw; (try dsimp only at hSw); first | (go_simp; done) | (go_simp; with_reducible rfl)⟩
  (try simp only [Act.put, List.setIfInBounds_toArray, List.set_cons_zero, List.set_cons_succ])
  refine wpAnyH_take (i := 11) (oi := { dst := some 20, op := _, type := _, pos := _, after := _, guard := _ }) (v := .bool (x.nc || y.nc)) rfl (by kernel_rfl) (by kernel_rfl) (by kernel_rfl) (fun _ _ _ h => h) ?_ (by assumption) ?_
  · cases hxk : x.nc with
    | true => exact Or.inl ⟨by rfl, by intro w hSw; (try dsimp only at hSw); first | (go_simp; done) | (go_simp; with_reducible rfl)⟩
    | false => exact Or.inl ⟨by rfl, by intro w hSw; (try dsimp only at hSw); first | (go_simp; done) | (go_simp; with_reducible rfl)⟩
  (try simp only [Act.put, List.setIfInBounds_toArray, List.set_cons_zero, List.set_cons_succ])
  refine wpAnyH_take (i := 12) (oi := { dst := some 21, op := _, type := _, pos := _, after := _, guard := _ }) (v := ?_) rfl (by kernel_rfl) (by kernel_rfl) (by kernel_rfl) (fun _ _ _ h => h) (Or.inl ⟨by rfl, ?_⟩) (by assumption) ?_
  rotate_left
  focus (intro w hSw; (try dsimp only at hSw); first | (go_simp; done) | (go_simp; with_reducible rfl))
  (try simp only [Act.put, List.setIfInBounds_toArray, List.set_cons_zero, List.set_cons_succ])
  refine wpAnyH_take (i := 13) (oi := { dst := some 22, op := _, type := _, pos := _, after := _, guard := _ }) (v := ?_) rfl (by kernel_rfl) (by kernel_rfl) (by kernel_rfl) (fun _ _ _ h => h) (Or.inl ⟨by rfl, ?_⟩) (by assumption) ?_
  rotate_left
  focus (intro w hSw; (try dsimp only at hSw); first | (go_simp; done) | (go_simp; with_reducible rfl))
  (try simp only [Act.put, List.setIfInBounds_toArray, List.set_cons_zero, List.set_cons_succ])
  refine wpAnyH_take (i := 14) (oi := { dst := some 23, op := _, type := _, pos := _, after := _, guard := _ }) (v := ?_) rfl (by kernel_rfl) (by kernel_rfl) (by kernel_rfl) (fun _ _ _ h => h) (Or.inl ⟨by rfl, ?_⟩) (by assumption) ?_
  rotate_left
  focus (intro w hSw; (try dsimp only at hSw); first | (go_simp; done) | (go_simp; with_reducible rfl))
  (try simp only [Act.put, List.setIfInBounds_toArray, List.set_cons_zero, List.set_cons_succ])
  refine wpAnyH_take (i := 15) (oi := { dst := some 24, op := _, type := _, pos := _, after := _, guard := _ }) (v := cond x.pr undef (.pointer (some ⟨w.heap.size + 1, 2, none⟩))) rfl (by kernel_rfl) (by kernel_rfl) (by kernel_rfl) (fun _ _ _ h => h) ?_ (by assumption) ?_
  · cases hxk : x.pr with
    | true => exact Or.inr ⟨by rfl, rfl⟩
    | false => exact Or.inl ⟨by rfl, by intro w hSw; (try dsimp only at hSw); first | (go_simp; done) | (go_simp; with_reducible rfl)⟩
  (try simp only [Act.put, List.setIfInBounds_toArray, List.set_cons_zero, List.set_cons_succ])
  refine wpAnyH_take (i := 16) (oi := { dst := some 25, op := _, type := _, pos := _, after := _, guard := _ }) (v := cond x.pr undef (.bool y.pr)) rfl (by kernel_rfl) (by kernel_rfl) (by kernel_rfl) (fun _ _ _ h => h) ?_ (by assumption) ?_
  · cases hxk : x.pr with
    | true => exact Or.inr ⟨by rfl, rfl⟩
    | false => exact Or.inl ⟨by rfl, by intro w hSw; (try dsimp only at hSw); first | (go_simp; done) | (go_simp; with_reducible rfl)⟩
  (try simp only [Act.put, List.setIfInBounds_toArray, List.set_cons_zero, List.set_cons_succ])
  refine wpAnyH_take (i := 17) (oi := { dst := some 26, op := _, type := _, pos := _, after := _, guard := _ }) (v := .bool (x.pr || y.pr)) rfl (by kernel_rfl) (by kernel_rfl) (by kernel_rfl) (fun _ _ _ h => h) ?_ (by assumption) ?_
  · cases hxk : x.pr with
    | true => exact Or.inl ⟨by rfl, by intro w hSw; (try dsimp only at hSw); first | (go_simp; done) | (go_simp; with_reducible rfl)⟩
    | false => exact Or.inl ⟨by rfl, by intro w hSw; (try dsimp only at hSw); first | (go_simp; done) | (go_simp; with_reducible rfl)⟩
  (try simp only [Act.put, List.setIfInBounds_toArray, List.set_cons_zero, List.set_cons_succ])
  refine wpAnyH_take (i := 18) (oi := { dst := some 27, op := _, type := _, pos := _, after := _, guard := _ }) (v := ?_) rfl (by kernel_rfl) (by kernel_rfl) (by kernel_rfl) (fun _ _ _ h => h) (Or.inl ⟨by rfl, ?_⟩) (by assumption) ?_
  rotate_left
  focus (intro w hSw; (try dsimp only at hSw); first | (go_simp; done) | (go_simp; with_reducible rfl))
  (try simp only [Act.put, List.setIfInBounds_toArray, List.set_cons_zero, List.set_cons_succ])
  refine wpAnyH_take (i := 19) (oi := { dst := some 28, op := _, type := _, pos := _, after := _, guard := _ }) (v := ?_) rfl (by kernel_rfl) (by kernel_rfl) (by kernel_rfl) (fun _ _ _ h => h) (Or.inl ⟨by rfl, ?_⟩) (by assumption) ?_
  rotate_left
  focus (intro w hSw; (try dsimp only at hSw); first | (go_simp; done) | (go_simp; with_reducible rfl))
  (try simp only [Act.put, List.setIfInBounds_toArray, List.set_cons_zero, List.set_cons_succ])
  refine wpAnyH_take (i := 20) (oi := { dst := some 29, op := _, type := _, pos := _, after := _, guard := _ }) (v := ?_) rfl (by kernel_rfl) (by kernel_rfl) (by kernel_rfl) (fun _ _ _ h => h) (Or.inl ⟨by rfl, ?_⟩) (by assumption) ?_
  rotate_left
  focus (intro w hSw; (try dsimp only at hSw); first | (go_simp; done) | (go_simp; with_reducible rfl))
  (try simp only [Act.put, List.setIfInBounds_toArray, List.set_cons_zero, List.set_cons_succ])
  refine wpAnyH_take (i := 21) (oi := { dst := some 30, op := _, type := _, pos := _, after := _, guard := _ }) (v := cond x.pu (.pointer (some ⟨w.heap.size + 1, 3, none⟩)) undef) rfl (by kernel_rfl) (by kernel_rfl) (by kernel_rfl) (fun _ _ _ h => h) ?_ (by assumption) ?_
  · cases hxk : x.pu with
    | true => exact Or.inl ⟨by rfl, by intro w hSw; (try dsimp only at hSw); first | (go_simp; done) | (go_simp; with_reducible rfl)⟩
    | false => exact Or.inr ⟨by rfl, rfl⟩
  (try simp only [Act.put, List.setIfInBounds_toArray, List.set_cons_zero, List.set_cons_succ])
  refine wpAnyH_take (i := 22) (oi := { dst := some 31, op := _, type := _, pos := _, after := _, guard := _ }) (v := cond x.pu (.bool y.pu) undef) rfl (by kernel_rfl) (by kernel_rfl) (by kernel_rfl) (fun _ _ _ h => h) ?_ (by assumption) ?_
  · cases hxk : x.pu with
    | true => exact Or.inl ⟨by rfl, by intro w hSw; (try dsimp only at hSw); first | (go_simp; done) | (go_simp; with_reducible rfl)⟩
    | false => exact Or.inr ⟨by rfl, rfl⟩
  (try simp only [Act.put, List.setIfInBounds_toArray, List.set_cons_zero, List.set_cons_succ])
  refine wpAnyH_take (i := 23) (oi := { dst := some 32, op := _, type := _, pos := _, after := _, guard := _ }) (v := .bool (x.pu && y.pu)) rfl (by kernel_rfl) (by kernel_rfl) (by kernel_rfl) (fun _ _ _ h => h) ?_ (by assumption) ?_
  · cases hxk : x.pu with
    | true => exact Or.inl ⟨by rfl, by intro w hSw; (try dsimp only at hSw); first | (go_simp; done) | (go_simp; with_reducible rfl)⟩
    | false => exact Or.inl ⟨by rfl, by intro w hSw; (try dsimp only at hSw); first | (go_simp; done) | (go_simp; with_reducible rfl)⟩
  (try simp only [Act.put, List.setIfInBounds_toArray, List.set_cons_zero, List.set_cons_succ])
  refine wpAnyH_take (i := 24) (oi := { dst := some 33, op := _, type := _, pos := _, after := _, guard := _ }) (v := ?_) rfl (by kernel_rfl) (by kernel_rfl) (by kernel_rfl) (fun _ _ _ h => h) (Or.inl ⟨by rfl, ?_⟩) (by assumption) ?_
  rotate_left
  focus (intro w hSw; (try dsimp only at hSw); first | (go_simp; done) | (go_simp; with_reducible rfl))
  (try simp only [Act.put, List.setIfInBounds_toArray, List.set_cons_zero, List.set_cons_succ])
  refine wpAnyH_take (i := 25) (oi := { dst := some 34, op := _, type := _, pos := _, after := _, guard := _ }) (v := ?_) rfl (by kernel_rfl) (by kernel_rfl) (by kernel_rfl) (fun _ _ _ h => h) (Or.inl ⟨by rfl, ?_⟩) (by assumption) ?_
  rotate_left
  focus (intro w hSw; (try dsimp only at hSw); first | (go_simp; done) | (go_simp; with_reducible rfl))
  (try simp only [Act.put, List.setIfInBounds_toArray, List.set_cons_zero, List.set_cons_succ])
  refine wpAnyH_take (i := 26) (oi := { dst := some 35, op := _, type := _, pos := _, after := _, guard := _ }) (v := ?_) rfl (by kernel_rfl) (by kernel_rfl) (by kernel_rfl) (fun _ _ _ h => h) (Or.inl ⟨by rfl, ?_⟩) (by assumption) ?_
  rotate_left
  focus (intro w hSw; (try dsimp only at hSw); first | (go_simp; done) | (go_simp; with_reducible rfl))
  (try simp only [Act.put, List.setIfInBounds_toArray, List.set_cons_zero, List.set_cons_succ])
  refine wpAnyH_take (i := 27) (oi := { dst := some 36, op := _, type := _, pos := _, after := _, guard := _ }) (v := cond x.mr undef (.pointer (some ⟨w.heap.size + 1, 4, none⟩))) rfl (by kernel_rfl) (by kernel_rfl) (by kernel_rfl) (fun _ _ _ h => h) ?_ (by assumption) ?_
  · cases hxk : x.mr with
    | true => exact Or.inr ⟨by rfl, rfl⟩
    | false => exact Or.inl ⟨by rfl, by intro w hSw; (try dsimp only at hSw); first | (go_simp; done) | (go_simp; with_reducible rfl)⟩
  (try simp only [Act.put, List.setIfInBounds_toArray, List.set_cons_zero, List.set_cons_succ])
  refine wpAnyH_take (i := 28) (oi := { dst := some 37, op := _, type := _, pos := _, after := _, guard := _ }) (v := cond x.mr undef (.bool y.mr)) rfl (by kernel_rfl) (by kernel_rfl) (by kernel_rfl) (fun _ _ _ h => h) ?_ (by assumption) ?_
  · cases hxk : x.mr with
    | true => exact Or.inr ⟨by rfl, rfl⟩
    | false => exact Or.inl ⟨by rfl, by intro w hSw; (try dsimp only at hSw); first | (go_simp; done) | (go_simp; with_reducible rfl)⟩
  (try simp only [Act.put, List.setIfInBounds_toArray, List.set_cons_zero, List.set_cons_succ])
  refine wpAnyH_take (i := 29) (oi := { dst := some 38, op := _, type := _, pos := _, after := _, guard := _ }) (v := .bool (x.mr || y.mr)) rfl (by kernel_rfl) (by kernel_rfl) (by kernel_rfl) (fun _ _ _ h => h) ?_ (by assumption) ?_
  · cases hxk : x.mr with
    | true => exact Or.inl ⟨by rfl, by intro w hSw; (try dsimp only at hSw); first | (go_simp; done) | (go_simp; with_reducible rfl)⟩
    | false => exact Or.inl ⟨by rfl, by intro w hSw; (try dsimp only at hSw); first | (go_simp; done) | (go_simp; with_reducible rfl)⟩
  (try simp only [Act.put, List.setIfInBounds_toArray, List.set_cons_zero, List.set_cons_succ])
  refine wpAnyH_take (i := 30) (oi := { dst := some 39, op := _, type := _, pos := _, after := _, guard := _ }) (v := ?_) rfl (by kernel_rfl) (by kernel_rfl) (by kernel_rfl) (fun _ _ _ h => h) (Or.inl ⟨by rfl, ?_⟩) (by assumption) ?_
  rotate_left
  focus (intro w hSw; (try dsimp only at hSw); first | (go_simp; done) | (go_simp; with_reducible rfl))
  (try simp only [Act.put, List.setIfInBounds_toArray, List.set_cons_zero, List.set_cons_succ])
  refine wpAnyH_take (i := 31) (oi := { dst := some 40, op := _, type := _, pos := _, after := _, guard := _ }) (v := ?_) rfl (by kernel_rfl) (by kernel_rfl) (by kernel_rfl) (fun _ _ _ h => h) (Or.inl ⟨by rfl, ?_⟩) (by assumption) ?_
  rotate_left
  focus (intro w hSw; (try dsimp only at hSw); first | (go_simp; done) | (go_simp; with_reducible rfl))
  (try simp only [Act.put, List.setIfInBounds_toArray, List.set_cons_zero, List.set_cons_succ])
  refine wpAnyH_take (i := 32) (oi := { dst := some 41, op := _, type := _, pos := _, after := _, guard := _ }) (v := ?_) rfl (by kernel_rfl) (by kernel_rfl) (by kernel_rfl) (fun _ _ _ h => h) (Or.inl ⟨by rfl, ?_⟩) (by assumption) ?_
  rotate_left
  focus (intro w hSw; (try dsimp only at hSw); first | (go_simp; done) | (go_simp; with_reducible rfl))
  (try simp only [Act.put, List.setIfInBounds_toArray, List.set_cons_zero, List.set_cons_succ])
  refine wpAnyH_take (i := 33) (oi := { dst := some 42, op := _, type := _, pos := _, after := _, guard := _ }) (v := cond x.oc undef (.pointer (some ⟨w.heap.size + 1, 5, none⟩))) rfl (by kernel_rfl) (by kernel_rfl) (by kernel_rfl) (fun _ _ _ h => h) ?_ (by assumption) ?_
  · cases hxk : x.oc with
    | true => exact Or.inr ⟨by rfl, rfl⟩
    | false => exact Or.inl ⟨by rfl, by intro w hSw; (try dsimp only at hSw); first | (go_simp; done) | (go_simp; with_reducible rfl)⟩
  (try simp only [Act.put, List.setIfInBounds_toArray, List.set_cons_zero, List.set_cons_succ])
  refine wpAnyH_take (i := 34) (oi := { dst := some 43, op := _, type := _, pos := _, after := _, guard := _ }) (v := cond x.oc undef (.bool y.oc)) rfl (by kernel_rfl) (by kernel_rfl) (by kernel_rfl) (fun _ _ _ h => h) ?_ (by assumption) ?_
  · cases hxk : x.oc with
    | true => exact Or.inr ⟨by rfl, rfl⟩
    | false => exact Or.inl ⟨by rfl, by intro w hSw; (try dsimp only at hSw); first | (go_simp; done) | (go_simp; with_reducible rfl)⟩
  (try simp only [Act.put, List.setIfInBounds_toArray, List.set_cons_zero, List.set_cons_succ])
  refine wpAnyH_take (i := 35) (oi := { dst := some 44, op := _, type := _, pos := _, after := _, guard := _ }) (v := .bool (x.oc || y.oc)) rfl (by kernel_rfl) (by kernel_rfl) (by kernel_rfl) (fun _ _ _ h => h) ?_ (by assumption) ?_
  · cases hxk : x.oc with
    | true => exact Or.inl ⟨by rfl, by intro w hSw; (try dsimp only at hSw); first | (go_simp; done) | (go_simp; with_reducible rfl)⟩
    | false => exact Or.inl ⟨by rfl, by intro w hSw; (try dsimp only at hSw); first | (go_simp; done) | (go_simp; with_reducible rfl)⟩
  (try simp only [Act.put, List.setIfInBounds_toArray, List.set_cons_zero, List.set_cons_succ])
  refine wpAnyH_take (i := 36) (oi := { dst := some 45, op := _, type := _, pos := _, after := _, guard := _ }) (v := ?_) rfl (by kernel_rfl) (by kernel_rfl) (by kernel_rfl) (fun _ _ _ h => h) (Or.inl ⟨by rfl, ?_⟩) (by assumption) ?_
  rotate_left
  focus (intro w hSw; (try dsimp only at hSw); first | (go_simp; done) | (go_simp; with_reducible rfl))
  (try simp only [Act.put, List.setIfInBounds_toArray, List.set_cons_zero, List.set_cons_succ])
  refine wpAnyH_take (i := 37) (oi := { dst := some 46, op := _, type := _, pos := _, after := _, guard := _ }) (v := ?_) rfl (by kernel_rfl) (by kernel_rfl) (by kernel_rfl) (fun _ _ _ h => h) (Or.inl ⟨by rfl, ?_⟩) (by assumption) ?_
  rotate_left
  focus (intro w hSw; (try dsimp only at hSw); first | (go_simp; done) | (go_simp; with_reducible rfl))
  (try simp only [Act.put, List.setIfInBounds_toArray, List.set_cons_zero, List.set_cons_succ])
  refine wpAnyH_take (i := 38) (oi := { dst := some 47, op := _, type := _, pos := _, after := _, guard := _ }) (v := ?_) rfl (by kernel_rfl) (by kernel_rfl) (by kernel_rfl) (fun _ _ _ h => h) (Or.inl ⟨by rfl, ?_⟩) (by assumption) ?_
  rotate_left
  focus (intro w hSw; (try dsimp only at hSw); first | (go_simp; done) | (go_simp; with_reducible rfl))
  (try simp only [Act.put, List.setIfInBounds_toArray, List.set_cons_zero, List.set_cons_succ])
  refine wpAnyH_take (i := 39) (oi := { dst := some 48, op := _, type := _, pos := _, after := _, guard := _ }) (v := ?_) rfl (by kernel_rfl) (by kernel_rfl) (by kernel_rfl) (fun _ _ _ h => h) (Or.inl ⟨by rfl, ?_⟩) (by assumption) ?_
  rotate_left
  focus (intro w hSw; (try dsimp only at hSw); first | (go_simp; done) | (go_simp; with_reducible rfl))
  (try simp only [Act.put, List.setIfInBounds_toArray, List.set_cons_zero, List.set_cons_succ])
  refine wpAnyH_take (i := 41) (oi := { dst := some 50, op := _, type := _, pos := _, after := _, guard := _ }) (v := ?_) rfl (by kernel_rfl) (by kernel_rfl) (by kernel_rfl) (fun _ _ _ h => h) (Or.inl ⟨by rfl, ?_⟩) (by assumption) ?_
  rotate_left
  focus (intro w hSw; (try dsimp only at hSw); first | (go_simp; done) | (go_simp; with_reducible rfl))
  (try simp only [Act.put, List.setIfInBounds_toArray, List.set_cons_zero, List.set_cons_succ])
  refine wpAnyH_take (i := 42) (oi := { dst := some 51, op := _, type := _, pos := _, after := _, guard := _ }) (v := ?_) rfl (by kernel_rfl) (by kernel_rfl) (by kernel_rfl) (fun _ _ _ h => h) (Or.inl ⟨by rfl, ?_⟩) (by assumption) ?_
  rotate_left
  focus (intro w hSw; (try dsimp only at hSw); first | (go_simp; done) | (go_simp; with_reducible rfl))
  (try simp only [Act.put, List.setIfInBounds_toArray, List.set_cons_zero, List.set_cons_succ])
  refine wpAnyH_take (i := 43) (oi := { dst := some 52, op := _, type := _, pos := _, after := _, guard := _ }) (v := ?_) rfl (by kernel_rfl) (by kernel_rfl) (by kernel_rfl) (fun _ _ _ h => h) (Or.inl ⟨by rfl, ?_⟩) (by assumption) ?_
  rotate_left
  focus (intro w hSw; (try dsimp only at hSw); first | (go_simp; done) | (go_simp; with_reducible rfl))
  (try simp only [Act.put, List.setIfInBounds_toArray, List.set_cons_zero, List.set_cons_succ])
  refine wpAnyH_take (i := 44) (oi := { dst := some 53, op := _, type := _, pos := _, after := _, guard := _ }) (v := ?_) rfl (by kernel_rfl) (by kernel_rfl) (by kernel_rfl) (fun _ _ _ h => h) (Or.inl ⟨by rfl, ?_⟩) (by assumption) ?_
  rotate_left
  focus (intro w hSw; (try dsimp only at hSw); first | (go_simp; done) | (go_simp; with_reducible rfl))
  (try simp only [Act.put, List.setIfInBounds_toArray, List.set_cons_zero, List.set_cons_succ])
  refine wpAnyH_take (i := 46) (oi := { dst := some 55, op := _, type := _, pos := _, after := _, guard := _ }) (v := ?_) rfl (by kernel_rfl) (by kernel_rfl) (by kernel_rfl) (fun _ _ _ h => h) (Or.inl ⟨by rfl, ?_⟩) (by assumption) ?_
  rotate_left
  focus (intro w hSw; (try dsimp only at hSw); first | (go_simp; done) | (go_simp; with_reducible rfl))
  (try simp only [Act.put, List.setIfInBounds_toArray, List.set_cons_zero, List.set_cons_succ])
  refine wpAnyH_take (i := 47) (oi := { dst := some 56, op := _, type := _, pos := _, after := _, guard := _ }) (v := ?_) rfl (by kernel_rfl) (by kernel_rfl) (by kernel_rfl) (fun _ _ _ h => h) (Or.inl ⟨by rfl, ?_⟩) (by assumption) ?_
  rotate_left
  focus (intro w hSw; (try dsimp only at hSw); first | (go_simp; done) | (go_simp; with_reducible rfl))
  (try simp only [Act.put, List.setIfInBounds_toArray, List.set_cons_zero, List.set_cons_succ])
  refine wpAnyH_take (i := 48) (oi := { dst := some 57, op := _, type := _, pos := _, after := _, guard := _ }) (v := ?_) rfl (by kernel_rfl) (by kernel_rfl) (by kernel_rfl) (fun _ _ _ h => h) (Or.inl ⟨by rfl, ?_⟩) (by assumption) ?_
  rotate_left
  focus (intro w hSw; (try dsimp only at hSw); first | (go_simp; done) | (go_simp; with_reducible rfl))
  (try simp only [Act.put, List.setIfInBounds_toArray, List.set_cons_zero, List.set_cons_succ])
  refine wpAnyH_take (i := 49) (oi := { dst := some 58, op := _, type := _, pos := _, after := _, guard := _ }) (v := ?_) rfl (by kernel_rfl) (by kernel_rfl) (by kernel_rfl) (fun _ _ _ h => h) (Or.inl ⟨by rfl, ?_⟩) (by assumption) ?_
  rotate_left
  focus (intro w hSw; (try dsimp only at hSw); first | (go_simp; done) | (go_simp; with_reducible rfl))
  (try simp only [Act.put, List.setIfInBounds_toArray, List.set_cons_zero, List.set_cons_succ])
  refine wpAnyH_take (i := 50) (oi := { dst := some 59, op := _, type := _, pos := _, after := _, guard := _ }) (v := ?_) rfl (by kernel_rfl) (by kernel_rfl) (by kernel_rfl) (fun _ _ _ h => h) (Or.inl ⟨by rfl, ?_⟩) (by assumption) ?_
  rotate_left
  focus (intro w hSw; (try dsimp only at hSw); first | (go_simp; done) | (go_simp; with_reducible rfl))
  (try simp only [Act.put, List.setIfInBounds_toArray, List.set_cons_zero, List.set_cons_succ])
  refine wpAnyH_take (i := 51) (oi := { dst := some 60, op := _, type := _, pos := _, after := _, guard := _ }) (v := ?_) rfl (by kernel_rfl) (by kernel_rfl) (by kernel_rfl) (fun _ _ _ h => h) (Or.inl ⟨by rfl, ?_⟩) (by assumption) ?_
  rotate_left
  focus (intro w hSw; (try dsimp only at hSw); first | (go_simp; done) | (go_simp; with_reducible rfl))
  (try simp only [Act.put, List.setIfInBounds_toArray, List.set_cons_zero, List.set_cons_succ])
  refine wpAnyH_take (i := 52) (oi := { dst := some 61, op := _, type := _, pos := _, after := _, guard := _ }) (v := ?_) rfl (by kernel_rfl) (by kernel_rfl) (by kernel_rfl) (fun _ _ _ h => h) (Or.inl ⟨by rfl, ?_⟩) (by assumption) ?_
  rotate_left
  focus (intro w hSw; (try dsimp only at hSw); first | (go_simp; done) | (go_simp; with_reducible rfl))
  (try simp only [Act.put, List.setIfInBounds_toArray, List.set_cons_zero, List.set_cons_succ])
  refine wpAnyH_take (i := 53) (oi := { dst := some 62, op := _, type := _, pos := _, after := _, guard := _ }) (v := ?_) rfl (by kernel_rfl) (by kernel_rfl) (by kernel_rfl) (fun _ _ _ h => h) (Or.inl ⟨by rfl, ?_⟩) (by assumption) ?_
  rotate_left
  focus (intro w hSw; (try dsimp only at hSw); first | (go_simp; done) | (go_simp; with_reducible rfl))
  (try simp only [Act.put, List.setIfInBounds_toArray, List.set_cons_zero, List.set_cons_succ])
  refine wpAnyH_take (i := 54) (oi := { dst := some 63, op := _, type := _, pos := _, after := _, guard := _ }) (v := ?_) rfl (by kernel_rfl) (by kernel_rfl) (by kernel_rfl) (fun _ _ _ h => h) (Or.inl ⟨by rfl, ?_⟩) (by assumption) ?_
  rotate_left
  focus (intro w hSw; (try dsimp only at hSw); first | (go_simp; done) | (go_simp; with_reducible rfl))
  (try simp only [Act.put, List.setIfInBounds_toArray, List.set_cons_zero, List.set_cons_succ])
  refine wpAnyH_take (i := 55) (oi := { dst := some 64, op := _, type := _, pos := _, after := _, guard := _ }) (v := ?_) rfl (by kernel_rfl) (by kernel_rfl) (by kernel_rfl) (fun _ _ _ h => h) (Or.inl ⟨by rfl, ?_⟩) (by assumption) ?_
  rotate_left
  focus (intro w hSw; (try dsimp only at hSw); first | (go_simp; done) | (go_simp; with_reducible rfl))
  (try simp only [Act.put, List.setIfInBounds_toArray, List.set_cons_zero, List.set_cons_succ])
  refine wpAnyH_take (i := 56) (oi := { dst := some 65, op := _, type := _, pos := _, after := _, guard := _ }) (v := ?_) rfl (by kernel_rfl) (by kernel_rfl) (by kernel_rfl) (fun _ _ _ h => h) (Or.inl ⟨by rfl, ?_⟩) (by assumption) ?_
  rotate_left
  focus (intro w hSw; (try dsimp only at hSw); first | (go_simp; done) | (go_simp; with_reducible rfl))
  (try simp only [Act.put, List.setIfInBounds_toArray, List.set_cons_zero, List.set_cons_succ])
  refine wpAnyH_take (i := 57) (oi := { dst := some 66, op := _, type := _, pos := _, after := _, guard := _ }) (v := ?_) rfl (by kernel_rfl) (by kernel_rfl) (by kernel_rfl) (fun _ _ _ h => h) (Or.inl ⟨by rfl, ?_⟩) (by assumption) ?_
  rotate_left
  focus (intro w hSw; (try dsimp only at hSw); first | (go_simp; done) | (go_simp; with_reducible rfl))
  (try simp only [Act.put, List.setIfInBounds_toArray, List.set_cons_zero, List.set_cons_succ])
  refine wpAnyH_take (i := 58) (oi := { dst := some 67, op := _, type := _, pos := _, after := _, guard := _ }) (v := ?_) rfl (by kernel_rfl) (by kernel_rfl) (by kernel_rfl) (fun _ _ _ h => h) (Or.inl ⟨by rfl, ?_⟩) (by assumption) ?_
  rotate_left
  focus (intro w hSw; (try dsimp only at hSw); first | (go_simp; done) | (go_simp; with_reducible rfl))
  (try simp only [Act.put, List.setIfInBounds_toArray, List.set_cons_zero, List.set_cons_succ])
  refine wpAnyH_take (i := 59) (oi := { dst := some 68, op := _, type := _, pos := _, after := _, guard := _ }) (v := ?_) rfl (by kernel_rfl) (by kernel_rfl) (by kernel_rfl) (fun _ _ _ h => h) (Or.inl ⟨by rfl, ?_⟩) (by assumption) ?_
  rotate_left
  focus (intro w hSw; (try dsimp only at hSw); first | (go_simp; done) | (go_simp; with_reducible rfl))
  (try simp only [Act.put, List.setIfInBounds_toArray, List.set_cons_zero, List.set_cons_succ])
  refine wpAnyH_take (i := 60) (oi := { dst := some 69, op := _, type := _, pos := _, after := _, guard := _ }) (v := ?_) rfl (by kernel_rfl) (by kernel_rfl) (by kernel_rfl) (fun _ _ _ h => h) (Or.inl ⟨by rfl, ?_⟩) (by assumption) ?_
  rotate_left
  focus (intro w hSw; (try dsimp only at hSw); first | (go_simp; done) | (go_simp; with_reducible rfl))
  (try simp only [Act.put, List.setIfInBounds_toArray, List.set_cons_zero, List.set_cons_succ])
  refine wpAnyH_take (i := 61) (oi := { dst := some 70, op := _, type := _, pos := _, after := _, guard := _ }) (v := ?_) rfl (by kernel_rfl) (by kernel_rfl) (by kernel_rfl) (fun _ _ _ h => h) (Or.inl ⟨by rfl, ?_⟩) (by assumption) ?_
  rotate_left
  focus (intro w hSw; (try dsimp only at hSw); first | (go_simp; done) | (go_simp; with_reducible rfl))
  (try simp only [Act.put, List.setIfInBounds_toArray, List.set_cons_zero, List.set_cons_succ])
  refine wpAnyH_take (i := 62) (oi := { dst := some 71, op := _, type := _, pos := _, after := _, guard := _ }) (v := ?_) rfl (by kernel_rfl) (by kernel_rfl) (by kernel_rfl) (fun _ _ _ h => h) (Or.inl ⟨by rfl, ?_⟩) (by assumption) ?_
  rotate_left
  focus (intro w hSw; (try dsimp only at hSw); first | (go_simp; done) | (go_simp; with_reducible rfl))
  (try simp only [Act.put, List.setIfInBounds_toArray, List.set_cons_zero, List.set_cons_succ])
  refine wpAnyH_take (i := 63) (oi := { dst := some 72, op := _, type := _, pos := _, after := _, guard := _ }) (v := ?_) rfl (by kernel_rfl) (by kernel_rfl) (by kernel_rfl) (fun _ _ _ h => h) (Or.inl ⟨by rfl, ?_⟩) (by assumption) ?_
  rotate_left
  focus (intro w hSw; (try dsimp only at hSw); first | (go_simp; done) | (go_simp; with_reducible rfl))
  (try simp only [Act.put, List.setIfInBounds_toArray, List.set_cons_zero, List.set_cons_succ])
  refine wpAnyH_take (i := 64) (oi := { dst := some 73, op := _, type := _, pos := _, after := _, guard := _ }) (v := ?_) rfl (by kernel_rfl) (by kernel_rfl) (by kernel_rfl) (fun _ _ _ h => h) (Or.inl ⟨by rfl, ?_⟩) (by assumption) ?_
  rotate_left
  focus (intro w hSw; (try dsimp only at hSw); first | (go_simp; done) | (go_simp; with_reducible rfl))
  (try simp only [Act.put, List.setIfInBounds_toArray, List.set_cons_zero, List.set_cons_succ])
  refine wpAnyH_take (i := 65) (oi := { dst := some 74, op := _, type := _, pos := _, after := _, guard := _ }) (v := ?_) rfl (by kernel_rfl) (by kernel_rfl) (by kernel_rfl) (fun _ _ _ h => h) (Or.inl ⟨by rfl, ?_⟩) (by assumption) ?_
  rotate_left
  focus (intro w hSw; (try dsimp only at hSw); first | (go_simp; done) | (go_simp; with_reducible rfl))
  (try simp only [Act.put, List.setIfInBounds_toArray, List.set_cons_zero, List.set_cons_succ])
  refine wpAnyH_ready (rs := [40]) (by kernel_rfl) (by simp) ?_
  refine AllReadyH.cons (o := { dst := some 49, op := _, type := _, pos := _, after := _, guard := _ }) rfl (fun K hK => ?_) AllReadyH.nil
  go_simp
  refine (least_any x.ma y.ma _ ⟨by have := HNx.out.ma; omega, by have := HNx.out.ma; omega⟩ ⟨by have := HNy.out.ma; omega, by have := HNy.out.ma; omega⟩).mono ?_
  rintro en w' ⟨rfl, rfl⟩
  refine hK.out _ _ (meS_all hS5) (fun _ => ?_)
  clear hK K
  (try simp only [Act.put, List.setIfInBounds_toArray, List.set_cons_zero, List.set_cons_succ])
  refine wpAnyH_ready (rs := [45]) (by kernel_rfl) (by simp) ?_
  refine AllReadyH.cons (o := { dst := some 54, op := _, type := _, pos := _, after := _, guard := _ }) rfl (fun K hK => ?_) AllReadyH.nil
  go_simp
  refine (least_any x.sa y.sa _ ⟨by have := HNx.out.sa; omega, by have := HNx.out.sa; omega⟩ ⟨by have := HNy.out.sa; omega, by have := HNy.out.sa; omega⟩).mono ?_
  rintro en w' ⟨rfl, rfl⟩
  refine hK.out _ _ (meS_all hS5) (fun _ => ?_)
  clear hK K
  (try simp only [Act.put, List.setIfInBounds_toArray, List.set_cons_zero, List.set_cons_succ])
  refine wpAnyH_take (i := 66) (oi := { dst := some 75, op := _, type := _, pos := _, after := _, guard := _ }) (v := ?_) rfl (by kernel_rfl) (by kernel_rfl) (by kernel_rfl) (fun _ _ _ h => h) (Or.inl ⟨by rfl, ?_⟩) (by assumption) ?_
  rotate_left
  focus (intro w hSw; (try dsimp only at hSw); first | (go_simp; done) | (go_simp; with_reducible rfl))
  (try simp only [Act.put, List.setIfInBounds_toArray, List.set_cons_zero, List.set_cons_succ])
  have HB5 := Lib.hid hS5.l
  obtain ⟨z, c0, c1, c2, c3, c4, c5, c6, c7, c8, c9, c10, c11, fr, lt⟩ := hS5.r
  refine wpAnyH_ready (rs := [67]) (by kernel_rfl) (by simp) ?_
  refine AllReadyH.cons (o := { dst := none, op := _, type := _, pos := _, after := _, guard := _ }) rfl (fun K hK => ?_) AllReadyH.nil
  go_simp
  have hS6 := MeS.setR hS5 (by omega) (by omega) (by omega) (merN x y)
  refine hK.out _ _ (meS_all hS6) (fun _ => ?_)
  clear hK K
  (try simp only [Act.put, List.setIfInBounds_toArray, List.set_cons_zero, List.set_cons_succ])
  refine wpAnyH_done (by kernel_rfl) ?_ _
  (try simp only [Exit.inBlock, Exit.then])
  (try go_wp2_with fail)
  refine bodyPost_ret (v := dvV (merN x y)) (by simp [results, Tryd.results25, go_sem, c0, c1, c2, c3, c4, c5, c6, c7, c8, c9, c10, c11, merN]) rfl ?_
  exact ⟨by rw [HMD.out], below_dv HB5.out (by omega) _ _ _ _ _ _ _ _ _ _ _ _⟩
end Go.Proofs.YtnjjjfbklgdgpaaDoor
