import Derived.Test.YtieolalohindgaaGreatDoorPa4
import Derived.Test.YtieolalohindgaaGreatDoorPa14
import Derived.Test.YtieolalohindgaaGreatDoorPa16
import Derived.Test.YtieolalohindgaaGreatDoorPa22
import Derived.Test.YtieolalohindgaaGreatDoorPa21
/- Plain mathematics of chapter 11: Merge is a semilattice. -/
namespace Go.Proofs.YtieolalohindgaaGreatDoor

theorem least_self (a : Int) : leastD a a = a := by unfold leastD; split <;> omega
theorem dv_ext {a b : Dv} (h1 : a.ns = b.ns) (h2 : a.nc = b.nc) (h3 : a.pr = b.pr) (h4 : a.pu = b.pu) (h5 : a.mr = b.mr) (h6 : a.oc = b.oc) (h7 : a.ma = b.ma) (h8 : a.sa = b.sa) (h9 : a.ws = b.ws) (h10 : a.oe = b.oe) (h11 : a.ms = b.ms) (h12 : a.mf = b.mf) : a = b := by
  cases a; cases b; simp_all
theorem nor_merge (x y : Dv) : Nor (mergeD x y) := by
  have a := nor_norm x
  have b := nor_norm y
  refine ⟨least_bd a.ma b.ma, least_bd a.sa b.sa, ?_, ?_, ?_, ?_⟩
  · have h1 := a.ws; have h2 := b.ws; show -1 ≤ min _ _ ∧ min _ _ ≤ _; omega
  · have h1 := a.oe; have h2 := b.oe; show -1 ≤ min _ _ ∧ min _ _ ≤ _; omega
  · have h1 := a.ms; have h2 := b.ms; show -1 ≤ min _ _ ∧ min _ _ ≤ _; omega
  · have h1 := a.mf; have h2 := b.mf; show -1 ≤ max _ _ ∧ max _ _ ≤ _; omega
theorem norm_merge (x y : Dv) : normD (mergeD x y) = mergeD x y := norm_id (nor_merge x y)
theorem merge_comm (x y : Dv) : mergeD x y = mergeD y x := by
  unfold mergeD
  apply dv_ext
  · exact Bool.or_comm _ _
  · exact Bool.or_comm _ _
  · exact Bool.or_comm _ _
  · exact Bool.and_comm _ _
  · exact Bool.or_comm _ _
  · exact Bool.or_comm _ _
  · exact least_comm _ _
  · exact least_comm _ _
  · show min _ _ = min _ _; omega
  · show min _ _ = min _ _; omega
  · show min _ _ = min _ _; omega
  · show max _ _ = max _ _; omega
/-- Merge of normal values. -/
def merN (a b : Dv) : Dv := ⟨a.ns || b.ns, a.nc || b.nc, a.pr || b.pr, a.pu && b.pu, a.mr || b.mr, a.oc || b.oc, leastD a.ma b.ma, leastD a.sa b.sa, min a.ws b.ws, min a.oe b.oe, min a.ms b.ms, max a.mf b.mf⟩
theorem merge_mer (x y : Dv) : mergeD x y = merN (normD x) (normD y) := rfl
theorem mer_assoc (a b c : Dv) : merN (merN a b) c = merN a (merN b c) := by
  unfold merN
  apply dv_ext
  · exact Bool.or_assoc _ _ _
  · exact Bool.or_assoc _ _ _
  · exact Bool.or_assoc _ _ _
  · exact Bool.and_assoc _ _ _
  · exact Bool.or_assoc _ _ _
  · exact Bool.or_assoc _ _ _
  · exact least_assoc _ _ _
  · exact least_assoc _ _ _
  · show min (min _ _) _ = min _ (min _ _); omega
  · show min (min _ _) _ = min _ (min _ _); omega
  · show min (min _ _) _ = min _ (min _ _); omega
  · show max (max _ _) _ = max _ (max _ _); omega
theorem mer_self (a : Dv) : merN a a = a := by
  unfold merN
  apply dv_ext
  · exact Bool.or_self _
  · exact Bool.or_self _
  · exact Bool.or_self _
  · exact Bool.and_self _
  · exact Bool.or_self _
  · exact Bool.or_self _
  · exact least_self _
  · exact least_self _
  · show min _ _ = _; omega
  · show min _ _ = _; omega
  · show min _ _ = _; omega
  · show max _ _ = _; omega
theorem merge_assoc (x y z : Dv) : mergeD (mergeD x y) z = mergeD x (mergeD y z) := by
  rw [merge_mer (mergeD x y), merge_mer x (mergeD y z), norm_merge, norm_merge, merge_mer, merge_mer]; exact mer_assoc _ _ _
theorem merge_self (x y : Dv) : mergeD (mergeD x y) (mergeD x y) = mergeD x y := by
  rw [merge_mer (mergeD x y), norm_merge]; exact mer_self _
theorem merge_left (x y : Dv) : mergeD (mergeD x y) x = mergeD x y := by
  rw [merge_comm, merge_mer x (mergeD x y), norm_merge, merge_mer x y, ← mer_assoc, mer_self]
end Go.Proofs.YtieolalohindgaaGreatDoor

/- What Merge returns. -/
namespace Go.Proofs.YtieolalohindgaaGreatDoor
open Go.RowKit

/-- Both directives' cells, the result's, and what else is there. -/
structure MeS (N M R : Nat) (d e : Dv) (w w' : World) : Prop where
  a : DvB N w' d
  b : DvB M w' e
  r : ∃ z, DvB R w' z
  l : Below w.heap.size w w'
theorem MeS.below {N M R : Nat} {d e : Dv} {w w1 w2 : World} (h : MeS N M R d e w w1) (hb : Below w1.heap.size w1 w2) : MeS N M R d e w w2 := ⟨h.a.below hb, h.b.below hb, h.r.elim fun z hz => ⟨z, hz.below hb⟩, h.l.trans (hb.mono h.l.size)⟩
theorem meS_all {N M R : Nat} {d e : Dv} {w w' : World} (h : MeS N M R d e w w') : w'.cell? ⟨N, 0, none⟩ = some (.bool d.ns) ∧ w'.cell? ⟨N, 1, none⟩ = some (.bool d.nc) ∧ w'.cell? ⟨N, 2, none⟩ = some (.bool d.pr) ∧ w'.cell? ⟨N, 3, none⟩ = some (.bool d.pu) ∧ w'.cell? ⟨N, 4, none⟩ = some (.bool d.mr) ∧ w'.cell? ⟨N, 5, none⟩ = some (.bool d.oc) ∧ w'.cell? ⟨N, 6, none⟩ = some (.int .i64 d.ma) ∧ w'.cell? ⟨N, 7, none⟩ = some (.int .i64 d.sa) ∧ w'.cell? ⟨N, 8, none⟩ = some (.int .i64 d.ws) ∧ w'.cell? ⟨N, 9, none⟩ = some (.int .i64 d.oe) ∧ w'.cell? ⟨N, 10, none⟩ = some (.int .i64 d.ms) ∧ w'.cell? ⟨N, 11, none⟩ = some (.int .i64 d.mf) ∧ w'.cell? ⟨M, 0, none⟩ = some (.bool e.ns) ∧ w'.cell? ⟨M, 1, none⟩ = some (.bool e.nc) ∧ w'.cell? ⟨M, 2, none⟩ = some (.bool e.pr) ∧ w'.cell? ⟨M, 3, none⟩ = some (.bool e.pu) ∧ w'.cell? ⟨M, 4, none⟩ = some (.bool e.mr) ∧ w'.cell? ⟨M, 5, none⟩ = some (.bool e.oc) ∧ w'.cell? ⟨M, 6, none⟩ = some (.int .i64 e.ma) ∧ w'.cell? ⟨M, 7, none⟩ = some (.int .i64 e.sa) ∧ w'.cell? ⟨M, 8, none⟩ = some (.int .i64 e.ws) ∧ w'.cell? ⟨M, 9, none⟩ = some (.int .i64 e.oe) ∧ w'.cell? ⟨M, 10, none⟩ = some (.int .i64 e.ms) ∧ w'.cell? ⟨M, 11, none⟩ = some (.int .i64 e.mf) ∧ MeS N M R d e w w' :=
  ⟨h.a.c0, h.a.c1, h.a.c2, h.a.c3, h.a.c4, h.a.c5, h.a.c6, h.a.c7, h.a.c8, h.a.c9, h.a.c10, h.a.c11, h.b.c0, h.b.c1, h.b.c2, h.b.c3, h.b.c4, h.b.c5, h.b.c6, h.b.c7, h.b.c8, h.b.c9, h.b.c10, h.b.c11, h⟩
theorem MeS.setA {N M R : Nat} {d e : Dv} {w w1 : World} (h : MeS N M R d e w w1) (h1 : N ≠ M) (h2 : N ≠ R) (h3 : w.heap.size ≤ N) (x : Dv) : MeS N M R x e w (((((((((((((w1).setCell ⟨N, 0, none⟩ (.bool x.ns)).setCell ⟨N, 1, none⟩ (.bool x.nc)).setCell ⟨N, 2, none⟩ (.bool x.pr)).setCell ⟨N, 3, none⟩ (.bool x.pu)).setCell ⟨N, 4, none⟩ (.bool x.mr)).setCell ⟨N, 5, none⟩ (.bool x.oc)).setCell ⟨N, 6, none⟩ (.int .i64 x.ma)).setCell ⟨N, 7, none⟩ (.int .i64 x.sa)).setCell ⟨N, 8, none⟩ (.int .i64 x.ws)).setCell ⟨N, 9, none⟩ (.int .i64 x.oe)).setCell ⟨N, 10, none⟩ (.int .i64 x.ms)).setCell ⟨N, 11, none⟩ (.int .i64 x.mf)) :=
  ⟨h.a.set x, h.b.other h1 _ _ _ _ _ _ _ _ _ _ _ _, h.r.elim fun z hz => ⟨z, hz.other h2 _ _ _ _ _ _ _ _ _ _ _ _⟩, below_dv h.l h3 _ _ _ _ _ _ _ _ _ _ _ _⟩
theorem MeS.setB {N M R : Nat} {d e : Dv} {w w1 : World} (h : MeS N M R d e w w1) (h1 : M ≠ N) (h2 : M ≠ R) (h3 : w.heap.size ≤ M) (x : Dv) : MeS N M R d x w (((((((((((((w1).setCell ⟨M, 0, none⟩ (.bool x.ns)).setCell ⟨M, 1, none⟩ (.bool x.nc)).setCell ⟨M, 2, none⟩ (.bool x.pr)).setCell ⟨M, 3, none⟩ (.bool x.pu)).setCell ⟨M, 4, none⟩ (.bool x.mr)).setCell ⟨M, 5, none⟩ (.bool x.oc)).setCell ⟨M, 6, none⟩ (.int .i64 x.ma)).setCell ⟨M, 7, none⟩ (.int .i64 x.sa)).setCell ⟨M, 8, none⟩ (.int .i64 x.ws)).setCell ⟨M, 9, none⟩ (.int .i64 x.oe)).setCell ⟨M, 10, none⟩ (.int .i64 x.ms)).setCell ⟨M, 11, none⟩ (.int .i64 x.mf)) :=
  ⟨h.a.other h1 _ _ _ _ _ _ _ _ _ _ _ _, h.b.set x, h.r.elim fun z hz => ⟨z, hz.other h2 _ _ _ _ _ _ _ _ _ _ _ _⟩, below_dv h.l h3 _ _ _ _ _ _ _ _ _ _ _ _⟩
theorem MeS.setR {N M R : Nat} {d e : Dv} {w w1 : World} (h : MeS N M R d e w w1) (h1 : R ≠ N) (h2 : R ≠ M) (h3 : w.heap.size ≤ R) (x : Dv) : MeS N M R d e w (((((((((((((w1).setCell ⟨R, 0, none⟩ (.bool x.ns)).setCell ⟨R, 1, none⟩ (.bool x.nc)).setCell ⟨R, 2, none⟩ (.bool x.pr)).setCell ⟨R, 3, none⟩ (.bool x.pu)).setCell ⟨R, 4, none⟩ (.bool x.mr)).setCell ⟨R, 5, none⟩ (.bool x.oc)).setCell ⟨R, 6, none⟩ (.int .i64 x.ma)).setCell ⟨R, 7, none⟩ (.int .i64 x.sa)).setCell ⟨R, 8, none⟩ (.int .i64 x.ws)).setCell ⟨R, 9, none⟩ (.int .i64 x.oe)).setCell ⟨R, 10, none⟩ (.int .i64 x.ms)).setCell ⟨R, 11, none⟩ (.int .i64 x.mf)) :=
  ⟨h.a.other h1 _ _ _ _ _ _ _ _ _ _ _ _, h.b.other h2 _ _ _ _ _ _ _ _ _ _ _ _, h.r.elim fun _ hz => ⟨_, hz.set x⟩, below_dv h.l h3 _ _ _ _ _ _ _ _ _ _ _ _⟩
set_option maxHeartbeats 32000000 in
set_option maxRecDepth 100000 in
theorem merge_any (d e : Dv) (w : World) (hd : FitD d) (he : FitD e) :
    Calls Tryz.prog 30 #[dvV d, dvV e] w fun en w' => en = .returned (dvV (mergeD d e)) ∧ Below w.heap.size w w' := by
  have HFd := Lib.hid hd
  have HFe := Lib.hid he
  have HB := Lib.hid (((below_new w (.cells (dvC d) 40)).alloc (by simp) (.cells (dvC e) 40)).alloc (by simp; omega) (.cells (dvC zD) 40))
  have e1 : (w.alloc (.cells (dvC d) 40)).heap.size = w.heap.size + 1 := by simp
  have e2 : ((w.alloc (.cells (dvC d) 40)).alloc (.cells (dvC e) 40)).heap.size = w.heap.size + 2 := by simp
  have hA := ((dvB_new w d 40).below (below_new _ (.cells (dvC e) 40))).below (below_new _ (.cells (dvC zD) 40))
  have hBb := (dvB_new (w.alloc (.cells (dvC d) 40)) e 40).below (below_new _ (.cells (dvC zD) 40))
  have hR := dvB_new ((w.alloc (.cells (dvC d) 40)).alloc (.cells (dvC e) 40)) zD 40
  rw [e1] at hBb
  rw [e2] at hR
  have HS := Lib.hid (⟨hA, hBb, ⟨_, hR⟩, HB.out⟩ : MeS w.heap.size (w.heap.size + 1) (w.heap.size + 2) d e w (((w.alloc (.cells (dvC d) 40)).alloc (.cells (dvC e) 40)).alloc (.cells (dvC zD) 40)))
  clear hA hBb hR hd he e1 e2 HB
  go_enter Tryz.func30, Tryz.ntmps30
  go_upto_region 1 with fail
  change Code.wp _ _ _ _ (((w.alloc (.cells (dvC d) 40)).alloc (.cells (dvC e) 40)).alloc (.cells (dvC zD) 40))
  generalize (((w.alloc (.cells (dvC d) 40)).alloc (.cells (dvC e) 40)).alloc (.cells (dvC zD) 40)) = W at *
  have hS0 := HS.out.below (Below.refl _ _).drew
  clear HS
  refine heldU_begin (S := (fun w' => w'.cell? ⟨w.heap.size, 0, none⟩ = some (.bool d.ns) ∧ w'.cell? ⟨w.heap.size, 1, none⟩ = some (.bool d.nc) ∧ w'.cell? ⟨w.heap.size, 2, none⟩ = some (.bool d.pr) ∧ w'.cell? ⟨w.heap.size, 3, none⟩ = some (.bool d.pu) ∧ w'.cell? ⟨w.heap.size, 4, none⟩ = some (.bool d.mr) ∧ w'.cell? ⟨w.heap.size, 5, none⟩ = some (.bool d.oc) ∧ w'.cell? ⟨w.heap.size, 6, none⟩ = some (.int .i64 d.ma) ∧ w'.cell? ⟨w.heap.size, 7, none⟩ = some (.int .i64 d.sa) ∧ w'.cell? ⟨w.heap.size, 8, none⟩ = some (.int .i64 d.ws) ∧ w'.cell? ⟨w.heap.size, 9, none⟩ = some (.int .i64 d.oe) ∧ w'.cell? ⟨w.heap.size, 10, none⟩ = some (.int .i64 d.ms) ∧ w'.cell? ⟨w.heap.size, 11, none⟩ = some (.int .i64 d.mf) ∧ w'.cell? ⟨w.heap.size + 1, 0, none⟩ = some (.bool e.ns) ∧ w'.cell? ⟨w.heap.size + 1, 1, none⟩ = some (.bool e.nc) ∧ w'.cell? ⟨w.heap.size + 1, 2, none⟩ = some (.bool e.pr) ∧ w'.cell? ⟨w.heap.size + 1, 3, none⟩ = some (.bool e.pu) ∧ w'.cell? ⟨w.heap.size + 1, 4, none⟩ = some (.bool e.mr) ∧ w'.cell? ⟨w.heap.size + 1, 5, none⟩ = some (.bool e.oc) ∧ w'.cell? ⟨w.heap.size + 1, 6, none⟩ = some (.int .i64 e.ma) ∧ w'.cell? ⟨w.heap.size + 1, 7, none⟩ = some (.int .i64 e.sa) ∧ w'.cell? ⟨w.heap.size + 1, 8, none⟩ = some (.int .i64 e.ws) ∧ w'.cell? ⟨w.heap.size + 1, 9, none⟩ = some (.int .i64 e.oe) ∧ w'.cell? ⟨w.heap.size + 1, 10, none⟩ = some (.int .i64 e.ms) ∧ w'.cell? ⟨w.heap.size + 1, 11, none⟩ = some (.int .i64 e.mf) ∧ MeS w.heap.size (w.heap.size + 1) (w.heap.size + 2) d e w w')) 4 (by kernel_rfl) (meS_all hS0) (fun hHeld => ?_)
  generalize W.drew = V at *
  refine heldU_take (i := 0) (k := 0) (oi := { dst := some 5, op := _, type := _, pos := _, after := _, guard := _ }) (v := dvV d) rfl (by kernel_rfl) (by kernel_rfl) (by kernel_rfl) (by kernel_rfl) (by kernel_rfl) (by kernel_rfl) (fun _ _ _ h => h) (Or.inl ⟨by rfl, ?_⟩) (by assumption) ?_
  focus (intro w hSw; (try dsimp only at hSw); first | (go_simp; done) | (go_simp; with_reducible rfl))
  (try simp only [Act.put, List.setIfInBounds_toArray, List.set_cons_zero, List.set_cons_succ])
  refine heldU_take (i := 2) (k := 3) (oi := { dst := some 7, op := _, type := _, pos := _, after := _, guard := _ }) (v := dvV e) rfl (by kernel_rfl) (by kernel_rfl) (by kernel_rfl) (by kernel_rfl) (by kernel_rfl) (by kernel_rfl) (fun _ _ _ h => h) (Or.inl ⟨by rfl, ?_⟩) (by assumption) ?_
  focus (intro w hSw; (try dsimp only at hSw); first | (go_simp; done) | (go_simp; with_reducible rfl))
  (try simp only [Act.put, List.setIfInBounds_toArray, List.set_cons_zero, List.set_cons_succ])
  clear hHeld
  refine heldU_one (i := 1) (o := { dst := some 6, op := _, type := _, pos := _, after := _, guard := _ }) (by kernel_rfl) rfl (by decide) (fun K hK => ?_)
  go_simp
  refine (normal_any _ _ HFd.out).mono ?_
  rintro en V1 ⟨rfl, hBc⟩
  have hS1 := hS0.below hBc
  refine hK.out _ _ (meS_all hS1) (fun hH1 => ?_)
  clear hK K hBc hS0
  (try simp only [Act.put, List.setIfInBounds_toArray, List.set_cons_zero, List.set_cons_succ])
  refine heldU_one (i := 3) (o := { dst := some 8, op := _, type := _, pos := _, after := _, guard := _ }) (by kernel_rfl) rfl (by decide) (fun K hK => ?_)
  go_simp
  refine (normal_any _ _ HFe.out).mono ?_
  rintro en V2 ⟨rfl, hBc⟩
  have hS2 := hS1.below hBc
  refine hK.out _ _ (meS_all hS2) (fun hH2 => ?_)
  clear hK K hBc hS1
  (try simp only [Act.put, List.setIfInBounds_toArray, List.set_cons_zero, List.set_cons_succ])
  have HNx := Lib.hid (nor_norm d)
  have HNy := Lib.hid (nor_norm e)
  have HMD := Lib.hid (merge_mer d e)
  generalize normD d = x at *
  generalize normD e = y at *
  clear hH1 hH2
  obtain ⟨a0, a1, a2, a3, a4, a5, a6, a7, a8, a9, a10, a11, fa, la⟩ := hS2.a
  refine heldU_store (o := { dst := none, op := _, type := _, pos := _, after := _, guard := _ }) (by kernel_rfl) rfl (fun K hK => ?_)
  go_simp
  refine hK.out _ _ ?_
  clear hK K a0 a1 a2 a3 a4 a5 a6 a7 a8 a9 a10 a11 fa la
  (try simp only [Act.put, List.setIfInBounds_toArray, List.set_cons_zero, List.set_cons_succ])
  have hS3 := hS2.setA (by omega) (by omega) (Nat.le_refl _) x
  clear hS2
  generalize ((((((((((((V2).setCell ⟨w.heap.size, 0, none⟩ (.bool x.ns)).setCell ⟨w.heap.size, 1, none⟩ (.bool x.nc)).setCell ⟨w.heap.size, 2, none⟩ (.bool x.pr)).setCell ⟨w.heap.size, 3, none⟩ (.bool x.pu)).setCell ⟨w.heap.size, 4, none⟩ (.bool x.mr)).setCell ⟨w.heap.size, 5, none⟩ (.bool x.oc)).setCell ⟨w.heap.size, 6, none⟩ (.int .i64 x.ma)).setCell ⟨w.heap.size, 7, none⟩ (.int .i64 x.sa)).setCell ⟨w.heap.size, 8, none⟩ (.int .i64 x.ws)).setCell ⟨w.heap.size, 9, none⟩ (.int .i64 x.oe)).setCell ⟨w.heap.size, 10, none⟩ (.int .i64 x.ms)).setCell ⟨w.heap.size, 11, none⟩ (.int .i64 x.mf) = V3 at *
  obtain ⟨a0, a1, a2, a3, a4, a5, a6, a7, a8, a9, a10, a11, fa, la⟩ := hS3.b
  refine wpAnyH_ready (rs := [5]) (by kernel_rfl) (by simp) ?_
  refine AllReadyH.cons (o := { dst := none, op := _, type := _, pos := _, after := _, guard := _ }) rfl (fun K hK => ?_) AllReadyH.nil
  go_simp
  refine hK.out _ _ trivial (fun _ => ?_)
  clear hK K a0 a1 a2 a3 a4 a5 a6 a7 a8 a9 a10 a11 fa la
  (try simp only [Act.put, List.setIfInBounds_toArray, List.set_cons_zero, List.set_cons_succ])
  have hS4 := hS3.setB (by omega) (by omega) (by omega) y
  clear hS3
  generalize ((((((((((((V3).setCell ⟨w.heap.size + 1, 0, none⟩ (.bool y.ns)).setCell ⟨w.heap.size + 1, 1, none⟩ (.bool y.nc)).setCell ⟨w.heap.size + 1, 2, none⟩ (.bool y.pr)).setCell ⟨w.heap.size + 1, 3, none⟩ (.bool y.pu)).setCell ⟨w.heap.size + 1, 4, none⟩ (.bool y.mr)).setCell ⟨w.heap.size + 1, 5, none⟩ (.bool y.oc)).setCell ⟨w.heap.size + 1, 6, none⟩ (.int .i64 y.ma)).setCell ⟨w.heap.size + 1, 7, none⟩ (.int .i64 y.sa)).setCell ⟨w.heap.size + 1, 8, none⟩ (.int .i64 y.ws)).setCell ⟨w.heap.size + 1, 9, none⟩ (.int .i64 y.oe)).setCell ⟨w.heap.size + 1, 10, none⟩ (.int .i64 y.ms)).setCell ⟨w.heap.size + 1, 11, none⟩ (.int .i64 y.mf) = V4 at *
  refine wpAnyH_done (by kernel_rfl) ?_ _
  (try simp only [Exit.then])
  go_upto_region 2 with fail
  have hS5 := hS4.below (Below.refl _ _).drew
  clear hS4
  refine wp_region_held_drew (S := (fun w' => w'.cell? ⟨w.heap.size, 0, none⟩ = some (.bool x.ns) ∧ w'.cell? ⟨w.heap.size, 1, none⟩ = some (.bool x.nc) ∧ w'.cell? ⟨w.heap.size, 2, none⟩ = some (.bool x.pr) ∧ w'.cell? ⟨w.heap.size, 3, none⟩ = some (.bool x.pu) ∧ w'.cell? ⟨w.heap.size, 4, none⟩ = some (.bool x.mr) ∧ w'.cell? ⟨w.heap.size, 5, none⟩ = some (.bool x.oc) ∧ w'.cell? ⟨w.heap.size, 6, none⟩ = some (.int .i64 x.ma) ∧ w'.cell? ⟨w.heap.size, 7, none⟩ = some (.int .i64 x.sa) ∧ w'.cell? ⟨w.heap.size, 8, none⟩ = some (.int .i64 x.ws) ∧ w'.cell? ⟨w.heap.size, 9, none⟩ = some (.int .i64 x.oe) ∧ w'.cell? ⟨w.heap.size, 10, none⟩ = some (.int .i64 x.ms) ∧ w'.cell? ⟨w.heap.size, 11, none⟩ = some (.int .i64 x.mf) ∧ w'.cell? ⟨w.heap.size + 1, 0, none⟩ = some (.bool y.ns) ∧ w'.cell? ⟨w.heap.size + 1, 1, none⟩ = some (.bool y.nc) ∧ w'.cell? ⟨w.heap.size + 1, 2, none⟩ = some (.bool y.pr) ∧ w'.cell? ⟨w.heap.size + 1, 3, none⟩ = some (.bool y.pu) ∧ w'.cell? ⟨w.heap.size + 1, 4, none⟩ = some (.bool y.mr) ∧ w'.cell? ⟨w.heap.size + 1, 5, none⟩ = some (.bool y.oc) ∧ w'.cell? ⟨w.heap.size + 1, 6, none⟩ = some (.int .i64 y.ma) ∧ w'.cell? ⟨w.heap.size + 1, 7, none⟩ = some (.int .i64 y.sa) ∧ w'.cell? ⟨w.heap.size + 1, 8, none⟩ = some (.int .i64 y.ws) ∧ w'.cell? ⟨w.heap.size + 1, 9, none⟩ = some (.int .i64 y.oe) ∧ w'.cell? ⟨w.heap.size + 1, 10, none⟩ = some (.int .i64 y.ms) ∧ w'.cell? ⟨w.heap.size + 1, 11, none⟩ = some (.int .i64 y.mf) ∧ MeS w.heap.size (w.heap.size + 1) (w.heap.size + 2) x y w w')) (by kernel_rfl) (meS_all hS5) (fun hHeld => ?_)
  generalize V4.drew = V5 at *
  refine wpAnyH_take (i := 0) (oi := { dst := some 9, op := _, type := _, pos := _, after := _, guard := _ }) (v := ?_) rfl (by kernel_rfl) (by kernel_rfl) (by kernel_rfl) (fun _ _ _ h => h) (Or.inl ⟨by rfl, ?_⟩) (by assumption) ?_
  rotate_left
  focus (intro w hSw; (try dsimp only at hSw); first | (go_simp; done) | (go_simp; with_reducible rfl))
  (try simp only [Act.put, List.setIfInBounds_toArray, List.set_cons_zero, List.set_cons_succ])
  refine wpAnyH_take (i := 1) (oi := { dst := some 10, op := _, type := _, pos := _, after := _, guard := _ }) (v := ?_) rfl (by kernel_rfl) (by kernel_rfl) (by kernel_rfl) (fun _ _ _ h => h) (Or.inl ⟨by rfl, ?_⟩) (by assumption) ?_
  rotate_left
  focus (intro w hSw; (try dsimp only at hSw); first | (go_simp; done) | (go_simp; with_reducible rfl))
  (try simp only [Act.put, List.setIfInBounds_toArray, List.set_cons_zero, List.set_cons_succ])
  refine wpAnyH_take (i := 2) (oi := { dst := some 11, op := _, type := _, pos := _, after := _, guard := _ }) (v := ?_) rfl (by kernel_rfl) (by kernel_rfl) (by kernel_rfl) (fun _ _ _ h => h) (Or.inl ⟨by rfl, ?_⟩) (by assumption) ?_
  rotate_left
  focus (intro w hSw; (try dsimp only at hSw); first | (go_simp; done) | (go_simp; with_reducible rfl))
  (try simp only [Act.put, List.setIfInBounds_toArray, List.set_cons_zero, List.set_cons_succ])
  refine wpAnyH_take (i := 3) (oi := { dst := some 12, op := _, type := _, pos := _, after := _, guard := _ }) (v := cond x.ns undef (.pointer (some ⟨w.heap.size + 1, 0, none⟩))) rfl (by kernel_rfl) (by kernel_rfl) (by kernel_rfl) (fun _ _ _ h => h) ?_ (by assumption) ?_
  · cases hxk : x.ns with
    | true => exact Or.inr ⟨by rfl, rfl⟩
    | false => exact Or.inl ⟨by rfl, by intro w hSw; (try dsimp only at hSw); first | (go_simp; done) | (go_simp; with_reducible rfl)⟩
  (try simp only [Act.put, List.setIfInBounds_toArray, List.set_cons_zero, List.set_cons_succ])
  refine wpAnyH_take (i := 4) (oi := { dst := some 13, op := _, type := _, pos := _, after := _, guard := _ }) (v := cond x.ns undef (.bool y.ns)) rfl (by kernel_rfl) (by kernel_rfl) (by kernel_rfl) (fun _ _ _ h => h) ?_ (by assumption) ?_
  · cases hxk : x.ns with
    | true => exact Or.inr ⟨by rfl, rfl⟩
    | false => exact Or.inl ⟨by rfl, by intro w hSw; (try dsimp only at hSw); first | (go_simp; done) | (go_simp; with_reducible rfl)⟩
  (try simp only [Act.put, List.setIfInBounds_toArray, List.set_cons_zero, List.set_cons_succ])
  refine wpAnyH_take (i := 5) (oi := { dst := some 14, op := _, type := _, pos := _, after := _, guard := _ }) (v := .bool (x.ns || y.ns)) rfl (by kernel_rfl) (by kernel_rfl) (by kernel_rfl) (fun _ _ _ h => h) ?_ (by assumption) ?_
  · cases hxk : x.ns with
    | true => exact Or.inl ⟨by rfl, by intro w hSw; (try dsimp only at hSw); first | (go_simp; done) | (go_simp; with_reducible rfl)⟩
    | false => exact Or.inl ⟨by rfl, by intro w hSw; (try dsimp only at hSw); first | (go_simp; done) | (go_simp; with_reducible rfl)⟩
  (try simp only [Act.put, List.setIfInBounds_toArray, List.set_cons_zero, List.set_cons_succ])
  refine wpAnyH_take (i := 6) (oi := { dst := some 15, op := _, type := _, pos := _, after := _, guard := _ }) (v := ?_) rfl (by kernel_rfl) (by kernel_rfl) (by kernel_rfl) (fun _ _ _ h => h) (Or.inl ⟨by rfl, ?_⟩) (by assumption) ?_
  rotate_left
  focus (intro w hSw; (try dsimp only at hSw); first | (go_simp; done) | (go_simp; with_reducible rfl))
  (try simp only [Act.put, List.setIfInBounds_toArray, List.set_cons_zero, List.set_cons_succ])
  refine wpAnyH_take (i := 7) (oi := { dst := some 16, op := _, type := _, pos := _, after := _, guard := _ }) (v := ?_) rfl (by kernel_rfl) (by kernel_rfl) (by kernel_rfl) (fun _ _ _ h => h) (Or.inl ⟨by rfl, ?_⟩) (by assumption) ?_
  rotate_left
  focus (intro w hSw; (try dsimp only at hSw); first | (go_simp; done) | (go_simp; with_reducible rfl))
  (try simp only [Act.put, List.setIfInBounds_toArray, List.set_cons_zero, List.set_cons_succ])
  refine wpAnyH_take (i := 8) (oi := { dst := some 17, op := _, type := _, pos := _, after := _, guard := _ }) (v := ?_) rfl (by kernel_rfl) (by kernel_rfl) (by kernel_rfl) (fun _ _ _ h => h) (Or.inl ⟨by rfl, ?_⟩) (by assumption) ?_
  rotate_left
  focus (intro w hSw; (try dsimp only at hSw); first | (go_simp; done) | (go_simp; with_reducible rfl))
  (try simp only [Act.put, List.setIfInBounds_toArray, List.set_cons_zero, List.set_cons_succ])
  refine wpAnyH_take (i := 9) (oi := { dst := some 18, op := _, type := _, pos := _, after := _, guard := _ }) (v := cond x.nc undef (.pointer (some ⟨w.heap.size + 1, 1, none⟩))) rfl (by kernel_rfl) (by kernel_rfl) (by kernel_rfl) (fun _ _ _ h => h) ?_ (by assumption) ?_
  · cases hxk : x.nc with
    | true => exact Or.inr ⟨by rfl, rfl⟩
    | false => exact Or.inl ⟨by rfl, by intro w hSw; (try dsimp only at hSw); first | (go_simp; done) | (go_simp; with_reducible rfl)⟩
  (try simp only [Act.put, List.setIfInBounds_toArray, List.set_cons_zero, List.set_cons_succ])
  refine wpAnyH_take (i := 10) (oi := { dst := some 19, op := _, type := _, pos := _, after := _, guard := _ }) (v := cond x.nc undef (.bool y.nc)) rfl (by kernel_rfl) (by kernel_rfl) (by kernel_rfl) (fun _ _ _ h => h) ?_ (by assumption) ?_
  · cases hxk : x.nc with
    | true => exact Or.inr ⟨by rfl, rfl⟩
    | false => exact Or.inl ⟨by rfl, by intro w hSw; (try dsimp only at hSw); first | (go_simp; done) | (go_simp; with_reducible rfl)⟩
  (try simp only [Act.put, List.setIfInBounds_toArray, List.set_cons_zero, List.set_cons_succ])
  refine wpAnyH_take (i := 11) (oi := { dst := some 20, op := _, type := _, pos := _, after := _, guard := _ }) (v := .bool (x.nc || y.nc)) rfl (by kernel_rfl) (by kernel_rfl) (by kernel_rfl) (fun _ _ _ h => h) ?_ (by assumption) ?_
  · cases hxk : x.nc with
    | true => exact Or.inl ⟨by rfl, by intro w hSw; (try dsimp only at hSw); first | (go_simp; done) | (go_simp; with_reducible rfl)⟩
    | false => exact Or.inl ⟨by rfl, by intro w hSw; (try dsimp only at hSw); first | (go_simp; done) | (go_simp; with_reducible rfl)⟩
  (try simp only [Act.put, List.setIfInBounds_toArray, List.set_cons_zero, List.set_cons_succ])
  refine wpAnyH_take (i := 12) (oi := { dst := some 21, op := _, type := _, pos := _, after := _, guard := _ }) (v := ?_) rfl (by kernel_rfl) (by kernel_rfl) (by kernel_rfl) (fun _ _ _ h => h) (Or.inl ⟨by rfl, ?_⟩) (by assumption) ?_
  rotate_left
  focus (intro w hSw; (try dsimp only at hSw); first | (go_simp; done) | (go_simp; with_reducible rfl))
  (try simp only [Act.put, List.setIfInBounds_toArray, List.set_cons_zero, List.set_cons_succ])
  refine wpAnyH_take (i := 13) (oi := { dst := some 22, op := _, type := _, pos := _, after := _, guard := _ }) (v := ?_) rfl (by kernel_rfl) (by kernel_rfl) (by kernel_rfl) (fun _ _ _ h => h) (Or.inl ⟨by rfl, ?_⟩) (by assumption) ?_
  rotate_left
  focus (intro w hSw; (try dsimp only at hSw); first | (go_simp; done) | (go_simp; with_reducible rfl))
  (try simp only [Act.put, List.setIfInBounds_toArray, List.set_cons_zero, List.set_cons_succ])
  refine wpAnyH_take (i := 14) (oi := { dst := some 23, op := _, type := _, pos := _, after := _, guard := _ }) (v := ?_) rfl (by kernel_rfl) (by kernel_rfl) (by kernel_rfl) (fun _ _ _ h => h) (Or.inl ⟨by rfl, ?_⟩) (by assumption) ?_
  rotate_left
  focus (intro w hSw; (try dsimp only at hSw); first | (go_simp; done) | (go_simp; with_reducible rfl))
  (try simp only [Act.put, List.setIfInBounds_toArray, List.set_cons_zero, List.set_cons_succ])
  refine wpAnyH_take (i := 15) (oi := { dst := some 24, op := _, type := _, pos := _, after := _, guard := _ }) (v := cond x.pr undef (.pointer (some ⟨w.heap.size + 1, 2, none⟩))) rfl (by kernel_rfl) (by kernel_rfl) (by kernel_rfl) (fun _ _ _ h => h) ?_ (by assumption) ?_
  · cases hxk : x.pr with
    | true => exact Or.inr ⟨by rfl, rfl⟩
    | false => exact Or.inl ⟨by rfl, by intro w hSw; (try dsimp only at hSw); first | (go_simp; done) | (go_simp; with_reducible rfl)⟩
  (try simp only [Act.put, List.setIfInBounds_toArray, List.set_cons_zero, List.set_cons_succ])
  refine wpAnyH_take (i := 16) (oi := { dst := some 25, op := _, type := _, pos := _, after := _, guard := _ }) (v := cond x.pr undef (.bool y.pr)) rfl (by kernel_rfl) (by kernel_rfl) (by kernel_rfl) (fun _ _ _ h => h) ?_ (by assumption) ?_
  · cases hxk : x.pr with
    | true => exact Or.inr ⟨by rfl, rfl⟩
    | false => exact Or.inl ⟨by rfl, by intro w hSw; (try dsimp only at hSw); first | (go_simp; done) | (go_simp; with_reducible rfl)⟩
  (try simp only [Act.put, List.setIfInBounds_toArray, List.set_cons_zero, List.set_cons_succ])
  refine wpAnyH_take (i := 17) (oi := { dst := some 26, op := _, type := _, pos := _, after := _, guard := _ }) (v := .bool (x.pr || y.pr)) rfl (by kernel_rfl) (by kernel_rfl) (by kernel_rfl) (fun _ _ _ h => h) ?_ (by assumption) ?_
  · cases hxk : x.pr with
    | true => exact Or.inl ⟨by rfl, by intro w hSw; (try dsimp only at hSw); first | (go_simp; done) | (go_simp; with_reducible rfl)⟩
    | false => exact Or.inl ⟨by rfl, by intro w hSw; (try dsimp only at hSw); first | (go_simp; done) | (go_simp; with_reducible rfl)⟩
  (try simp only [Act.put, List.setIfInBounds_toArray, List.set_cons_zero, List.set_cons_succ])
  refine wpAnyH_take (i := 18) (oi := { dst := some 27, op := _, type := _, pos := _, after := _, guard := _ }) (v := ?_) rfl (by kernel_rfl) (by kernel_rfl) (by kernel_rfl) (fun _ _ _ h => h) (Or.inl ⟨by rfl, ?_⟩) (by assumption) ?_
  rotate_left
  focus (intro w hSw; (try dsimp only at hSw); first | (go_simp; done) | (go_simp; with_reducible rfl))
  (try simp only [Act.put, List.setIfInBounds_toArray, List.set_cons_zero, List.set_cons_succ])
  refine wpAnyH_take (i := 19) (oi := { dst := some 28, op := _, type := _, pos := _, after := _, guard := _ }) (v := ?_) rfl (by kernel_rfl) (by kernel_rfl) (by kernel_rfl) (fun _ _ _ h => h) (Or.inl ⟨by rfl, ?_⟩) (by assumption) ?_
  rotate_left
  focus (intro w hSw; (try dsimp only at hSw); first | (go_simp; done) | (go_simp; with_reducible rfl))
  (try simp only [Act.put, List.setIfInBounds_toArray, List.set_cons_zero, List.set_cons_succ])
  refine wpAnyH_take (i := 20) (oi := { dst := some 29, op := _, type := _, pos := _, after := _, guard := _ }) (v := ?_) rfl (by kernel_rfl) (by kernel_rfl) (by kernel_rfl) (fun _ _ _ h => h) (Or.inl ⟨by rfl, ?_⟩) (by assumption) ?_
  rotate_left
  focus (intro w hSw; (try dsimp only at hSw); first | (go_simp; done) | (go_simp; with_reducible rfl))
  (try simp only [Act.put, List.setIfInBounds_toArray, List.set_cons_zero, List.set_cons_succ])
  refine wpAnyH_take (i := 21) (oi := { dst := some 30, op := _, type := _, pos := _, after := _, guard := _ }) (v := cond x.pu (.pointer (some ⟨w.heap.size + 1, 3, none⟩)) undef) rfl (by kernel_rfl) (by kernel_rfl) (by kernel_rfl) (fun _ _ _ h => h) ?_ (by assumption) ?_
  · cases hxk : x.pu with
    | true => exact Or.inl ⟨by rfl, by intro w hSw; (try dsimp only at hSw); first | (go_simp; done) | (go_simp; with_reducible rfl)⟩
    | false => exact Or.inr ⟨by rfl, rfl⟩
  (try simp only [Act.put, List.setIfInBounds_toArray, List.set_cons_zero, List.set_cons_succ])
  refine wpAnyH_take (i := 22) (oi := { dst := some 31, op := _, type := _, pos := _, after := _, guard := _ }) (v := cond x.pu (.bool y.pu) undef) rfl (by kernel_rfl) (by kernel_rfl) (by kernel_rfl) (fun _ _ _ h => h) ?_ (by assumption) ?_
  · cases hxk : x.pu with
    | true => exact Or.inl ⟨by rfl, by intro w hSw; (try dsimp only at hSw); first | (go_simp; done) | (go_simp; with_reducible rfl)⟩
    | false => exact Or.inr ⟨by rfl, rfl⟩
  (try simp only [Act.put, List.setIfInBounds_toArray, List.set_cons_zero, List.set_cons_succ])
  refine wpAnyH_take (i := 23) (oi := { dst := some 32, op := _, type := _, pos := _, after := _, guard := _ }) (v := .bool (x.pu && y.pu)) rfl (by kernel_rfl) (by kernel_rfl) (by kernel_rfl) (fun _ _ _ h => h) ?_ (by assumption) ?_
  · cases hxk : x.pu with
    | true => exact Or.inl ⟨by rfl, by intro w hSw; (try dsimp only at hSw); first | (go_simp; done) | (go_simp; with_reducible rfl)⟩
    | false => exact Or.inl ⟨by rfl, by intro w hSw; (try dsimp only at hSw); first | (go_simp; done) | (go_simp; with_reducible rfl)⟩
  (try simp only [Act.put, List.setIfInBounds_toArray, List.set_cons_zero, List.set_cons_succ])
  refine wpAnyH_take (i := 24) (oi := { dst := some 33, op := _, type := _, pos := _, after := _, guard := _ }) (v := ?_) rfl (by kernel_rfl) (by kernel_rfl) (by kernel_rfl) (fun _ _ _ h => h) (Or.inl ⟨by rfl, ?_⟩) (by assumption) ?_
  rotate_left
  focus (intro w hSw; (try dsimp only at hSw); first | (go_simp; done) | (go_simp; with_reducible rfl))
  (try simp only [Act.put, List.setIfInBounds_toArray, List.set_cons_zero, List.set_cons_succ])
  refine wpAnyH_take (i := 25) (oi := { dst := some 34, op := _, type := _, pos := _, after := _, guard := _ }) (v := ?_) rfl (by kernel_rfl) (by kernel_rfl) (by kernel_rfl) (fun _ _ _ h => h) (Or.inl ⟨by rfl, ?_⟩) (by assumption) ?_
  rotate_left
  focus (intro w hSw; (try dsimp only at hSw); first | (go_simp; done) | (go_simp; with_reducible rfl))
  (try simp only [Act.put, List.setIfInBounds_toArray, List.set_cons_zero, List.set_cons_succ])
  refine wpAnyH_take (i := 26) (oi := { dst := some 35, op := _, type := _, pos := _, after := _, guard := _ }) (v := ?_) rfl (by kernel_rfl) (by kernel_rfl) (by kernel_rfl) (fun _ _ _ h => h) (Or.inl ⟨by rfl, ?_⟩) (by assumption) ?_
  rotate_left
  focus (intro w hSw; (try dsimp only at hSw); first | (go_simp; done) | (go_simp; with_reducible rfl))
  (try simp only [Act.put, List.setIfInBounds_toArray, List.set_cons_zero, List.set_cons_succ])
  refine wpAnyH_take (i := 27) (oi := { dst := some 36, op := _, type := _, pos := _, after := _, guard := _ }) (v := cond x.mr undef (.pointer (some ⟨w.heap.size + 1, 4, none⟩))) rfl (by kernel_rfl) (by kernel_rfl) (by kernel_rfl) (fun _ _ _ h => h) ?_ (by assumption) ?_
  · cases hxk : x.mr with
    | true => exact Or.inr ⟨by rfl, rfl⟩
    | false => exact Or.inl ⟨by rfl, by intro w hSw; (try dsimp only at hSw); first | (go_simp; done) | (go_simp; with_reducible rfl)⟩
  (try simp only [Act.put, List.setIfInBounds_toArray, List.set_cons_zero, List.set_cons_succ])
  refine wpAnyH_take (i := 28) (oi := { dst := some 37, op := _, type := _, pos := _, after := _, guard := _ }) (v := cond x.mr undef (.bool y.mr)) rfl (by kernel_rfl) (by kernel_rfl) (by kernel_rfl) (fun _ _ _ h => h) ?_ (by assumption) ?_
  · cases hxk : x.mr with
    | true => exact Or.inr ⟨by rfl, rfl⟩
    | false => exact Or.inl ⟨by rfl, by intro w hSw; (try dsimp only at hSw); first | (go_simp; done) | (go_simp; with_reducible rfl)⟩
  (try simp only [Act.put, List.setIfInBounds_toArray, List.set_cons_zero, List.set_cons_succ])
  refine wpAnyH_take (i := 29) (oi := { dst := some 38, op := _, type := _, pos := _, after := _, guard := _ }) (v := .bool (x.mr || y.mr)) rfl (by kernel_rfl) (by kernel_rfl) (by kernel_rfl) (fun _ _ _ h => h) ?_ (by assumption) ?_
  · cases hxk : x.mr with
    | true => exact Or.inl ⟨by rfl, by intro w hSw; (try dsimp only at hSw); first | (go_simp; done) | (go_simp; with_reducible rfl)⟩
    | false => exact Or.inl ⟨by rfl, by intro w hSw; (try dsimp only at hSw); first | (go_simp; done) | (go_simp; with_reducible rfl)⟩
  (try simp only [Act.put, List.setIfInBounds_toArray, List.set_cons_zero, List.set_cons_succ])
  refine wpAnyH_take (i := 30) (oi := { dst := some 39, op := _, type := _, pos := _, after := _, guard := _ }) (v := ?_) rfl (by kernel_rfl) (by kernel_rfl) (by kernel_rfl) (fun _ _ _ h => h) (Or.inl ⟨by rfl, ?_⟩) (by assumption) ?_
  rotate_left
  focus (intro w hSw; (try dsimp only at hSw); first | (go_simp; done) | (go_simp; with_reducible rfl))
  (try simp only [Act.put, List.setIfInBounds_toArray, List.set_cons_zero, List.set_cons_succ])
  refine wpAnyH_take (i := 31) (oi := { dst := some 40, op := _, type := _, pos := _, after := _, guard := _ }) (v := ?_) rfl (by kernel_rfl) (by kernel_rfl) (by kernel_rfl) (fun _ _ _ h => h) (Or.inl ⟨by rfl, ?_⟩) (by assumption) ?_
  rotate_left
  focus (intro w hSw; (try dsimp only at hSw); first | (go_simp; done) | (go_simp; with_reducible rfl))
  (try simp only [Act.put, List.setIfInBounds_toArray, List.set_cons_zero, List.set_cons_succ])
  refine wpAnyH_take (i := 32) (oi := { dst := some 41, op := _, type := _, pos := _, after := _, guard := _ }) (v := ?_) rfl (by kernel_rfl) (by kernel_rfl) (by kernel_rfl) (fun _ _ _ h => h) (Or.inl ⟨by rfl, ?_⟩) (by assumption) ?_
  rotate_left
  focus (intro w hSw; (try dsimp only at hSw); first | (go_simp; done) | (go_simp; with_reducible rfl))
  (try simp only [Act.put, List.setIfInBounds_toArray, List.set_cons_zero, List.set_cons_succ])
  refine wpAnyH_take (i := 33) (oi := { dst := some 42, op := _, type := _, pos := _, after := _, guard := _ }) (v := cond x.oc undef (.pointer (some ⟨w.heap.size + 1, 5, none⟩))) rfl (by kernel_rfl) (by kernel_rfl) (by kernel_rfl) (fun _ _ _ h => h) ?_ (by assumption) ?_
  · cases hxk : x.oc with
    | true => exact Or.inr ⟨by rfl, rfl⟩
    | false => exact Or.inl ⟨by rfl, by intro w hSw; (try dsimp only at hSw); first | (go_simp; done) | (go_simp; with_reducible rfl)⟩
  (try simp only [Act.put, List.setIfInBounds_toArray, List.set_cons_zero, List.set_cons_succ])
  refine wpAnyH_take (i := 34) (oi := { dst := some 43, op := _, type := _, pos := _, after := _, guard := _ }) (v := cond x.oc undef (.bool y.oc)) rfl (by kernel_rfl) (by kernel_rfl) (by kernel_rfl) (fun _ _ _ h => h) ?_ (by assumption) ?_
  · cases hxk : x.oc with
    | true => exact Or.inr ⟨by rfl, rfl⟩
    | false => exact Or.inl ⟨by rfl, by intro w hSw; (try dsimp only at hSw); first | (go_simp; done) | (go_simp; with_reducible rfl)⟩
  (try simp only [Act.put, List.setIfInBounds_toArray, List.set_cons_zero, List.set_cons_succ])
  refine wpAnyH_take (i := 35) (oi := { dst := some 44, op := _, type := _, pos := _, after := _, guard := _ }) (v := .bool (x.oc || y.oc)) rfl (by kernel_rfl) (by kernel_rfl) (by kernel_rfl) (fun _ _ _ h => h) ?_ (by assumption) ?_
  · cases hxk : x.oc with
    | true => exact Or.inl ⟨by rfl, by intro w hSw; (try dsimp only at hSw); first | (go_simp; done) | (go_simp; with_reducible rfl)⟩
    | false => exact Or.inl ⟨by rfl, by intro w hSw; (try dsimp only at hSw); first | (go_simp; done) | (go_simp; with_reducible rfl)⟩
  (try simp only [Act.put, List.setIfInBounds_toArray, List.set_cons_zero, List.set_cons_succ])
  refine wpAnyH_take (i := 36) (oi := { dst := some 45, op := _, type := _, pos := _, after := _, guard := _ }) (v := ?_) rfl (by kernel_rfl) (by kernel_rfl) (by kernel_rfl) (fun _ _ _ h => h) (Or.inl ⟨by rfl, ?_⟩) (by assumption) ?_
  rotate_left
  focus (intro w hSw; (try dsimp only at hSw); first | (go_simp; done) | (go_simp; with_reducible rfl))
  (try simp only [Act.put, List.setIfInBounds_toArray, List.set_cons_zero, List.set_cons_succ])
  refine wpAnyH_take (i := 37) (oi := { dst := some 46, op := _, type := _, pos := _, after := _, guard := _ }) (v := ?_) rfl (by kernel_rfl) (by kernel_rfl) (by kernel_rfl) (fun _ _ _ h => h) (Or.inl ⟨by rfl, ?_⟩) (by assumption) ?_
  rotate_left
  focus (intro w hSw; (try dsimp only at hSw); first | (go_simp; done) | (go_simp; with_reducible rfl))
  (try simp only [Act.put, List.setIfInBounds_toArray, List.set_cons_zero, List.set_cons_succ])
  refine wpAnyH_take (i := 38) (oi := { dst := some 47, op := _, type := _, pos := _, after := _, guard := _ }) (v := ?_) rfl (by kernel_rfl) (by kernel_rfl) (by kernel_rfl) (fun _ _ _ h => h) (Or.inl ⟨by rfl, ?_⟩) (by assumption) ?_
  rotate_left
  focus (intro w hSw; (try dsimp only at hSw); first | (go_simp; done) | (go_simp; with_reducible rfl))
  (try simp only [Act.put, List.setIfInBounds_toArray, List.set_cons_zero, List.set_cons_succ])
  refine wpAnyH_take (i := 39) (oi := { dst := some 48, op := _, type := _, pos := _, after := _, guard := _ }) (v := ?_) rfl (by kernel_rfl) (by kernel_rfl) (by kernel_rfl) (fun _ _ _ h => h) (Or.inl ⟨by rfl, ?_⟩) (by assumption) ?_
  rotate_left
  focus (intro w hSw; (try dsimp only at hSw); first | (go_simp; done) | (go_simp; with_reducible rfl))
  (try simp only [Act.put, List.setIfInBounds_toArray, List.set_cons_zero, List.set_cons_succ])
  refine wpAnyH_take (i := 41) (oi := { dst := some 50, op := _, type := _, pos := _, after := _, guard := _ }) (v := ?_) rfl (by kernel_rfl) (by kernel_rfl) (by kernel_rfl) (fun _ _ _ h => h) (Or.inl ⟨by rfl, ?_⟩) (by assumption) ?_
  rotate_left
  focus (intro w hSw; (try dsimp only at hSw); first | (go_simp; done) | (go_simp; with_reducible rfl))
  (try simp only [Act.put, List.setIfInBounds_toArray, List.set_cons_zero, List.set_cons_succ])
  refine wpAnyH_take (i := 42) (oi := { dst := some 51, op := _, type := _, pos := _, after := _, guard := _ }) (v := ?_) rfl (by kernel_rfl) (by kernel_rfl) (by kernel_rfl) (fun _ _ _ h => h) (Or.inl ⟨by rfl, ?_⟩) (by assumption) ?_
  rotate_left
  focus (intro w hSw; (try dsimp only at hSw); first | (go_simp; done) | (go_simp; with_reducible rfl))
  (try simp only [Act.put, List.setIfInBounds_toArray, List.set_cons_zero, List.set_cons_succ])
  refine wpAnyH_take (i := 43) (oi := { dst := some 52, op := _, type := _, pos := _, after := _, guard := _ }) (v := ?_) rfl (by kernel_rfl) (by kernel_rfl) (by kernel_rfl) (fun _ _ _ h => h) (Or.inl ⟨by rfl, ?_⟩) (by assumption) ?_
  rotate_left
  focus (intro w hSw; (try dsimp only at hSw); first | (go_simp; done) | (go_simp; with_reducible rfl))
  (try simp only [Act.put, List.setIfInBounds_toArray, List.set_cons_zero, List.set_cons_succ])
  refine wpAnyH_take (i := 44) (oi := { dst := some 53, op := _, type := _, pos := _, after := _, guard := _ }) (v := ?_) rfl (by kernel_rfl) (by kernel_rfl) (by kernel_rfl) (fun _ _ _ h => h) (Or.inl ⟨by rfl, ?_⟩) (by assumption) ?_
  rotate_left
  focus (intro w hSw; (try dsimp only at hSw); first | (go_simp; done) | (go_simp; with_reducible rfl))
  (try simp only [Act.put, List.setIfInBounds_toArray, List.set_cons_zero, List.set_cons_succ])
  refine wpAnyH_take (i := 46) (oi := { dst := some 55, op := _, type := _, pos := _, after := _, guard := _ }) (v := ?_) rfl (by kernel_rfl) (by kernel_rfl) (by kernel_rfl) (fun _ _ _ h => h) (Or.inl ⟨by rfl, ?_⟩) (by assumption) ?_
  rotate_left
  focus (intro w hSw; (try dsimp only at hSw); first | (go_simp; done) | (go_simp; with_reducible rfl))
  (try simp only [Act.put, List.setIfInBounds_toArray, List.set_cons_zero, List.set_cons_succ])
  refine wpAnyH_take (i := 47) (oi := { dst := some 56, op := _, type := _, pos := _, after := _, guard := _ }) (v := ?_) rfl (by kernel_rfl) (by kernel_rfl) (by kernel_rfl) (fun _ _ _ h => h) (Or.inl ⟨by rfl, ?_⟩) (by assumption) ?_
  rotate_left
  focus (intro w hSw; (try dsimp only at hSw); first | (go_simp; done) | (go_simp; with_reducible rfl))
  (try simp only [Act.put, List.setIfInBounds_toArray, List.set_cons_zero, List.set_cons_succ])
  refine wpAnyH_take (i := 48) (oi := { dst := some 57, op := _, type := _, pos := _, after := _, guard := _ }) (v := ?_) rfl (by kernel_rfl) (by kernel_rfl) (by kernel_rfl) (fun _ _ _ h => h) (Or.inl ⟨by rfl, ?_⟩) (by assumption) ?_
  rotate_left
  focus (intro w hSw; (try dsimp only at hSw); first | (go_simp; done) | (go_simp; with_reducible rfl))
  (try simp only [Act.put, List.setIfInBounds_toArray, List.set_cons_zero, List.set_cons_succ])
  refine wpAnyH_take (i := 49) (oi := { dst := some 58, op := _, type := _, pos := _, after := _, guard := _ }) (v := ?_) rfl (by kernel_rfl) (by kernel_rfl) (by kernel_rfl) (fun _ _ _ h => h) (Or.inl ⟨by rfl, ?_⟩) (by assumption) ?_
  rotate_left
  focus (intro w hSw; (try dsimp only at hSw); first | (go_simp; done) | (go_simp; with_reducible rfl))
  (try simp only [Act.put, List.setIfInBounds_toArray, List.set_cons_zero, List.set_cons_succ])
  refine wpAnyH_take (i := 50) (oi := { dst := some 59, op := _, type := _, pos := _, after := _, guard := _ }) (v := ?_) rfl (by kernel_rfl) (by kernel_rfl) (by kernel_rfl) (fun _ _ _ h => h) (Or.inl ⟨by rfl, ?_⟩) (by assumption) ?_
  rotate_left
  focus (intro w hSw; (try dsimp only at hSw); first | (go_simp; done) | (go_simp; with_reducible rfl))
  (try simp only [Act.put, List.setIfInBounds_toArray, List.set_cons_zero, List.set_cons_succ])
  refine wpAnyH_take (i := 51) (oi := { dst := some 60, op := _, type := _, pos := _, after := _, guard := _ }) (v := ?_) rfl (by kernel_rfl) (by kernel_rfl) (by kernel_rfl) (fun _ _ _ h => h) (Or.inl ⟨by rfl, ?_⟩) (by assumption) ?_
  rotate_left
  focus (intro w hSw; (try dsimp only at hSw); first | (go_simp; done) | (go_simp; with_reducible rfl))
  (try simp only [Act.put, List.setIfInBounds_toArray, List.set_cons_zero, List.set_cons_succ])
  refine wpAnyH_take (i := 52) (oi := { dst := some 61, op := _, type := _, pos := _, after := _, guard := _ }) (v := ?_) rfl (by kernel_rfl) (by kernel_rfl) (by kernel_rfl) (fun _ _ _ h => h) (Or.inl ⟨by rfl, ?_⟩) (by assumption) ?_
  rotate_left
  focus (intro w hSw; (try dsimp only at hSw); first | (go_simp; done) | (go_simp; with_reducible rfl))
  (try simp only [Act.put, List.setIfInBounds_toArray, List.set_cons_zero, List.set_cons_succ])
  refine wpAnyH_take (i := 53) (oi := { dst := some 62, op := _, type := _, pos := _, after := _, guard := _ }) (v := ?_) rfl (by kernel_rfl) (by kernel_rfl) (by kernel_rfl) (fun _ _ _ h => h) (Or.inl ⟨by rfl, ?_⟩) (by assumption) ?_
  rotate_left
  focus (intro w hSw; (try dsimp only at hSw); first | (go_simp; done) | (go_simp; with_reducible rfl))
  (try simp only [Act.put, List.setIfInBounds_toArray, List.set_cons_zero, List.set_cons_succ])
  refine wpAnyH_take (i := 54) (oi := { dst := some 63, op := _, type := _, pos := _, after := _, guard := _ }) (v := ?_) rfl (by kernel_rfl) (by kernel_rfl) (by kernel_rfl) (fun _ _ _ h => h) (Or.inl ⟨by rfl, ?_⟩) (by assumption) ?_
  rotate_left
  focus (intro w hSw; (try dsimp only at hSw); first | (go_simp; done) | (go_simp; with_reducible rfl))
  (try simp only [Act.put, List.setIfInBounds_toArray, List.set_cons_zero, List.set_cons_succ])
  refine wpAnyH_take (i := 55) (oi := { dst := some 64, op := _, type := _, pos := _, after := _, guard := _ }) (v := ?_) rfl (by kernel_rfl) (by kernel_rfl) (by kernel_rfl) (fun _ _ _ h => h) (Or.inl ⟨by rfl, ?_⟩) (by assumption) ?_
  rotate_left
  focus (intro w hSw; (try dsimp only at hSw); first | (go_simp; done) | (go_simp; with_reducible rfl))
  (try simp only [Act.put, List.setIfInBounds_toArray, List.set_cons_zero, List.set_cons_succ])
  refine wpAnyH_take (i := 56) (oi := { dst := some 65, op := _, type := _, pos := _, after := _, guard := _ }) (v := ?_) rfl (by kernel_rfl) (by kernel_rfl) (by kernel_rfl) (fun _ _ _ h => h) (Or.inl ⟨by rfl, ?_⟩) (by assumption) ?_
  rotate_left
  focus (intro w hSw; (try dsimp only at hSw); first | (go_simp; done) | (go_simp; with_reducible rfl))
  (try simp only [Act.put, List.setIfInBounds_toArray, List.set_cons_zero, List.set_cons_succ])
  refine wpAnyH_take (i := 57) (oi := { dst := some 66, op := _, type := _, pos := _, after := _, guard := _ }) (v := ?_) rfl (by kernel_rfl) (by kernel_rfl) (by kernel_rfl) (fun _ _ _ h => h) (Or.inl ⟨by rfl, ?_⟩) (by assumption) ?_
  rotate_left
  focus (intro w hSw; (try dsimp only at hSw); first | (go_simp; done) | (go_simp; with_reducible rfl))
  (try simp only [Act.put, List.setIfInBounds_toArray, List.set_cons_zero, List.set_cons_succ])
  refine wpAnyH_take (i := 58) (oi := { dst := some 67, op := _, type := _, pos := _, after := _, guard := _ }) (v := ?_) rfl (by kernel_rfl) (by kernel_rfl) (by kernel_rfl) (fun _ _ _ h => h) (Or.inl ⟨by rfl, ?_⟩) (by assumption) ?_
  rotate_left
  focus (intro w hSw; (try dsimp only at hSw); first | (go_simp; done) | (go_simp; with_reducible rfl))
  (try simp only [Act.put, List.setIfInBounds_toArray, List.set_cons_zero, List.set_cons_succ])
  refine wpAnyH_take (i := 59) (oi := { dst := some 68, op := _, type := _, pos := _, after := _, guard := _ }) (v := ?_) rfl (by kernel_rfl) (by kernel_rfl) (by kernel_rfl) (fun _ _ _ h => h) (Or.inl ⟨by rfl, ?_⟩) (by assumption) ?_
  rotate_left
  focus (intro w hSw; (try dsimp only at hSw); first | (go_simp; done) | (go_simp; with_reducible rfl))
  (try simp only [Act.put, List.setIfInBounds_toArray, List.set_cons_zero, List.set_cons_succ])
  refine wpAnyH_take (i := 60) (oi := { dst := some 69, op := _, type := _, pos := _, after := _, guard := _ }) (v := ?_) rfl (by kernel_rfl) (by kernel_rfl) (by kernel_rfl) (fun _ _ _ h => h) (Or.inl ⟨by rfl, ?_⟩) (by assumption) ?_
  rotate_left
  focus (intro w hSw; (try dsimp only at hSw); first | (go_simp; done) | (go_simp; with_reducible rfl))
  (try simp only [Act.put, List.setIfInBounds_toArray, List.set_cons_zero, List.set_cons_succ])
  refine wpAnyH_take (i := 61) (oi := { dst := some 70, op := _, type := _, pos := _, after := _, guard := _ }) (v := ?_) rfl (by kernel_rfl) (by kernel_rfl) (by kernel_rfl) (fun _ _ _ h => h) (Or.inl ⟨by rfl, ?_⟩) (by assumption) ?_
  rotate_left
  focus (intro w hSw; (try dsimp only at hSw); first | (go_simp; done) | (go_simp; with_reducible rfl))
  (try simp only [Act.put, List.setIfInBounds_toArray, List.set_cons_zero, List.set_cons_succ])
  refine wpAnyH_take (i := 62) (oi := { dst := some 71, op := _, type := _, pos := _, after := _, guard := _ }) (v := ?_) rfl (by kernel_rfl) (by kernel_rfl) (by kernel_rfl) (fun _ _ _ h => h) (Or.inl ⟨by rfl, ?_⟩) (by assumption) ?_
  rotate_left
  focus (intro w hSw; (try dsimp only at hSw); first | (go_simp; done) | (go_simp; with_reducible rfl))
  (try simp only [Act.put, List.setIfInBounds_toArray, List.set_cons_zero, List.set_cons_succ])
  refine wpAnyH_take (i := 63) (oi := { dst := some 72, op := _, type := _, pos := _, after := _, guard := _ }) (v := ?_) rfl (by kernel_rfl) (by kernel_rfl) (by kernel_rfl) (fun _ _ _ h => h) (Or.inl ⟨by rfl, ?_⟩) (by assumption) ?_
  rotate_left
  focus (intro w hSw; (try dsimp only at hSw); first | (go_simp; done) | (go_simp; with_reducible rfl))
  (try simp only [Act.put, List.setIfInBounds_toArray, List.set_cons_zero, List.set_cons_succ])
  refine wpAnyH_take (i := 64) (oi := { dst := some 73, op := _, type := _, pos := _, after := _, guard := _ }) (v := ?_) rfl (by kernel_rfl) (by kernel_rfl) (by kernel_rfl) (fun _ _ _ h => h) (Or.inl ⟨by rfl, ?_⟩) (by assumption) ?_
  rotate_left
  focus (intro w hSw; (try dsimp only at hSw); first | (go_simp; done) | (go_simp; with_reducible rfl))
  (try simp only [Act.put, List.setIfInBounds_toArray, List.set_cons_zero, List.set_cons_succ])
  refine wpAnyH_take (i := 65) (oi := { dst := some 74, op := _, type := _, pos := _, after := _, guard := _ }) (v := ?_) rfl (by kernel_rfl) (by kernel_rfl) (by kernel_rfl) (fun _ _ _ h => h) (Or.inl ⟨by rfl, ?_⟩) (by assumption) ?_
  rotate_left
  focus (intro w hSw; (try dsimp only at hSw); first | (go_simp; done) | (go_simp; with_reducible rfl))
  (try simp only [Act.put, List.setIfInBounds_toArray, List.set_cons_zero, List.set_cons_succ])
  refine wpAnyH_ready (rs := [40]) (by kernel_rfl) (by simp) ?_
  refine AllReadyH.cons (o := { dst := some 49, op := _, type := _, pos := _, after := _, guard := _ }) rfl (fun K hK => ?_) AllReadyH.nil
  go_simp
  refine (least_any x.ma y.ma _ ⟨by have := HNx.out.ma; omega, by have := HNx.out.ma; omega⟩ ⟨by have := HNy.out.ma; omega, by have := HNy.out.ma; omega⟩).mono ?_
  rintro en w' ⟨rfl, rfl⟩
  refine hK.out _ _ (meS_all hS5) (fun _ => ?_)
  clear hK K
  (try simp only [Act.put, List.setIfInBounds_toArray, List.set_cons_zero, List.set_cons_succ])
  refine wpAnyH_ready (rs := [45]) (by kernel_rfl) (by simp) ?_
  refine AllReadyH.cons (o := { dst := some 54, op := _, type := _, pos := _, after := _, guard := _ }) rfl (fun K hK => ?_) AllReadyH.nil
  go_simp
  refine (least_any x.sa y.sa _ ⟨by have := HNx.out.sa; omega, by have := HNx.out.sa; omega⟩ ⟨by have := HNy.out.sa; omega, by have := HNy.out.sa; omega⟩).mono ?_
  rintro en w' ⟨rfl, rfl⟩
  refine hK.out _ _ (meS_all hS5) (fun _ => ?_)
  clear hK K
  (try simp only [Act.put, List.setIfInBounds_toArray, List.set_cons_zero, List.set_cons_succ])
  refine wpAnyH_take (i := 66) (oi := { dst := some 75, op := _, type := _, pos := _, after := _, guard := _ }) (v := ?_) rfl (by kernel_rfl) (by kernel_rfl) (by kernel_rfl) (fun _ _ _ h => h) (Or.inl ⟨by rfl, ?_⟩) (by assumption) ?_
  rotate_left
  focus (intro w hSw; (try dsimp only at hSw); first | (go_simp; done) | (go_simp; with_reducible rfl))
  (try simp only [Act.put, List.setIfInBounds_toArray, List.set_cons_zero, List.set_cons_succ])
  have HB5 := Lib.hid hS5.l
  obtain ⟨z, c0, c1, c2, c3, c4, c5, c6, c7, c8, c9, c10, c11, fr, lt⟩ := hS5.r
  refine wpAnyH_ready (rs := [67]) (by kernel_rfl) (by simp) ?_
  refine AllReadyH.cons (o := { dst := none, op := _, type := _, pos := _, after := _, guard := _ }) rfl (fun K hK => ?_) AllReadyH.nil
  go_simp
  have hS6 := MeS.setR hS5 (by omega) (by omega) (by omega) (merN x y)
  refine hK.out _ _ (meS_all hS6) (fun _ => ?_)
  clear hK K
  (try simp only [Act.put, List.setIfInBounds_toArray, List.set_cons_zero, List.set_cons_succ])
  refine wpAnyH_done (by kernel_rfl) ?_ _
  (try simp only [Exit.then])
  (try go_wp2_with fail)
  refine bodyPost_ret (v := dvV (merN x y)) (by simp [results, Tryz.results30, go_sem, c0, c1, c2, c3, c4, c5, c6, c7, c8, c9, c10, c11, merN]) rfl ?_
  exact ⟨by rw [HMD.out], below_dv HB5.out (by omega) _ _ _ _ _ _ _ _ _ _ _ _⟩
end Go.Proofs.YtieolalohindgaaGreatDoor

/- What Judge, OnError and Limit return. -/
namespace Go.Proofs.YtieolalohindgaaGreatDoor
open Go.RowKit

/-- The three blocks of Judge: the stored response, the request, the terms. -/
structure JgS (N M R : Nat) (st : Int) (fv : Value) (s r a : Int) (b : Bool) (q d : Dv) (x y z : Int) (w w' : World) : Prop where
  a : StB N w' st fv s r a b
  b : DvB M w' q
  c : TeB R w' d x y z
  l : Below w.heap.size w w'
theorem JgS.below {N M R : Nat} {st : Int} {fv : Value} {s r a : Int} {b : Bool} {q d : Dv} {x y z : Int} {w w1 w2 : World} (h : JgS N M R st fv s r a b q d x y z w w1) (hb : Below w1.heap.size w1 w2) : JgS N M R st fv s r a b q d x y z w w2 :=
  ⟨h.a.below hb, h.b.below hb, h.c.below hb, h.l.trans (hb.mono h.l.size)⟩
theorem retI {x y : Int} (h : y = x) : Ending.returned (.int .i64 x) = .returned (.int .i64 y) := by rw [h]
set_option maxHeartbeats 8000000 in
set_option maxRecDepth 100000 in
theorem judge_any (st : Int) (fv : Value) (ps : Flds) (s r a : Int) (b : Bool) (q : Dv) (n p : Int) (dd de dl : Option Nat) (w : World) (hr : ReadsQ w fv ps) (hq : FitD q) (hf : FldP ps dd de dl) (hE : EnvL w) :
    Calls Tryz.prog 12 #[stV st fv s r a b, dvV q, .int .i64 n, .int .i64 p] w fun e w' => e = .returned (.int .i64 (jdgV (okA s r n) (parseD (allL ps nCC)) (normD q) (lifV st ps dd de dl) (whiV ps) (topA s a n p) b)) ∧ Below w.heap.size w w' := by
  have HT := Lib.hid (fun (w : World) (hr : ReadsQ w fv ps) (hE : EnvL w) => terms_any st fv ps s r a b dd de dl w hr hf hE)
  have HM := Lib.hid (fun (w : World) => merge_any q q w hq hq)
  rw [merge_same] at HM
  have hQ := nor_norm q
  have HA := Lib.hid (fun (w : World) => at_any s r a n p w)
  have hX := lifV_bd hf st
  have hY := whiV_bd ps
  have htop := fun h => (top_bd (s := s) (r := r) (a := a) (n := n) (p := p) h).2.2
  have HE := Lib.hid hE
  have HR := Lib.hid hr
  generalize lifV st ps dd de dl = X at *
  generalize whiV ps = Y at *
  generalize oneV ps = Z at *
  generalize parseD (allL ps nCC) = D at *
  generalize hV : jdgV (okA s r n) D (normD q) X Y (topA s a n p) b = V
  generalize normD q = Q at *
  clear hr hf hE hq
  have HB := Lib.hid ((below_new w (.cells (stC st fv s r a b) 38)).alloc (by simp) (.cells (dvC q) 40))
  have HS := Lib.hid ((StB.new w st fv s r a b 38).below (below_new _ (.cells (dvC q) 40)))
  have hD := dvB_new (w.alloc (.cells (stC st fv s r a b) 38)) q 40
  have e1 : (w.alloc (.cells (stC st fv s r a b) 38)).heap.size = w.heap.size + 1 := by simp
  rw [e1] at hD
  have HD := Lib.hid hD
  clear e1 hD
  cases hok : okA s r n with
  | true =>
    rw [atV_yes hok] at HA
    rw [hok] at hV
    have htop := htop hok
    clear hok
    generalize topA s a n p = U at *
    generalize lowA r n p = L at *
    go_enter Tryz.func12, Tryz.ntmps12
    go_upto_region 1 with fail
    change Code.wp _ _ _ _ ((w.alloc (.cells (stC st fv s r a b) 38)).alloc (.cells (dvC q) 40))
    generalize ((w.alloc (.cells (stC st fv s r a b) 38)).alloc (.cells (dvC q) 40)) = W at *
    obtain ⟨c0, c1, c2, c3, c4, c5, c6, c7, c8, c9, c10, c11, fr, lt⟩ := HD.out
    go_wp2_with fail
    refine (HM.out _).mono ?_
    rintro e w1 ⟨rfl, hB1⟩
    have HB1 := Lib.hid (HB.out.trans (hB1.mono HB.out.size))
    have HS1 := Lib.hid (HS.out.below hB1)
    have HD1 := Lib.hid (HD.out.below hB1)
    clear c0 c1 c2 c3 c4 c5 c6 c7 c8 c9 c10 c11 fr lt hB1 HB HS HD
    obtain ⟨c0, c1, c2, c3, c4, c5, c6, c7, c8, c9, c10, c11, fr, lt⟩ := HD1.out
    go_upto_region 2 with fail
    have HD2 := Lib.hid (HD1.out.set Q)
    have HS2 := Lib.hid (HS1.out.only (X := (· = w.heap.size + 1)) (((((((((((((Only.refl (· = w.heap.size + 1) w1).trans' (Only.set (X := (· = w.heap.size + 1)) rfl _ 0 (.bool Q.ns))).trans' (Only.set (X := (· = w.heap.size + 1)) rfl _ 1 (.bool Q.nc))).trans' (Only.set (X := (· = w.heap.size + 1)) rfl _ 2 (.bool Q.pr))).trans' (Only.set (X := (· = w.heap.size + 1)) rfl _ 3 (.bool Q.pu))).trans' (Only.set (X := (· = w.heap.size + 1)) rfl _ 4 (.bool Q.mr))).trans' (Only.set (X := (· = w.heap.size + 1)) rfl _ 5 (.bool Q.oc))).trans' (Only.set (X := (· = w.heap.size + 1)) rfl _ 6 (.int .i64 Q.ma))).trans' (Only.set (X := (· = w.heap.size + 1)) rfl _ 7 (.int .i64 Q.sa))).trans' (Only.set (X := (· = w.heap.size + 1)) rfl _ 8 (.int .i64 Q.ws))).trans' (Only.set (X := (· = w.heap.size + 1)) rfl _ 9 (.int .i64 Q.oe))).trans' (Only.set (X := (· = w.heap.size + 1)) rfl _ 10 (.int .i64 Q.ms))).trans' (Only.set (X := (· = w.heap.size + 1)) rfl _ 11 (.int .i64 Q.mf))) (by omega))
    have HB2 := Lib.hid (below_dv HB1.out (Nat.le_succ _) (.bool Q.ns) (.bool Q.nc) (.bool Q.pr) (.bool Q.pu) (.bool Q.mr) (.bool Q.oc) (.int .i64 Q.ma) (.int .i64 Q.sa) (.int .i64 Q.ws) (.int .i64 Q.oe) (.int .i64 Q.ms) (.int .i64 Q.mf))
    clear c0 c1 c2 c3 c4 c5 c6 c7 c8 c9 c10 c11 fr lt HD1 HS1 HB1
    generalize (((((((((((((w1).setCell ⟨w.heap.size + 1, 0, none⟩ (.bool Q.ns)).setCell ⟨w.heap.size + 1, 1, none⟩ (.bool Q.nc)).setCell ⟨w.heap.size + 1, 2, none⟩ (.bool Q.pr)).setCell ⟨w.heap.size + 1, 3, none⟩ (.bool Q.pu)).setCell ⟨w.heap.size + 1, 4, none⟩ (.bool Q.mr)).setCell ⟨w.heap.size + 1, 5, none⟩ (.bool Q.oc)).setCell ⟨w.heap.size + 1, 6, none⟩ (.int .i64 Q.ma)).setCell ⟨w.heap.size + 1, 7, none⟩ (.int .i64 Q.sa)).setCell ⟨w.heap.size + 1, 8, none⟩ (.int .i64 Q.ws)).setCell ⟨w.heap.size + 1, 9, none⟩ (.int .i64 Q.oe)).setCell ⟨w.heap.size + 1, 10, none⟩ (.int .i64 Q.ms)).setCell ⟨w.heap.size + 1, 11, none⟩ (.int .i64 Q.mf)) = W2 at *
    obtain ⟨c0, c1, c2, c3, c4, c5, fr, lt⟩ := HS2.out
    go_wp2_with fail
    refine (HT.out _ (HR.out.below HB2.out) (HE.out.below HB2.out)).mono ?_
    rintro e w3 ⟨rfl, hB3⟩
    have HJ := Lib.hid (JgS.mk (N := w.heap.size) (M := w.heap.size + 1) (R := w3.heap.size) ((HS2.out.below hB3).below (below_new w3 (.cells (teC D X Y Z) 75))) ((HD2.out.below hB3).below (below_new w3 _)) (TeB.new w3 D X Y Z 75) ((HB2.out.trans (hB3.mono HB2.out.size)).alloc (HB2.out.trans (hB3.mono HB2.out.size)).size _))
    clear c0 c1 c2 c3 c4 c5 fr lt hB3 HS2 HD2 HB2
    go_upto_region 3 with fail
    change Code.wp _ _ _ _ (w3.alloc (.cells (teC D X Y Z) 75))
    generalize w3.heap.size = R at *
    generalize (w3.alloc (.cells (teC D X Y Z) 75)) = W3 at *
    obtain ⟨c0, c1, c2, c3, c4, c5, fr, lt⟩ := HJ.out.a
    go_wp2_with fail
    refine (HA.out _).mono ?_
    rintro e w4 ⟨rfl, hG4⟩
    have HJ4 := Lib.hid (HJ.out.below hG4.below)
    clear c0 c1 c2 c3 c4 c5 fr lt hG4 HJ
    have HF := Lib.hid (fun w => freshEnough_any D Q X Y Z U w hQ htop)
    have HG := Lib.hid (fun w => refresh_any D Q X Y Z U w hQ hX hY)
    have HH := Lib.hid (fun w => mayStale_any D Q X Y Z U w hQ htop hX)
    generalize hf : freB Q X U = f at HF
    generalize hg : refB Q X Y U = g at HG
    generalize hh : staB D Q X U = h at HH
    cases hn : D.nc with
    | true =>
      have a1 := HJ4.out.c.c1
      rw [hn] at a1
      rw [jdg_not (by unfold useB; rw [hn]; rfl)] at hV
      cases b with
      | true =>
        have hv : V = 4 := by rw [← hV]; rfl
        have c3 := HJ4.out.a.c5
        clear hV
        go_wp2_with fail
        go_ret
        exact ⟨retI hv, HJ4.out.l⟩
      | false =>
        have hv : V = 5 := by rw [← hV]; rfl
        have c3 := HJ4.out.a.c5
        clear hV
        go_wp2_with fail
        go_ret
        exact ⟨retI hv, HJ4.out.l⟩
    | false =>
      cases hm : Q.nc with
      | true =>
        have a1 := HJ4.out.c.c1
        rw [hn] at a1
        have b1 := HJ4.out.b.c1
        rw [hm] at b1
        rw [jdg_not (by unfold useB; rw [hn, hm]; rfl)] at hV
        cases b with
        | true =>
          have hv : V = 4 := by rw [← hV]; rfl
          have c3 := HJ4.out.a.c5
          clear hV
          go_wp2_with fail
          go_ret
          exact ⟨retI hv, HJ4.out.l⟩
        | false =>
          have hv : V = 5 := by rw [← hV]; rfl
          have c3 := HJ4.out.a.c5
          clear hV
          go_wp2_with fail
          go_ret
          exact ⟨retI hv, HJ4.out.l⟩
      | false =>
        have a1 := HJ4.out.c.c1
        rw [hn] at a1
        have b1 := HJ4.out.b.c1
        rw [hm] at b1
        go_upto_region 5 with fail
        clear a1 b1
        have HN := Lib.hid hn
        have HMm := Lib.hid hm
        clear hn hm
        obtain ⟨a0, a1, a2, a3, a4, a5, a6, a7, a8, a9, a10, a11, a12, a13, a14, _, _⟩ := HJ4.out.c
        obtain ⟨b0, b1, b2, b3, b4, b5, b6, b7, b8, b9, b10, b11, _, _⟩ := HJ4.out.b
        go_wp2_with fail
        refine (HF.out _).mono ?_
        rintro e w5 ⟨rfl, hB5⟩
        have HJ5 := Lib.hid (HJ4.out.below hB5)
        clear a0 a1 a2 a3 a4 a5 a6 a7 a8 a9 a10 a11 a12 a13 a14 b0 b1 b2 b3 b4 b5 b6 b7 b8 b9 b10 b11 hB5 HJ4
        cases f with
        | true =>
          have hv : V = 1 := by rw [← hV]; unfold jdgV useB; rw [HN.out, HMm.out, hf]; rfl
          clear hV
          go_wp2_with fail
          go_ret
          exact ⟨retI hv, HJ5.out.l⟩
        | false =>
          obtain ⟨a0, a1, a2, a3, a4, a5, a6, a7, a8, a9, a10, a11, a12, a13, a14, _, _⟩ := HJ5.out.c
          obtain ⟨b0, b1, b2, b3, b4, b5, b6, b7, b8, b9, b10, b11, _, _⟩ := HJ5.out.b
          go_wp2_with fail
          refine (HG.out _).mono ?_
          rintro e w6 ⟨rfl, hB6⟩
          have HJ6 := Lib.hid (HJ5.out.below hB6)
          clear a0 a1 a2 a3 a4 a5 a6 a7 a8 a9 a10 a11 a12 a13 a14 b0 b1 b2 b3 b4 b5 b6 b7 b8 b9 b10 b11 hB6 HJ5
          cases g with
          | true =>
            have hv : V = 2 := by rw [← hV]; unfold jdgV useB; rw [HN.out, HMm.out, hf, hg]; rfl
            clear hV
            go_wp2_with fail
            go_ret
            exact ⟨retI hv, HJ6.out.l⟩
          | false =>
            obtain ⟨a0, a1, a2, a3, a4, a5, a6, a7, a8, a9, a10, a11, a12, a13, a14, _, _⟩ := HJ6.out.c
            obtain ⟨b0, b1, b2, b3, b4, b5, b6, b7, b8, b9, b10, b11, _, _⟩ := HJ6.out.b
            go_wp2_with fail
            refine (HH.out _).mono ?_
            rintro e w7 ⟨rfl, hB7⟩
            have HJ7 := Lib.hid (HJ6.out.below hB7)
            clear a0 a1 a2 a3 a4 a5 a6 a7 a8 a9 a10 a11 a12 a13 a14 b0 b1 b2 b3 b4 b5 b6 b7 b8 b9 b10 b11 hB7 HJ6
            cases h with
            | true =>
              have hv : V = 3 := by rw [← hV]; unfold jdgV useB; rw [HN.out, HMm.out, hf, hg, hh]; rfl
              clear hV
              go_wp2_with fail
              go_ret
              exact ⟨retI hv, HJ7.out.l⟩
            | false =>
              have hV : (if b = true then 4 else 5) = V := by rw [← hV]; unfold jdgV useB; rw [HN.out, HMm.out, hf, hg, hh]; rfl
              cases b with
              | true =>
                have hv : V = 4 := by rw [← hV]; rfl
                have c3 := HJ7.out.a.c5
                clear hV
                go_wp2_with fail
                go_ret
                exact ⟨retI hv, HJ7.out.l⟩
              | false =>
                have hv : V = 5 := by rw [← hV]; rfl
                have c3 := HJ7.out.a.c5
                clear hV
                go_wp2_with fail
                go_ret
                exact ⟨retI hv, HJ7.out.l⟩
  | false =>
    rw [atV_no hok] at HA
    rw [hok] at hV
    clear hok htop
    go_enter Tryz.func12, Tryz.ntmps12
    go_upto_region 1 with fail
    change Code.wp _ _ _ _ ((w.alloc (.cells (stC st fv s r a b) 38)).alloc (.cells (dvC q) 40))
    generalize ((w.alloc (.cells (stC st fv s r a b) 38)).alloc (.cells (dvC q) 40)) = W at *
    obtain ⟨c0, c1, c2, c3, c4, c5, c6, c7, c8, c9, c10, c11, fr, lt⟩ := HD.out
    go_wp2_with fail
    refine (HM.out _).mono ?_
    rintro e w1 ⟨rfl, hB1⟩
    have HB1 := Lib.hid (HB.out.trans (hB1.mono HB.out.size))
    have HS1 := Lib.hid (HS.out.below hB1)
    have HD1 := Lib.hid (HD.out.below hB1)
    clear c0 c1 c2 c3 c4 c5 c6 c7 c8 c9 c10 c11 fr lt hB1 HB HS HD
    obtain ⟨c0, c1, c2, c3, c4, c5, c6, c7, c8, c9, c10, c11, fr, lt⟩ := HD1.out
    go_upto_region 2 with fail
    have HD2 := Lib.hid (HD1.out.set Q)
    have HS2 := Lib.hid (HS1.out.only (X := (· = w.heap.size + 1)) (((((((((((((Only.refl (· = w.heap.size + 1) w1).trans' (Only.set (X := (· = w.heap.size + 1)) rfl _ 0 (.bool Q.ns))).trans' (Only.set (X := (· = w.heap.size + 1)) rfl _ 1 (.bool Q.nc))).trans' (Only.set (X := (· = w.heap.size + 1)) rfl _ 2 (.bool Q.pr))).trans' (Only.set (X := (· = w.heap.size + 1)) rfl _ 3 (.bool Q.pu))).trans' (Only.set (X := (· = w.heap.size + 1)) rfl _ 4 (.bool Q.mr))).trans' (Only.set (X := (· = w.heap.size + 1)) rfl _ 5 (.bool Q.oc))).trans' (Only.set (X := (· = w.heap.size + 1)) rfl _ 6 (.int .i64 Q.ma))).trans' (Only.set (X := (· = w.heap.size + 1)) rfl _ 7 (.int .i64 Q.sa))).trans' (Only.set (X := (· = w.heap.size + 1)) rfl _ 8 (.int .i64 Q.ws))).trans' (Only.set (X := (· = w.heap.size + 1)) rfl _ 9 (.int .i64 Q.oe))).trans' (Only.set (X := (· = w.heap.size + 1)) rfl _ 10 (.int .i64 Q.ms))).trans' (Only.set (X := (· = w.heap.size + 1)) rfl _ 11 (.int .i64 Q.mf))) (by omega))
    have HB2 := Lib.hid (below_dv HB1.out (Nat.le_succ _) (.bool Q.ns) (.bool Q.nc) (.bool Q.pr) (.bool Q.pu) (.bool Q.mr) (.bool Q.oc) (.int .i64 Q.ma) (.int .i64 Q.sa) (.int .i64 Q.ws) (.int .i64 Q.oe) (.int .i64 Q.ms) (.int .i64 Q.mf))
    clear c0 c1 c2 c3 c4 c5 c6 c7 c8 c9 c10 c11 fr lt HD1 HS1 HB1
    generalize (((((((((((((w1).setCell ⟨w.heap.size + 1, 0, none⟩ (.bool Q.ns)).setCell ⟨w.heap.size + 1, 1, none⟩ (.bool Q.nc)).setCell ⟨w.heap.size + 1, 2, none⟩ (.bool Q.pr)).setCell ⟨w.heap.size + 1, 3, none⟩ (.bool Q.pu)).setCell ⟨w.heap.size + 1, 4, none⟩ (.bool Q.mr)).setCell ⟨w.heap.size + 1, 5, none⟩ (.bool Q.oc)).setCell ⟨w.heap.size + 1, 6, none⟩ (.int .i64 Q.ma)).setCell ⟨w.heap.size + 1, 7, none⟩ (.int .i64 Q.sa)).setCell ⟨w.heap.size + 1, 8, none⟩ (.int .i64 Q.ws)).setCell ⟨w.heap.size + 1, 9, none⟩ (.int .i64 Q.oe)).setCell ⟨w.heap.size + 1, 10, none⟩ (.int .i64 Q.ms)).setCell ⟨w.heap.size + 1, 11, none⟩ (.int .i64 Q.mf)) = W2 at *
    obtain ⟨c0, c1, c2, c3, c4, c5, fr, lt⟩ := HS2.out
    go_wp2_with fail
    refine (HT.out _ (HR.out.below HB2.out) (HE.out.below HB2.out)).mono ?_
    rintro e w3 ⟨rfl, hB3⟩
    have HJ := Lib.hid (JgS.mk (N := w.heap.size) (M := w.heap.size + 1) (R := w3.heap.size) ((HS2.out.below hB3).below (below_new w3 (.cells (teC D X Y Z) 75))) ((HD2.out.below hB3).below (below_new w3 _)) (TeB.new w3 D X Y Z 75) ((HB2.out.trans (hB3.mono HB2.out.size)).alloc (HB2.out.trans (hB3.mono HB2.out.size)).size _))
    clear c0 c1 c2 c3 c4 c5 fr lt hB3 HS2 HD2 HB2
    go_upto_region 3 with fail
    change Code.wp _ _ _ _ (w3.alloc (.cells (teC D X Y Z) 75))
    generalize w3.heap.size = R at *
    generalize (w3.alloc (.cells (teC D X Y Z) 75)) = W3 at *
    obtain ⟨c0, c1, c2, c3, c4, c5, fr, lt⟩ := HJ.out.a
    go_wp2_with fail
    refine (HA.out _).mono ?_
    rintro e w4 ⟨rfl, hG4⟩
    have HJ4 := Lib.hid (HJ.out.below hG4.below)
    clear c0 c1 c2 c3 c4 c5 fr lt hG4 HJ
    rw [jdg_not (rfl)] at hV
    cases b with
    | true =>
      have hv : V = 4 := by rw [← hV]; rfl
      have c3 := HJ4.out.a.c5
      clear hV
      go_wp2_with fail
      go_ret
      exact ⟨retI hv, HJ4.out.l⟩
    | false =>
      have hv : V = 5 := by rw [← hV]; rfl
      have c3 := HJ4.out.a.c5
      clear hV
      go_wp2_with fail
      go_ret
      exact ⟨retI hv, HJ4.out.l⟩
end Go.Proofs.YtieolalohindgaaGreatDoor
