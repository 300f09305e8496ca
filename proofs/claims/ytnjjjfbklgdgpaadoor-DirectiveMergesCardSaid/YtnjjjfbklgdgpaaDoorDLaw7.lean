/- DirectiveMerges: for every pair of directives the statement's function returns true: the walk. -/
import Derived.Test.YtnjjjfbklgdgpaaDoorDRefMerge
import Derived.Test.YtnjjjfbklgdgpaaDoorDFew
namespace Go.Proofs.YtnjjjfbklgdgpaaDoor
open Go.RowKit

/-- Both directives' cells. -/
structure TwS (N M : Nat) (d e : Dv) (w w' : World) : Prop where
  a : DvB N w' d
  b : DvB M w' e
  l : Below w.heap.size w w'
theorem TwS.below {N M : Nat} {d e : Dv} {w w1 w2 : World} (h : TwS N M d e w w1) (hb : Below w1.heap.size w1 w2) : TwS N M d e w w2 := ⟨h.a.below hb, h.b.below hb, h.l.trans (hb.mono h.l.size)⟩
theorem twS_all {N M : Nat} {d e : Dv} {w w' : World} (h : TwS N M d e w w') : w'.cell? ⟨N, 0, none⟩ = some (.bool d.ns) ∧ w'.cell? ⟨N, 1, none⟩ = some (.bool d.nc) ∧ w'.cell? ⟨N, 2, none⟩ = some (.bool d.pr) ∧ w'.cell? ⟨N, 3, none⟩ = some (.bool d.pu) ∧ w'.cell? ⟨N, 4, none⟩ = some (.bool d.mr) ∧ w'.cell? ⟨N, 5, none⟩ = some (.bool d.oc) ∧ w'.cell? ⟨N, 6, none⟩ = some (.int .i64 d.ma) ∧ w'.cell? ⟨N, 7, none⟩ = some (.int .i64 d.sa) ∧ w'.cell? ⟨N, 8, none⟩ = some (.int .i64 d.ws) ∧ w'.cell? ⟨N, 9, none⟩ = some (.int .i64 d.oe) ∧ w'.cell? ⟨N, 10, none⟩ = some (.int .i64 d.ms) ∧ w'.cell? ⟨N, 11, none⟩ = some (.int .i64 d.mf) ∧ w'.cell? ⟨M, 0, none⟩ = some (.bool e.ns) ∧ w'.cell? ⟨M, 1, none⟩ = some (.bool e.nc) ∧ w'.cell? ⟨M, 2, none⟩ = some (.bool e.pr) ∧ w'.cell? ⟨M, 3, none⟩ = some (.bool e.pu) ∧ w'.cell? ⟨M, 4, none⟩ = some (.bool e.mr) ∧ w'.cell? ⟨M, 5, none⟩ = some (.bool e.oc) ∧ w'.cell? ⟨M, 6, none⟩ = some (.int .i64 e.ma) ∧ w'.cell? ⟨M, 7, none⟩ = some (.int .i64 e.sa) ∧ w'.cell? ⟨M, 8, none⟩ = some (.int .i64 e.ws) ∧ w'.cell? ⟨M, 9, none⟩ = some (.int .i64 e.oe) ∧ w'.cell? ⟨M, 10, none⟩ = some (.int .i64 e.ms) ∧ w'.cell? ⟨M, 11, none⟩ = some (.int .i64 e.mf) ∧ TwS N M d e w w' :=
  ⟨h.a.c0, h.a.c1, h.a.c2, h.a.c3, h.a.c4, h.a.c5, h.a.c6, h.a.c7, h.a.c8, h.a.c9, h.a.c10, h.a.c11, h.b.c0, h.b.c1, h.b.c2, h.b.c3, h.b.c4, h.b.c5, h.b.c6, h.b.c7, h.b.c8, h.b.c9, h.b.c10, h.b.c11, h⟩
set_option maxHeartbeats 16000000 in
set_option maxRecDepth 100000 in
theorem merges_walk (d e : Dv) (w : World) (hM : MaxIs w) (hd : FitD d) (he : FitD e) :
    Calls Tryd.prog 9 #[dvV d, dvV e] w fun en w' => en = .returned (.bool true) ∧ Below w.heap.size w w' := by
  have HM := Lib.hid hM
  have HP := Lib.hid (fun w => merge_any d e w hd he)
  have HR := Lib.hid (fun w => refMerge_any d e w hd he)
  generalize mergeD d e = m at *
  have HB := Lib.hid ((below_new w (.cells (dvC d) 26)).alloc (by simp) (.cells (dvC e) 26))
  have e1 : (w.alloc (.cells (dvC d) 26)).heap.size = w.heap.size + 1 := by simp
  have hA := (dvB_new w d 26).below (below_new _ (.cells (dvC e) 26))
  have hBb := dvB_new (w.alloc (.cells (dvC d) 26)) e 26
  rw [e1] at hBb
  have HS := Lib.hid (⟨hA, hBb, HB.out⟩ : TwS w.heap.size (w.heap.size + 1) d e w ((w.alloc (.cells (dvC d) 26)).alloc (.cells (dvC e) 26)))
  clear hA hBb hd he e1 HB hM
  go_enter Tryd.func9, Tryd.ntmps9
  go_upto_region 1 with fail
  change Code.wp _ _ _ _ ((w.alloc (.cells (dvC d) 26)).alloc (.cells (dvC e) 26))
  generalize ((w.alloc (.cells (dvC d) 26)).alloc (.cells (dvC e) 26)) = W at *
  go_wp2_with fail
  refine (awake11_any _ (HM.out.below HS.out.l)).mono ?_
  rintro en w1 ⟨rfl, hB1⟩
  have HS1 := Lib.hid (HS.out.below hB1)
  clear hB1 HS
  go_upto_region 3 with fail
  have hS0 := HS1.out.below (Below.refl _ _).drew
  clear HS1
  refine wp_region_held_drew (S := (fun w' => w'.cell? ⟨w.heap.size, 0, none⟩ = some (.bool d.ns) ∧ w'.cell? ⟨w.heap.size, 1, none⟩ = some (.bool d.nc) ∧ w'.cell? ⟨w.heap.size, 2, none⟩ = some (.bool d.pr) ∧ w'.cell? ⟨w.heap.size, 3, none⟩ = some (.bool d.pu) ∧ w'.cell? ⟨w.heap.size, 4, none⟩ = some (.bool d.mr) ∧ w'.cell? ⟨w.heap.size, 5, none⟩ = some (.bool d.oc) ∧ w'.cell? ⟨w.heap.size, 6, none⟩ = some (.int .i64 d.ma) ∧ w'.cell? ⟨w.heap.size, 7, none⟩ = some (.int .i64 d.sa) ∧ w'.cell? ⟨w.heap.size, 8, none⟩ = some (.int .i64 d.ws) ∧ w'.cell? ⟨w.heap.size, 9, none⟩ = some (.int .i64 d.oe) ∧ w'.cell? ⟨w.heap.size, 10, none⟩ = some (.int .i64 d.ms) ∧ w'.cell? ⟨w.heap.size, 11, none⟩ = some (.int .i64 d.mf) ∧ w'.cell? ⟨w.heap.size + 1, 0, none⟩ = some (.bool e.ns) ∧ w'.cell? ⟨w.heap.size + 1, 1, none⟩ = some (.bool e.nc) ∧ w'.cell? ⟨w.heap.size + 1, 2, none⟩ = some (.bool e.pr) ∧ w'.cell? ⟨w.heap.size + 1, 3, none⟩ = some (.bool e.pu) ∧ w'.cell? ⟨w.heap.size + 1, 4, none⟩ = some (.bool e.mr) ∧ w'.cell? ⟨w.heap.size + 1, 5, none⟩ = some (.bool e.oc) ∧ w'.cell? ⟨w.heap.size + 1, 6, none⟩ = some (.int .i64 e.ma) ∧ w'.cell? ⟨w.heap.size + 1, 7, none⟩ = some (.int .i64 e.sa) ∧ w'.cell? ⟨w.heap.size + 1, 8, none⟩ = some (.int .i64 e.ws) ∧ w'.cell? ⟨w.heap.size + 1, 9, none⟩ = some (.int .i64 e.oe) ∧ w'.cell? ⟨w.heap.size + 1, 10, none⟩ = some (.int .i64 e.ms) ∧ w'.cell? ⟨w.heap.size + 1, 11, none⟩ = some (.int .i64 e.mf) ∧ TwS w.heap.size (w.heap.size + 1) d e w w')) (by kernel_rfl) (twS_all hS0) (fun hHeld => ?_)
  generalize w1.drew = V0 at *
  refine wpAnyH_take (i := 0) (oi := { dst := some 7, op := _, type := _, pos := _, after := _, guard := _ }) (v := dvV d) rfl (by kernel_rfl) (by kernel_rfl) (by kernel_rfl) (fun _ _ _ h => h) (Or.inl ⟨by rfl, ?_⟩) (by assumption) ?_
  focus (intro w hSw; (try dsimp only at hSw); first | (go_simp; done) | (go_simp; with_reducible rfl))
  (try simp only [Act.put, List.setIfInBounds_toArray, List.set_cons_zero, List.set_cons_succ])
  refine wpAnyH_take (i := 2) (oi := { dst := some 9, op := _, type := _, pos := _, after := _, guard := _ }) (v := dvV e) rfl (by kernel_rfl) (by kernel_rfl) (by kernel_rfl) (fun _ _ _ h => h) (Or.inl ⟨by rfl, ?_⟩) (by assumption) ?_
  focus (intro w hSw; (try dsimp only at hSw); first | (go_simp; done) | (go_simp; with_reducible rfl))
  (try simp only [Act.put, List.setIfInBounds_toArray, List.set_cons_zero, List.set_cons_succ])
  refine wpAnyH_take (i := 6) (oi := { dst := some 13, op := _, type := _, pos := _, after := _, guard := _ }) (v := dvV d) rfl (by kernel_rfl) (by kernel_rfl) (by kernel_rfl) (fun _ _ _ h => h) (Or.inl ⟨by rfl, ?_⟩) (by assumption) ?_
  focus (intro w hSw; (try dsimp only at hSw); first | (go_simp; done) | (go_simp; with_reducible rfl))
  (try simp only [Act.put, List.setIfInBounds_toArray, List.set_cons_zero, List.set_cons_succ])
  refine wpAnyH_take (i := 7) (oi := { dst := some 14, op := _, type := _, pos := _, after := _, guard := _ }) (v := dvV e) rfl (by kernel_rfl) (by kernel_rfl) (by kernel_rfl) (fun _ _ _ h => h) (Or.inl ⟨by rfl, ?_⟩) (by assumption) ?_
  focus (intro w hSw; (try dsimp only at hSw); first | (go_simp; done) | (go_simp; with_reducible rfl))
  (try simp only [Act.put, List.setIfInBounds_toArray, List.set_cons_zero, List.set_cons_succ])
  refine wpAnyH_ready (rs := [1]) (by kernel_rfl) (by simp) ?_
  refine AllReadyH.cons (o := { dst := some 8, op := _, type := _, pos := _, after := _, guard := _ }) rfl (fun K hK => ?_) AllReadyH.nil
  go_simp
  refine (program_any d _).mono ?_
  rintro en V1 ⟨rfl, hBc⟩
  have hS1 := hS0.below hBc
  refine hK.out _ _ (twS_all hS1) (fun hH1 => ?_)
  clear hK K hBc hS0 hHeld
  (try simp only [Act.put, List.setIfInBounds_toArray, List.set_cons_zero, List.set_cons_succ])
  refine wpAnyH_ready (rs := [3]) (by kernel_rfl) (by simp) ?_
  refine AllReadyH.cons (o := { dst := some 10, op := _, type := _, pos := _, after := _, guard := _ }) rfl (fun K hK => ?_) AllReadyH.nil
  go_simp
  refine (program_any e _).mono ?_
  rintro en V2 ⟨rfl, hBc⟩
  have hS2 := hS1.below hBc
  refine hK.out _ _ (twS_all hS2) (fun hH2 => ?_)
  clear hK K hBc hS1 hH1
  (try simp only [Act.put, List.setIfInBounds_toArray, List.set_cons_zero, List.set_cons_succ])
  refine wpAnyH_ready (rs := [4]) (by kernel_rfl) (by simp) ?_
  refine AllReadyH.cons (o := { dst := some 11, op := _, type := _, pos := _, after := _, guard := _ }) rfl (fun K hK => ?_) AllReadyH.nil
  go_simp
  refine (HP.out _).mono ?_
  rintro en V3 ⟨rfl, hBc⟩
  have hS3 := hS2.below hBc
  refine hK.out _ _ (twS_all hS3) (fun hH3 => ?_)
  clear hK K hBc hS2 hH2
  (try simp only [Act.put, List.setIfInBounds_toArray, List.set_cons_zero, List.set_cons_succ])
  refine wpAnyH_ready (rs := [5]) (by kernel_rfl) (by simp) ?_
  refine AllReadyH.cons (o := { dst := some 12, op := _, type := _, pos := _, after := _, guard := _ }) rfl (fun K hK => ?_) AllReadyH.nil
  go_simp
  refine (plain_any m _).mono ?_
  rintro en V4 ⟨rfl, hBc⟩
  have hS4 := hS3.below hBc
  refine hK.out _ _ (twS_all hS4) (fun hH4 => ?_)
  clear hK K hBc hS3 hH3
  (try simp only [Act.put, List.setIfInBounds_toArray, List.set_cons_zero, List.set_cons_succ])
  refine wpAnyH_ready (rs := [8]) (by kernel_rfl) (by simp) ?_
  refine AllReadyH.cons (o := { dst := some 15, op := _, type := _, pos := _, after := _, guard := _ }) rfl (fun K hK => ?_) AllReadyH.nil
  go_simp
  refine (HR.out _).mono ?_
  rintro en V5 ⟨rfl, hBc⟩
  have hS5 := hS4.below hBc
  refine hK.out _ _ (twS_all hS5) (fun hH5 => ?_)
  clear hK K hBc hS4 hH4
  (try simp only [Act.put, List.setIfInBounds_toArray, List.set_cons_zero, List.set_cons_succ])
  refine wpAnyH_take (i := 9) (oi := { dst := some 16, op := _, type := _, pos := _, after := _, guard := _ }) (v := ?_) rfl (by kernel_rfl) (by kernel_rfl) (by kernel_rfl) (fun _ _ _ h => h) (Or.inl ⟨by rfl, ?_⟩) (by assumption) ?_
  rotate_left
  focus (intro w hSw; (try dsimp only at hSw); first | (go_simp; done) | (go_simp; with_reducible rfl))
  (try simp only [Act.put, List.setIfInBounds_toArray, List.set_cons_zero, List.set_cons_succ])
  refine wpAnyH_take (i := 10) (oi := { dst := some 4, op := _, type := _, pos := _, after := _, guard := _ }) (v := ?_) rfl (by kernel_rfl) (by kernel_rfl) (by kernel_rfl) (fun _ _ _ h => h) (Or.inl ⟨by rfl, ?_⟩) (by assumption) ?_
  rotate_left
  focus (intro w hSw; (try dsimp only at hSw); first | (go_simp; done) | (go_simp; with_reducible rfl))
  (try simp only [Act.put, List.setIfInBounds_toArray, List.set_cons_zero, List.set_cons_succ])
  refine wpAnyH_done (by kernel_rfl) ?_ _
  (try simp only [Exit.inBlock, Exit.then])
  (try go_wp2_with fail)
  go_ret
  exact ⟨rfl, hS5.l⟩
end Go.Proofs.YtnjjjfbklgdgpaaDoor
