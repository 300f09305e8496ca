/- DirectiveLattice: for all three directives the statement's function returns true: the walk. -/
import Derived.Test.YtnjjjfbklgdgpaaDoorDMerge
import Derived.Test.YtnjjjfbklgdgpaaDoorDFew
import Derived.Test.YtnjjjfbklgdgpaaDoorDThree
namespace Go.Proofs.YtnjjjfbklgdgpaaDoor
open Go.RowKit

theorem store_dv {N : Nat} {V0 : World} {z x : Dv} (h : DvB N V0 z) : DvB N ((((((((((((V0.setCell ⟨N, 0, none⟩ (.bool x.ns)).setCell ⟨N, 1, none⟩ (.bool x.nc)).setCell ⟨N, 2, none⟩ (.bool x.pr)).setCell ⟨N, 3, none⟩ (.bool x.pu)).setCell ⟨N, 4, none⟩ (.bool x.mr)).setCell ⟨N, 5, none⟩ (.bool x.oc)).setCell ⟨N, 6, none⟩ (.int .i64 x.ma)).setCell ⟨N, 7, none⟩ (.int .i64 x.sa)).setCell ⟨N, 8, none⟩ (.int .i64 x.ws)).setCell ⟨N, 9, none⟩ (.int .i64 x.oe)).setCell ⟨N, 10, none⟩ (.int .i64 x.ms)).setCell ⟨N, 11, none⟩ (.int .i64 x.mf)) x := h.set x
theorem store_th {A N : Nat} {d e f x : Dv} {w V0 : World} (h : ThS A d e f w V0) (hA : w.heap.size ≤ A) (hN : A + 3 ≤ N) : ThS A d e f w ((((((((((((V0.setCell ⟨N, 0, none⟩ (.bool x.ns)).setCell ⟨N, 1, none⟩ (.bool x.nc)).setCell ⟨N, 2, none⟩ (.bool x.pr)).setCell ⟨N, 3, none⟩ (.bool x.pu)).setCell ⟨N, 4, none⟩ (.bool x.mr)).setCell ⟨N, 5, none⟩ (.bool x.oc)).setCell ⟨N, 6, none⟩ (.int .i64 x.ma)).setCell ⟨N, 7, none⟩ (.int .i64 x.sa)).setCell ⟨N, 8, none⟩ (.int .i64 x.ws)).setCell ⟨N, 9, none⟩ (.int .i64 x.oe)).setCell ⟨N, 10, none⟩ (.int .i64 x.ms)).setCell ⟨N, 11, none⟩ (.int .i64 x.mf)) :=
  ⟨h.a.other (by omega) _ _ _ _ _ _ _ _ _ _ _ _, h.b.other (by omega) _ _ _ _ _ _ _ _ _ _ _ _, h.c.other (by omega) _ _ _ _ _ _ _ _ _ _ _ _, below_dv h.l (by omega) _ _ _ _ _ _ _ _ _ _ _ _⟩
set_option maxHeartbeats 32000000 in
set_option maxRecDepth 100000 in
theorem lattice_walk (d e f : Dv) (w : World) (hM : MaxIs w) (hd : FitD d) (he : FitD e) (hf : FitD f) :
    Calls Tryd.prog 10 #[dvV d, dvV e, dvV f] w fun en w' => en = .returned (.bool true) ∧ Below w.heap.size w w' := by
  have HM := Lib.hid hM
  have H0 := Lib.hid (fun W => merge_any d e W hd he)
  have H1 := Lib.hid (fun W => merge_any e d W he hd)
  rw [merge_comm e d] at H1
  have H2 := Lib.hid (fun W => merge_any (mergeD d e) f W (nor_merge d e).fit hf)
  have H3 := Lib.hid (fun W => merge_any e f W he hf)
  have H4 := Lib.hid (fun W => merge_any d (mergeD e f) W hd (nor_merge e f).fit)
  rw [← merge_assoc] at H4
  have H5 := Lib.hid (fun W => merge_any (mergeD d e) (mergeD d e) W (nor_merge d e).fit (nor_merge d e).fit)
  rw [merge_self] at H5
  have H6 := Lib.hid (fun W => merge_any (mergeD d e) d W (nor_merge d e).fit hd)
  rw [merge_left] at H6
  generalize mergeD (mergeD d e) f = p at *
  generalize mergeD e f = q at *
  generalize mergeD d e = m at *
  have e1 : (w.alloc (.cells (dvC d) 26)).heap.size = w.heap.size + 1 := by simp
  have e2 : ((w.alloc (.cells (dvC d) 26)).alloc (.cells (dvC e) 26)).heap.size = w.heap.size + 2 := by simp
  have e3 : (((w.alloc (.cells (dvC d) 26)).alloc (.cells (dvC e) 26)).alloc (.cells (dvC f) 26)).heap.size = w.heap.size + 3 := by simp
  have hA := ((dvB_new w d 26).below (below_new _ (.cells (dvC e) 26))).below (below_new _ (.cells (dvC f) 26))
  have hBb := (dvB_new (w.alloc (.cells (dvC d) 26)) e 26).below (below_new _ (.cells (dvC f) 26))
  have hCc := dvB_new ((w.alloc (.cells (dvC d) 26)).alloc (.cells (dvC e) 26)) f 26
  rw [e1] at hBb
  rw [e2] at hCc
  have HB := Lib.hid (((below_new w (.cells (dvC d) 26)).alloc (by simp) (.cells (dvC e) 26)).alloc (by simp; omega) (.cells (dvC f) 26))
  have HS := Lib.hid (⟨hA, hBb, hCc, HB.out⟩ : ThS w.heap.size d e f w (((w.alloc (.cells (dvC d) 26)).alloc (.cells (dvC e) 26)).alloc (.cells (dvC f) 26)))
  have hz0 : w.heap.size + 3 ≤ (((w.alloc (.cells (dvC d) 26)).alloc (.cells (dvC e) 26)).alloc (.cells (dvC f) 26)).heap.size := by omega
  clear hA hBb hCc hd he hf e1 e2 e3 HB hM
  go_enter Tryd.func10, Tryd.ntmps10
  go_upto_region 1 with fail
  change Code.wp _ _ _ _ (((w.alloc (.cells (dvC d) 26)).alloc (.cells (dvC e) 26)).alloc (.cells (dvC f) 26))
  generalize (((w.alloc (.cells (dvC d) 26)).alloc (.cells (dvC e) 26)).alloc (.cells (dvC f) 26)) = W at *
  go_wp2_with fail
  refine (awake11_any _ (HM.out.below HS.out.l)).mono ?_
  rintro en w1 ⟨rfl, hB1⟩
  have hz1 : w.heap.size + 3 ≤ w1.heap.size := Nat.le_trans hz0 hB1.size
  have HS1 := Lib.hid (HS.out.below hB1)
  clear hB1 HS hz0
  go_upto_region 3 with fail
  have hS0 := HS1.out.below (Below.refl _ _).drew
  have hz2 : w.heap.size + 3 ≤ w1.drew.heap.size := hz1
  clear HS1 hz1
  obtain ⟨A, hAe⟩ : ∃ A, A = w.heap.size := ⟨_, rfl⟩
  rw [← hAe] at hS0 hz2 ⊢
  have hAw : w.heap.size ≤ A := by omega
  clear hAe
  refine wp_region_held_drew (S := (fun w' => ThS A d e f w w')) (by kernel_rfl) hS0 (fun hHeld => ?_)
  generalize w1.drew = V0 at *
  refine wpAnyH_take (i := 0) (oi := { dst := some 13, op := _, type := _, pos := _, after := _, guard := _ }) (v := dvV d) rfl (by kernel_rfl) (by kernel_rfl) (by kernel_rfl) (fun _ _ _ h => h) (Or.inl ⟨by rfl, ?_⟩) (by assumption) ?_
  focus (intro w hSw; have hSw' := hSw.a; clear hSw; obtain ⟨c0, c1, c2, c3, c4, c5, c6, c7, c8, c9, c10, c11, _, _⟩ := hSw'; first | (go_simp; done) | (go_simp; with_reducible rfl))
  (try simp only [Act.put, List.setIfInBounds_toArray, List.set_cons_zero, List.set_cons_succ])
  refine wpAnyH_take (i := 2) (oi := { dst := some 15, op := _, type := _, pos := _, after := _, guard := _ }) (v := dvV e) rfl (by kernel_rfl) (by kernel_rfl) (by kernel_rfl) (fun _ _ _ h => h) (Or.inl ⟨by rfl, ?_⟩) (by assumption) ?_
  focus (intro w hSw; have hSw' := hSw.b; clear hSw; obtain ⟨c0, c1, c2, c3, c4, c5, c6, c7, c8, c9, c10, c11, _, _⟩ := hSw'; first | (go_simp; done) | (go_simp; with_reducible rfl))
  (try simp only [Act.put, List.setIfInBounds_toArray, List.set_cons_zero, List.set_cons_succ])
  refine wpAnyH_take (i := 4) (oi := { dst := some 17, op := _, type := _, pos := _, after := _, guard := _ }) (v := dvV f) rfl (by kernel_rfl) (by kernel_rfl) (by kernel_rfl) (fun _ _ _ h => h) (Or.inl ⟨by rfl, ?_⟩) (by assumption) ?_
  focus (intro w hSw; have hSw' := hSw.c; clear hSw; obtain ⟨c0, c1, c2, c3, c4, c5, c6, c7, c8, c9, c10, c11, _, _⟩ := hSw'; first | (go_simp; done) | (go_simp; with_reducible rfl))
  (try simp only [Act.put, List.setIfInBounds_toArray, List.set_cons_zero, List.set_cons_succ])
  clear hHeld
  refine gen_start (fun ops Q Tm hops hQ hT => ?_)
  have fin : ∀ (N7 N8 N9 : Nat) (V : World), DvB N7 V d → DvB N8 V e → DvB N9 V f → ThS A d e f w V → Q .normal ⟨((((((Tm.setIfInBounds 14 (dvV d)).setIfInBounds 16 (dvV e)).setIfInBounds 18 (dvV f)).setIfInBounds 7 (.pointer (some ⟨N7, 0, none⟩))).setIfInBounds 8 (.pointer (some ⟨N8, 0, none⟩))).setIfInBounds 9 (.pointer (some ⟨N9, 0, none⟩))), []⟩ V := by
    intro N7 N8 N9 V g7 g8 g9 hS
    subst hQ
    subst hT
    clear hops
    (try simp only [Act.put, List.setIfInBounds_toArray, List.set_cons_zero, List.set_cons_succ])
    (try simp only [Exit.inBlock, Exit.then])
    have G7 := Lib.hid g7
    have G8 := Lib.hid g8
    have G9 := Lib.hid g9
    have HL := Lib.hid hS.l
    obtain ⟨a0, a1, a2, a3, a4, a5, a6, a7, a8, a9, a10, a11, fa, la⟩ := g7
    obtain ⟨b0, b1, b2, b3, b4, b5, b6, b7, b8, b9, b10, b11, fb, lb⟩ := g8
    clear g9 hS hS0 hz2 hAw
    go_wp2_with fail
    refine (H0.out _).mono ?_
    rintro en V1 ⟨rfl, hB1⟩
    have G71 := Lib.hid (G7.out.below hB1)
    have G81 := Lib.hid (G8.out.below hB1)
    have G91 := Lib.hid (G9.out.below hB1)
    have HL1 := Lib.hid (HL.out.trans (hB1.mono HL.out.size))
    clear hB1 HL a0 a1 a2 a3 a4 a5 a6 a7 a8 a9 a10 a11 fa la b0 b1 b2 b3 b4 b5 b6 b7 b8 b9 b10 b11 fb lb G7 G8 G9
    have HN := Lib.hid (dvB_new V1 m 28)
    have HF := Lib.hid (⟨G71.out.below (below_new V1 (.cells (dvC m) 28)), G81.out.below (below_new V1 (.cells (dvC m) 28)), G91.out.below (below_new V1 (.cells (dvC m) 28)), HN.out, HL1.out.trans ((below_new V1 (.cells (dvC m) 28)).mono HL1.out.size)⟩ : FoS N7 N8 N9 V1.heap.size d e f m w (V1.alloc (.cells (dvC m) 28)))
    clear HN G71 G81 G91 HL1
    obtain ⟨X, hXe⟩ : ∃ X, X = V1.heap.size := ⟨_, rfl⟩
    go_upto_region 5 with fail
    change Code.wp _ _ _ _ (V1.alloc (.cells (dvC m) 28))
    generalize V1.alloc (.cells (dvC m) 28) = V2 at *
    rw [← hXe] at HF ⊢
    have hS0 := HF.out.below (Below.refl _ _).drew
    clear HF hXe
    refine wp_region_held_drew (S := (fun w' => FoS N7 N8 N9 X d e f m w w')) (by kernel_rfl) hS0 (fun hHeld => ?_)
    generalize V2.drew = U0 at *
    refine wpAnyH_take (i := 0) (oi := { dst := some 22, op := _, type := _, pos := _, after := _, guard := _ }) (v := dvV m) rfl (by kernel_rfl) (by kernel_rfl) (by kernel_rfl) (fun _ _ _ h => h) (Or.inl ⟨by rfl, ?_⟩) (by assumption) ?_
    focus (intro w hSw; have hSw' := hSw.m; clear hSw; obtain ⟨c0, c1, c2, c3, c4, c5, c6, c7, c8, c9, c10, c11, _, _⟩ := hSw'; first | (go_simp; done) | (go_simp; with_reducible rfl))
    (try simp only [Act.put, List.setIfInBounds_toArray, List.set_cons_zero, List.set_cons_succ])
    refine wpAnyH_take (i := 1) (oi := { dst := some 23, op := _, type := _, pos := _, after := _, guard := _ }) (v := dvV e) rfl (by kernel_rfl) (by kernel_rfl) (by kernel_rfl) (fun _ _ _ h => h) (Or.inl ⟨by rfl, ?_⟩) (by assumption) ?_
    focus (intro w hSw; have hSw' := hSw.b; clear hSw; obtain ⟨c0, c1, c2, c3, c4, c5, c6, c7, c8, c9, c10, c11, _, _⟩ := hSw'; first | (go_simp; done) | (go_simp; with_reducible rfl))
    (try simp only [Act.put, List.setIfInBounds_toArray, List.set_cons_zero, List.set_cons_succ])
    refine wpAnyH_take (i := 2) (oi := { dst := some 24, op := _, type := _, pos := _, after := _, guard := _ }) (v := dvV d) rfl (by kernel_rfl) (by kernel_rfl) (by kernel_rfl) (fun _ _ _ h => h) (Or.inl ⟨by rfl, ?_⟩) (by assumption) ?_
    focus (intro w hSw; have hSw' := hSw.a; clear hSw; obtain ⟨c0, c1, c2, c3, c4, c5, c6, c7, c8, c9, c10, c11, _, _⟩ := hSw'; first | (go_simp; done) | (go_simp; with_reducible rfl))
    (try simp only [Act.put, List.setIfInBounds_toArray, List.set_cons_zero, List.set_cons_succ])
    refine wpAnyH_ready (rs := [3]) (by kernel_rfl) (by simp) ?_
    refine AllReadyH.cons (o := { dst := some 25, op := _, type := _, pos := _, after := _, guard := _ }) rfl (fun K hK => ?_) AllReadyH.nil
    go_simp
    refine (H1.out _).mono ?_
    rintro en U1 ⟨rfl, hBc⟩
    have hS1 := hS0.below hBc
    refine hK.out _ _ hS1 (fun hH1 => ?_)
    clear hK K hBc hS0 hHeld
    (try simp only [Act.put, List.setIfInBounds_toArray, List.set_cons_zero, List.set_cons_succ])
    refine wpAnyH_take (i := 4) (oi := { dst := some 26, op := _, type := _, pos := _, after := _, guard := _ }) (v := ?_) rfl (by kernel_rfl) (by kernel_rfl) (by kernel_rfl) (fun _ _ _ h => h) (Or.inl ⟨by rfl, ?_⟩) (by assumption) ?_
    rotate_left
    focus (intro w hSw; (try dsimp only at hSw); first | (go_simp; done) | (go_simp; with_reducible rfl))
    (try simp only [Act.put, List.setIfInBounds_toArray, List.set_cons_zero, List.set_cons_succ])
    refine wpAnyH_take (i := 5) (oi := { dst := some 27, op := _, type := _, pos := _, after := _, guard := _ }) (v := ?_) rfl (by kernel_rfl) (by kernel_rfl) (by kernel_rfl) (fun _ _ _ h => h) (Or.inl ⟨by rfl, ?_⟩) (by assumption) ?_
    rotate_left
    focus (intro w hSw; (try dsimp only at hSw); first | (go_simp; done) | (go_simp; with_reducible rfl))
    (try simp only [Act.put, List.setIfInBounds_toArray, List.set_cons_zero, List.set_cons_succ])
    refine wpAnyH_take (i := 6) (oi := { dst := some 28, op := _, type := _, pos := _, after := _, guard := _ }) (v := dvV m) rfl (by kernel_rfl) (by kernel_rfl) (by kernel_rfl) (fun _ _ _ h => h) (Or.inl ⟨by rfl, ?_⟩) (by assumption) ?_
    focus (intro w hSw; have hSw' := hSw.m; clear hSw; obtain ⟨c0, c1, c2, c3, c4, c5, c6, c7, c8, c9, c10, c11, _, _⟩ := hSw'; first | (go_simp; done) | (go_simp; with_reducible rfl))
    (try simp only [Act.put, List.setIfInBounds_toArray, List.set_cons_zero, List.set_cons_succ])
    refine wpAnyH_take (i := 7) (oi := { dst := some 29, op := _, type := _, pos := _, after := _, guard := _ }) (v := dvV f) rfl (by kernel_rfl) (by kernel_rfl) (by kernel_rfl) (fun _ _ _ h => h) (Or.inl ⟨by rfl, ?_⟩) (by assumption) ?_
    focus (intro w hSw; have hSw' := hSw.c; clear hSw; obtain ⟨c0, c1, c2, c3, c4, c5, c6, c7, c8, c9, c10, c11, _, _⟩ := hSw'; first | (go_simp; done) | (go_simp; with_reducible rfl))
    (try simp only [Act.put, List.setIfInBounds_toArray, List.set_cons_zero, List.set_cons_succ])
    refine wpAnyH_take (i := 9) (oi := { dst := some 31, op := _, type := _, pos := _, after := _, guard := _ }) (v := dvV d) rfl (by kernel_rfl) (by kernel_rfl) (by kernel_rfl) (fun _ _ _ h => h) (Or.inl ⟨by rfl, ?_⟩) (by assumption) ?_
    focus (intro w hSw; have hSw' := hSw.a; clear hSw; obtain ⟨c0, c1, c2, c3, c4, c5, c6, c7, c8, c9, c10, c11, _, _⟩ := hSw'; first | (go_simp; done) | (go_simp; with_reducible rfl))
    (try simp only [Act.put, List.setIfInBounds_toArray, List.set_cons_zero, List.set_cons_succ])
    refine wpAnyH_take (i := 10) (oi := { dst := some 32, op := _, type := _, pos := _, after := _, guard := _ }) (v := dvV e) rfl (by kernel_rfl) (by kernel_rfl) (by kernel_rfl) (fun _ _ _ h => h) (Or.inl ⟨by rfl, ?_⟩) (by assumption) ?_
    focus (intro w hSw; have hSw' := hSw.b; clear hSw; obtain ⟨c0, c1, c2, c3, c4, c5, c6, c7, c8, c9, c10, c11, _, _⟩ := hSw'; first | (go_simp; done) | (go_simp; with_reducible rfl))
    (try simp only [Act.put, List.setIfInBounds_toArray, List.set_cons_zero, List.set_cons_succ])
    refine wpAnyH_take (i := 11) (oi := { dst := some 33, op := _, type := _, pos := _, after := _, guard := _ }) (v := dvV f) rfl (by kernel_rfl) (by kernel_rfl) (by kernel_rfl) (fun _ _ _ h => h) (Or.inl ⟨by rfl, ?_⟩) (by assumption) ?_
    focus (intro w hSw; have hSw' := hSw.c; clear hSw; obtain ⟨c0, c1, c2, c3, c4, c5, c6, c7, c8, c9, c10, c11, _, _⟩ := hSw'; first | (go_simp; done) | (go_simp; with_reducible rfl))
    (try simp only [Act.put, List.setIfInBounds_toArray, List.set_cons_zero, List.set_cons_succ])
    refine wpAnyH_ready (rs := [8]) (by kernel_rfl) (by simp) ?_
    refine AllReadyH.cons (o := { dst := some 30, op := _, type := _, pos := _, after := _, guard := _ }) rfl (fun K hK => ?_) AllReadyH.nil
    go_simp
    refine (H2.out _).mono ?_
    rintro en U2 ⟨rfl, hBc⟩
    have hS2 := hS1.below hBc
    refine hK.out _ _ hS2 (fun hH2 => ?_)
    clear hK K hBc hS1 hH1
    (try simp only [Act.put, List.setIfInBounds_toArray, List.set_cons_zero, List.set_cons_succ])
    refine wpAnyH_ready (rs := [12]) (by kernel_rfl) (by simp) ?_
    refine AllReadyH.cons (o := { dst := some 34, op := _, type := _, pos := _, after := _, guard := _ }) rfl (fun K hK => ?_) AllReadyH.nil
    go_simp
    refine (H3.out _).mono ?_
    rintro en U3 ⟨rfl, hBc⟩
    have hS3 := hS2.below hBc
    refine hK.out _ _ hS3 (fun hH3 => ?_)
    clear hK K hBc hS2 hH2
    (try simp only [Act.put, List.setIfInBounds_toArray, List.set_cons_zero, List.set_cons_succ])
    refine wpAnyH_ready (rs := [13]) (by kernel_rfl) (by simp) ?_
    refine AllReadyH.cons (o := { dst := some 35, op := _, type := _, pos := _, after := _, guard := _ }) rfl (fun K hK => ?_) AllReadyH.nil
    go_simp
    refine (H4.out _).mono ?_
    rintro en U4 ⟨rfl, hBc⟩
    have hS4 := hS3.below hBc
    refine hK.out _ _ hS4 (fun hH4 => ?_)
    clear hK K hBc hS3 hH3
    (try simp only [Act.put, List.setIfInBounds_toArray, List.set_cons_zero, List.set_cons_succ])
    refine wpAnyH_take (i := 14) (oi := { dst := some 36, op := _, type := _, pos := _, after := _, guard := _ }) (v := ?_) rfl (by kernel_rfl) (by kernel_rfl) (by kernel_rfl) (fun _ _ _ h => h) (Or.inl ⟨by rfl, ?_⟩) (by assumption) ?_
    rotate_left
    focus (intro w hSw; (try dsimp only at hSw); first | (go_simp; done) | (go_simp; with_reducible rfl))
    (try simp only [Act.put, List.setIfInBounds_toArray, List.set_cons_zero, List.set_cons_succ])
    refine wpAnyH_take (i := 15) (oi := { dst := some 37, op := _, type := _, pos := _, after := _, guard := _ }) (v := ?_) rfl (by kernel_rfl) (by kernel_rfl) (by kernel_rfl) (fun _ _ _ h => h) (Or.inl ⟨by rfl, ?_⟩) (by assumption) ?_
    rotate_left
    focus (intro w hSw; (try dsimp only at hSw); first | (go_simp; done) | (go_simp; with_reducible rfl))
    (try simp only [Act.put, List.setIfInBounds_toArray, List.set_cons_zero, List.set_cons_succ])
    refine wpAnyH_take (i := 16) (oi := { dst := some 38, op := _, type := _, pos := _, after := _, guard := _ }) (v := ?_) rfl (by kernel_rfl) (by kernel_rfl) (by kernel_rfl) (fun _ _ _ h => h) (Or.inl ⟨by rfl, ?_⟩) (by assumption) ?_
    rotate_left
    focus (intro w hSw; (try dsimp only at hSw); first | (go_simp; done) | (go_simp; with_reducible rfl))
    (try simp only [Act.put, List.setIfInBounds_toArray, List.set_cons_zero, List.set_cons_succ])
    refine wpAnyH_take (i := 17) (oi := { dst := some 39, op := _, type := _, pos := _, after := _, guard := _ }) (v := dvV m) rfl (by kernel_rfl) (by kernel_rfl) (by kernel_rfl) (fun _ _ _ h => h) (Or.inl ⟨by rfl, ?_⟩) (by assumption) ?_
    focus (intro w hSw; have hSw' := hSw.m; clear hSw; obtain ⟨c0, c1, c2, c3, c4, c5, c6, c7, c8, c9, c10, c11, _, _⟩ := hSw'; first | (go_simp; done) | (go_simp; with_reducible rfl))
    (try simp only [Act.put, List.setIfInBounds_toArray, List.set_cons_zero, List.set_cons_succ])
    refine wpAnyH_take (i := 18) (oi := { dst := some 40, op := _, type := _, pos := _, after := _, guard := _ }) (v := dvV m) rfl (by kernel_rfl) (by kernel_rfl) (by kernel_rfl) (fun _ _ _ h => h) (Or.inl ⟨by rfl, ?_⟩) (by assumption) ?_
    focus (intro w hSw; have hSw' := hSw.m; clear hSw; obtain ⟨c0, c1, c2, c3, c4, c5, c6, c7, c8, c9, c10, c11, _, _⟩ := hSw'; first | (go_simp; done) | (go_simp; with_reducible rfl))
    (try simp only [Act.put, List.setIfInBounds_toArray, List.set_cons_zero, List.set_cons_succ])
    refine wpAnyH_take (i := 20) (oi := { dst := some 42, op := _, type := _, pos := _, after := _, guard := _ }) (v := dvV m) rfl (by kernel_rfl) (by kernel_rfl) (by kernel_rfl) (fun _ _ _ h => h) (Or.inl ⟨by rfl, ?_⟩) (by assumption) ?_
    focus (intro w hSw; have hSw' := hSw.m; clear hSw; obtain ⟨c0, c1, c2, c3, c4, c5, c6, c7, c8, c9, c10, c11, _, _⟩ := hSw'; first | (go_simp; done) | (go_simp; with_reducible rfl))
    (try simp only [Act.put, List.setIfInBounds_toArray, List.set_cons_zero, List.set_cons_succ])
    refine wpAnyH_ready (rs := [19]) (by kernel_rfl) (by simp) ?_
    refine AllReadyH.cons (o := { dst := some 41, op := _, type := _, pos := _, after := _, guard := _ }) rfl (fun K hK => ?_) AllReadyH.nil
    go_simp
    refine (H5.out _).mono ?_
    rintro en U5 ⟨rfl, hBc⟩
    have hS5 := hS4.below hBc
    refine hK.out _ _ hS5 (fun hH5 => ?_)
    clear hK K hBc hS4 hH4
    (try simp only [Act.put, List.setIfInBounds_toArray, List.set_cons_zero, List.set_cons_succ])
    refine wpAnyH_take (i := 21) (oi := { dst := some 43, op := _, type := _, pos := _, after := _, guard := _ }) (v := ?_) rfl (by kernel_rfl) (by kernel_rfl) (by kernel_rfl) (fun _ _ _ h => h) (Or.inl ⟨by rfl, ?_⟩) (by assumption) ?_
    rotate_left
    focus (intro w hSw; (try dsimp only at hSw); first | (go_simp; done) | (go_simp; with_reducible rfl))
    (try simp only [Act.put, List.setIfInBounds_toArray, List.set_cons_zero, List.set_cons_succ])
    refine wpAnyH_take (i := 22) (oi := { dst := some 44, op := _, type := _, pos := _, after := _, guard := _ }) (v := ?_) rfl (by kernel_rfl) (by kernel_rfl) (by kernel_rfl) (fun _ _ _ h => h) (Or.inl ⟨by rfl, ?_⟩) (by assumption) ?_
    rotate_left
    focus (intro w hSw; (try dsimp only at hSw); first | (go_simp; done) | (go_simp; with_reducible rfl))
    (try simp only [Act.put, List.setIfInBounds_toArray, List.set_cons_zero, List.set_cons_succ])
    refine wpAnyH_take (i := 23) (oi := { dst := some 45, op := _, type := _, pos := _, after := _, guard := _ }) (v := ?_) rfl (by kernel_rfl) (by kernel_rfl) (by kernel_rfl) (fun _ _ _ h => h) (Or.inl ⟨by rfl, ?_⟩) (by assumption) ?_
    rotate_left
    focus (intro w hSw; (try dsimp only at hSw); first | (go_simp; done) | (go_simp; with_reducible rfl))
    (try simp only [Act.put, List.setIfInBounds_toArray, List.set_cons_zero, List.set_cons_succ])
    refine wpAnyH_take (i := 24) (oi := { dst := some 46, op := _, type := _, pos := _, after := _, guard := _ }) (v := dvV m) rfl (by kernel_rfl) (by kernel_rfl) (by kernel_rfl) (fun _ _ _ h => h) (Or.inl ⟨by rfl, ?_⟩) (by assumption) ?_
    focus (intro w hSw; have hSw' := hSw.m; clear hSw; obtain ⟨c0, c1, c2, c3, c4, c5, c6, c7, c8, c9, c10, c11, _, _⟩ := hSw'; first | (go_simp; done) | (go_simp; with_reducible rfl))
    (try simp only [Act.put, List.setIfInBounds_toArray, List.set_cons_zero, List.set_cons_succ])
    refine wpAnyH_take (i := 25) (oi := { dst := some 47, op := _, type := _, pos := _, after := _, guard := _ }) (v := dvV d) rfl (by kernel_rfl) (by kernel_rfl) (by kernel_rfl) (fun _ _ _ h => h) (Or.inl ⟨by rfl, ?_⟩) (by assumption) ?_
    focus (intro w hSw; have hSw' := hSw.a; clear hSw; obtain ⟨c0, c1, c2, c3, c4, c5, c6, c7, c8, c9, c10, c11, _, _⟩ := hSw'; first | (go_simp; done) | (go_simp; with_reducible rfl))
    (try simp only [Act.put, List.setIfInBounds_toArray, List.set_cons_zero, List.set_cons_succ])
    refine wpAnyH_take (i := 27) (oi := { dst := some 49, op := _, type := _, pos := _, after := _, guard := _ }) (v := dvV m) rfl (by kernel_rfl) (by kernel_rfl) (by kernel_rfl) (fun _ _ _ h => h) (Or.inl ⟨by rfl, ?_⟩) (by assumption) ?_
    focus (intro w hSw; have hSw' := hSw.m; clear hSw; obtain ⟨c0, c1, c2, c3, c4, c5, c6, c7, c8, c9, c10, c11, _, _⟩ := hSw'; first | (go_simp; done) | (go_simp; with_reducible rfl))
    (try simp only [Act.put, List.setIfInBounds_toArray, List.set_cons_zero, List.set_cons_succ])
    refine wpAnyH_ready (rs := [26]) (by kernel_rfl) (by simp) ?_
    refine AllReadyH.cons (o := { dst := some 48, op := _, type := _, pos := _, after := _, guard := _ }) rfl (fun K hK => ?_) AllReadyH.nil
    go_simp
    refine (H6.out _).mono ?_
    rintro en U6 ⟨rfl, hBc⟩
    have hS6 := hS5.below hBc
    refine hK.out _ _ hS6 (fun hH6 => ?_)
    clear hK K hBc hS5 hH5
    (try simp only [Act.put, List.setIfInBounds_toArray, List.set_cons_zero, List.set_cons_succ])
    refine wpAnyH_take (i := 28) (oi := { dst := some 50, op := _, type := _, pos := _, after := _, guard := _ }) (v := ?_) rfl (by kernel_rfl) (by kernel_rfl) (by kernel_rfl) (fun _ _ _ h => h) (Or.inl ⟨by rfl, ?_⟩) (by assumption) ?_
    rotate_left
    focus (intro w hSw; (try dsimp only at hSw); first | (go_simp; done) | (go_simp; with_reducible rfl))
    (try simp only [Act.put, List.setIfInBounds_toArray, List.set_cons_zero, List.set_cons_succ])
    refine wpAnyH_take (i := 29) (oi := { dst := some 51, op := _, type := _, pos := _, after := _, guard := _ }) (v := ?_) rfl (by kernel_rfl) (by kernel_rfl) (by kernel_rfl) (fun _ _ _ h => h) (Or.inl ⟨by rfl, ?_⟩) (by assumption) ?_
    rotate_left
    focus (intro w hSw; (try dsimp only at hSw); first | (go_simp; done) | (go_simp; with_reducible rfl))
    (try simp only [Act.put, List.setIfInBounds_toArray, List.set_cons_zero, List.set_cons_succ])
    refine wpAnyH_take (i := 30) (oi := { dst := some 6, op := _, type := _, pos := _, after := _, guard := _ }) (v := ?_) rfl (by kernel_rfl) (by kernel_rfl) (by kernel_rfl) (fun _ _ _ h => h) (Or.inl ⟨by rfl, ?_⟩) (by assumption) ?_
    rotate_left
    focus (intro w hSw; (try dsimp only at hSw); first | (go_simp; done) | (go_simp; with_reducible rfl))
    (try simp only [Act.put, List.setIfInBounds_toArray, List.set_cons_zero, List.set_cons_succ])
    refine wpAnyH_done (by kernel_rfl) ?_ _
    (try simp only [Exit.inBlock, Exit.then])
    (try go_wp2_with fail)
    go_ret
    exact ⟨rfl, hS6.l⟩
  clear H0 H1 H2 H3 H4 H5 H6 HM
  have hrd : ∀ (c1 c3 c5 a6 a7 a8 : Bool) (n : Nat), n + 1 = cnt c1 c3 c5 a6 a7 a8 → (c3 = true → c1 = true) → (c5 = true → c3 = true) → Region.ready .any ops #[true, c1, true, c3, true, c5, a6, a7, a8, false, false, false] = rdy c1 c3 c5 a6 a7 a8 := by
    subst hops
    intro c1 c3 c5 a6 a7 a8 n hn h3 h5
    cases c1 <;> cases c3 <;> cases c5 <;> cases a6 <;> cases a7 <;> cases a8 <;> first | (exfalso; exact absurd (h3 rfl) (by decide)) | (exfalso; exact absurd (h5 rfl) (by decide)) | (exfalso; revert hn; simp [cnt]; done) | kernel_rfl
  have key : ∀ (n : Nat) (c1 c3 c5 a6 a7 a8 : Bool) (s14 s16 s18 s7 s8 s9 : Value) (N7 N8 N9 : Nat) (V : World), n = cnt c1 c3 c5 a6 a7 a8 → (c3 = true → c1 = true) → (c5 = true → c3 = true) →
      (c1 = true → s14 = dvV d) → (c3 = true → s16 = dvV e) → (c5 = true → s18 = dvV f) → Blk a6 s7 N7 (A + 3) V → Blk a7 s8 N8 (A + 3) V → Blk a8 s9 N9 (A + 3) V →
      (a6 = true → a7 = true → N7 ≠ N8) → (a6 = true → a8 = true → N7 ≠ N9) → (a7 = true → a8 = true → N8 ≠ N9) → A + 3 ≤ V.heap.size → ThS A d e f w V →
      wpAnyH Tryd.prog .any ops Q (fun w' => ThS A d e f w w') (n + 3) #[true, c1, true, c3, true, c5, a6, a7, a8, false, false, false] ⟨((((((Tm.setIfInBounds 14 s14).setIfInBounds 16 s16).setIfInBounds 18 s18).setIfInBounds 7 s7).setIfInBounds 8 s8).setIfInBounds 9 s9), []⟩ V := by
    intro n
    induction n with
    | zero =>
      intro c1 c3 c5 a6 a7 a8 s14 s16 s18 s7 s8 s9 N7 N8 N9 V hn h3 h5 g14 g16 g18 k7 k8 k9 n78 n79 n89 hz hS
      obtain ⟨rfl, rfl, rfl, rfl, rfl, rfl⟩ := cnt_zero hn
      obtain ⟨rfl, b7, l7⟩ := k7 rfl
      obtain ⟨rfl, b8, l8⟩ := k8 rfl
      obtain ⟨rfl, b9, l9⟩ := k9 rfl
      obtain rfl := g14 rfl
      obtain rfl := g16 rfl
      obtain rfl := g18 rfl
      have m78 := n78 rfl rfl
      have m79 := n79 rfl rfl
      have m89 := n89 rfl rfl
      have B7 := Lib.hid b7
      have B8 := Lib.hid b8
      have B9 := Lib.hid b9
      have FI := Lib.hid (fin N7 N8 N9)
      clear fin hn h3 h5 g14 g16 g18 n78 n79 n89 hrd b7 b8 b9 hS0 hz2
      subst hops
      subst hT
      clear hQ
      (try simp only [Act.put, List.setIfInBounds_toArray, List.set_cons_zero, List.set_cons_succ])
      obtain ⟨c0, c1, c2, c3, c4, c5, c6, c7, c8, c9, c10, c11, fr, lt⟩ := B7.out
      refine wpAnyH_ready (rs := [9]) (by kernel_rfl) (by simp) ?_
      refine AllReadyH.cons (o := { dst := none, op := _, type := _, pos := _, after := _, guard := _ }) rfl (fun K hK => ?_) AllReadyH.nil
      go_simp
      have hT9 := store_th (x := d) (N := N7) hS hAw l7
      have hD9 := store_dv (x := d) B7.out
      have hO8 := B8.out.other (M := N7) (by omega) (.bool d.ns) (.bool d.nc) (.bool d.pr) (.bool d.pu) (.bool d.mr) (.bool d.oc) (.int .i64 d.ma) (.int .i64 d.sa) (.int .i64 d.ws) (.int .i64 d.oe) (.int .i64 d.ms) (.int .i64 d.mf)
      have hO9 := B9.out.other (M := N7) (by omega) (.bool d.ns) (.bool d.nc) (.bool d.pr) (.bool d.pu) (.bool d.mr) (.bool d.oc) (.int .i64 d.ma) (.int .i64 d.sa) (.int .i64 d.ws) (.int .i64 d.oe) (.int .i64 d.ms) (.int .i64 d.mf)
      refine hK.out _ _ hT9 (fun hS10 => ?_)
      clear hK K c0 c1 c2 c3 c4 c5 c6 c7 c8 c9 c10 c11 fr lt
      (try simp only [Act.put, List.setIfInBounds_toArray, List.set_cons_zero, List.set_cons_succ])
      generalize ((((((((((((V.setCell ⟨N7, 0, none⟩ (.bool d.ns)).setCell ⟨N7, 1, none⟩ (.bool d.nc)).setCell ⟨N7, 2, none⟩ (.bool d.pr)).setCell ⟨N7, 3, none⟩ (.bool d.pu)).setCell ⟨N7, 4, none⟩ (.bool d.mr)).setCell ⟨N7, 5, none⟩ (.bool d.oc)).setCell ⟨N7, 6, none⟩ (.int .i64 d.ma)).setCell ⟨N7, 7, none⟩ (.int .i64 d.sa)).setCell ⟨N7, 8, none⟩ (.int .i64 d.ws)).setCell ⟨N7, 9, none⟩ (.int .i64 d.oe)).setCell ⟨N7, 10, none⟩ (.int .i64 d.ms)).setCell ⟨N7, 11, none⟩ (.int .i64 d.mf)) = V1 at *
      replace B7 := Lib.hid hD9
      replace B8 := Lib.hid hO8
      replace B9 := Lib.hid hO9
      clear hD9 hT9 hO8 hO9
      obtain ⟨c0, c1, c2, c3, c4, c5, c6, c7, c8, c9, c10, c11, fr, lt⟩ := B8.out
      refine wpAnyH_ready (rs := [10]) (by kernel_rfl) (by simp) ?_
      refine AllReadyH.cons (o := { dst := none, op := _, type := _, pos := _, after := _, guard := _ }) rfl (fun K hK => ?_) AllReadyH.nil
      go_simp
      have hT10 := store_th (x := e) (N := N8) hS10 hAw l8
      have hD10 := store_dv (x := e) B8.out
      have hO7 := B7.out.other (M := N8) (by omega) (.bool e.ns) (.bool e.nc) (.bool e.pr) (.bool e.pu) (.bool e.mr) (.bool e.oc) (.int .i64 e.ma) (.int .i64 e.sa) (.int .i64 e.ws) (.int .i64 e.oe) (.int .i64 e.ms) (.int .i64 e.mf)
      have hO9 := B9.out.other (M := N8) (by omega) (.bool e.ns) (.bool e.nc) (.bool e.pr) (.bool e.pu) (.bool e.mr) (.bool e.oc) (.int .i64 e.ma) (.int .i64 e.sa) (.int .i64 e.ws) (.int .i64 e.oe) (.int .i64 e.ms) (.int .i64 e.mf)
      refine hK.out _ _ hT10 (fun hS11 => ?_)
      clear hK K c0 c1 c2 c3 c4 c5 c6 c7 c8 c9 c10 c11 fr lt
      (try simp only [Act.put, List.setIfInBounds_toArray, List.set_cons_zero, List.set_cons_succ])
      generalize ((((((((((((V1.setCell ⟨N8, 0, none⟩ (.bool e.ns)).setCell ⟨N8, 1, none⟩ (.bool e.nc)).setCell ⟨N8, 2, none⟩ (.bool e.pr)).setCell ⟨N8, 3, none⟩ (.bool e.pu)).setCell ⟨N8, 4, none⟩ (.bool e.mr)).setCell ⟨N8, 5, none⟩ (.bool e.oc)).setCell ⟨N8, 6, none⟩ (.int .i64 e.ma)).setCell ⟨N8, 7, none⟩ (.int .i64 e.sa)).setCell ⟨N8, 8, none⟩ (.int .i64 e.ws)).setCell ⟨N8, 9, none⟩ (.int .i64 e.oe)).setCell ⟨N8, 10, none⟩ (.int .i64 e.ms)).setCell ⟨N8, 11, none⟩ (.int .i64 e.mf)) = V2 at *
      replace B8 := Lib.hid hD10
      replace B7 := Lib.hid hO7
      replace B9 := Lib.hid hO9
      clear hD10 hT10 hO7 hO9
      obtain ⟨c0, c1, c2, c3, c4, c5, c6, c7, c8, c9, c10, c11, fr, lt⟩ := B9.out
      refine wpAnyH_ready (rs := [11]) (by kernel_rfl) (by simp) ?_
      refine AllReadyH.cons (o := { dst := none, op := _, type := _, pos := _, after := _, guard := _ }) rfl (fun K hK => ?_) AllReadyH.nil
      go_simp
      have hT11 := store_th (x := f) (N := N9) hS11 hAw l9
      have hD11 := store_dv (x := f) B9.out
      have hO7 := B7.out.other (M := N9) (by omega) (.bool f.ns) (.bool f.nc) (.bool f.pr) (.bool f.pu) (.bool f.mr) (.bool f.oc) (.int .i64 f.ma) (.int .i64 f.sa) (.int .i64 f.ws) (.int .i64 f.oe) (.int .i64 f.ms) (.int .i64 f.mf)
      have hO8 := B8.out.other (M := N9) (by omega) (.bool f.ns) (.bool f.nc) (.bool f.pr) (.bool f.pu) (.bool f.mr) (.bool f.oc) (.int .i64 f.ma) (.int .i64 f.sa) (.int .i64 f.ws) (.int .i64 f.oe) (.int .i64 f.ms) (.int .i64 f.mf)
      refine hK.out _ _ hT11 (fun hS12 => ?_)
      clear hK K c0 c1 c2 c3 c4 c5 c6 c7 c8 c9 c10 c11 fr lt
      (try simp only [Act.put, List.setIfInBounds_toArray, List.set_cons_zero, List.set_cons_succ])
      generalize ((((((((((((V2.setCell ⟨N9, 0, none⟩ (.bool f.ns)).setCell ⟨N9, 1, none⟩ (.bool f.nc)).setCell ⟨N9, 2, none⟩ (.bool f.pr)).setCell ⟨N9, 3, none⟩ (.bool f.pu)).setCell ⟨N9, 4, none⟩ (.bool f.mr)).setCell ⟨N9, 5, none⟩ (.bool f.oc)).setCell ⟨N9, 6, none⟩ (.int .i64 f.ma)).setCell ⟨N9, 7, none⟩ (.int .i64 f.sa)).setCell ⟨N9, 8, none⟩ (.int .i64 f.ws)).setCell ⟨N9, 9, none⟩ (.int .i64 f.oe)).setCell ⟨N9, 10, none⟩ (.int .i64 f.ms)).setCell ⟨N9, 11, none⟩ (.int .i64 f.mf)) = V3 at *
      replace B9 := Lib.hid hD11
      replace B7 := Lib.hid hO7
      replace B8 := Lib.hid hO8
      clear hD11 hT11 hO7 hO8
      refine wpAnyH_done (by kernel_rfl) ?_ _
      have this := FI.out V3 B7.out B8.out B9.out hS12
      (try simp only [Act.put, List.setIfInBounds_toArray, List.set_cons_zero, List.set_cons_succ] at this)
      exact this
    | succ n ih =>
      intro c1 c3 c5 a6 a7 a8 s14 s16 s18 s7 s8 s9 N7 N8 N9 V hn h3 h5 g14 g16 g18 k7 k8 k9 n78 n79 n89 hz hS
      refine wpAnyH_all (hrd c1 c3 c5 a6 a7 a8 n hn h3 h5) (rdy_ne hn h3 h5) (fun i hi => ?_)
      clear fin hrd hS0 hz2
      have hi' := mem_rdy hi
      clear hi
      rcases hi' with ⟨rfl, rfl⟩ | ⟨rfl, rfl, rfl⟩ | ⟨rfl, rfl, rfl⟩ | ⟨rfl, rfl⟩ | ⟨rfl, rfl⟩ | ⟨rfl, rfl⟩
      · skip
        have IH := Lib.hid ih
        clear ih
        subst hops
        subst hT
        clear hQ
        refine AllReadyH.cons (i := 1) (o := { dst := some 14, op := _, type := _, pos := _, after := _, guard := _ }) (rs := []) rfl (fun K hK => ?_) AllReadyH.nil 1 (List.mem_singleton.2 rfl)
        · (try simp only [List.setIfInBounds_toArray])
          (try simp only [Act.put, List.setIfInBounds_toArray, List.set_cons_zero, List.set_cons_succ])
          go_simp
          refine (program_any d _).mono ?_
          rintro en V1 ⟨rfl, hBc⟩
          refine hK.out _ _ (hS.below hBc) (fun hS1 => ?_)
          have this := IH.out true c3 c5 a6 a7 a8 (dvV d) s16 s18 s7 s8 s9 N7 N8 N9 V1 (by unfold cnt at hn ⊢; simp only [Bool.not_true, Bool.not_false, Bool.toNat_true, Bool.toNat_false] at hn ⊢; omega) (fun _ => rfl) h5 (fun _ => rfl) g16 g18 (k7.below hBc) (k8.below hBc) (k9.below hBc) n78 n79 n89 (Nat.le_trans hz hBc.size) hS1
          (try simp only [Act.put, List.setIfInBounds_toArray, List.set_cons_zero, List.set_cons_succ])
          (try simp only [Act.put, List.setIfInBounds_toArray, List.set_cons_zero, List.set_cons_succ] at this)
          exact this
      · obtain rfl := g14 rfl
        have IH := Lib.hid ih
        clear ih
        subst hops
        subst hT
        clear hQ
        refine AllReadyH.cons (i := 3) (o := { dst := some 16, op := _, type := _, pos := _, after := _, guard := _ }) (rs := []) rfl (fun K hK => ?_) AllReadyH.nil 3 (List.mem_singleton.2 rfl)
        · (try simp only [List.setIfInBounds_toArray])
          (try simp only [Act.put, List.setIfInBounds_toArray, List.set_cons_zero, List.set_cons_succ])
          go_simp
          refine (program_any e _).mono ?_
          rintro en V1 ⟨rfl, hBc⟩
          refine hK.out _ _ (hS.below hBc) (fun hS1 => ?_)
          have this := IH.out true true c5 a6 a7 a8 (dvV d) (dvV e) s18 s7 s8 s9 N7 N8 N9 V1 (by unfold cnt at hn ⊢; simp only [Bool.not_true, Bool.not_false, Bool.toNat_true, Bool.toNat_false] at hn ⊢; omega) (fun _ => rfl) (fun _ => rfl) (fun _ => rfl) (fun _ => rfl) g18 (k7.below hBc) (k8.below hBc) (k9.below hBc) n78 n79 n89 (Nat.le_trans hz hBc.size) hS1
          (try simp only [Act.put, List.setIfInBounds_toArray, List.set_cons_zero, List.set_cons_succ])
          (try simp only [Act.put, List.setIfInBounds_toArray, List.set_cons_zero, List.set_cons_succ] at this)
          exact this
      · obtain rfl := h3 rfl
        obtain rfl := g14 rfl
        obtain rfl := g16 rfl
        have IH := Lib.hid ih
        clear ih
        subst hops
        subst hT
        clear hQ
        refine AllReadyH.cons (i := 5) (o := { dst := some 18, op := _, type := _, pos := _, after := _, guard := _ }) (rs := []) rfl (fun K hK => ?_) AllReadyH.nil 5 (List.mem_singleton.2 rfl)
        · (try simp only [List.setIfInBounds_toArray])
          (try simp only [Act.put, List.setIfInBounds_toArray, List.set_cons_zero, List.set_cons_succ])
          go_simp
          refine (program_any f _).mono ?_
          rintro en V1 ⟨rfl, hBc⟩
          refine hK.out _ _ (hS.below hBc) (fun hS1 => ?_)
          have this := IH.out true true true a6 a7 a8 (dvV d) (dvV e) (dvV f) s7 s8 s9 N7 N8 N9 V1 (by unfold cnt at hn ⊢; simp only [Bool.not_true, Bool.not_false, Bool.toNat_true, Bool.toNat_false] at hn ⊢; omega) (fun _ => rfl) (fun _ => rfl) (fun _ => rfl) (fun _ => rfl) (fun _ => rfl) (k7.below hBc) (k8.below hBc) (k9.below hBc) n78 n79 n89 (Nat.le_trans hz hBc.size) hS1
          (try simp only [Act.put, List.setIfInBounds_toArray, List.set_cons_zero, List.set_cons_succ])
          (try simp only [Act.put, List.setIfInBounds_toArray, List.set_cons_zero, List.set_cons_succ] at this)
          exact this
      · skip
        have IH := Lib.hid ih
        clear ih
        subst hops
        subst hT
        clear hQ
        refine AllReadyH.cons (i := 6) (o := { dst := some 7, op := _, type := _, pos := _, after := _, guard := _ }) (rs := []) rfl (fun K hK => ?_) AllReadyH.nil 6 (List.mem_singleton.2 rfl)
        · (try simp only [List.setIfInBounds_toArray])
          (try simp only [Act.put, List.setIfInBounds_toArray, List.set_cons_zero, List.set_cons_succ])
          go_simp
          have hBc := below_new V (.cells (dvC zD) 28)
          have hsz : (V.alloc (.cells (dvC zD) 28)).heap.size = V.heap.size + 1 := by simp
          refine hK.out _ _ (hS.below hBc) (fun hS1 => ?_)
          have this := IH.out c1 c3 c5 true a7 a8 s14 s16 s18 (.pointer (some ⟨V.heap.size, 0, none⟩)) s8 s9 V.heap.size N8 N9 (V.alloc (.cells (dvC zD) 28)) (by unfold cnt at hn ⊢; simp only [Bool.not_true, Bool.not_false, Bool.toNat_true, Bool.toNat_false] at hn ⊢; omega) h3 h5 g14 g16 g18 (blk_new (A + 3) V 28 hz) (k8.below hBc) (k9.below hBc) (fun _ e => by have := k8.lt e; omega) (fun _ e => by have := k9.lt e; omega) n89 (Nat.le_trans hz hBc.size) hS1
          (try simp only [Act.put, List.setIfInBounds_toArray, List.set_cons_zero, List.set_cons_succ])
          (try simp only [Act.put, List.setIfInBounds_toArray, List.set_cons_zero, List.set_cons_succ] at this)
          exact this
      · skip
        have IH := Lib.hid ih
        clear ih
        subst hops
        subst hT
        clear hQ
        refine AllReadyH.cons (i := 7) (o := { dst := some 8, op := _, type := _, pos := _, after := _, guard := _ }) (rs := []) rfl (fun K hK => ?_) AllReadyH.nil 7 (List.mem_singleton.2 rfl)
        · (try simp only [List.setIfInBounds_toArray])
          (try simp only [Act.put, List.setIfInBounds_toArray, List.set_cons_zero, List.set_cons_succ])
          go_simp
          have hBc := below_new V (.cells (dvC zD) 28)
          have hsz : (V.alloc (.cells (dvC zD) 28)).heap.size = V.heap.size + 1 := by simp
          refine hK.out _ _ (hS.below hBc) (fun hS1 => ?_)
          have this := IH.out c1 c3 c5 a6 true a8 s14 s16 s18 s7 (.pointer (some ⟨V.heap.size, 0, none⟩)) s9 N7 V.heap.size N9 (V.alloc (.cells (dvC zD) 28)) (by unfold cnt at hn ⊢; simp only [Bool.not_true, Bool.not_false, Bool.toNat_true, Bool.toNat_false] at hn ⊢; omega) h3 h5 g14 g16 g18 (k7.below hBc) (blk_new (A + 3) V 28 hz) (k9.below hBc) (fun e _ => by have := k7.lt e; omega) n79 (fun _ e => by have := k9.lt e; omega) (Nat.le_trans hz hBc.size) hS1
          (try simp only [Act.put, List.setIfInBounds_toArray, List.set_cons_zero, List.set_cons_succ])
          (try simp only [Act.put, List.setIfInBounds_toArray, List.set_cons_zero, List.set_cons_succ] at this)
          exact this
      · skip
        have IH := Lib.hid ih
        clear ih
        subst hops
        subst hT
        clear hQ
        refine AllReadyH.cons (i := 8) (o := { dst := some 9, op := _, type := _, pos := _, after := _, guard := _ }) (rs := []) rfl (fun K hK => ?_) AllReadyH.nil 8 (List.mem_singleton.2 rfl)
        · (try simp only [List.setIfInBounds_toArray])
          (try simp only [Act.put, List.setIfInBounds_toArray, List.set_cons_zero, List.set_cons_succ])
          go_simp
          have hBc := below_new V (.cells (dvC zD) 28)
          have hsz : (V.alloc (.cells (dvC zD) 28)).heap.size = V.heap.size + 1 := by simp
          refine hK.out _ _ (hS.below hBc) (fun hS1 => ?_)
          have this := IH.out c1 c3 c5 a6 a7 true s14 s16 s18 s7 s8 (.pointer (some ⟨V.heap.size, 0, none⟩)) N7 N8 V.heap.size (V.alloc (.cells (dvC zD) 28)) (by unfold cnt at hn ⊢; simp only [Bool.not_true, Bool.not_false, Bool.toNat_true, Bool.toNat_false] at hn ⊢; omega) h3 h5 g14 g16 g18 (k7.below hBc) (k8.below hBc) (blk_new (A + 3) V 28 hz) n78 (fun e _ => by have := k7.lt e; omega) (fun e _ => by have := k8.lt e; omega) (Nat.le_trans hz hBc.size) hS1
          (try simp only [Act.put, List.setIfInBounds_toArray, List.set_cons_zero, List.set_cons_succ])
          (try simp only [Act.put, List.setIfInBounds_toArray, List.set_cons_zero, List.set_cons_succ] at this)
          exact this
  have start := key 6 false false false false false false (Tm.getD 14 undef) (Tm.getD 16 undef) (Tm.getD 18 undef) (Tm.getD 7 undef) (Tm.getD 8 undef) (Tm.getD 9 undef) 0 0 0 V0 rfl (fun h => by cases h) (fun h => by cases h) (fun h => by cases h) (fun h => by cases h) (fun h => by cases h) (fun h => by cases h) (fun h => by cases h) (fun h => by cases h) (fun h => by cases h) (fun h => by cases h) (fun h => by cases h) hz2 hS0
  have hTT : ((((((Tm.setIfInBounds 14 (Tm.getD 14 undef)).setIfInBounds 16 (Tm.getD 16 undef)).setIfInBounds 18 (Tm.getD 18 undef)).setIfInBounds 7 (Tm.getD 7 undef)).setIfInBounds 8 (Tm.getD 8 undef)).setIfInBounds 9 (Tm.getD 9 undef)) = Tm := by subst hT; rfl
  rw [hTT] at start
  exact start
end Go.Proofs.YtnjjjfbklgdgpaaDoor
