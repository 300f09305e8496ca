/- DirectiveFormats, DirectiveReturns: for all directives the statements' functions return true: the walks. -/
import Derived.Test.YtnjjjfbklgdgpaaDoorDRefFormat
import Derived.Test.YtnjjjfbklgdgpaaDoorDFormat
import Derived.Test.YtnjjjfbklgdgpaaDoorDBack
import Derived.Test.YtnjjjfbklgdgpaaDoorDTwo
namespace Go.Proofs.YtnjjjfbklgdgpaaDoor
open Go.RowKit

/-- The directives' cells. -/
structure OnS (N : Nat) (d : Dv) (w w' : World) : Prop where
  a : DvB N w' d
  l : Below w.heap.size w w'
theorem OnS.below {N : Nat} {d : Dv} {w w1 w2 : World} (h : OnS N d w w1) (hb : Below w1.heap.size w1 w2) : OnS N d w w2 := ⟨h.a.below hb, h.l.trans (hb.mono h.l.size)⟩
theorem onS_all {N : Nat} {d : Dv} {w w' : World} (h : OnS N d w w') : w'.cell? ⟨N, 0, none⟩ = some (.bool d.ns) ∧ w'.cell? ⟨N, 1, none⟩ = some (.bool d.nc) ∧ w'.cell? ⟨N, 2, none⟩ = some (.bool d.pr) ∧ w'.cell? ⟨N, 3, none⟩ = some (.bool d.pu) ∧ w'.cell? ⟨N, 4, none⟩ = some (.bool d.mr) ∧ w'.cell? ⟨N, 5, none⟩ = some (.bool d.oc) ∧ w'.cell? ⟨N, 6, none⟩ = some (.int .i64 d.ma) ∧ w'.cell? ⟨N, 7, none⟩ = some (.int .i64 d.sa) ∧ w'.cell? ⟨N, 8, none⟩ = some (.int .i64 d.ws) ∧ w'.cell? ⟨N, 9, none⟩ = some (.int .i64 d.oe) ∧ w'.cell? ⟨N, 10, none⟩ = some (.int .i64 d.ms) ∧ w'.cell? ⟨N, 11, none⟩ = some (.int .i64 d.mf) ∧ OnS N d w w' :=
  ⟨h.a.c0, h.a.c1, h.a.c2, h.a.c3, h.a.c4, h.a.c5, h.a.c6, h.a.c7, h.a.c8, h.a.c9, h.a.c10, h.a.c11, h⟩
set_option maxHeartbeats 16000000 in
set_option maxRecDepth 100000 in
theorem formats_walk (d : Dv) (w : World) (hM : MaxIs w) (hT : HasTab w) (hd : FitD d) :
    Calls Tryd.prog 4 #[dvV d] w fun en w' => en = .returned (.bool true) ∧ Below w.heap.size w w' := by
  have HM := Lib.hid hM
  have HT := Lib.hid hT
  have HP := Lib.hid (fun w hT => format_any d w hd hT)
  have HR := Lib.hid (fun w => refFormat11_any d w hd)
  generalize fmtD d = t at *
  have HS := Lib.hid (⟨dvB_new w d 26, below_new w (.cells (dvC d) 26)⟩ : OnS w.heap.size d w (w.alloc (.cells (dvC d) 26)))
  clear hM hT hd
  go_enter Tryd.func4, Tryd.ntmps4
  go_upto_region 1 with fail
  change Code.wp _ _ _ _ (w.alloc (.cells (dvC d) 26))
  generalize (w.alloc (.cells (dvC d) 26)) = W at *
  go_wp2_with fail
  refine (awake11_any _ (HM.out.below HS.out.l)).mono ?_
  rintro en w1 ⟨rfl, hB1⟩
  have HS1 := Lib.hid (HS.out.below hB1)
  clear hB1 HS
  go_upto_region 3 with fail
  have hS0 := HS1.out.below (Below.refl _ _).drew
  clear HS1
  refine wp_region_held_drew (S := (fun w' => w'.cell? ⟨w.heap.size, 0, none⟩ = some (.bool d.ns) ∧ w'.cell? ⟨w.heap.size, 1, none⟩ = some (.bool d.nc) ∧ w'.cell? ⟨w.heap.size, 2, none⟩ = some (.bool d.pr) ∧ w'.cell? ⟨w.heap.size, 3, none⟩ = some (.bool d.pu) ∧ w'.cell? ⟨w.heap.size, 4, none⟩ = some (.bool d.mr) ∧ w'.cell? ⟨w.heap.size, 5, none⟩ = some (.bool d.oc) ∧ w'.cell? ⟨w.heap.size, 6, none⟩ = some (.int .i64 d.ma) ∧ w'.cell? ⟨w.heap.size, 7, none⟩ = some (.int .i64 d.sa) ∧ w'.cell? ⟨w.heap.size, 8, none⟩ = some (.int .i64 d.ws) ∧ w'.cell? ⟨w.heap.size, 9, none⟩ = some (.int .i64 d.oe) ∧ w'.cell? ⟨w.heap.size, 10, none⟩ = some (.int .i64 d.ms) ∧ w'.cell? ⟨w.heap.size, 11, none⟩ = some (.int .i64 d.mf) ∧ OnS w.heap.size d w w')) (by kernel_rfl) (onS_all hS0) (fun hHeld => ?_)
  generalize w1.drew = V0 at *
  refine wpAnyH_take (i := 0) (oi := { dst := some 5, op := _, type := _, pos := _, after := _, guard := _ }) (v := dvV d) rfl (by kernel_rfl) (by kernel_rfl) (by kernel_rfl) (fun _ _ _ h => h) (Or.inl ⟨by rfl, ?_⟩) (by assumption) ?_
  focus (intro w hSw; (try dsimp only at hSw); first | (go_simp; done) | (go_simp; with_reducible rfl))
  (try simp only [Act.put, List.setIfInBounds_toArray, List.set_cons_zero, List.set_cons_succ])
  refine wpAnyH_take (i := 3) (oi := { dst := some 8, op := _, type := _, pos := _, after := _, guard := _ }) (v := dvV d) rfl (by kernel_rfl) (by kernel_rfl) (by kernel_rfl) (fun _ _ _ h => h) (Or.inl ⟨by rfl, ?_⟩) (by assumption) ?_
  focus (intro w hSw; (try dsimp only at hSw); first | (go_simp; done) | (go_simp; with_reducible rfl))
  (try simp only [Act.put, List.setIfInBounds_toArray, List.set_cons_zero, List.set_cons_succ])
  refine wpAnyH_ready (rs := [1]) (by kernel_rfl) (by simp) ?_
  refine AllReadyH.cons (o := { dst := some 6, op := _, type := _, pos := _, after := _, guard := _ }) rfl (fun K hK => ?_) AllReadyH.nil
  go_simp
  refine (program_any d _).mono ?_
  rintro en V1 ⟨rfl, hBc⟩
  have hS1 := hS0.below hBc
  refine hK.out _ _ (onS_all hS1) (fun hH1 => ?_)
  clear hK K hBc hS0 hHeld
  (try simp only [Act.put, List.setIfInBounds_toArray, List.set_cons_zero, List.set_cons_succ])
  refine wpAnyH_ready (rs := [2]) (by kernel_rfl) (by simp) ?_
  refine AllReadyH.cons (o := { dst := some 7, op := _, type := _, pos := _, after := _, guard := _ }) rfl (fun K hK => ?_) AllReadyH.nil
  go_simp
  refine (HP.out _ (HT.out.below hS1.l)).mono ?_
  rintro en V2 ⟨rfl, hBc⟩
  have hS2 := hS1.below hBc
  refine hK.out _ _ (onS_all hS2) (fun hH2 => ?_)
  clear hK K hBc hS1 hH1
  (try simp only [Act.put, List.setIfInBounds_toArray, List.set_cons_zero, List.set_cons_succ])
  refine wpAnyH_ready (rs := [4]) (by kernel_rfl) (by simp) ?_
  refine AllReadyH.cons (o := { dst := some 9, op := _, type := _, pos := _, after := _, guard := _ }) rfl (fun K hK => ?_) AllReadyH.nil
  go_simp
  refine (HR.out _).mono ?_
  rintro en V3 ⟨rfl, hBc⟩
  have hS3 := hS2.below hBc
  refine hK.out _ _ (onS_all hS3) (fun hH3 => ?_)
  clear hK K hBc hS2 hH2
  (try simp only [Act.put, List.setIfInBounds_toArray, List.set_cons_zero, List.set_cons_succ])
  refine wpAnyH_take (i := 5) (oi := { dst := some 10, op := _, type := _, pos := _, after := _, guard := _ }) (v := ?_) rfl (by kernel_rfl) (by kernel_rfl) (by kernel_rfl) (fun _ _ _ h => h) (Or.inl ⟨by rfl, ?_⟩) (by assumption) ?_
  rotate_left
  focus (intro w hSw; (try dsimp only at hSw); first | (go_simp; done) | (go_simp; with_reducible rfl))
  (try simp only [Act.put, List.setIfInBounds_toArray, List.set_cons_zero, List.set_cons_succ])
  refine wpAnyH_take (i := 6) (oi := { dst := some 2, op := _, type := _, pos := _, after := _, guard := _ }) (v := ?_) rfl (by kernel_rfl) (by kernel_rfl) (by kernel_rfl) (fun _ _ _ h => h) (Or.inl ⟨by rfl, ?_⟩) (by assumption) ?_
  rotate_left
  focus (intro w hSw; (try dsimp only at hSw); first | (go_simp; done) | (go_simp; with_reducible rfl))
  (try simp only [Act.put, List.setIfInBounds_toArray, List.set_cons_zero, List.set_cons_succ])
  refine wpAnyH_done (by kernel_rfl) ?_ _
  (try simp only [Exit.inBlock, Exit.then])
  (try go_wp2_with fail)
  go_ret
  exact ⟨rfl, hS3.l⟩
set_option maxHeartbeats 16000000 in
set_option maxRecDepth 100000 in
theorem returns_walk (d : Dv) (w : World) (hM : MaxIs w) (hT : HasTab w) (hd : FitD d) :
    Calls Tryd.prog 5 #[dvV d] w fun en w' => en = .returned (.bool true) ∧ Below w.heap.size w w' := by
  have HM := Lib.hid hM
  have HT := Lib.hid hT
  have HP := Lib.hid (fun w hT => format_any d w hd hT)
  have HQ := Lib.hid (fun w hT => format_any (normD d) w (nor_norm d).fit hT)
  rw [fmt_norm] at HQ
  have HN := Lib.hid (fun w => refNormal_any d w hd)
  have HPa := Lib.hid (parse_fmt d)
  have hlen : (fmtD d).length ≤ 90000 := by
    have h1 := getL_len (itemsD (normD d)) 40 (fun l hl => by
      have h2 := rows_items (nor_norm d)
      have h3 : itemsD (normD d) = flagI (flagsD (normD d)) ++ timeI (timesD (normD d)) := rfl
      rw [h3, ← h2] at hl
      exact (flat_ok (rows_ok (nor_norm d)) l hl).2)
    have h2 : (itemsD (normD d)).length ≤ 12 := by
      unfold itemsD
      rw [List.length_append]
      have h3 := flagI_le (flagsD (normD d))
      have h4 := timeI_le (timesD (normD d))
      have h5 : (flagsD (normD d)).length = 6 := rfl
      have h6 : (timesD (normD d)).length = 6 := rfl
      omega
    have h3 : (itemsD (normD d)).length * (40 + 2) ≤ 12 * (40 + 2) := Nat.mul_le_mul_right _ h2
    show (getL (itemsD (normD d))).length ≤ _
    omega
  generalize fmtD d = t at *
  generalize normD d = x at *
  have HS := Lib.hid (⟨dvB_new w d 26, below_new w (.cells (dvC d) 26)⟩ : OnS w.heap.size d w (w.alloc (.cells (dvC d) 26)))
  clear hM hT hd
  go_enter Tryd.func5, Tryd.ntmps5
  go_upto_region 1 with fail
  change Code.wp _ _ _ _ (w.alloc (.cells (dvC d) 26))
  generalize (w.alloc (.cells (dvC d) 26)) = W at *
  go_wp2_with fail
  refine (awake11_any _ (HM.out.below HS.out.l)).mono ?_
  rintro en w1 ⟨rfl, hB1⟩
  have HS1 := Lib.hid (HS.out.below hB1)
  clear hB1 HS
  obtain ⟨c0, c1, c2, c3, c4, c5, c6, c7, c8, c9, c10, c11, fr, lt⟩ := HS1.out.a
  go_wp2_with fail
  refine (program_any d _).mono ?_
  rintro en w2 ⟨rfl, hB2⟩
  have HS2 := Lib.hid (HS1.out.below hB2)
  clear hB2 HS1 c0 c1 c2 c3 c4 c5 c6 c7 c8 c9 c10 c11 fr lt
  go_wp2_with fail
  refine (HP.out _ (HT.out.below HS2.out.l)).mono ?_
  rintro en w3 ⟨rfl, hB3⟩
  have HS3 := Lib.hid (HS2.out.below hB3)
  clear hB3 HS2
  have HO := Lib.hid (own_lit1 w3 t)
  have HS4 := Lib.hid (HS3.out.below (below_new w3 (.cells #[.string (strB t)] 9)))
  go_wp2_with fail
  change Calls _ _ _ (w3.alloc (.cells #[.string (strB t)] 9)) _
  generalize w3.alloc (.cells #[.string (strB t)] 9) = W4 at *
  refine (fields11_any _ [t] _ HO.out.reads (by simp)).mono ?_
  rintro en w5 ⟨v, rfl, hO5, hB5⟩
  have HS5 := Lib.hid (HS4.out.below hB5)
  have HO5 := Lib.hid hO5
  clear hO5 hB5 HS4 HO
  go_wp2_with fail
  refine (parseF_any _ [t] _ HO5.out (HM.out.below HS5.out.l) (by simp) (by simpa using hlen)).mono ?_
  rintro en w6 ⟨rfl, hB6⟩
  rw [HPa.out]
  have HS6 := Lib.hid (HS5.out.below hB6)
  clear hB6 HS5 HO5
  have HN6 := Lib.hid (dvB_new w6 x 28)
  have HS7 := Lib.hid (HS6.out.below (below_new w6 (.cells (dvC x) 28)))
  obtain ⟨N, hNe⟩ : ∃ N, N = w6.heap.size := ⟨_, rfl⟩
  go_upto_region 5 with fail
  change Code.wp _ _ _ _ (w6.alloc (.cells (dvC x) 28))
  generalize w6.alloc (.cells (dvC x) 28) = W7 at *
  rw [← hNe] at HN6 ⊢
  have hS0 : TwS w.heap.size N d x w W7.drew := (⟨HS7.out.a, HN6.out, HS7.out.l⟩ : TwS w.heap.size N d x w W7).below (Below.refl _ _).drew
  clear HS6 HS7 HN6 hNe
  refine wp_region_held_drew (S := (fun w' => w'.cell? ⟨w.heap.size, 0, none⟩ = some (.bool d.ns) ∧ w'.cell? ⟨w.heap.size, 1, none⟩ = some (.bool d.nc) ∧ w'.cell? ⟨w.heap.size, 2, none⟩ = some (.bool d.pr) ∧ w'.cell? ⟨w.heap.size, 3, none⟩ = some (.bool d.pu) ∧ w'.cell? ⟨w.heap.size, 4, none⟩ = some (.bool d.mr) ∧ w'.cell? ⟨w.heap.size, 5, none⟩ = some (.bool d.oc) ∧ w'.cell? ⟨w.heap.size, 6, none⟩ = some (.int .i64 d.ma) ∧ w'.cell? ⟨w.heap.size, 7, none⟩ = some (.int .i64 d.sa) ∧ w'.cell? ⟨w.heap.size, 8, none⟩ = some (.int .i64 d.ws) ∧ w'.cell? ⟨w.heap.size, 9, none⟩ = some (.int .i64 d.oe) ∧ w'.cell? ⟨w.heap.size, 10, none⟩ = some (.int .i64 d.ms) ∧ w'.cell? ⟨w.heap.size, 11, none⟩ = some (.int .i64 d.mf) ∧ w'.cell? ⟨N, 0, none⟩ = some (.bool x.ns) ∧ w'.cell? ⟨N, 1, none⟩ = some (.bool x.nc) ∧ w'.cell? ⟨N, 2, none⟩ = some (.bool x.pr) ∧ w'.cell? ⟨N, 3, none⟩ = some (.bool x.pu) ∧ w'.cell? ⟨N, 4, none⟩ = some (.bool x.mr) ∧ w'.cell? ⟨N, 5, none⟩ = some (.bool x.oc) ∧ w'.cell? ⟨N, 6, none⟩ = some (.int .i64 x.ma) ∧ w'.cell? ⟨N, 7, none⟩ = some (.int .i64 x.sa) ∧ w'.cell? ⟨N, 8, none⟩ = some (.int .i64 x.ws) ∧ w'.cell? ⟨N, 9, none⟩ = some (.int .i64 x.oe) ∧ w'.cell? ⟨N, 10, none⟩ = some (.int .i64 x.ms) ∧ w'.cell? ⟨N, 11, none⟩ = some (.int .i64 x.mf) ∧ TwS w.heap.size N d x w w')) (by kernel_rfl) (twS_all hS0) (fun hHeld => ?_)
  generalize W7.drew = V0 at *
  refine wpAnyH_take (i := 0) (oi := { dst := some 14, op := _, type := _, pos := _, after := _, guard := _ }) (v := dvV x) rfl (by kernel_rfl) (by kernel_rfl) (by kernel_rfl) (fun _ _ _ h => h) (Or.inl ⟨by rfl, ?_⟩) (by assumption) ?_
  focus (intro w hSw; (try dsimp only at hSw); first | (go_simp; done) | (go_simp; with_reducible rfl))
  (try simp only [Act.put, List.setIfInBounds_toArray, List.set_cons_zero, List.set_cons_succ])
  refine wpAnyH_take (i := 2) (oi := { dst := some 16, op := _, type := _, pos := _, after := _, guard := _ }) (v := dvV d) rfl (by kernel_rfl) (by kernel_rfl) (by kernel_rfl) (fun _ _ _ h => h) (Or.inl ⟨by rfl, ?_⟩) (by assumption) ?_
  focus (intro w hSw; (try dsimp only at hSw); first | (go_simp; done) | (go_simp; with_reducible rfl))
  (try simp only [Act.put, List.setIfInBounds_toArray, List.set_cons_zero, List.set_cons_succ])
  refine wpAnyH_ready (rs := [1]) (by kernel_rfl) (by simp) ?_
  refine AllReadyH.cons (o := { dst := some 15, op := _, type := _, pos := _, after := _, guard := _ }) rfl (fun K hK => ?_) AllReadyH.nil
  go_simp
  refine (plain_any x _).mono ?_
  rintro en V1 ⟨rfl, hBc⟩
  have hS1 := hS0.below hBc
  refine hK.out _ _ (twS_all hS1) (fun hH1 => ?_)
  clear hK K hBc hS0 hHeld
  (try simp only [Act.put, List.setIfInBounds_toArray, List.set_cons_zero, List.set_cons_succ])
  refine wpAnyH_ready (rs := [3]) (by kernel_rfl) (by simp) ?_
  refine AllReadyH.cons (o := { dst := some 17, op := _, type := _, pos := _, after := _, guard := _ }) rfl (fun K hK => ?_) AllReadyH.nil
  go_simp
  refine (HN.out _).mono ?_
  rintro en V2 ⟨rfl, hBc⟩
  have hS2 := hS1.below hBc
  refine hK.out _ _ (twS_all hS2) (fun hH2 => ?_)
  clear hK K hBc hS1 hH1
  (try simp only [Act.put, List.setIfInBounds_toArray, List.set_cons_zero, List.set_cons_succ])
  refine wpAnyH_take (i := 4) (oi := { dst := some 18, op := _, type := _, pos := _, after := _, guard := _ }) (v := ?_) rfl (by kernel_rfl) (by kernel_rfl) (by kernel_rfl) (fun _ _ _ h => h) (Or.inl ⟨by rfl, ?_⟩) (by assumption) ?_
  rotate_left
  focus (intro w hSw; (try dsimp only at hSw); first | (go_simp; done) | (go_simp; with_reducible rfl))
  (try simp only [Act.put, List.setIfInBounds_toArray, List.set_cons_zero, List.set_cons_succ])
  refine wpAnyH_take (i := 5) (oi := { dst := some 19, op := _, type := _, pos := _, after := _, guard := _ }) (v := ?_) rfl (by kernel_rfl) (by kernel_rfl) (by kernel_rfl) (fun _ _ _ h => h) (Or.inl ⟨by rfl, ?_⟩) (by assumption) ?_
  rotate_left
  focus (intro w hSw; (try dsimp only at hSw); first | (go_simp; done) | (go_simp; with_reducible rfl))
  (try simp only [Act.put, List.setIfInBounds_toArray, List.set_cons_zero, List.set_cons_succ])
  refine wpAnyH_take (i := 6) (oi := { dst := some 20, op := _, type := _, pos := _, after := _, guard := _ }) (v := dvV x) rfl (by kernel_rfl) (by kernel_rfl) (by kernel_rfl) (fun _ _ _ h => h) (Or.inl ⟨by rfl, ?_⟩) (by assumption) ?_
  focus (intro w hSw; (try dsimp only at hSw); first | (go_simp; done) | (go_simp; with_reducible rfl))
  (try simp only [Act.put, List.setIfInBounds_toArray, List.set_cons_zero, List.set_cons_succ])
  refine wpAnyH_take (i := 8) (oi := { dst := some 22, op := _, type := _, pos := _, after := _, guard := _ }) (v := ?_) rfl (by kernel_rfl) (by kernel_rfl) (by kernel_rfl) (fun _ _ _ h => h) (Or.inl ⟨by rfl, ?_⟩) (by assumption) ?_
  rotate_left
  focus (intro w hSw; (try dsimp only at hSw); first | (go_simp; done) | (go_simp; with_reducible rfl))
  (try simp only [Act.put, List.setIfInBounds_toArray, List.set_cons_zero, List.set_cons_succ])
  refine wpAnyH_ready (rs := [7]) (by kernel_rfl) (by simp) ?_
  refine AllReadyH.cons (o := { dst := some 21, op := _, type := _, pos := _, after := _, guard := _ }) rfl (fun K hK => ?_) AllReadyH.nil
  go_simp
  refine (HQ.out _ (HT.out.below hS2.l)).mono ?_
  rintro en V3 ⟨rfl, hBc⟩
  have hS3 := hS2.below hBc
  refine hK.out _ _ (twS_all hS3) (fun hH3 => ?_)
  clear hK K hBc hS2 hH2
  (try simp only [Act.put, List.setIfInBounds_toArray, List.set_cons_zero, List.set_cons_succ])
  refine wpAnyH_take (i := 9) (oi := { dst := some 23, op := _, type := _, pos := _, after := _, guard := _ }) (v := ?_) rfl (by kernel_rfl) (by kernel_rfl) (by kernel_rfl) (fun _ _ _ h => h) (Or.inl ⟨by rfl, ?_⟩) (by assumption) ?_
  rotate_left
  focus (intro w hSw; (try dsimp only at hSw); first | (go_simp; done) | (go_simp; with_reducible rfl))
  (try simp only [Act.put, List.setIfInBounds_toArray, List.set_cons_zero, List.set_cons_succ])
  refine wpAnyH_take (i := 10) (oi := { dst := some 24, op := _, type := _, pos := _, after := _, guard := _ }) (v := ?_) rfl (by kernel_rfl) (by kernel_rfl) (by kernel_rfl) (fun _ _ _ h => h) (Or.inl ⟨by rfl, ?_⟩) (by assumption) ?_
  rotate_left
  focus (intro w hSw; (try dsimp only at hSw); first | (go_simp; done) | (go_simp; with_reducible rfl))
  (try simp only [Act.put, List.setIfInBounds_toArray, List.set_cons_zero, List.set_cons_succ])
  refine wpAnyH_take (i := 11) (oi := { dst := some 2, op := _, type := _, pos := _, after := _, guard := _ }) (v := ?_) rfl (by kernel_rfl) (by kernel_rfl) (by kernel_rfl) (fun _ _ _ h => h) (Or.inl ⟨by rfl, ?_⟩) (by assumption) ?_
  rotate_left
  focus (intro w hSw; (try dsimp only at hSw); first | (go_simp; done) | (go_simp; with_reducible rfl))
  (try simp only [Act.put, List.setIfInBounds_toArray, List.set_cons_zero, List.set_cons_succ])
  refine wpAnyH_done (by kernel_rfl) ?_ _
  (try simp only [Exit.inBlock, Exit.then])
  (try go_wp2_with fail)
  go_ret
  exact ⟨rfl, hS3.l⟩
end Go.Proofs.YtnjjjfbklgdgpaaDoor
