/- What the reference's time and Normal return. -/
import Derived.Test.YtnjjjfbklgdgpaaDoorDNormal
import Derived.Test.YtnjjjfbklgdgpaaDoorHeld
namespace Go.Proofs.YtnjjjfbklgdgpaaDoor
open Go.RowKit

theorem refTime_any (n : Int) (w : World) (h : In64 n) :
    Calls Tryd.prog 37 #[.int .i64 n] w fun e w' => e = .returned (.int .i64 (normT n)) ∧ w = w' := by
  have HR := Lib.hid (show normT n = max (-1) (min n 2147483647) by unfold normT; omega)
  go_enter Tryd.func37, Tryd.ntmps37
  go_wp2
  go_ret
  exact ⟨by first | (rw [HR.out]; rfl) | rw [HR.out], rfl⟩
/-- What the region reads, and what else is there. -/
structure NoS (N M : Nat) (d : Dv) (w w' : World) : Prop where
  a : DvB N w' d
  r : DvB M w' zD
  b : Below w.heap.size w w'
theorem NoS.below {N M : Nat} {d : Dv} {w w1 w2 : World} (h : NoS N M d w w1) (hb : Below w1.heap.size w1 w2) : NoS N M d w w2 := ⟨h.a.below hb, h.r.below hb, h.b.trans (hb.mono h.b.size)⟩
theorem noS_all {N M : Nat} {d : Dv} {w w' : World} (h : NoS N M d w w') : w'.cell? ⟨N, 6, none⟩ = some (.int .i64 d.ma) ∧ w'.cell? ⟨N, 7, none⟩ = some (.int .i64 d.sa) ∧ w'.cell? ⟨N, 8, none⟩ = some (.int .i64 d.ws) ∧ w'.cell? ⟨N, 9, none⟩ = some (.int .i64 d.oe) ∧ w'.cell? ⟨N, 10, none⟩ = some (.int .i64 d.ms) ∧ w'.cell? ⟨N, 11, none⟩ = some (.int .i64 d.mf) ∧ NoS N M d w w' := ⟨h.a.c6, h.a.c7, h.a.c8, h.a.c9, h.a.c10, h.a.c11, h⟩
set_option maxHeartbeats 16000000 in
set_option maxRecDepth 100000 in
theorem refNormal_any (d : Dv) (w : World) (hd : FitD d) :
    Calls Tryd.prog 22 #[dvV d] w fun e w' => e = .returned (dvV (normD d)) ∧ Below w.heap.size w w' := by
  have HF := Lib.hid hd
  have HB := Lib.hid ((below_new w (.cells (dvC d) 26)).alloc (by simp) (.cells (dvC zD) 26))
  have HA := Lib.hid ((dvB_new w d 26).below (below_new _ (.cells (dvC zD) 26)))
  have hR := dvB_new (w.alloc (.cells (dvC d) 26)) zD 26
  have e1 : (w.alloc (.cells (dvC d) 26)).heap.size = w.heap.size + 1 := by simp
  rw [e1] at hR
  have HR := Lib.hid hR
  clear hR hd e1
  go_enter Tryd.func22, Tryd.ntmps22
  go_upto_region 1 with fail
  change Code.wp _ _ _ _ ((w.alloc (.cells (dvC d) 26)).alloc (.cells (dvC zD) 26))
  generalize ((w.alloc (.cells (dvC d) 26)).alloc (.cells (dvC zD) 26)) = W at *
  have hS0 : NoS w.heap.size (w.heap.size + 1) d w W.drew := (⟨HA.out, HR.out, HB.out⟩ : NoS w.heap.size (w.heap.size + 1) d w W).below (Below.refl _ _).drew
  clear HA HR HB
  refine heldU_begin (S := (fun w' => w'.cell? ⟨w.heap.size, 6, none⟩ = some (.int .i64 d.ma) ∧ w'.cell? ⟨w.heap.size, 7, none⟩ = some (.int .i64 d.sa) ∧ w'.cell? ⟨w.heap.size, 8, none⟩ = some (.int .i64 d.ws) ∧ w'.cell? ⟨w.heap.size, 9, none⟩ = some (.int .i64 d.oe) ∧ w'.cell? ⟨w.heap.size, 10, none⟩ = some (.int .i64 d.ms) ∧ w'.cell? ⟨w.heap.size, 11, none⟩ = some (.int .i64 d.mf) ∧ NoS w.heap.size (w.heap.size + 1) d w w')) 19 (by kernel_rfl) (noS_all hS0) (fun hHeld => ?_)
  generalize W.drew = V at *
  refine heldU_take (i := 0) (k := 0) (oi := { dst := some 3, op := _, type := _, pos := _, after := _, guard := _ }) (v := ?_) rfl (by kernel_rfl) (by kernel_rfl) (by kernel_rfl) (by kernel_rfl) (by kernel_rfl) (by kernel_rfl) (fun _ _ _ h => h) (Or.inl ⟨by rfl, ?_⟩) (by assumption) ?_
  rotate_left
  focus (intro w hSw; (try dsimp only at hSw); first | (go_simp; done) | (go_simp; with_reducible rfl))
  (try simp only [Act.put, List.setIfInBounds_toArray, List.set_cons_zero, List.set_cons_succ])
  refine heldU_take (i := 1) (k := 1) (oi := { dst := some 4, op := _, type := _, pos := _, after := _, guard := _ }) (v := ?_) rfl (by kernel_rfl) (by kernel_rfl) (by kernel_rfl) (by kernel_rfl) (by kernel_rfl) (by kernel_rfl) (fun _ _ _ h => h) (Or.inl ⟨by rfl, ?_⟩) (by assumption) ?_
  rotate_left
  focus (intro w hSw; (try dsimp only at hSw); first | (go_simp; done) | (go_simp; with_reducible rfl))
  (try simp only [Act.put, List.setIfInBounds_toArray, List.set_cons_zero, List.set_cons_succ])
  refine heldU_take (i := 3) (k := 3) (oi := { dst := some 6, op := _, type := _, pos := _, after := _, guard := _ }) (v := ?_) rfl (by kernel_rfl) (by kernel_rfl) (by kernel_rfl) (by kernel_rfl) (by kernel_rfl) (by kernel_rfl) (fun _ _ _ h => h) (Or.inl ⟨by rfl, ?_⟩) (by assumption) ?_
  rotate_left
  focus (intro w hSw; (try dsimp only at hSw); first | (go_simp; done) | (go_simp; with_reducible rfl))
  (try simp only [Act.put, List.setIfInBounds_toArray, List.set_cons_zero, List.set_cons_succ])
  refine heldU_take (i := 4) (k := 4) (oi := { dst := some 7, op := _, type := _, pos := _, after := _, guard := _ }) (v := ?_) rfl (by kernel_rfl) (by kernel_rfl) (by kernel_rfl) (by kernel_rfl) (by kernel_rfl) (by kernel_rfl) (fun _ _ _ h => h) (Or.inl ⟨by rfl, ?_⟩) (by assumption) ?_
  rotate_left
  focus (intro w hSw; (try dsimp only at hSw); first | (go_simp; done) | (go_simp; with_reducible rfl))
  (try simp only [Act.put, List.setIfInBounds_toArray, List.set_cons_zero, List.set_cons_succ])
  refine heldU_take (i := 6) (k := 6) (oi := { dst := some 9, op := _, type := _, pos := _, after := _, guard := _ }) (v := ?_) rfl (by kernel_rfl) (by kernel_rfl) (by kernel_rfl) (by kernel_rfl) (by kernel_rfl) (by kernel_rfl) (fun _ _ _ h => h) (Or.inl ⟨by rfl, ?_⟩) (by assumption) ?_
  rotate_left
  focus (intro w hSw; (try dsimp only at hSw); first | (go_simp; done) | (go_simp; with_reducible rfl))
  (try simp only [Act.put, List.setIfInBounds_toArray, List.set_cons_zero, List.set_cons_succ])
  refine heldU_take (i := 7) (k := 7) (oi := { dst := some 10, op := _, type := _, pos := _, after := _, guard := _ }) (v := ?_) rfl (by kernel_rfl) (by kernel_rfl) (by kernel_rfl) (by kernel_rfl) (by kernel_rfl) (by kernel_rfl) (fun _ _ _ h => h) (Or.inl ⟨by rfl, ?_⟩) (by assumption) ?_
  rotate_left
  focus (intro w hSw; (try dsimp only at hSw); first | (go_simp; done) | (go_simp; with_reducible rfl))
  (try simp only [Act.put, List.setIfInBounds_toArray, List.set_cons_zero, List.set_cons_succ])
  refine heldU_take (i := 9) (k := 9) (oi := { dst := some 12, op := _, type := _, pos := _, after := _, guard := _ }) (v := ?_) rfl (by kernel_rfl) (by kernel_rfl) (by kernel_rfl) (by kernel_rfl) (by kernel_rfl) (by kernel_rfl) (fun _ _ _ h => h) (Or.inl ⟨by rfl, ?_⟩) (by assumption) ?_
  rotate_left
  focus (intro w hSw; (try dsimp only at hSw); first | (go_simp; done) | (go_simp; with_reducible rfl))
  (try simp only [Act.put, List.setIfInBounds_toArray, List.set_cons_zero, List.set_cons_succ])
  refine heldU_take (i := 10) (k := 10) (oi := { dst := some 13, op := _, type := _, pos := _, after := _, guard := _ }) (v := ?_) rfl (by kernel_rfl) (by kernel_rfl) (by kernel_rfl) (by kernel_rfl) (by kernel_rfl) (by kernel_rfl) (fun _ _ _ h => h) (Or.inl ⟨by rfl, ?_⟩) (by assumption) ?_
  rotate_left
  focus (intro w hSw; (try dsimp only at hSw); first | (go_simp; done) | (go_simp; with_reducible rfl))
  (try simp only [Act.put, List.setIfInBounds_toArray, List.set_cons_zero, List.set_cons_succ])
  refine heldU_take (i := 12) (k := 12) (oi := { dst := some 15, op := _, type := _, pos := _, after := _, guard := _ }) (v := ?_) rfl (by kernel_rfl) (by kernel_rfl) (by kernel_rfl) (by kernel_rfl) (by kernel_rfl) (by kernel_rfl) (fun _ _ _ h => h) (Or.inl ⟨by rfl, ?_⟩) (by assumption) ?_
  rotate_left
  focus (intro w hSw; (try dsimp only at hSw); first | (go_simp; done) | (go_simp; with_reducible rfl))
  (try simp only [Act.put, List.setIfInBounds_toArray, List.set_cons_zero, List.set_cons_succ])
  refine heldU_take (i := 13) (k := 13) (oi := { dst := some 16, op := _, type := _, pos := _, after := _, guard := _ }) (v := ?_) rfl (by kernel_rfl) (by kernel_rfl) (by kernel_rfl) (by kernel_rfl) (by kernel_rfl) (by kernel_rfl) (fun _ _ _ h => h) (Or.inl ⟨by rfl, ?_⟩) (by assumption) ?_
  rotate_left
  focus (intro w hSw; (try dsimp only at hSw); first | (go_simp; done) | (go_simp; with_reducible rfl))
  (try simp only [Act.put, List.setIfInBounds_toArray, List.set_cons_zero, List.set_cons_succ])
  refine heldU_take (i := 15) (k := 15) (oi := { dst := some 18, op := _, type := _, pos := _, after := _, guard := _ }) (v := ?_) rfl (by kernel_rfl) (by kernel_rfl) (by kernel_rfl) (by kernel_rfl) (by kernel_rfl) (by kernel_rfl) (fun _ _ _ h => h) (Or.inl ⟨by rfl, ?_⟩) (by assumption) ?_
  rotate_left
  focus (intro w hSw; (try dsimp only at hSw); first | (go_simp; done) | (go_simp; with_reducible rfl))
  (try simp only [Act.put, List.setIfInBounds_toArray, List.set_cons_zero, List.set_cons_succ])
  refine heldU_take (i := 16) (k := 16) (oi := { dst := some 19, op := _, type := _, pos := _, after := _, guard := _ }) (v := ?_) rfl (by kernel_rfl) (by kernel_rfl) (by kernel_rfl) (by kernel_rfl) (by kernel_rfl) (by kernel_rfl) (fun _ _ _ h => h) (Or.inl ⟨by rfl, ?_⟩) (by assumption) ?_
  rotate_left
  focus (intro w hSw; (try dsimp only at hSw); first | (go_simp; done) | (go_simp; with_reducible rfl))
  (try simp only [Act.put, List.setIfInBounds_toArray, List.set_cons_zero, List.set_cons_succ])
  refine heldU_one (i := 2) (o := { dst := some 5, op := _, type := _, pos := _, after := _, guard := _ }) (by kernel_rfl) rfl (by decide) (fun K hK => ?_)
  go_simp
  refine (refTime_any _ _ HF.out.ma).mono ?_
  rintro e w' ⟨rfl, rfl⟩
  refine hK.out _ _ (noS_all hS0) (fun _ => ?_)
  clear hK K
  (try simp only [Act.put, List.setIfInBounds_toArray, List.set_cons_zero, List.set_cons_succ])
  refine heldU_take (i := 18) (k := 18) (oi := { dst := some 21, op := _, type := _, pos := _, after := _, guard := _ }) (v := ?_) rfl (by kernel_rfl) (by kernel_rfl) (by kernel_rfl) (by kernel_rfl) (by kernel_rfl) (by kernel_rfl) (fun _ _ _ h => h) (Or.inl ⟨by rfl, ?_⟩) (by assumption) ?_
  rotate_left
  focus (intro w hSw; (try dsimp only at hSw); first | (go_simp; done) | (go_simp; with_reducible rfl))
  (try simp only [Act.put, List.setIfInBounds_toArray, List.set_cons_zero, List.set_cons_succ])
  refine heldU_one (i := 5) (o := { dst := some 8, op := _, type := _, pos := _, after := _, guard := _ }) (by kernel_rfl) rfl (by decide) (fun K hK => ?_)
  go_simp
  refine (refTime_any _ _ HF.out.sa).mono ?_
  rintro e w' ⟨rfl, rfl⟩
  refine hK.out _ _ (noS_all hS0) (fun _ => ?_)
  clear hK K
  (try simp only [Act.put, List.setIfInBounds_toArray, List.set_cons_zero, List.set_cons_succ])
  refine heldU_one (i := 8) (o := { dst := some 11, op := _, type := _, pos := _, after := _, guard := _ }) (by kernel_rfl) rfl (by decide) (fun K hK => ?_)
  go_simp
  refine (refTime_any _ _ HF.out.ws).mono ?_
  rintro e w' ⟨rfl, rfl⟩
  refine hK.out _ _ (noS_all hS0) (fun _ => ?_)
  clear hK K
  (try simp only [Act.put, List.setIfInBounds_toArray, List.set_cons_zero, List.set_cons_succ])
  refine heldU_one (i := 11) (o := { dst := some 14, op := _, type := _, pos := _, after := _, guard := _ }) (by kernel_rfl) rfl (by decide) (fun K hK => ?_)
  go_simp
  refine (refTime_any _ _ HF.out.oe).mono ?_
  rintro e w' ⟨rfl, rfl⟩
  refine hK.out _ _ (noS_all hS0) (fun _ => ?_)
  clear hK K
  (try simp only [Act.put, List.setIfInBounds_toArray, List.set_cons_zero, List.set_cons_succ])
  refine heldU_one (i := 14) (o := { dst := some 17, op := _, type := _, pos := _, after := _, guard := _ }) (by kernel_rfl) rfl (by decide) (fun K hK => ?_)
  go_simp
  refine (refTime_any _ _ HF.out.ms).mono ?_
  rintro e w' ⟨rfl, rfl⟩
  refine hK.out _ _ (noS_all hS0) (fun _ => ?_)
  clear hK K
  (try simp only [Act.put, List.setIfInBounds_toArray, List.set_cons_zero, List.set_cons_succ])
  refine heldU_one (i := 17) (o := { dst := some 20, op := _, type := _, pos := _, after := _, guard := _ }) (by kernel_rfl) rfl (by decide) (fun K hK => ?_)
  go_simp
  refine (refTime_any _ _ HF.out.mf).mono ?_
  rintro e w' ⟨rfl, rfl⟩
  refine hK.out _ _ (noS_all hS0) (fun _ => ?_)
  clear hK K
  (try simp only [Act.put, List.setIfInBounds_toArray, List.set_cons_zero, List.set_cons_succ])
  have hA0 := hS0.a
  have hR0 := hS0.r
  have hB0 := hS0.b
  clear hHeld
  have ck := hA0.c6
  have fk := hA0.fr 6
  refine heldU_store (o := { dst := none, op := _, type := _, pos := _, after := _, guard := _ }) (by kernel_rfl) rfl (fun K hK => ?_)
  go_simp
  refine hK.out _ _ ?_
  clear hK K ck fk
  (try simp only [Act.put, List.setIfInBounds_toArray, List.set_cons_zero, List.set_cons_succ])
  have hA1 := hA0.set6 (normT d.ma)
  have hR1 := hR0.only (Only.set (X := (· = w.heap.size)) rfl _ 6 (.int .i64 (normT d.ma))) (by omega)
  have hB1 := hB0.setCell (p := ⟨w.heap.size, 6, none⟩) (Nat.le_refl _) (.int .i64 (normT d.ma))
  generalize V.setCell ⟨w.heap.size, 6, none⟩ (.int .i64 (normT d.ma)) = V1 at *
  clear hA0 hR0 hB0 hS0
  refine wpAnyH_take (i := 20) (oi := { dst := some 22, op := _, type := _, pos := _, after := _, guard := _ }) (v := ?_) rfl (by kernel_rfl) (by kernel_rfl) (by kernel_rfl) (fun _ _ _ h => h) (Or.inl ⟨by rfl, ?_⟩) trivial ?_
  rotate_left
  focus (intro w hSw; (try dsimp only at hSw); first | (go_simp; done) | (go_simp; with_reducible rfl))
  (try simp only [Act.put, List.setIfInBounds_toArray, List.set_cons_zero, List.set_cons_succ])
  have ck := hA1.c7
  have fk := hA1.fr 7
  refine wpAnyH_ready (rs := [21]) (by kernel_rfl) (by simp) ?_
  refine AllReadyH.cons (o := { dst := none, op := _, type := _, pos := _, after := _, guard := _ }) rfl (fun K hK => ?_) AllReadyH.nil
  go_simp
  refine hK.out _ _ trivial (fun _ => ?_)
  clear hK K ck fk
  (try simp only [Act.put, List.setIfInBounds_toArray, List.set_cons_zero, List.set_cons_succ])
  have hA2 := hA1.set7 (normT d.sa)
  have hR2 := hR1.only (Only.set (X := (· = w.heap.size)) rfl _ 7 (.int .i64 (normT d.sa))) (by omega)
  have hB2 := hB1.setCell (p := ⟨w.heap.size, 7, none⟩) (Nat.le_refl _) (.int .i64 (normT d.sa))
  generalize V1.setCell ⟨w.heap.size, 7, none⟩ (.int .i64 (normT d.sa)) = V2 at *
  clear hA1 hR1 hB1
  refine wpAnyH_take (i := 22) (oi := { dst := some 23, op := _, type := _, pos := _, after := _, guard := _ }) (v := ?_) rfl (by kernel_rfl) (by kernel_rfl) (by kernel_rfl) (fun _ _ _ h => h) (Or.inl ⟨by rfl, ?_⟩) trivial ?_
  rotate_left
  focus (intro w hSw; (try dsimp only at hSw); first | (go_simp; done) | (go_simp; with_reducible rfl))
  (try simp only [Act.put, List.setIfInBounds_toArray, List.set_cons_zero, List.set_cons_succ])
  have ck := hA2.c8
  have fk := hA2.fr 8
  refine wpAnyH_ready (rs := [23]) (by kernel_rfl) (by simp) ?_
  refine AllReadyH.cons (o := { dst := none, op := _, type := _, pos := _, after := _, guard := _ }) rfl (fun K hK => ?_) AllReadyH.nil
  go_simp
  refine hK.out _ _ trivial (fun _ => ?_)
  clear hK K ck fk
  (try simp only [Act.put, List.setIfInBounds_toArray, List.set_cons_zero, List.set_cons_succ])
  have hA3 := hA2.set8 (normT d.ws)
  have hR3 := hR2.only (Only.set (X := (· = w.heap.size)) rfl _ 8 (.int .i64 (normT d.ws))) (by omega)
  have hB3 := hB2.setCell (p := ⟨w.heap.size, 8, none⟩) (Nat.le_refl _) (.int .i64 (normT d.ws))
  generalize V2.setCell ⟨w.heap.size, 8, none⟩ (.int .i64 (normT d.ws)) = V3 at *
  clear hA2 hR2 hB2
  refine wpAnyH_take (i := 24) (oi := { dst := some 24, op := _, type := _, pos := _, after := _, guard := _ }) (v := ?_) rfl (by kernel_rfl) (by kernel_rfl) (by kernel_rfl) (fun _ _ _ h => h) (Or.inl ⟨by rfl, ?_⟩) trivial ?_
  rotate_left
  focus (intro w hSw; (try dsimp only at hSw); first | (go_simp; done) | (go_simp; with_reducible rfl))
  (try simp only [Act.put, List.setIfInBounds_toArray, List.set_cons_zero, List.set_cons_succ])
  have ck := hA3.c9
  have fk := hA3.fr 9
  refine wpAnyH_ready (rs := [25]) (by kernel_rfl) (by simp) ?_
  refine AllReadyH.cons (o := { dst := none, op := _, type := _, pos := _, after := _, guard := _ }) rfl (fun K hK => ?_) AllReadyH.nil
  go_simp
  refine hK.out _ _ trivial (fun _ => ?_)
  clear hK K ck fk
  (try simp only [Act.put, List.setIfInBounds_toArray, List.set_cons_zero, List.set_cons_succ])
  have hA4 := hA3.set9 (normT d.oe)
  have hR4 := hR3.only (Only.set (X := (· = w.heap.size)) rfl _ 9 (.int .i64 (normT d.oe))) (by omega)
  have hB4 := hB3.setCell (p := ⟨w.heap.size, 9, none⟩) (Nat.le_refl _) (.int .i64 (normT d.oe))
  generalize V3.setCell ⟨w.heap.size, 9, none⟩ (.int .i64 (normT d.oe)) = V4 at *
  clear hA3 hR3 hB3
  refine wpAnyH_take (i := 26) (oi := { dst := some 25, op := _, type := _, pos := _, after := _, guard := _ }) (v := ?_) rfl (by kernel_rfl) (by kernel_rfl) (by kernel_rfl) (fun _ _ _ h => h) (Or.inl ⟨by rfl, ?_⟩) trivial ?_
  rotate_left
  focus (intro w hSw; (try dsimp only at hSw); first | (go_simp; done) | (go_simp; with_reducible rfl))
  (try simp only [Act.put, List.setIfInBounds_toArray, List.set_cons_zero, List.set_cons_succ])
  have ck := hA4.c10
  have fk := hA4.fr 10
  refine wpAnyH_ready (rs := [27]) (by kernel_rfl) (by simp) ?_
  refine AllReadyH.cons (o := { dst := none, op := _, type := _, pos := _, after := _, guard := _ }) rfl (fun K hK => ?_) AllReadyH.nil
  go_simp
  refine hK.out _ _ trivial (fun _ => ?_)
  clear hK K ck fk
  (try simp only [Act.put, List.setIfInBounds_toArray, List.set_cons_zero, List.set_cons_succ])
  have hA5 := hA4.set10 (normT d.ms)
  have hR5 := hR4.only (Only.set (X := (· = w.heap.size)) rfl _ 10 (.int .i64 (normT d.ms))) (by omega)
  have hB5 := hB4.setCell (p := ⟨w.heap.size, 10, none⟩) (Nat.le_refl _) (.int .i64 (normT d.ms))
  generalize V4.setCell ⟨w.heap.size, 10, none⟩ (.int .i64 (normT d.ms)) = V5 at *
  clear hA4 hR4 hB4
  refine wpAnyH_take (i := 28) (oi := { dst := some 26, op := _, type := _, pos := _, after := _, guard := _ }) (v := ?_) rfl (by kernel_rfl) (by kernel_rfl) (by kernel_rfl) (fun _ _ _ h => h) (Or.inl ⟨by rfl, ?_⟩) trivial ?_
  rotate_left
  focus (intro w hSw; (try dsimp only at hSw); first | (go_simp; done) | (go_simp; with_reducible rfl))
  (try simp only [Act.put, List.setIfInBounds_toArray, List.set_cons_zero, List.set_cons_succ])
  have ck := hA5.c11
  have fk := hA5.fr 11
  refine wpAnyH_ready (rs := [29]) (by kernel_rfl) (by simp) ?_
  refine AllReadyH.cons (o := { dst := none, op := _, type := _, pos := _, after := _, guard := _ }) rfl (fun K hK => ?_) AllReadyH.nil
  go_simp
  refine hK.out _ _ trivial (fun _ => ?_)
  clear hK K ck fk
  (try simp only [Act.put, List.setIfInBounds_toArray, List.set_cons_zero, List.set_cons_succ])
  have hA6 := hA5.set11 (normT d.mf)
  have hR6 := hR5.only (Only.set (X := (· = w.heap.size)) rfl _ 11 (.int .i64 (normT d.mf))) (by omega)
  have hB6 := hB5.setCell (p := ⟨w.heap.size, 11, none⟩) (Nat.le_refl _) (.int .i64 (normT d.mf))
  generalize V5.setCell ⟨w.heap.size, 11, none⟩ (.int .i64 (normT d.mf)) = V6 at *
  clear hA5 hR5 hB5
  refine wpAnyH_done (by kernel_rfl) ?_ _
  obtain ⟨a0, a1, a2, a3, a4, a5, a6, a7, a8, a9, a10, a11, fa, la⟩ := hA6
  obtain ⟨c0, c1, c2, c3, c4, c5, c6, c7, c8, c9, c10, c11, fr, lt⟩ := hR6
  have HBW := Lib.hid hB6
  clear hB6
  (try simp only [Exit.inBlock, Exit.then])
  go_wp2_with fail
  refine bodyPost_ret (v := dvV (normD d)) (by simp [results, Tryd.results22, go_sem, c0, c1, c2, c3, c4, c5, c6, c7, c8, c9, c10, c11, normD]) rfl ?_
  exact ⟨rfl, below_dv HBW.out (Nat.le_succ _) _ _ _ _ _ _ _ _ _ _ _ _⟩
end Go.Proofs.YtnjjjfbklgdgpaaDoor
