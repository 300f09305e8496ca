import Derived.Test.YtieolalohindgaaGreatDoorPa23
import Derived.Test.YtieolalohindgaaGreatDoorPa24
import Derived.Test.YtieolalohindgaaGreatDoorPa25
import Derived.Test.YtieolalohindgaaGreatDoorPa26
import Derived.Test.YtieolalohindgaaGreatDoorPa10
import Derived.Laws.IdiomStrings
/- What the statements' large, Stored, rank and awake of layer 17 return. -/
namespace Go.Proofs.YtieolalohindgaaGreatDoor
open Go.RowKit

def poLargeB (ps : Flds) : Bool := decide (3000 < 2 * ps.length + totL ps)
theorem poFit {ps : Flds} (h : poLargeB ps = false) : ps.length ≤ 1500 ∧ ∀ p ∈ ps, p.1.length + p.2.length ≤ 3000 := by
  have h1 := of_decide_eq_false h
  exact ⟨by omega, fun p hp => by have := tot_mem hp; omega⟩
theorem poFitL {ps : Flds} (h : poLargeB ps = false) : FitL ps := ⟨by have := (poFit h).1; omega, fun p hp => by have := (poFit h).2 p hp; omega⟩
set_option maxHeartbeats 1000000 in
set_option maxRecDepth 100000 in
theorem poLarge_any (lv : Value) (ps : Flds) (w : World) (hr : ReadsQ w lv ps) (hb : 2 * ps.length + totL ps ≤ 4000000) :
    Calls Tryz.prog 10 #[lv] w fun e w' => e = .returned (.bool (poLargeB ps)) ∧ Below w.heap.size w w' := by
  obtain ⟨ao, cap, rfl, hc⟩ := hr
  have HC := Lib.hid hc
  clear hc
  go_enter Tryz.func10, Tryz.ntmps10
  go_wp2_with fail
  go_loopw [3, 8] (fun v i wr => ∃ k : Nat, i = .int .i64 k ∧ k ≤ ps.length ∧ v = .int .i64 ((2 * k + totL (ps.take k) : Nat) : Int) ∧ Below w.heap.size w wr) (fun _ i _ => ps.length - (intOf i).toNat)
  case atStart => exact ⟨0, rfl, Nat.zero_le _, by simp [totL], Below.refl _ _⟩
  case round =>
    obtain ⟨k, rfl, hk, rfl, hBr⟩ := hrel
    have hbr := hBr.size
    have htk := tot_take ps k
    by_cases hlt : k < ps.length
    · obtain ⟨p, hp⟩ : ∃ p, ps[k]? = some p := ⟨ps[k], by simp [hlt]⟩
      obtain ⟨g, off, rfl, hg1, h1, h2⟩ := HC.out k p hp
      have hc1 : wr.cell? ⟨g, off + k * 2, none⟩ = some (.string (strB p.1)) := (hBr.cell (p := ⟨g, off + k * 2, none⟩) hg1).trans h1
      have hc2 : wr.cell? ⟨g, off + k * 2 + 1, none⟩ = some (.string (strB p.2)) := (hBr.cell (p := ⟨g, off + k * 2 + 1, none⟩) hg1).trans h2
      have e1 : (strB p.1).size = p.1.length := strB_size _
      have e2 : (strB p.2).size = p.2.length := strB_size _
      have hpl := tot_mem (List.mem_of_getElem? hp)
      have hm := tot_more hp
      have hmk := tot_take ps (k + 1)
      clear hp h1 h2
      go_wp2
      go_roundw
      case rel => exact ⟨k + 1, by go_num, by omega, by congr 1; omega, hBr.alloc hbr _⟩
      case measure => simp [intOf]; omega
    · obtain rfl : k = ps.length := by omega
      have hte : ps.take ps.length = ps := List.take_of_length_le (by omega)
      rw [hte] at htk ⊢
      by_cases h3 : 3000 < 2 * ps.length + totL ps
      · have HR := Lib.hid (show poLargeB ps = true from decide_eq_true h3)
        go_wp2
        go_ret
        exact ⟨by rw [HR.out]; exact ret_bool (decide_eq_true (by omega)), hBr⟩
      · have HR := Lib.hid (show poLargeB ps = false from decide_eq_false h3)
        go_wp2
        go_ret
        exact ⟨by rw [HR.out]; exact ret_bool (decide_eq_false (by omega)), hBr⟩
/-- What Stored holds: the argument's block, the result's block. -/
structure SdS (N M : Nat) (st : Int) (fv : Value) (s r a : Int) (b : Bool) (w w' : World) : Prop where
  a : StB N w' st fv s r a b
  m : ∃ t f x y z u, StB M w' t f x y z u
  l : Below w.heap.size w w'
  g : w.heap.size ≤ M
theorem SdS.below {N M : Nat} {st : Int} {fv : Value} {s r a : Int} {b : Bool} {w w1 w2 : World} (h : SdS N M st fv s r a b w w1) (hb : Below w1.heap.size w1 w2) : SdS N M st fv s r a b w w2 :=
  ⟨h.a.below hb, h.m.elim fun t h1 => h1.elim fun f h2 => h2.elim fun x h3 => h3.elim fun y h4 => h4.elim fun z h5 => h5.elim fun u h6 => ⟨t, f, x, y, z, u, h6.below hb⟩, h.l.trans (hb.mono h.l.size), h.g⟩
theorem sdS_all {N M : Nat} {st : Int} {fv : Value} {s r a : Int} {b : Bool} {w w' : World} (h : SdS N M st fv s r a b w w') : w'.cell? ⟨N, 0, none⟩ = some (.int .i64 st) ∧ w'.cell? ⟨N, 1, none⟩ = some (fv) ∧ w'.cell? ⟨N, 2, none⟩ = some (.int .i64 s) ∧ w'.cell? ⟨N, 3, none⟩ = some (.int .i64 r) ∧ w'.cell? ⟨N, 4, none⟩ = some (.int .i64 a) ∧ w'.cell? ⟨N, 5, none⟩ = some (.bool b) ∧ SdS N M st fv s r a b w w' :=
  ⟨h.a.c0, h.a.c1, h.a.c2, h.a.c3, h.a.c4, h.a.c5, h⟩
theorem poOwn_other {T : TypeId} {B K j : Nat} {w : World} {v : Value} {ps : Flds} (h : OwnsP T B w v ps) (hK : K < B) (u : Value) : OwnsP T B (w.setCell ⟨K, j, none⟩ u) v ps :=
  ownsRow_setCell_other h (fun hk => by have := (World.ownsRow.lt h _ hk).1; simp at this; omega) u
theorem below_st {B N : Nat} {w w1 : World} (hB : Below B w w1) (hN : B ≤ N) (v0 v1 v2 v3 v4 v5 : Value) : Below B w ((((((w1.setCell ⟨N, 0, none⟩ v0).setCell ⟨N, 1, none⟩ v1).setCell ⟨N, 2, none⟩ v2).setCell ⟨N, 3, none⟩ v3).setCell ⟨N, 4, none⟩ v4).setCell ⟨N, 5, none⟩ v5) :=
  (((((hB.setCell (p := ⟨N, 0, none⟩) hN _).setCell (p := ⟨N, 1, none⟩) hN _).setCell (p := ⟨N, 2, none⟩) hN _).setCell (p := ⟨N, 3, none⟩) hN _).setCell (p := ⟨N, 4, none⟩) hN _).setCell (p := ⟨N, 5, none⟩) hN _
theorem StB.set {N : Nat} {w : World} {t : Int} {f : Value} {x y z : Int} {u : Bool} (h : StB N w t f x y z u) (st : Int) (fv : Value) (s r a : Int) (b : Bool) : StB N ((((((w.setCell ⟨N, 0, none⟩ (.int .i64 st)).setCell ⟨N, 1, none⟩ fv).setCell ⟨N, 2, none⟩ (.int .i64 s)).setCell ⟨N, 3, none⟩ (.int .i64 r)).setCell ⟨N, 4, none⟩ (.int .i64 a)).setCell ⟨N, 5, none⟩ (.bool b)) st fv s r a b := by
  obtain ⟨c0, c1, c2, c3, c4, c5, fr, lt⟩ := h
  refine ⟨?_, ?_, ?_, ?_, ?_, ?_, fun j => by simpa using fr j, by simpa using lt⟩
  all_goals simp (maxDischargeDepth := 15) [go_sem, c0, c1, c2, c3, c4, c5]
theorem SdS.store {N M : Nat} {st : Int} {fv : Value} {s r a : Int} {b : Bool} {w w1 : World} (h : SdS N M st fv s r a b w w1) (hn : N ≠ M) (gv : Value) : SdS N M st fv s r a b w ((((((w1.setCell ⟨M, 0, none⟩ (.int .i64 st)).setCell ⟨M, 1, none⟩ gv).setCell ⟨M, 2, none⟩ (.int .i64 s)).setCell ⟨M, 3, none⟩ (.int .i64 r)).setCell ⟨M, 4, none⟩ (.int .i64 a)).setCell ⟨M, 5, none⟩ (.bool b)) :=
  ⟨h.a.only (X := (· = M)) (((((((Only.refl (· = M) w1).trans' (Only.set (X := (· = M)) rfl _ 0 _)).trans' (Only.set (X := (· = M)) rfl _ 1 _)).trans' (Only.set (X := (· = M)) rfl _ 2 _)).trans' (Only.set (X := (· = M)) rfl _ 3 _)).trans' (Only.set (X := (· = M)) rfl _ 4 _)).trans' (Only.set (X := (· = M)) rfl _ 5 _)) hn,
    h.m.elim fun _ h1 => h1.elim fun _ h2 => h2.elim fun _ h3 => h3.elim fun _ h4 => h4.elim fun _ h5 => h5.elim fun _ h6 => ⟨_, _, _, _, _, _, h6.set st gv s r a b⟩, below_st h.l h.g _ _ _ _ _ _, h.g⟩
set_option maxHeartbeats 4000000 in
set_option maxRecDepth 100000 in
theorem stored_any (st : Int) (fv : Value) (ps : Flds) (s r a : Int) (b : Bool) (w : World) (hr : ReadsQ w fv ps) (hf : FitL ps) :
    Calls Tryz.prog 13 #[stV st fv s r a b] w fun e w' => ∃ v, e = .returned (stV st v s r a b) ∧ ReadsQ w' v ps ∧ Below w.heap.size w w' := by
  have HF := Lib.hid (fun (w : World) (hr : ReadsQ w fv ps) => fields_any fv ps w hr hf.len hf.each6)
  have HTm := Lib.hid (fun (w : World) => times_any s r a w)
  have hZ := StB.new (w.alloc (.cells (stC st fv s r a b) 26)) 0 (.slice none 0 0) 0 0 0 false 38
  have e1 : (w.alloc (.cells (stC st fv s r a b) 26)).heap.size = w.heap.size + 1 := by simp
  rw [e1] at hZ
  have HS := Lib.hid (SdS.mk (w := w) ((StB.new w st fv s r a b 26).below (below_new _ (.cells (stC 0 (.slice none 0 0) 0 0 0 false) 38))) ⟨_, _, _, _, _, _, hZ⟩ ((below_new w (.cells (stC st fv s r a b) 26)).alloc (by simp) (.cells (stC 0 (.slice none 0 0) 0 0 0 false) 38)) (Nat.le_succ _))
  have HR := Lib.hid hr
  clear e1 hZ hr hf
  go_enter Tryz.func13, Tryz.ntmps13
  go_upto_region 1 with fail
  change Code.wp _ _ _ _ ((w.alloc (.cells (stC st fv s r a b) 26)).alloc (.cells (stC 0 (.slice none 0 0) 0 0 0 false) 38))
  generalize ((w.alloc (.cells (stC st fv s r a b) 26)).alloc (.cells (stC 0 (.slice none 0 0) 0 0 0 false) 38)) = W at *
  have hS := HS.out
  have hSd := sdS_all (hS.below (Below.refl W.heap.size W).drew)
  refine wp_region_held_drew (S := fun w' => w'.cell? ⟨w.heap.size, 0, none⟩ = some (.int .i64 st) ∧ w'.cell? ⟨w.heap.size, 1, none⟩ = some (fv) ∧ w'.cell? ⟨w.heap.size, 2, none⟩ = some (.int .i64 s) ∧ w'.cell? ⟨w.heap.size, 3, none⟩ = some (.int .i64 r) ∧ w'.cell? ⟨w.heap.size, 4, none⟩ = some (.int .i64 a) ∧ w'.cell? ⟨w.heap.size, 5, none⟩ = some (.bool b) ∧ SdS w.heap.size (w.heap.size + 1) st fv s r a b w w') (by kernel_rfl) (hSd) (fun h0 => ?_)
  refine wpAnyH_take (i := 0) (oi := { dst := some 3, op := _, type := _, pos := _, after := _, guard := _ }) (v := ?_) rfl (by kernel_rfl) (by kernel_rfl) (by kernel_rfl) (fun _ _ _ h => h) (Or.inl ⟨by rfl, ?_⟩) (by assumption) ?_
  rotate_left
  focus (intro w hSw; (try dsimp only at hSw); first | (go_simp; done) | (go_simp; with_reducible rfl))
  (try simp only [Act.put, List.setIfInBounds_toArray, List.set_cons_zero, List.set_cons_succ])
  refine wpAnyH_take (i := 1) (oi := { dst := some 4, op := _, type := _, pos := _, after := _, guard := _ }) (v := ?_) rfl (by kernel_rfl) (by kernel_rfl) (by kernel_rfl) (fun _ _ _ h => h) (Or.inl ⟨by rfl, ?_⟩) (by assumption) ?_
  rotate_left
  focus (intro w hSw; (try dsimp only at hSw); first | (go_simp; done) | (go_simp; with_reducible rfl))
  (try simp only [Act.put, List.setIfInBounds_toArray, List.set_cons_zero, List.set_cons_succ])
  refine wpAnyH_take (i := 2) (oi := { dst := some 5, op := _, type := _, pos := _, after := _, guard := _ }) (v := ?_) rfl (by kernel_rfl) (by kernel_rfl) (by kernel_rfl) (fun _ _ _ h => h) (Or.inl ⟨by rfl, ?_⟩) (by assumption) ?_
  rotate_left
  focus (intro w hSw; (try dsimp only at hSw); first | (go_simp; done) | (go_simp; with_reducible rfl))
  (try simp only [Act.put, List.setIfInBounds_toArray, List.set_cons_zero, List.set_cons_succ])
  refine wpAnyH_take (i := 3) (oi := { dst := some 6, op := _, type := _, pos := _, after := _, guard := _ }) (v := ?_) rfl (by kernel_rfl) (by kernel_rfl) (by kernel_rfl) (fun _ _ _ h => h) (Or.inl ⟨by rfl, ?_⟩) (by assumption) ?_
  rotate_left
  focus (intro w hSw; (try dsimp only at hSw); first | (go_simp; done) | (go_simp; with_reducible rfl))
  (try simp only [Act.put, List.setIfInBounds_toArray, List.set_cons_zero, List.set_cons_succ])
  refine wpAnyH_take (i := 5) (oi := { dst := some 8, op := _, type := _, pos := _, after := _, guard := _ }) (v := ?_) rfl (by kernel_rfl) (by kernel_rfl) (by kernel_rfl) (fun _ _ _ h => h) (Or.inl ⟨by rfl, ?_⟩) (by assumption) ?_
  rotate_left
  focus (intro w hSw; (try dsimp only at hSw); first | (go_simp; done) | (go_simp; with_reducible rfl))
  (try simp only [Act.put, List.setIfInBounds_toArray, List.set_cons_zero, List.set_cons_succ])
  refine wpAnyH_take (i := 6) (oi := { dst := some 9, op := _, type := _, pos := _, after := _, guard := _ }) (v := ?_) rfl (by kernel_rfl) (by kernel_rfl) (by kernel_rfl) (fun _ _ _ h => h) (Or.inl ⟨by rfl, ?_⟩) (by assumption) ?_
  rotate_left
  focus (intro w hSw; (try dsimp only at hSw); first | (go_simp; done) | (go_simp; with_reducible rfl))
  (try simp only [Act.put, List.setIfInBounds_toArray, List.set_cons_zero, List.set_cons_succ])
  refine wpAnyH_take (i := 8) (oi := { dst := some 11, op := _, type := _, pos := _, after := _, guard := _ }) (v := ?_) rfl (by kernel_rfl) (by kernel_rfl) (by kernel_rfl) (fun _ _ _ h => h) (Or.inl ⟨by rfl, ?_⟩) (by assumption) ?_
  rotate_left
  focus (intro w hSw; (try dsimp only at hSw); first | (go_simp; done) | (go_simp; with_reducible rfl))
  (try simp only [Act.put, List.setIfInBounds_toArray, List.set_cons_zero, List.set_cons_succ])
  refine wpAnyH_take (i := 9) (oi := { dst := some 12, op := _, type := _, pos := _, after := _, guard := _ }) (v := ?_) rfl (by kernel_rfl) (by kernel_rfl) (by kernel_rfl) (fun _ _ _ h => h) (Or.inl ⟨by rfl, ?_⟩) (by assumption) ?_
  rotate_left
  focus (intro w hSw; (try dsimp only at hSw); first | (go_simp; done) | (go_simp; with_reducible rfl))
  (try simp only [Act.put, List.setIfInBounds_toArray, List.set_cons_zero, List.set_cons_succ])
  refine wpAnyH_ready (rs := [4]) (by kernel_rfl) (by simp) ?_
  refine AllReadyH.cons (o := { dst := some 7, op := _, type := _, pos := _, after := _, guard := _ }) rfl (fun K hK => ?_) AllReadyH.nil
  go_simp
  refine (HF.out _ (HR.out.below h0.2.2.2.2.2.2.l)).mono ?_
  rintro e w5 ⟨v, rfl, hO, hB5⟩
  have h5 := sdS_all (SdS.below h0.2.2.2.2.2.2 hB5)
  have hM := h0.2.2.2.2.2.2.m.elim fun t h1 => h1.elim fun f h2 => h2.elim fun x h3 => h3.elim fun y h4 => h4.elim fun z h5 => h5.elim fun u h6 => h6.lt
  obtain ⟨fa, fc, hv, _⟩ := hO.q
  subst hv
  refine hK.out _ _ (h5) (fun h6 => ?_)
  clear hK K 
  (try simp only [Act.put, List.setIfInBounds_toArray, List.set_cons_zero, List.set_cons_succ])
  refine wpAnyH_ready (rs := [7]) (by kernel_rfl) (by simp) ?_
  refine AllReadyH.cons (o := { dst := some 10, op := _, type := _, pos := _, after := _, guard := _ }) rfl (fun K hK => ?_) AllReadyH.nil
  go_simp
  refine (HTm.out _).mono ?_
  rintro e w6 ⟨rfl, hG6⟩
  have h7 := sdS_all (SdS.below h6.2.2.2.2.2.2 hG6.below)
  have hO6 := OwnsP.below hO hG6.below
  refine hK.out _ _ (h7) (fun h8 => ?_)
  clear hK K 
  (try simp only [Act.put, List.setIfInBounds_toArray, List.set_cons_zero, List.set_cons_succ])
  refine wpAnyH_take (i := 10) (oi := { dst := some 13, op := _, type := _, pos := _, after := _, guard := _ }) (v := ?_) rfl (by kernel_rfl) (by kernel_rfl) (by kernel_rfl) (fun _ _ _ h => h) (Or.inl ⟨by rfl, ?_⟩) (by assumption) ?_
  rotate_left
  focus (intro w hSw; (try dsimp only at hSw); first | (go_simp; done) | (go_simp; with_reducible rfl))
  (try simp only [Act.put, List.setIfInBounds_toArray, List.set_cons_zero, List.set_cons_succ])
  have hO7 := poOwn_other (j := 5) (poOwn_other (j := 4) (poOwn_other (j := 3) (poOwn_other (j := 2) (poOwn_other (j := 1) (poOwn_other (j := 0) hO6 hM (.int .i64 st)) hM (.slice fa ps.length fc)) hM (.int .i64 s)) hM (.int .i64 r)) hM (.int .i64 a)) hM (.bool b)
  have h9 := sdS_all (SdS.store h8.2.2.2.2.2.2 (by omega) (.slice fa ps.length fc))
  have hBF := h9.2.2.2.2.2.2.l
  obtain ⟨_, _, _, _, _, _, hm⟩ := h8.2.2.2.2.2.2.m
  have hW := hm.set st (.slice fa ps.length fc) s r a b
  obtain ⟨m0, m1, m2, m3, m4, m5, fr, lt⟩ := hm
  refine wpAnyH_ready (rs := [11]) (by kernel_rfl) (by simp) ?_
  refine AllReadyH.cons (o := { dst := none, op := _, type := _, pos := _, after := _, guard := _ }) rfl (fun K hK => ?_) AllReadyH.nil
  go_simp
  refine hK.out _ _ h9 (fun h10 => ?_)
  clear hK K
  (try simp only [Act.put, List.setIfInBounds_toArray, List.set_cons_zero, List.set_cons_succ])
  refine wpAnyH_done (by kernel_rfl) ?_ _
  (try simp only [Exit.then])
  clear m0 m1 m2 m3 m4 m5 fr lt h9 h10 h8 h7 h6 h5 h0 hSd hS
  generalize (((((((w6).setCell ⟨w.heap.size + 1, 0, none⟩ (.int .i64 st)).setCell ⟨w.heap.size + 1, 1, none⟩ (.slice fa ps.length fc)).setCell ⟨w.heap.size + 1, 2, none⟩ (.int .i64 s)).setCell ⟨w.heap.size + 1, 3, none⟩ (.int .i64 r)).setCell ⟨w.heap.size + 1, 4, none⟩ (.int .i64 a)).setCell ⟨w.heap.size + 1, 5, none⟩ (.bool b)) = WF at *
  obtain ⟨r0, r1, r2, r3, r4, r5, _, _⟩ := hW
  go_wp2_with fail
  refine bodyPost_ret (v := stV st (.slice fa ps.length fc) s r a b) (by simp [results, Tryz.results13, go_sem, r0, r1, r2, r3, r4, r5]) rfl ?_
  exact ⟨_, rfl, hO7.q, hBF⟩
set_option maxHeartbeats 2000000 in
set_option maxRecDepth 100000 in
theorem rank_any (st : Int) (fv : Value) (ps : Flds) (s r a : Int) (b : Bool) (q : Dv) (n p : Int) (dd de dl : Option Nat) (w : World) (hr : ReadsQ w fv ps) (hq : FitD q) (hf : FldP ps dd de dl) (hE : EnvL w) :
    Calls Tryz.prog 23 #[stV st fv s r a b, dvV q, .agg #[.int .i64 n, .int .i64 p]] w fun e w' => e = .returned (.int .i64 (jdgV (okA s r n) (parseD (allL ps nCC)) (normD q) (lifV st ps dd de dl) (whiV ps) (topA s a n p) b)) ∧ Below w.heap.size w w' := by
  have HJ := Lib.hid (fun (w : World) (hr : ReadsQ w fv ps) (hE : EnvL w) => judge_any st fv ps s r a b q n p dd de dl w hr hq hf hE)
  have HE := Lib.hid hE
  have HR := Lib.hid hr
  generalize jdgV (okA s r n) (parseD (allL ps nCC)) (normD q) (lifV st ps dd de dl) (whiV ps) (topA s a n p) b = V at *
  clear hr hq hf hE
  have b1 := below_new w (.cells (stC st fv s r a b) 38)
  have b2 := b1.alloc b1.size (.cells (dvC q) 40)
  have HB := Lib.hid (b2.alloc b2.size (.cells #[.int .i64 n, .int .i64 p] 30))
  have s1 := StB.new w st fv s r a b 38
  have s2 := dvB_new (w.alloc (.cells (stC st fv s r a b) 38)) q 40
  have e1 : (w.alloc (.cells (stC st fv s r a b) 38)).heap.size = w.heap.size + 1 := by simp
  rw [e1] at s2
  have s3 := cell_two ((w.alloc (.cells (stC st fv s r a b) 38)).alloc (.cells (dvC q) 40)) n p 30 (w.heap.size + 2) (by simp)
  have HS1 := Lib.hid ((s1.below (below_new _ (.cells (dvC q) 40))).below (below_new _ (.cells #[.int .i64 n, .int .i64 p] 30)))
  have HS2 := Lib.hid (s2.below (below_new _ (.cells #[.int .i64 n, .int .i64 p] 30)))
  clear b1 b2 s1 s2 e1
  go_enter Tryz.func23, Tryz.ntmps23
  go_upto_region 1 with fail
  change Code.wp _ _ _ _ (((w.alloc (.cells (stC st fv s r a b) 38)).alloc (.cells (dvC q) 40)).alloc (.cells #[.int .i64 n, .int .i64 p] 30))
  generalize (((w.alloc (.cells (stC st fv s r a b) 38)).alloc (.cells (dvC q) 40)).alloc (.cells #[.int .i64 n, .int .i64 p] 30)) = W at *
  obtain ⟨c0, c1, c2, c3, c4, c5, _, _⟩ := HS1.out
  obtain ⟨d0, d1, d2, d3, d4, d5, d6, d7, d8, d9, d10, d11, _, _⟩ := HS2.out
  obtain ⟨t0, t1⟩ := s3
  go_wp2_with fail
  refine (HJ.out _ (HR.out.below HB.out) (HE.out.below HB.out)).mono ?_
  rintro e w1 ⟨rfl, hB1⟩
  have HB1 := Lib.hid (HB.out.trans (hB1.mono HB.out.size))
  clear c0 c1 c2 c3 c4 c5 d0 d1 d2 d3 d4 d5 d6 d7 d8 d9 d10 d11 t0 t1 hB1
  go_wp2_with fail
  go_ret
  exact ⟨rfl, HB1.out⟩
end Go.Proofs.YtieolalohindgaaGreatDoor

/- What the statements' awake of layer 17 returns; the blocks of the arguments. -/
namespace Go.Proofs.YtieolalohindgaaGreatDoor
open Go.RowKit

def poAwk : List UInt8 := [109, 97, 120, 45, 97, 103, 101, 61, 49, 48, 44, 32, 115, 116, 97, 108, 101, 45, 119, 104, 105, 108, 101, 45, 114, 101, 118, 97, 108, 105, 100, 97, 116, 101, 61, 53]
theorem poAwk_cc : allL [(nCC, poAwk)] nCC = [poAwk] := by decide +kernel
theorem poAwk_da : allL [(nCC, poAwk)] nDA = [] := by decide +kernel
theorem poAwk_ex : allL [(nCC, poAwk)] nEX = [] := by decide +kernel
theorem poAwk_lm : allL [(nCC, poAwk)] nLM = [] := by decide +kernel
theorem poAwk_parse : parseD [poAwk] = ⟨false, false, false, false, false, false, 10, -1, 5, -1, -1, -1⟩ := by decide +kernel
theorem poAwk_fld : FldP [(nCC, poAwk)] none none none := ⟨⟨by decide, by decide⟩, by unfold DatF; rw [poAwk_da]; rfl, by unfold DatF; rw [poAwk_ex]; rfl, by unfold DatF; rw [poAwk_lm]; rfl⟩
theorem poAwk_life : lifV 200 [(nCC, poAwk)] none none none = 10000 := by unfold lifV hasF; rw [poAwk_cc, poAwk_ex, poAwk_parse]; decide +kernel
theorem poAwk_while : whiV [(nCC, poAwk)] = 5000 := by unfold whiV; rw [poAwk_cc, poAwk_parse]; decide +kernel
theorem none_fit : FitD noneD := nor_none.fit
theorem poAwk_judge (n k : Int) (h : jdgV (okA 0 0 n) ⟨false, false, false, false, false, false, 10, -1, 5, -1, -1, -1⟩ (normD noneD) 10000 5000 (topA 0 (-1) n 0) true = k) (fv : Value) (w : World) (hr : ReadsQ w fv [(nCC, poAwk)]) (hE : EnvL w) :
    Calls Tryz.prog 12 #[stV 200 fv 0 0 (-1) true, dvV noneD, .int .i64 n, .int .i64 0] w fun e w' => e = .returned (.int .i64 k) ∧ Below w.heap.size w w' := by
  have j := judge_any 200 fv [(nCC, poAwk)] 0 0 (-1) true noneD n 0 none none none w hr none_fit poAwk_fld hE
  rw [poAwk_cc, poAwk_parse, poAwk_life, poAwk_while, h] at j
  exact j
set_option maxHeartbeats 4000000 in
set_option maxRecDepth 100000 in
theorem awake17_any (w : World) (hE : EnvL w) : Calls Tryz.prog 11 #[] w fun e w' => e = .returned (.bool true) ∧ Below w.heap.size w w' := by
  have HJ1 := Lib.hid (poAwk_judge 9999 1 (by decide +kernel))
  have HJ2 := Lib.hid (poAwk_judge 10000 2 (by decide +kernel))
  have HJ3 := Lib.hid (poAwk_judge 15000 4 (by decide +kernel))
  have HNo := Lib.hid (fun (w : World) => none_any w)
  have HE := Lib.hid hE
  have HO := Lib.hid ((own_litF w nCC poAwk).q)
  generalize hF : w.alloc (.cells #[.string (strB nCC), .string (strB poAwk)] 72) = F
  have e0 : F.heap.size = w.heap.size + 1 := by rw [← hF]; simp
  have HBF := Lib.hid (show Below w.heap.size w F by rw [← hF]; exact below_new _ _)
  rw [hF] at HO
  have hs := StB.new F 200 (.slice (some ⟨w.heap.size, 0, none⟩) 1 1) 0 0 (-1) true 38
  rw [e0] at hs
  have HS := Lib.hid hs
  have HB := Lib.hid (HBF.out.alloc HBF.out.size (.cells (stC 200 (.slice (some ⟨w.heap.size, 0, none⟩) 1 1) 0 0 (-1) true) 38))
  have HO1 := Lib.hid (HO.out.below (below_new F (.cells (stC 200 (.slice (some ⟨w.heap.size, 0, none⟩) 1 1) 0 0 (-1) true) 38)))
  clear hs hE
  go_enter Tryz.func11, Tryz.ntmps11
  go_upto_region 2 with fail
  change Code.wp _ _ _ _ ((w.alloc (.cells #[.string (strB nCC), .string (strB poAwk)] 72)).alloc (.cells (stC 200 (.slice (some ⟨w.heap.size, 0, none⟩) 1 1) 0 0 (-1) true) 38))
  rw [hF]
  generalize F.alloc (.cells (stC 200 (.slice (some ⟨w.heap.size, 0, none⟩) 1 1) 0 0 (-1) true) 38) = W at *
  clear hF e0 HBF HO
  go_wp2_with fail
  refine (HNo.out _).mono ?_
  rintro e w1 ⟨rfl, hB1⟩
  have HS1 := Lib.hid ((HS.out.below hB1).below (below_new w1 (.cells (dvC noneD) 40)))
  have HO2 := Lib.hid ((HO1.out.below hB1).below (below_new w1 (.cells (dvC noneD) 40)))
  have HB1 := Lib.hid ((HB.out.trans (hB1.mono HB.out.size)).alloc (HB.out.trans (hB1.mono HB.out.size)).size (.cells (dvC noneD) 40))
  have HD := Lib.hid (dvB_new w1 noneD 40)
  clear hB1 HS HO1 HB
  go_upto_region 3 with fail
  change Code.wp _ _ _ _ (w1.alloc (.cells (dvC noneD) 40))
  generalize w1.heap.size = M at *
  generalize w1.alloc (.cells (dvC noneD) 40) = W1 at *
  obtain ⟨c0, c1, c2, c3, c4, c5, _, _⟩ := HS1.out
  obtain ⟨d0, d1, d2, d3, d4, d5, d6, d7, d8, d9, d10, d11, _, _⟩ := HD.out
  go_wp2_with fail
  refine (HJ1.out _ _ HO2.out (HE.out.below HB1.out)).mono ?_
  rintro e w5 ⟨rfl, hB⟩
  have HS5 := Lib.hid (HS1.out.below hB)
  have HO5 := Lib.hid (HO2.out.below hB)
  have HD5 := Lib.hid (HD.out.below hB)
  have HB5 := Lib.hid (HB1.out.trans (hB.mono HB1.out.size))
  clear c0 c1 c2 c3 c4 c5 d0 d1 d2 d3 d4 d5 d6 d7 d8 d9 d10 d11 hB HS1 HO2 HD HB1
  obtain ⟨c0, c1, c2, c3, c4, c5, _, _⟩ := HS5.out
  obtain ⟨d0, d1, d2, d3, d4, d5, d6, d7, d8, d9, d10, d11, _, _⟩ := HD5.out
  go_wp2_with fail
  refine (HJ2.out _ _ HO5.out (HE.out.below HB5.out)).mono ?_
  rintro e w6 ⟨rfl, hB⟩
  have HS6 := Lib.hid (HS5.out.below hB)
  have HO6 := Lib.hid (HO5.out.below hB)
  have HD6 := Lib.hid (HD5.out.below hB)
  have HB6 := Lib.hid (HB5.out.trans (hB.mono HB5.out.size))
  clear c0 c1 c2 c3 c4 c5 d0 d1 d2 d3 d4 d5 d6 d7 d8 d9 d10 d11 hB HS5 HO5 HD5 HB5
  obtain ⟨c0, c1, c2, c3, c4, c5, _, _⟩ := HS6.out
  obtain ⟨d0, d1, d2, d3, d4, d5, d6, d7, d8, d9, d10, d11, _, _⟩ := HD6.out
  go_wp2_with fail
  refine (HJ3.out _ _ HO6.out (HE.out.below HB6.out)).mono ?_
  rintro e w7 ⟨rfl, hB⟩
  have HS7 := Lib.hid (HS6.out.below hB)
  have HO7 := Lib.hid (HO6.out.below hB)
  have HD7 := Lib.hid (HD6.out.below hB)
  have HB7 := Lib.hid (HB6.out.trans (hB.mono HB6.out.size))
  clear c0 c1 c2 c3 c4 c5 d0 d1 d2 d3 d4 d5 d6 d7 d8 d9 d10 d11 hB HS6 HO6 HD6 HB6
  go_wp2_with fail
  go_ret
  exact ⟨rfl, HB7.out⟩
/-- The blocks of the arguments, and what else is as it was. -/
structure LwS (N : Nat) (st : Int) (fv : Value) (s r a : Int) (b : Bool) (q : Dv) (n p : Int) (w w' : World) : Prop where
  a : StB N w' st fv s r a b
  d : DvB (N + 1) w' q
  t0 : w'.cell? ⟨N + 2, 0, none⟩ = some (.int .i64 n)
  t1 : w'.cell? ⟨N + 2, 1, none⟩ = some (.int .i64 p)
  lt : N + 2 < w'.heap.size
  l : Below w.heap.size w w'
theorem LwS.below {N : Nat} {st : Int} {fv : Value} {s r a : Int} {b : Bool} {q : Dv} {n p : Int} {w w1 w2 : World} (h : LwS N st fv s r a b q n p w w1) (hb : Below w1.heap.size w1 w2) : LwS N st fv s r a b q n p w w2 :=
  ⟨h.a.below hb, h.d.below hb, (hb.cell (p := ⟨N + 2, 0, none⟩) h.lt).trans h.t0, (hb.cell (p := ⟨N + 2, 1, none⟩) h.lt).trans h.t1, Nat.lt_of_lt_of_le h.lt hb.size, h.l.trans (hb.mono h.l.size)⟩
theorem LwS.all {N : Nat} {st : Int} {fv : Value} {s r a : Int} {b : Bool} {q : Dv} {n p : Int} {w w' : World} (h : LwS N st fv s r a b q n p w w') : w'.cell? ⟨N, 0, none⟩ = some (.int .i64 st) ∧ w'.cell? ⟨N, 1, none⟩ = some (fv) ∧ w'.cell? ⟨N, 2, none⟩ = some (.int .i64 s) ∧ w'.cell? ⟨N, 3, none⟩ = some (.int .i64 r) ∧ w'.cell? ⟨N, 4, none⟩ = some (.int .i64 a) ∧ w'.cell? ⟨N, 5, none⟩ = some (.bool b) ∧ w'.cell? ⟨(N + 1), 0, none⟩ = some (.bool q.ns) ∧ w'.cell? ⟨(N + 1), 1, none⟩ = some (.bool q.nc) ∧ w'.cell? ⟨(N + 1), 2, none⟩ = some (.bool q.pr) ∧ w'.cell? ⟨(N + 1), 3, none⟩ = some (.bool q.pu) ∧ w'.cell? ⟨(N + 1), 4, none⟩ = some (.bool q.mr) ∧ w'.cell? ⟨(N + 1), 5, none⟩ = some (.bool q.oc) ∧ w'.cell? ⟨(N + 1), 6, none⟩ = some (.int .i64 q.ma) ∧ w'.cell? ⟨(N + 1), 7, none⟩ = some (.int .i64 q.sa) ∧ w'.cell? ⟨(N + 1), 8, none⟩ = some (.int .i64 q.ws) ∧ w'.cell? ⟨(N + 1), 9, none⟩ = some (.int .i64 q.oe) ∧ w'.cell? ⟨(N + 1), 10, none⟩ = some (.int .i64 q.ms) ∧ w'.cell? ⟨(N + 1), 11, none⟩ = some (.int .i64 q.mf) ∧ w'.cell? ⟨(N + 2), 0, none⟩ = some (.int .i64 n) ∧ w'.cell? ⟨(N + 2), 1, none⟩ = some (.int .i64 p) ∧ LwS N st fv s r a b q n p w w' :=
  ⟨h.a.c0, h.a.c1, h.a.c2, h.a.c3, h.a.c4, h.a.c5, h.d.c0, h.d.c1, h.d.c2, h.d.c3, h.d.c4, h.d.c5, h.d.c6, h.d.c7, h.d.c8, h.d.c9, h.d.c10, h.d.c11, h.t0, h.t1, h⟩
theorem LwS.new (st : Int) (fv : Value) (s r a : Int) (b : Bool) (q : Dv) (n p : Int) (w : World) (T U V : TypeId) : LwS w.heap.size st fv s r a b q n p w (((w.alloc (.cells (stC st fv s r a b) T)).alloc (.cells (dvC q) U)).alloc (.cells #[.int .i64 n, .int .i64 p] V)) := by
  have e1 : (w.alloc (.cells (stC st fv s r a b) T)).heap.size = w.heap.size + 1 := by simp
  have e2 : ((w.alloc (.cells (stC st fv s r a b) T)).alloc (.cells (dvC q) U)).heap.size = w.heap.size + 2 := by simp
  have hd := dvB_new (w.alloc (.cells (stC st fv s r a b) T)) q U
  rw [e1] at hd
  have b1 := below_new w (.cells (stC st fv s r a b) T)
  have b2 := b1.alloc b1.size (.cells (dvC q) U)
  refine ⟨((StB.new w st fv s r a b T).below (below_new _ _)).below (below_new _ _), hd.below (below_new _ _), ?_, ?_, by simp, b2.alloc b2.size _⟩
  all_goals (rw [World.cell?_alloc_at _ _ _ _ (by simp)]; rfl)
/-- The blocks of the arguments, and what else is as it was. -/
structure LnS (N : Nat) (st : Int) (fv : Value) (s r a : Int) (b : Bool) (n p : Int) (w w' : World) : Prop where
  a : StB N w' st fv s r a b
  t0 : w'.cell? ⟨N + 1, 0, none⟩ = some (.int .i64 n)
  t1 : w'.cell? ⟨N + 1, 1, none⟩ = some (.int .i64 p)
  lt : N + 1 < w'.heap.size
  l : Below w.heap.size w w'
theorem LnS.below {N : Nat} {st : Int} {fv : Value} {s r a : Int} {b : Bool} {n p : Int} {w w1 w2 : World} (h : LnS N st fv s r a b n p w w1) (hb : Below w1.heap.size w1 w2) : LnS N st fv s r a b n p w w2 :=
  ⟨h.a.below hb, (hb.cell (p := ⟨N + 1, 0, none⟩) h.lt).trans h.t0, (hb.cell (p := ⟨N + 1, 1, none⟩) h.lt).trans h.t1, Nat.lt_of_lt_of_le h.lt hb.size, h.l.trans (hb.mono h.l.size)⟩
theorem LnS.all {N : Nat} {st : Int} {fv : Value} {s r a : Int} {b : Bool} {n p : Int} {w w' : World} (h : LnS N st fv s r a b n p w w') : w'.cell? ⟨N, 0, none⟩ = some (.int .i64 st) ∧ w'.cell? ⟨N, 1, none⟩ = some (fv) ∧ w'.cell? ⟨N, 2, none⟩ = some (.int .i64 s) ∧ w'.cell? ⟨N, 3, none⟩ = some (.int .i64 r) ∧ w'.cell? ⟨N, 4, none⟩ = some (.int .i64 a) ∧ w'.cell? ⟨N, 5, none⟩ = some (.bool b) ∧ w'.cell? ⟨(N + 1), 0, none⟩ = some (.int .i64 n) ∧ w'.cell? ⟨(N + 1), 1, none⟩ = some (.int .i64 p) ∧ LnS N st fv s r a b n p w w' :=
  ⟨h.a.c0, h.a.c1, h.a.c2, h.a.c3, h.a.c4, h.a.c5, h.t0, h.t1, h⟩
theorem LnS.new (st : Int) (fv : Value) (s r a : Int) (b : Bool) (n p : Int) (w : World) (T V : TypeId) : LnS w.heap.size st fv s r a b n p w ((w.alloc (.cells (stC st fv s r a b) T)).alloc (.cells #[.int .i64 n, .int .i64 p] V)) := by
  have e1 : (w.alloc (.cells (stC st fv s r a b) T)).heap.size = w.heap.size + 1 := by simp
  have b1 := below_new w (.cells (stC st fv s r a b) T)
  refine ⟨(StB.new w st fv s r a b T).below (below_new _ _), ?_, ?_, by simp, b1.alloc b1.size _⟩
  all_goals (rw [World.cell?_alloc_at _ _ _ _ (by simp)]; rfl)
end Go.Proofs.YtieolalohindgaaGreatDoor

/- What the reference's digits and number return. -/
namespace Go.Proofs.YtieolalohindgaaGreatDoor
open Go.RowKit

theorem convD (z : Int) (c : UInt8) (hz : z = (c.toNat : Int)) (W : World) :
    (convert 123 9 (.slice (some ⟨W.heap.size, 0, none⟩) 1 1)).run Tryz.prog (W.alloc (.cells #[.int .u8 z] 5)) = .ok (.string ⟨#[c]⟩) (W.alloc (.cells #[.int .u8 z] 5)) :=
  run_convert_bytes_back _ _ _ 5 ⟨W.heap.size, 0, none⟩ 1 [c] Tryz.underlying123 Tryz.underlying5 Tryz.underlying9 (fun j hj => by
    have : j = 0 := by simp at hj; omega
    subst this
    subst hz
    simp [Addr.add])
def DgRel (n many : Nat) (w : World) (r o i : Value) (wr : World) : Prop :=
  ∃ k : Nat, k ≤ many ∧ i = .int .i64 (k : Int) ∧ r = .int .i64 ((n / 10 ^ k : Nat) : Int) ∧ o = .string (strB (dgs k n)) ∧ Below w.heap.size w wr
theorem dgs_cons (k n : Nat) : (⟨#[dig (n / 10 ^ k)]⟩ : ByteArray) ++ strB (dgs k n) = strB (dgs (k + 1) n) := by apply ByteArray.ext; simp [strB, dgs]
set_option maxHeartbeats 1000000 in
theorem digits_any (n many : Nat) (w : World) (hm : many ≤ 4) (hn : n ≤ 1000000) :
    Calls Tryz.prog 122 #[.int .i64 (n : Int), .int .i64 (many : Int)] w fun e w' => e = .returned (.string (strB (dgs many n))) ∧ Below w.heap.size w w' := by
  go_enter Tryz.func122, Tryz.ntmps122
  go_wp2
  go_loopw [0, 5, 7] (fun r o i wr => DgRel n many w r o i wr) (fun _ _ i _ => many - (intOf i).toNat)
  case atStart => exact ⟨0, by omega, rfl, by simp, rfl, Below.refl _ _⟩
  case round =>
    obtain ⟨k, hk, rfl, rfl, rfl, hB⟩ := hrel
    have HS := Lib.hid (div_pow_succ n k)
    have HC := Lib.hid (dgs_cons k n)
    have hq : n / 10 ^ k ≤ 1000000 := Nat.le_trans (Nat.div_le_self _ _) hn
    have hcv := fun W => convD (48 + ((n / 10 ^ k : Nat) : Int) % 10) (dig (n / 10 ^ k)) (by rw [dig_nat]; omega) W
    have hz : (strB (dgs k n)).size ≤ 4 := by rw [strB_size, dgs_len]; omega
    obtain ⟨q, hqq⟩ : ∃ q, n / 10 ^ k = q := ⟨_, rfl⟩
    rw [hqq] at HS HC hq hcv ⊢
    clear hqq
    by_cases hlt : k < many
    · go_wp2
      go_roundw
      case rel => exact ⟨k + 1, by omega, by go_num, by rw [← HS.out]; go_num, by rw [← HC.out], hB.alloc hB.size _⟩
      case measure => simp [intOf]; omega
    · obtain rfl : k = many := by omega
      have HB := Lib.hid hB
      clear hB
      go_wp2
      go_ret
      exact ⟨rfl, HB.out⟩
theorem get_all {s : ByteArray} {k : Nat} (h : k < s.size) (hb : dgtB s[k] = false) : s.data.toList.all dgtB = false := all_bad (l := s.data.toList) (k := k) (by simpa using h) hb
set_option maxHeartbeats 1000000 in
theorem refNumber_any (s : ByteArray) (w : World) (hs : s.size ≤ 4) :
    Calls Tryz.prog 103 #[.string s] w fun e w' => e = .returned (.int .i64 (rn s.data.toList)) ∧ w = w' := by
  go_enter Tryz.func103, Tryz.ntmps103
  go_wp2
  go_loop [3, 7] (fun v i => ∃ k : Nat, k ≤ s.size ∧ i = .int .i64 (k : Int) ∧ v = .int .i64 (rnv (s.data.toList.take k) : Int) ∧ (s.data.toList.take k).all dgtB = true) (fun _ i => s.size - (intOf i).toNat)
  case atStart => exact ⟨0, by omega, rfl, by simp [rnv], by simp⟩
  case round =>
    obtain ⟨k, hk, rfl, rfl, ha⟩ := hrel
    have hb : rnv (s.data.toList.take k) < 10 ^ k := by
      have := rnv_lt _ ha
      rwa [List.length_take_of_le (by simpa using hk)] at this
    have hb2 : rnv (s.data.toList.take k) < 10000 := Nat.lt_of_lt_of_le hb (Nat.pow_le_pow_right (n := 10) (by omega) (show k ≤ 4 by omega))
    have HA := Lib.hid ha
    clear ha hb
    by_cases hlt : k < s.size
    · have HT := Lib.hid (take_snoc s k hlt)
      by_cases h48 : s[k].toNat < 48
      · have HN := Lib.hid (rn_no (get_all hlt (show dgtB s[k] = false from decide_eq_false (by omega))))
        go_wp2
        go_ret
        exact ⟨ret_int HN.out.symm, rfl⟩
      · by_cases h57 : 57 < s[k].toNat
        · have HN := Lib.hid (rn_no (get_all hlt (show dgtB s[k] = false from decide_eq_false (by omega))))
          go_wp2
          go_ret
          exact ⟨ret_int HN.out.symm, rfl⟩
        · have HD := Lib.hid (show dgtB s[k] = true from decide_eq_true (by omega))
          have HV := Lib.hid (rnv_snoc (s.data.toList.take k) s[k])
          go_wp2
          go_round
          case rel => exact ⟨k + 1, by omega, by go_num, by rw [HT.out, HV.out]; go_num, by rw [HT.out, List.all_append, HA.out]; simp [HD.out]⟩
          case measure => simp [intOf]; omega
    · have HE := Lib.hid (take_all s k (by omega))
      go_wp2
      go_ret
      exact ⟨ret_int (by rw [HE.out, rn_yes (by rw [← HE.out]; exact HA.out)]), rfl⟩
end Go.Proofs.YtieolalohindgaaGreatDoor
