/- What Find and IDs of a set return: the closures, and the loop that chooses. -/
import Derived.Test.YtbmbcdbldbjddaaGreatDoorVyKey
import Derived.Test.YtbmbcdbldbjddaaGreatDoorVyMem
import Derived.Deep.RegionHeld3
import Derived.Deep.DeepCutAuto
import Derived.Deep.QuietTactic
import Derived.BigQuiet
namespace Go.Proofs.YtbmbcdbldbjddaaGreatDoor
open Go.RowKit

theorem eq_str (a b : List UInt8) : ((strB a).toList == (strB b).toList) = decide (a = b) := by
  by_cases h : a = b
  · rw [toList_same h, decide_eq_true h]
  · rw [toList_other h, decide_eq_false h]
/-- What Find's closure asks of a world. -/
structure FcS (fb N : Nat) (e : Vr) (n fv : Value) (ps : Flds) (w0 w' : World) : Prop where
  c0 : w'.cell? ⟨N, 0, none⟩ = some n
  c1 : w'.cell? ⟨N, 1, none⟩ = some (.string (strB e.key))
  cf : w'.cell? ⟨fb, 0, none⟩ = some fv
  rn : ReadsS w' n e.ns
  rf : ReadsQ w' fv ps
  l1 : N < w'.heap.size
  l2 : fb < w'.heap.size
  l : Below w0.heap.size w0 w'
theorem FcS.below {fb N : Nat} {e : Vr} {n fv : Value} {ps : Flds} {w0 w w' : World} (h : FcS fb N e n fv ps w0 w) (hb : Below w.heap.size w w') : FcS fb N e n fv ps w0 w' :=
  ⟨(hb.cell (p := ⟨N, 0, none⟩) h.l1).trans h.c0, (hb.cell (p := ⟨N, 1, none⟩) h.l1).trans h.c1, (hb.cell (p := ⟨fb, 0, none⟩) h.l2).trans h.cf, h.rn.below hb, h.rf.below hb, Nat.lt_of_lt_of_le h.l1 hb.size, Nat.lt_of_lt_of_le h.l2 hb.size, h.l.trans (hb.mono h.l.size)⟩
theorem fcS_all {fb N : Nat} {e : Vr} {n fv : Value} {ps : Flds} {w0 w' : World} (h : FcS fb N e n fv ps w0 w') : w'.cell? ⟨N, 0, none⟩ = some n ∧ w'.cell? ⟨N, 1, none⟩ = some (.string (strB e.key)) ∧ w'.cell? ⟨fb, 0, none⟩ = some fv ∧ FcS fb N e n fv ps w0 w' := ⟨h.c0, h.c1, h.cf, h⟩
set_option maxHeartbeats 4000000 in
set_option maxRecDepth 100000 in
theorem findC_any (e : Vr) (n : Value) (fb : Nat) (fv : Value) (ps : Flds) (w : World) (hr : ReadsS w n e.ns) (hc : w.cell? ⟨fb, 0, none⟩ = some fv) (hb : fb < w.heap.size) (hq : ReadsQ w fv ps) (hn : FitN e.ns) (hf : FitK ps) :
    Calls Tryz.prog 30 #[.agg #[n, .string (strB e.key), .int .i64 e.id], .pointer (some ⟨fb, 0, none⟩)] w fun x w' => x = .returned (.bool (decide (keyL e.ns ps = e.key))) ∧ Below w.heap.size w w' := by
  have HS := Lib.hid (show FcS fb w.heap.size e n fv ps w (w.alloc (.cells #[n, .string (strB e.key), .int .i64 e.id] 62)) from
    ⟨(new_three w _ _ _ _).1, (new_three w _ _ _ _).2.1, ((below_new w _).cell (p := ⟨fb, 0, none⟩) hb).trans hc, hr.below (below_new _ _), hq.below (below_new _ _), by simp, by simp; omega, below_new _ _⟩)
  have HK := Lib.hid (fun (w : World) (ha : ReadsS w n e.ns) (hq : ReadsQ w fv ps) => key_any n e.ns fv ps w ha hq hn hf)
  have HE := Lib.hid (eq_str (keyL e.ns ps) e.key)
  clear hr hc hb hq hn hf
  go_enter Tryz.func30, Tryz.ntmps30
  go_upto_region 1 with fail
  change Code.wp _ _ _ _ (w.alloc (.cells #[n, .string (strB e.key), .int .i64 e.id] 62))
  generalize (w.alloc (.cells #[n, .string (strB e.key), .int .i64 e.id] 62)) = W at *
  have hS0 := HS.out.below (Below.refl _ _).drew
  clear HS
  refine wp_region_held_drew (S := (fun w' => w'.cell? ⟨w.heap.size, 0, none⟩ = some n ∧ w'.cell? ⟨w.heap.size, 1, none⟩ = some (.string (strB e.key)) ∧ w'.cell? ⟨fb, 0, none⟩ = some fv ∧ FcS fb w.heap.size e n fv ps w w')) (by kernel_rfl) (fcS_all hS0) (fun hHeld => ?_)
  generalize W.drew = V0 at *
  refine wpAnyH_take (i := 0) (oi := { dst := some 4, op := _, type := _, pos := _, after := _, guard := _ }) (v := ?_) rfl (by kernel_rfl) (by kernel_rfl) (by kernel_rfl) (fun _ _ _ h => h) (Or.inl ⟨by rfl, ?_⟩) (by assumption) ?_
  rotate_left
  focus (intro w hSw; (try dsimp only at hSw); first | (go_simp; done) | (go_simp; with_reducible rfl))
  (try simp only [Act.put, List.setIfInBounds_toArray, List.set_cons_zero, List.set_cons_succ])
  refine wpAnyH_take (i := 1) (oi := { dst := some 5, op := _, type := _, pos := _, after := _, guard := _ }) (v := ?_) rfl (by kernel_rfl) (by kernel_rfl) (by kernel_rfl) (fun _ _ _ h => h) (Or.inl ⟨by rfl, ?_⟩) (by assumption) ?_
  rotate_left
  focus (intro w hSw; (try dsimp only at hSw); first | (go_simp; done) | (go_simp; with_reducible rfl))
  (try simp only [Act.put, List.setIfInBounds_toArray, List.set_cons_zero, List.set_cons_succ])
  refine wpAnyH_take (i := 2) (oi := { dst := some 6, op := _, type := _, pos := _, after := _, guard := _ }) (v := ?_) rfl (by kernel_rfl) (by kernel_rfl) (by kernel_rfl) (fun _ _ _ h => h) (Or.inl ⟨by rfl, ?_⟩) (by assumption) ?_
  rotate_left
  focus (intro w hSw; (try dsimp only at hSw); first | (go_simp; done) | (go_simp; with_reducible rfl))
  (try simp only [Act.put, List.setIfInBounds_toArray, List.set_cons_zero, List.set_cons_succ])
  refine wpAnyH_take (i := 4) (oi := { dst := some 8, op := _, type := _, pos := _, after := _, guard := _ }) (v := ?_) rfl (by kernel_rfl) (by kernel_rfl) (by kernel_rfl) (fun _ _ _ h => h) (Or.inl ⟨by rfl, ?_⟩) (by assumption) ?_
  rotate_left
  focus (intro w hSw; (try dsimp only at hSw); first | (go_simp; done) | (go_simp; with_reducible rfl))
  (try simp only [Act.put, List.setIfInBounds_toArray, List.set_cons_zero, List.set_cons_succ])
  refine wpAnyH_take (i := 5) (oi := { dst := some 9, op := _, type := _, pos := _, after := _, guard := _ }) (v := ?_) rfl (by kernel_rfl) (by kernel_rfl) (by kernel_rfl) (fun _ _ _ h => h) (Or.inl ⟨by rfl, ?_⟩) (by assumption) ?_
  rotate_left
  focus (intro w hSw; (try dsimp only at hSw); first | (go_simp; done) | (go_simp; with_reducible rfl))
  (try simp only [Act.put, List.setIfInBounds_toArray, List.set_cons_zero, List.set_cons_succ])
  refine wpAnyH_ready (rs := [3]) (by kernel_rfl) (by simp) ?_
  refine AllReadyH.cons (o := { dst := some 7, op := _, type := _, pos := _, after := _, guard := _ }) rfl (fun K hK => ?_) AllReadyH.nil
  go_simp
  refine (HK.out _ hS0.rn hS0.rf).mono ?_
  rintro x V1 ⟨rfl, hBc⟩
  have hS1 := hS0.below hBc
  refine hK.out _ _ (fcS_all hS1) (fun hH1 => ?_)
  clear hK K hBc hS0 hHeld
  (try simp only [Act.put, List.setIfInBounds_toArray, List.set_cons_zero, List.set_cons_succ])
  refine wpAnyH_take (i := 6) (oi := { dst := some 10, op := _, type := _, pos := _, after := _, guard := _ }) (v := ?_) rfl (by kernel_rfl) (by kernel_rfl) (by kernel_rfl) (fun _ _ _ h => h) (Or.inl ⟨by rfl, ?_⟩) (by assumption) ?_
  rotate_left
  focus (intro w hSw; (try dsimp only at hSw); first | (go_simp; done) | (go_simp; with_reducible rfl))
  (try simp only [Act.put, List.setIfInBounds_toArray, List.set_cons_zero, List.set_cons_succ])
  refine wpAnyH_take (i := 7) (oi := { dst := some 3, op := _, type := _, pos := _, after := _, guard := _ }) (v := ?_) rfl (by kernel_rfl) (by kernel_rfl) (by kernel_rfl) (fun _ _ _ h => h) (Or.inl ⟨by rfl, ?_⟩) (by assumption) ?_
  rotate_left
  focus (intro w hSw; (try dsimp only at hSw); first | (go_simp; done) | (go_simp; with_reducible rfl))
  (try simp only [Act.put, List.setIfInBounds_toArray, List.set_cons_zero, List.set_cons_succ])
  refine wpAnyH_done (by kernel_rfl) ?_ _
  (try simp only [Exit.then])
  (try go_wp2_with fail)
  go_ret
  exact ⟨by rw [← HE.out]; rfl, hS1.l⟩
/-- The variants of a set: each has few names; there are at most sixteen. -/
structure FitV (l : List Vr) : Prop where
  len : l.length ≤ 16
  each : ∀ v ∈ l, FitN v.ns
theorem find_yes {l : List Vr} {ps : Flds} {k : Nat} {e : Vr} (h : l[k]? = some e) (hd : decide (keyL e.ns ps = e.key) = true) : findV (l.take (k + 1)) ps = findV (l.take k) ps ++ [e.id] := by
  unfold findV; rw [take_more h, List.filter_append, List.map_append, List.filter_cons, if_pos hd]; rfl
theorem find_no {l : List Vr} {ps : Flds} {k : Nat} {e : Vr} (h : l[k]? = some e) (hd : decide (keyL e.ns ps = e.key) = false) : findV (l.take (k + 1)) ps = findV (l.take k) ps := by
  unfold findV; rw [take_more h, List.filter_append, List.map_append, List.filter_cons, if_neg (by rw [hd]; simp)]; simp
theorem ids_yes {l : List Vr} {k : Nat} {e : Vr} (h : l[k]? = some e) : idsV (l.take (k + 1)) = idsV (l.take k) ++ [e.id] := by
  unfold idsV; rw [take_more h, List.map_append]; rfl
theorem find_len (l : List Vr) (ps : Flds) : (findV l ps).length ≤ l.length := by unfold findV; rw [List.length_map]; exact List.length_filter_le ..
/-- The list of a set, as it is read. -/
theorem SetO.list {F : Nat → Prop} {w : World} {sa : Nat} {l : List Vr} (h : SetO F w sa l) : ∃ ao cap, w.cell? ⟨sa, 0, none⟩ = some (.slice ao l.length cap) ∧ ReadsV F w (.slice ao l.length cap) l := by
  obtain ⟨v, Y, hb, hO, _, _, hYF, hvF⟩ := h.box
  have hR := hO.reads (G := F) (fun k _ hk => hYF k hk) (fun k _ hk => hvF k hk)
  obtain ⟨ao, cap, rfl, hc⟩ := id hR
  exact ⟨ao, cap, by simp [World.cell?, hb], hR⟩
theorem Tryz.infoI : (Tryz.prog.info? 3).map (fun i => (i.zero, i.size, i.bytes)) = some (some (.int .i64 0), 1, 8) := by kernel_rfl
theorem below_appendI {B : Nat} {a w w1 w2 : World} {v : Value} {zs : List Int} {o : Obj} (hB : Below B a w) (hBs : B ≤ w.heap.size) (hb1 : Below w.heap.size w w1) (hown : OwnsI B w v zs)
    (hgrow : (w1.alloc o).grownBy w2 v.ownBlock) : Below B a w2 :=
  ((hB.trans (hb1.mono hBs)).alloc (by have := hb1.size; omega) o).grown hgrow (by have := hb1.size; simp; omega) (fun q hq => (World.ownsRow.lt hown q hq).1)
set_option maxHeartbeats 8000000 in
set_option maxRecDepth 100000 in
theorem chooseF_any (sa : Nat) (l : List Vr) (fb : Nat) (fv : Value) (ps : Flds) (F : Nat → Prop) (w : World) (hS : SetO F w sa l) (hl : FitV l) (hc : w.cell? ⟨fb, 0, none⟩ = some fv) (hb : fb < w.heap.size) (hq : ReadsQ w fv ps) (hf : FitK ps) :
    Calls Tryz.prog 29 #[.pointer (some ⟨sa, 0, none⟩), .func (.func 30) #[] #[.pointer (some ⟨fb, 0, none⟩)]] w fun x w' => ∃ v, x = .returned v ∧ OwnsI w.heap.size w' v (findV l ps) ∧ Below w.heap.size w w' := by
  obtain ⟨i0, hi, hz0, hz1, hz2⟩ := info_parts Tryz.infoI
  obtain ⟨ao, cap, hcs, hR⟩ := hS.list
  obtain ⟨_, _, e0, hca⟩ := hR
  simp only [Value.slice.injEq, true_and] at e0
  obtain ⟨rfl, rfl⟩ := e0
  have hll := hl.len
  have HC := Lib.hid hca
  have HL := Lib.hid hl.each
  have HF := Lib.hid hf
  have HQ := Lib.hid hq
  have hfc := hc
  clear hc hq hf
  clear hca hl hS
  go_enter Tryz.func29, Tryz.ntmps29
  go_wp2_with fail
  go_loopw [5, 15] (fun v i wr => ∃ k : Nat, i = .int .i64 k ∧ k ≤ l.length ∧ OwnsI w.heap.size wr v (findV (l.take k) ps) ∧ Below w.heap.size w wr) (fun _ i _ => l.length - (intOf i).toNat)
  case atStart => exact ⟨0, rfl, Nat.zero_le _, OwnsI.nil _ _, Below.refl _ _⟩
  case round =>
    obtain ⟨k, rfl, hk, hO, hBr⟩ := hrel
    have hbr := hBr.size
    by_cases hlt : k < l.length
    · obtain ⟨p, hp⟩ : ∃ p, l[k]? = some p := ⟨l[k], by simp [hlt]⟩
      obtain ⟨g, n, rfl, hg, _, h0, h1, h2, hrn⟩ := HC.out k p hp
      obtain ⟨na, nc, rfl, _⟩ := id hrn
      have d0 := (hBr.cell (p := ⟨g, k * 3, none⟩) hg).trans h0
      have d1 := (hBr.cell (p := ⟨g, k * 3 + 1, none⟩) hg).trans h1
      have d2 := (hBr.cell (p := ⟨g, k * 3 + 2, none⟩) hg).trans h2
      have hidl : (findV (l.take k) ps).length ≤ 16 := by have := find_len (l.take k) ps; rw [List.length_take] at this; omega
      have HO := Lib.hid hO
      have HB := Lib.hid hBr
      have HRn := Lib.hid (hrn.s.below hBr)
      have HFn := Lib.hid (HL.out p (List.mem_of_getElem? hp))
      have HP := Lib.hid hp
      have HCf := Lib.hid ((hBr.cell (p := ⟨fb, 0, none⟩) hb).trans hfc)
      have HQr := Lib.hid (HQ.out.below hBr)
      have HX := Lib.hid (fun (W : World) (hB : Below wr.heap.size wr W) => findC_any p _ fb fv ps W (HRn.out.below hB) ((hB.cell (p := ⟨fb, 0, none⟩) (by show fb < _; omega)).trans HCf.out) (by have := hB.size; omega) (HQr.out.below hB) HFn.out HF.out)
      clear h0 h1 h2 hrn hp hO hBr
      cases hd : decide (keyL p.ns ps = p.key) with
      | true =>
        have HR := Lib.hid (find_yes HP.out hd)
        rw [hd] at HX
        clear hd
        go_wp2_with fail
        refine (HX.out _ (below_new _ _)).mono ?_
        rintro x w2 ⟨rfl, hB2⟩
        obtain ⟨k0, k1, k2⟩ := three_kept hB2
        have hB3 := below_three hB2
        have hs3 := hB3.size
        clear hB2
        have HO3 := Lib.hid (OwnsI.below HO.out hB3)
        go_wp2_with (at_builtin; refine wpList_append_own _ rfl _ _ 40 rfl w.heap.size 3 i0 (.int .i64 0) 1 8 Tryz.underlying40 hi hz0 hz1 hz2 rfl (by decide) _ _ _ rfl (HO3.out.below (below_new _ _)) ⟨w2.heap.size, 0, none⟩ 1 1 [.int .i64 p.id] rfl rfl (cell_one_new _ _ _) (fun u hu => by simp at hu; subst hu; rfl) (by unfold maxLen; omega) (by omega) (by simp; omega) ?_; intro v' w3 hown' hgrow _)
        go_roundw
        case rel => exact ⟨k + 1, by go_num, by omega, by rw [HR.out]; exact OwnsI.snoc hown', below_appendI HB.out hbr hB3 HO.out hgrow⟩
        case measure => simp [intOf]; omega
      | false =>
        have HR := Lib.hid (find_no HP.out hd)
        rw [hd] at HX
        clear hd
        go_wp2_with fail
        refine (HX.out _ (below_new _ _)).mono ?_
        rintro x w2 ⟨rfl, hB2⟩
        obtain ⟨k0, k1, k2⟩ := three_kept hB2
        have hB3 := below_three hB2
        have hs3 := hB3.size
        clear hB2
        go_wp2_with fail
        go_roundw
        case rel => exact ⟨k + 1, by go_num, by omega, by rw [HR.out]; exact OwnsI.below HO.out hB3, HB.out.trans (hB3.mono hbr)⟩
        case measure => simp [intOf]; omega
    · have htk : l.take k = l := List.take_of_length_le (by omega)
      rw [htk] at hO
      go_wp2_with fail
      go_ret
      exact ⟨_, rfl, hO, hBr⟩
theorem OwnsI.mono {B C : Nat} {w : World} {v : Value} {zs : List Int} (hO : OwnsI C w v zs) (hBC : B ≤ C) : OwnsI B w v zs := by
  rcases hO with ⟨hl, hv | ⟨g, cap, cur, hv, hb, hg, hn, hm, hs, ht⟩⟩
  · exact ⟨hl, .inl hv⟩
  · exact ⟨hl, .inr ⟨g, cap, cur, hv, Nat.le_trans hBC hb, hg, hn, hm, hs, ht⟩⟩
theorem nilChoose_any (clo : Value) (w : World) :
    Calls Tryz.prog 29 #[.pointer none, clo] w fun x w' => x = .returned (.slice none 0 0) ∧ Below w.heap.size w w' := by
  go_enter Tryz.func29, Tryz.ntmps29
  go_wp2
  go_ret
  exact ⟨rfl, Below.refl _ _⟩
set_option maxHeartbeats 1000000 in
set_option maxRecDepth 100000 in
theorem setFind_any (sa : Nat) (l : List Vr) (fv : Value) (ps : Flds) (F : Nat → Prop) (w : World) (hS : SetO F w sa l) (hl : FitV l) (hq : ReadsQ w fv ps) (hf : FitK ps) :
    Calls Tryz.prog 14 #[.pointer (some ⟨sa, 0, none⟩), fv] w fun x w' => ∃ v, x = .returned v ∧ OwnsI w.heap.size w' v (findV l ps) ∧ Below w.heap.size w w' := by
  obtain ⟨fa, fc, rfl, _⟩ := id hq
  have HX := Lib.hid (chooseF_any sa l w.heap.size _ ps F (w.alloc (.cells #[.slice fa ps.length fc] 29)) (hS.below (below_new _ _)) hl (by rw [World.cell?_alloc_at _ _ _ _ rfl]; rfl) (by simp) (hq.below (below_new _ _)) hf)
  clear hS hl hq hf
  go_enter Tryz.func14, Tryz.ntmps14
  go_wp2_with fail
  refine HX.out.mono ?_
  rintro x w2 ⟨v, rfl, hO, hB⟩
  go_wp2_with fail
  go_ret
  exact ⟨v, rfl, hO.mono (by simp), (below_new w _).trans (hB.mono (by simp))⟩
/-- Of no set: nothing. -/
theorem nilFind_any (fa : Option Addr) (n fc : Nat) (w : World) :
    Calls Tryz.prog 14 #[.pointer none, .slice fa n fc] w fun x w' => x = .returned (.slice none 0 0) ∧ Below w.heap.size w w' := by
  have HX := Lib.hid (fun (clo : Value) (w : World) => nilChoose_any clo w)
  go_enter Tryz.func14, Tryz.ntmps14
  go_wp2_with fail
  refine (HX.out _ _).mono ?_
  rintro x w2 ⟨rfl, hB⟩
  go_wp2_with fail
  go_ret
  exact ⟨rfl, (below_new w _).trans (hB.mono (by simp))⟩
end Go.Proofs.YtbmbcdbldbjddaaGreatDoor
