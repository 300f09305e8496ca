import Derived.Test.YtpikjcmenmdolaaGreatDoorPa46
import Derived.Test.YtpikjcmenmdolaaGreatDoorPa45
import Derived.Test.YtpikjcmenmdolaaGreatDoorPa27
import Derived.Deep.QuietTactic
import Derived.BigQuiet
import Derived.Deep.RegionHeld3
import Derived.Deep.Cut
import Derived.Test.YtpikjcmenmdolaaGreatDoorPa41
import Derived.Deep.DeepCutAuto
import Derived.Deep.CutBlock
/- What the statements' Same returns of equal lists of events. -/
namespace Go.Proofs.YtpikjcmenmdolaaGreatDoor
open Go.RowKit

theorem set8 {W : World} {N : Nat} {T : TypeId} {z0 z1 z2 z3 z4 z5 z6 z7 : Value} (h : W.heap[N]? = some (.cells #[z0, z1, z2, z3, z4, z5, z6, z7] T (0, 0))) (a0 a1 a2 a3 a4 a5 a6 a7 : Value) :
    ((((((((W.setCell ⟨N, 0, none⟩ a0).setCell ⟨N, 1, none⟩ a1).setCell ⟨N, 2, none⟩ a2).setCell ⟨N, 3, none⟩ a3).setCell ⟨N, 4, none⟩ a4).setCell ⟨N, 5, none⟩ a5).setCell ⟨N, 6, none⟩ a6).setCell ⟨N, 7, none⟩ a7).heap[N]? = some (.cells #[a0, a1, a2, a3, a4, a5, a6, a7] T (0, 0)) ∧
    Only (fun k => k = N) W ((((((((W.setCell ⟨N, 0, none⟩ a0).setCell ⟨N, 1, none⟩ a1).setCell ⟨N, 2, none⟩ a2).setCell ⟨N, 3, none⟩ a3).setCell ⟨N, 4, none⟩ a4).setCell ⟨N, 5, none⟩ a5).setCell ⟨N, 6, none⟩ a6).setCell ⟨N, 7, none⟩ a7) := by
  refine ⟨?_, only8 W N a0 a1 a2 a3 a4 a5 a6 a7⟩
  have h0 := heap_setCell_same _ N 0 _ T a0 h
  have h1 := heap_setCell_same _ N 1 _ T a1 h0
  have h2 := heap_setCell_same _ N 2 _ T a2 h1
  have h3 := heap_setCell_same _ N 3 _ T a3 h2
  have h4 := heap_setCell_same _ N 4 _ T a4 h3
  have h5 := heap_setCell_same _ N 5 _ T a5 h4
  have h6 := heap_setCell_same _ N 6 _ T a6 h5
  have h7 := heap_setCell_same _ N 7 _ T a7 h6
  rw [h7]
  simp only [List.setIfInBounds_toArray, List.set_cons_zero, List.set_cons_succ]
set_option maxHeartbeats 4000000 in
set_option maxRecDepth 100000 in
theorem same8_any {B C : Nat} {Y Z : Nat → Prop} (u v : Value) (es : List Ev) (w : World) (hu : OwnsR B Y w u es) (hv : OwnsR C Z w v es) (hl : es.length ≤ 1000000) (hf : ∀ e ∈ es, EvSm e) :
    Calls Tryz.prog 16 #[u, v] w fun e w' => e = .returned (.bool true) ∧ Below w.heap.size w w' := by
  obtain ⟨ua, uc, rfl⟩ := hu.isSlice
  obtain ⟨va, vc, rfl⟩ := hv.isSlice
  have HU := Lib.hid hu
  have HV := Lib.hid hv
  clear hu hv
  go_enter Tryz.func16, Tryz.ntmps16
  go_wp2_with fail
  go_loopw [5] (fun i wr => ∃ k : Nat, i = .int .i64 k ∧ k ≤ es.length ∧ Below w.heap.size w wr) (fun i _ => es.length - (intOf i).toNat)
  case atStart => exact ⟨0, rfl, Nat.zero_le _, Below.refl _ _⟩
  case round =>
    obtain ⟨k, rfl, hk, hBr⟩ := hrel
    by_cases hlt : k < es.length
    · obtain ⟨e, he⟩ : ∃ e, es[k]? = some e := ⟨es[k], by simp [hlt]⟩
      obtain ⟨g, cap, hsu, _, hgl, q, p, t, hcl, hRu⟩ := HU.out.ev he
      cases hsu
      obtain ⟨g2, cap2, hsv, _, hgl2, q2, p2, t2, hcl2, hRv⟩ := HV.out.ev he
      cases hsv
      have hRu2 := hRu.below hBr
      have hRv2 := hRv.below hBr
      obtain ⟨qa, qn, qc, rfl⟩ : ∃ a n c, q = .slice a n c := by obtain ⟨_, _, _, hx, ⟨a, c, h, _⟩, _⟩ := hRu; exact ⟨a, _, c, by cases hx; exact h⟩
      obtain ⟨pa, pn, pc, rfl⟩ : ∃ a n c, p = .slice a n c := by obtain ⟨_, _, _, hx, _, ⟨a, c, h, _⟩, _⟩ := hRu; exact ⟨a, _, c, by cases hx; exact h⟩
      obtain ⟨ta, tn, tc, rfl⟩ : ∃ a n c, t = .slice a n c := by obtain ⟨_, _, _, hx, _, _, ⟨a, c, h, _⟩, _⟩ := hRu; exact ⟨a, _, c, by cases hx; exact h⟩
      obtain ⟨qa2, qn2, qc2, rfl⟩ : ∃ a n c, q2 = .slice a n c := by obtain ⟨_, _, _, hx, ⟨a, c, h, _⟩, _⟩ := hRv; exact ⟨a, _, c, by cases hx; exact h⟩
      obtain ⟨pa2, pn2, pc2, rfl⟩ : ∃ a n c, p2 = .slice a n c := by obtain ⟨_, _, _, hx, _, ⟨a, c, h, _⟩, _⟩ := hRv; exact ⟨a, _, c, by cases hx; exact h⟩
      obtain ⟨ta2, tn2, tc2, rfl⟩ : ∃ a n c, t2 = .slice a n c := by obtain ⟨_, _, _, hx, _, _, ⟨a, c, h, _⟩, _⟩ := hRv; exact ⟨a, _, c, by cases hx; exact h⟩
      have key : ∀ j u, (rvC e (.slice qa qn qc) (.slice pa pn pc) (.slice ta tn tc))[j]? = some u → wr.cell? ⟨g, k * 8 + j, none⟩ = some u := fun j u hu => (hBr.cell (p := ⟨g, k * 8 + j, none⟩) hgl).trans (hcl j u hu)
      have key2 : ∀ j u, (rvC e (.slice qa2 qn2 qc2) (.slice pa2 pn2 pc2) (.slice ta2 tn2 tc2))[j]? = some u → wr.cell? ⟨g2, k * 8 + j, none⟩ = some u := fun j u hu => (hBr.cell (p := ⟨g2, k * 8 + j, none⟩) hgl2).trans (hcl2 j u hu)
      have c0 : wr.cell? ⟨g, k * 8, none⟩ = some (.int .i64 (e.k : Int)) := key 0 _ rfl
      have d0 : wr.cell? ⟨g2, k * 8, none⟩ = some (.int .i64 (e.k : Int)) := key2 0 _ rfl
      have c1 : wr.cell? ⟨g, k * 8 + 1, none⟩ = some (.string (strB e.q.1)) := key 1 _ rfl
      have d1 : wr.cell? ⟨g2, k * 8 + 1, none⟩ = some (.string (strB e.q.1)) := key2 1 _ rfl
      have c2 : wr.cell? ⟨g, k * 8 + 2, none⟩ = some (.string (strB e.q.2.1)) := key 2 _ rfl
      have d2 : wr.cell? ⟨g2, k * 8 + 2, none⟩ = some (.string (strB e.q.2.1)) := key2 2 _ rfl
      have c3 : wr.cell? ⟨g, k * 8 + 3, none⟩ = some (.slice qa qn qc) := key 3 _ rfl
      have d3 : wr.cell? ⟨g2, k * 8 + 3, none⟩ = some (.slice qa2 qn2 qc2) := key2 3 _ rfl
      have c4 : wr.cell? ⟨g, k * 8 + 4, none⟩ = some (.int .i64 (e.p.1 : Int)) := key 4 _ rfl
      have d4 : wr.cell? ⟨g2, k * 8 + 4, none⟩ = some (.int .i64 (e.p.1 : Int)) := key2 4 _ rfl
      have c5 : wr.cell? ⟨g, k * 8 + 5, none⟩ = some (.slice pa pn pc) := key 5 _ rfl
      have d5 : wr.cell? ⟨g2, k * 8 + 5, none⟩ = some (.slice pa2 pn2 pc2) := key2 5 _ rfl
      have c6 : wr.cell? ⟨g, k * 8 + 6, none⟩ = some (.string (strB e.d)) := key 6 _ rfl
      have d6 : wr.cell? ⟨g2, k * 8 + 6, none⟩ = some (.string (strB e.d)) := key2 6 _ rfl
      have c7 : wr.cell? ⟨g, k * 8 + 7, none⟩ = some (.slice ta tn tc) := key 7 _ rfl
      have d7 : wr.cell? ⟨g2, k * 8 + 7, none⟩ = some (.slice ta2 tn2 tc2) := key2 7 _ rfl
      have HRU := Lib.hid hRu2
      have HRV := Lib.hid hRv2
      have HBr := Lib.hid hBr
      have b0 : ((e.k : Int) != (e.k : Int)) = false := by simp
      have b4 : ((e.p.1 : Int) != (e.p.1 : Int)) = false := by simp
      have heq1 := toList_same (rfl : e.q.1 = e.q.1)
      have heq2 := toList_same (rfl : e.q.2.1 = e.q.2.1)
      have heqd := toList_same (rfl : e.d = e.d)
      clear key key2 hcl hcl2 hRu hRv hRu2 hRv2 hBr
      have hsm := hf e (List.mem_of_getElem? he)
      have HSM := Lib.hid hsm
      clear hsm he
      have hgr : g < wr.heap.size := Nat.lt_of_lt_of_le hgl HBr.out.size
      have hgr2 : g2 < wr.heap.size := Nat.lt_of_lt_of_le hgl2 HBr.out.size
      go_upto_region 6 with fail
      go_cut [6, 7] (fun u6 u7 W => ∃ M N, u6 = .pointer (some ⟨M, 0, none⟩) ∧ u7 = .pointer (some ⟨N, 0, none⟩) ∧ W.heap[M]? = some (.cells #[.int .i64 (e.k : Int), .string (strB e.q.1), .string (strB e.q.2.1), .slice qa qn qc, .int .i64 (e.p.1 : Int), .slice pa pn pc, .string (strB e.d), .slice ta tn tc] 80 (0, 0)) ∧ W.heap[N]? = some (.cells #[.int .i64 (e.k : Int), .string (strB e.q.1), .string (strB e.q.2.1), .slice qa2 qn2 qc2, .int .i64 (e.p.1 : Int), .slice pa2 pn2 pc2, .string (strB e.d), .slice ta2 tn2 tc2] 80 (0, 0)) ∧ Below wr.heap.size wr W)
      case first =>
        have hSV0 : Below wr.heap.size wr wr.drew := (Below.refl _ _).drew
        refine wp_region_held_drew (S := fun V => Below wr.heap.size wr V) (by kernel_rfl) hSV0 (fun hHeld => ?_)
        clear hHeld
        generalize wr.drew = V0 at *
        refine wpAnyH_take (i := 0) (oi := { dst := some 19, op := _, type := _, pos := _, after := _, guard := _ }) (v := ?_) rfl (by kernel_rfl) (by kernel_rfl) (by kernel_rfl) (fun _ _ _ h => h) (Or.inl ⟨by rfl, ?_⟩) hSV0 ?_
        rotate_left
        focus (intro wv hSw; clear hSw; first | (go_simp; done) | (go_simp; with_reducible rfl))
        (try simp only [Act.put, List.setIfInBounds_toArray, List.set_cons_zero, List.set_cons_succ])
        refine wpAnyH_take (i := 1) (oi := { dst := some 20, op := _, type := _, pos := _, after := _, guard := _ }) (v := ?_) rfl (by kernel_rfl) (by kernel_rfl) (by kernel_rfl) (fun _ _ _ h => h) (Or.inl ⟨by rfl, ?_⟩) hSV0 ?_
        rotate_left
        focus (intro wv hSw; clear hSw; first | (go_simp; done) | (go_simp; with_reducible rfl))
        (try simp only [Act.put, List.setIfInBounds_toArray, List.set_cons_zero, List.set_cons_succ])
        refine wpAnyH_take (i := 2) (oi := { dst := some 21, op := _, type := _, pos := _, after := _, guard := _ }) (v := ?_) rfl (by kernel_rfl) (by kernel_rfl) (by kernel_rfl) (fun _ _ _ h => h) (Or.inl ⟨by rfl, ?_⟩) hSV0 ?_
        rotate_left
        focus (intro wv hSw; clear hSw; first | (go_simp; done) | (go_simp; with_reducible rfl))
        (try simp only [Act.put, List.setIfInBounds_toArray, List.set_cons_zero, List.set_cons_succ])
        refine wpAnyH_take (i := 3) (oi := { dst := some 22, op := _, type := _, pos := _, after := _, guard := _ }) (v := ?_) rfl (by kernel_rfl) (by kernel_rfl) (by kernel_rfl) (fun _ _ _ h => h) (Or.inl ⟨by rfl, ?_⟩) hSV0 ?_
        rotate_left
        focus (intro wv hSw; have e0 : wv.cell? ⟨g, k * 8, none⟩ = some (.int .i64 (e.k : Int)) := (hSw.cell (p := ⟨g, k * 8, none⟩) hgr).trans c0; have e1 : wv.cell? ⟨g, k * 8 + 1, none⟩ = some (.string (strB e.q.1)) := (hSw.cell (p := ⟨g, k * 8 + 1, none⟩) hgr).trans c1; have e2 : wv.cell? ⟨g, k * 8 + 2, none⟩ = some (.string (strB e.q.2.1)) := (hSw.cell (p := ⟨g, k * 8 + 2, none⟩) hgr).trans c2; have e3 : wv.cell? ⟨g, k * 8 + 3, none⟩ = some (.slice qa qn qc) := (hSw.cell (p := ⟨g, k * 8 + 3, none⟩) hgr).trans c3; have e4 : wv.cell? ⟨g, k * 8 + 4, none⟩ = some (.int .i64 (e.p.1 : Int)) := (hSw.cell (p := ⟨g, k * 8 + 4, none⟩) hgr).trans c4; have e5 : wv.cell? ⟨g, k * 8 + 5, none⟩ = some (.slice pa pn pc) := (hSw.cell (p := ⟨g, k * 8 + 5, none⟩) hgr).trans c5; have e6 : wv.cell? ⟨g, k * 8 + 6, none⟩ = some (.string (strB e.d)) := (hSw.cell (p := ⟨g, k * 8 + 6, none⟩) hgr).trans c6; have e7 : wv.cell? ⟨g, k * 8 + 7, none⟩ = some (.slice ta tn tc) := (hSw.cell (p := ⟨g, k * 8 + 7, none⟩) hgr).trans c7; clear hSw; first | (go_simp; done) | (go_simp; with_reducible rfl))
        (try simp only [Act.put, List.setIfInBounds_toArray, List.set_cons_zero, List.set_cons_succ])
        refine wpAnyH_take (i := 4) (oi := { dst := some 23, op := _, type := _, pos := _, after := _, guard := _ }) (v := ?_) rfl (by kernel_rfl) (by kernel_rfl) (by kernel_rfl) (fun _ _ _ h => h) (Or.inl ⟨by rfl, ?_⟩) hSV0 ?_
        rotate_left
        focus (intro wv hSw; clear hSw; first | (go_simp; done) | (go_simp; with_reducible rfl))
        (try simp only [Act.put, List.setIfInBounds_toArray, List.set_cons_zero, List.set_cons_succ])
        refine wpAnyH_take (i := 5) (oi := { dst := some 24, op := _, type := _, pos := _, after := _, guard := _ }) (v := ?_) rfl (by kernel_rfl) (by kernel_rfl) (by kernel_rfl) (fun _ _ _ h => h) (Or.inl ⟨by rfl, ?_⟩) hSV0 ?_
        rotate_left
        focus (intro wv hSw; clear hSw; first | (go_simp; done) | (go_simp; with_reducible rfl))
        (try simp only [Act.put, List.setIfInBounds_toArray, List.set_cons_zero, List.set_cons_succ])
        refine wpAnyH_take (i := 6) (oi := { dst := some 25, op := _, type := _, pos := _, after := _, guard := _ }) (v := ?_) rfl (by kernel_rfl) (by kernel_rfl) (by kernel_rfl) (fun _ _ _ h => h) (Or.inl ⟨by rfl, ?_⟩) hSV0 ?_
        rotate_left
        focus (intro wv hSw; clear hSw; first | (go_simp; done) | (go_simp; with_reducible rfl))
        (try simp only [Act.put, List.setIfInBounds_toArray, List.set_cons_zero, List.set_cons_succ])
        refine wpAnyH_take (i := 7) (oi := { dst := some 26, op := _, type := _, pos := _, after := _, guard := _ }) (v := ?_) rfl (by kernel_rfl) (by kernel_rfl) (by kernel_rfl) (fun _ _ _ h => h) (Or.inl ⟨by rfl, ?_⟩) hSV0 ?_
        rotate_left
        focus (intro wv hSw; have e0 : wv.cell? ⟨g2, k * 8, none⟩ = some (.int .i64 (e.k : Int)) := (hSw.cell (p := ⟨g2, k * 8, none⟩) hgr2).trans d0; have e1 : wv.cell? ⟨g2, k * 8 + 1, none⟩ = some (.string (strB e.q.1)) := (hSw.cell (p := ⟨g2, k * 8 + 1, none⟩) hgr2).trans d1; have e2 : wv.cell? ⟨g2, k * 8 + 2, none⟩ = some (.string (strB e.q.2.1)) := (hSw.cell (p := ⟨g2, k * 8 + 2, none⟩) hgr2).trans d2; have e3 : wv.cell? ⟨g2, k * 8 + 3, none⟩ = some (.slice qa2 qn2 qc2) := (hSw.cell (p := ⟨g2, k * 8 + 3, none⟩) hgr2).trans d3; have e4 : wv.cell? ⟨g2, k * 8 + 4, none⟩ = some (.int .i64 (e.p.1 : Int)) := (hSw.cell (p := ⟨g2, k * 8 + 4, none⟩) hgr2).trans d4; have e5 : wv.cell? ⟨g2, k * 8 + 5, none⟩ = some (.slice pa2 pn2 pc2) := (hSw.cell (p := ⟨g2, k * 8 + 5, none⟩) hgr2).trans d5; have e6 : wv.cell? ⟨g2, k * 8 + 6, none⟩ = some (.string (strB e.d)) := (hSw.cell (p := ⟨g2, k * 8 + 6, none⟩) hgr2).trans d6; have e7 : wv.cell? ⟨g2, k * 8 + 7, none⟩ = some (.slice ta2 tn2 tc2) := (hSw.cell (p := ⟨g2, k * 8 + 7, none⟩) hgr2).trans d7; clear hSw; first | (go_simp; done) | (go_simp; with_reducible rfl))
        (try simp only [Act.put, List.setIfInBounds_toArray, List.set_cons_zero, List.set_cons_succ])
        clear c0 c1 c2 c3 c4 c5 c6 c7 d0 d1 d2 d3 d4 d5 d6 d7
        refine wpAnyH_ready (rs := [8, 9]) (by kernel_rfl) (by simp) ?_
        refine AllReadyH.cons (o := { dst := some 6, op := _, type := _, pos := _, after := _, guard := _ }) rfl (fun K hK => ?_) ?_
        · go_simp
          have hnV1 := heap_alloc_new V0 (.cells #[.int .i64 0, .string ⟨#[]⟩, .string ⟨#[]⟩, noV, .int .i64 0, noV, .string ⟨#[]⟩, noV] 80)
          have hbV1 := below_new V0 (.cells #[.int .i64 0, .string ⟨#[]⟩, .string ⟨#[]⟩, noV, .int .i64 0, noV, .string ⟨#[]⟩, noV] 80)
          have hgV1 : V0.heap.size < (V0.alloc (.cells #[.int .i64 0, .string ⟨#[]⟩, .string ⟨#[]⟩, noV, .int .i64 0, noV, .string ⟨#[]⟩, noV] 80)).heap.size := by simp
          have hSV1 : Below wr.heap.size wr (V0.alloc (.cells #[.int .i64 0, .string ⟨#[]⟩, .string ⟨#[]⟩, noV, .int .i64 0, noV, .string ⟨#[]⟩, noV] 80)) := hSV0.trans (hbV1.mono hSV0.size)
          have hmV1 : wr.heap.size ≤ V0.heap.size := hSV0.size
          refine hK.out _ _ hSV1 (fun _ => ?_)
          clear hK K
          (try simp only [Act.put, List.setIfInBounds_toArray, List.set_cons_zero, List.set_cons_succ])
          change wpAnyH _ _ _ _ _ _ _ _ (V0.alloc (.cells #[.int .i64 0, .string ⟨#[]⟩, .string ⟨#[]⟩, noV, .int .i64 0, noV, .string ⟨#[]⟩, noV] 80))
          clear hbV1
          generalize hNM1 : V0.heap.size = M1 at *
          generalize V0.alloc (.cells #[.int .i64 0, .string ⟨#[]⟩, .string ⟨#[]⟩, noV, .int .i64 0, noV, .string ⟨#[]⟩, noV] 80) = V1 at *
          refine wpAnyH_ready (rs := [9]) (by kernel_rfl) (by simp) ?_
          refine AllReadyH.cons (o := { dst := some 7, op := _, type := _, pos := _, after := _, guard := _ }) rfl (fun K hK => ?_) AllReadyH.nil
          have hl1 := hgV1
          go_simp
          have hnV2 := heap_alloc_new V1 (.cells #[.int .i64 0, .string ⟨#[]⟩, .string ⟨#[]⟩, noV, .int .i64 0, noV, .string ⟨#[]⟩, noV] 80)
          have hbV2 := below_new V1 (.cells #[.int .i64 0, .string ⟨#[]⟩, .string ⟨#[]⟩, noV, .int .i64 0, noV, .string ⟨#[]⟩, noV] 80)
          have hgV2 : V1.heap.size < (V1.alloc (.cells #[.int .i64 0, .string ⟨#[]⟩, .string ⟨#[]⟩, noV, .int .i64 0, noV, .string ⟨#[]⟩, noV] 80)).heap.size := by simp
          have hSV2 : Below wr.heap.size wr (V1.alloc (.cells #[.int .i64 0, .string ⟨#[]⟩, .string ⟨#[]⟩, noV, .int .i64 0, noV, .string ⟨#[]⟩, noV] 80)) := hSV1.trans (hbV2.mono hSV1.size)
          have hmV2 : wr.heap.size ≤ V1.heap.size := hSV1.size
          refine hK.out _ _ hSV2 (fun _ => ?_)
          clear hK K
          (try simp only [Act.put, List.setIfInBounds_toArray, List.set_cons_zero, List.set_cons_succ])
          change wpAnyH _ _ _ _ _ _ _ _ (V1.alloc (.cells #[.int .i64 0, .string ⟨#[]⟩, .string ⟨#[]⟩, noV, .int .i64 0, noV, .string ⟨#[]⟩, noV] 80))
          have hnV1 := (hbV2.block _ (Array.getElem?_eq_some_iff.1 hnV1).1).trans hnV1
          clear hbV2
          generalize hNM2 : V1.heap.size = M2 at *
          generalize V1.alloc (.cells #[.int .i64 0, .string ⟨#[]⟩, .string ⟨#[]⟩, noV, .int .i64 0, noV, .string ⟨#[]⟩, noV] 80) = V2 at *
          have hne : M1 < M2 := by omega
          refine wpAnyH_ready (rs := [10]) (by kernel_rfl) (by simp) ?_
          refine AllReadyH.cons (o := { dst := none, op := _, type := _, pos := _, after := _, guard := _ }) rfl (fun K hK => ?_) AllReadyH.nil
          have z0 : V2.cell? ⟨M1, 0, none⟩ = some (.int .i64 0) := by rw [Lib.cell_of_heap hnV1]; rfl
          have f0 := Lib.frozen_of_heap hnV1 0
          have z1 : V2.cell? ⟨M1, 1, none⟩ = some (.string ⟨#[]⟩) := by rw [Lib.cell_of_heap hnV1]; rfl
          have f1 := Lib.frozen_of_heap hnV1 1
          have z2 : V2.cell? ⟨M1, 2, none⟩ = some (.string ⟨#[]⟩) := by rw [Lib.cell_of_heap hnV1]; rfl
          have f2 := Lib.frozen_of_heap hnV1 2
          have z3 : V2.cell? ⟨M1, 3, none⟩ = some (noV) := by rw [Lib.cell_of_heap hnV1]; rfl
          have f3 := Lib.frozen_of_heap hnV1 3
          have z4 : V2.cell? ⟨M1, 4, none⟩ = some (.int .i64 0) := by rw [Lib.cell_of_heap hnV1]; rfl
          have f4 := Lib.frozen_of_heap hnV1 4
          have z5 : V2.cell? ⟨M1, 5, none⟩ = some (noV) := by rw [Lib.cell_of_heap hnV1]; rfl
          have f5 := Lib.frozen_of_heap hnV1 5
          have z6 : V2.cell? ⟨M1, 6, none⟩ = some (.string ⟨#[]⟩) := by rw [Lib.cell_of_heap hnV1]; rfl
          have f6 := Lib.frozen_of_heap hnV1 6
          have z7 : V2.cell? ⟨M1, 7, none⟩ = some (noV) := by rw [Lib.cell_of_heap hnV1]; rfl
          have f7 := Lib.frozen_of_heap hnV1 7
          go_simp
          clear z0 f0 z1 f1 z2 f2 z3 f3 z4 f4 z5 f5 z6 f6 z7 f7
          have hx := set8 hnV1 (.int .i64 (e.k : Int)) (.string (strB e.q.1)) (.string (strB e.q.2.1)) (.slice qa qn qc) (.int .i64 (e.p.1 : Int)) (.slice pa pn pc) (.string (strB e.d)) (.slice ta tn tc)
          have hSV3 : Below wr.heap.size wr ((((((((V2.setCell ⟨M1, 0, none⟩ (.int .i64 (e.k : Int))).setCell ⟨M1, 1, none⟩ (.string (strB e.q.1))).setCell ⟨M1, 2, none⟩ (.string (strB e.q.2.1))).setCell ⟨M1, 3, none⟩ (.slice qa qn qc)).setCell ⟨M1, 4, none⟩ (.int .i64 (e.p.1 : Int))).setCell ⟨M1, 5, none⟩ (.slice pa pn pc)).setCell ⟨M1, 6, none⟩ (.string (strB e.d))).setCell ⟨M1, 7, none⟩ (.slice ta tn tc)) := hSV2.trans (hx.2.to (fun i hi => by omega) hSV2.size)
          refine hK.out _ _ hSV3 (fun _ => ?_)
          clear hK K
          (try simp only [Act.put, List.setIfInBounds_toArray, List.set_cons_zero, List.set_cons_succ])
          change wpAnyH _ _ _ _ _ _ _ _ ((((((((V2.setCell ⟨M1, 0, none⟩ (.int .i64 (e.k : Int))).setCell ⟨M1, 1, none⟩ (.string (strB e.q.1))).setCell ⟨M1, 2, none⟩ (.string (strB e.q.2.1))).setCell ⟨M1, 3, none⟩ (.slice qa qn qc)).setCell ⟨M1, 4, none⟩ (.int .i64 (e.p.1 : Int))).setCell ⟨M1, 5, none⟩ (.slice pa pn pc)).setCell ⟨M1, 6, none⟩ (.string (strB e.d))).setCell ⟨M1, 7, none⟩ (.slice ta tn tc))
          have hnV2 := (hx.2.block M2 (Array.getElem?_eq_some_iff.1 hnV2).1 (by omega)).trans hnV2
          have hnV1 := hx.1
          clear hx
          generalize ((((((((V2.setCell ⟨M1, 0, none⟩ (.int .i64 (e.k : Int))).setCell ⟨M1, 1, none⟩ (.string (strB e.q.1))).setCell ⟨M1, 2, none⟩ (.string (strB e.q.2.1))).setCell ⟨M1, 3, none⟩ (.slice qa qn qc)).setCell ⟨M1, 4, none⟩ (.int .i64 (e.p.1 : Int))).setCell ⟨M1, 5, none⟩ (.slice pa pn pc)).setCell ⟨M1, 6, none⟩ (.string (strB e.d))).setCell ⟨M1, 7, none⟩ (.slice ta tn tc)) = V3 at *
          refine wpAnyH_ready (rs := [11]) (by kernel_rfl) (by simp) ?_
          refine AllReadyH.cons (o := { dst := none, op := _, type := _, pos := _, after := _, guard := _ }) rfl (fun K hK => ?_) AllReadyH.nil
          have z0 : V3.cell? ⟨M2, 0, none⟩ = some (.int .i64 0) := by rw [Lib.cell_of_heap hnV2]; rfl
          have f0 := Lib.frozen_of_heap hnV2 0
          have z1 : V3.cell? ⟨M2, 1, none⟩ = some (.string ⟨#[]⟩) := by rw [Lib.cell_of_heap hnV2]; rfl
          have f1 := Lib.frozen_of_heap hnV2 1
          have z2 : V3.cell? ⟨M2, 2, none⟩ = some (.string ⟨#[]⟩) := by rw [Lib.cell_of_heap hnV2]; rfl
          have f2 := Lib.frozen_of_heap hnV2 2
          have z3 : V3.cell? ⟨M2, 3, none⟩ = some (noV) := by rw [Lib.cell_of_heap hnV2]; rfl
          have f3 := Lib.frozen_of_heap hnV2 3
          have z4 : V3.cell? ⟨M2, 4, none⟩ = some (.int .i64 0) := by rw [Lib.cell_of_heap hnV2]; rfl
          have f4 := Lib.frozen_of_heap hnV2 4
          have z5 : V3.cell? ⟨M2, 5, none⟩ = some (noV) := by rw [Lib.cell_of_heap hnV2]; rfl
          have f5 := Lib.frozen_of_heap hnV2 5
          have z6 : V3.cell? ⟨M2, 6, none⟩ = some (.string ⟨#[]⟩) := by rw [Lib.cell_of_heap hnV2]; rfl
          have f6 := Lib.frozen_of_heap hnV2 6
          have z7 : V3.cell? ⟨M2, 7, none⟩ = some (noV) := by rw [Lib.cell_of_heap hnV2]; rfl
          have f7 := Lib.frozen_of_heap hnV2 7
          go_simp
          clear z0 f0 z1 f1 z2 f2 z3 f3 z4 f4 z5 f5 z6 f6 z7 f7
          have hx := set8 hnV2 (.int .i64 (e.k : Int)) (.string (strB e.q.1)) (.string (strB e.q.2.1)) (.slice qa2 qn2 qc2) (.int .i64 (e.p.1 : Int)) (.slice pa2 pn2 pc2) (.string (strB e.d)) (.slice ta2 tn2 tc2)
          have hSV4 : Below wr.heap.size wr ((((((((V3.setCell ⟨M2, 0, none⟩ (.int .i64 (e.k : Int))).setCell ⟨M2, 1, none⟩ (.string (strB e.q.1))).setCell ⟨M2, 2, none⟩ (.string (strB e.q.2.1))).setCell ⟨M2, 3, none⟩ (.slice qa2 qn2 qc2)).setCell ⟨M2, 4, none⟩ (.int .i64 (e.p.1 : Int))).setCell ⟨M2, 5, none⟩ (.slice pa2 pn2 pc2)).setCell ⟨M2, 6, none⟩ (.string (strB e.d))).setCell ⟨M2, 7, none⟩ (.slice ta2 tn2 tc2)) := hSV3.trans (hx.2.to (fun i hi => by omega) hSV3.size)
          refine hK.out _ _ hSV4 (fun _ => ?_)
          clear hK K
          (try simp only [Act.put, List.setIfInBounds_toArray, List.set_cons_zero, List.set_cons_succ])
          change wpAnyH _ _ _ _ _ _ _ _ ((((((((V3.setCell ⟨M2, 0, none⟩ (.int .i64 (e.k : Int))).setCell ⟨M2, 1, none⟩ (.string (strB e.q.1))).setCell ⟨M2, 2, none⟩ (.string (strB e.q.2.1))).setCell ⟨M2, 3, none⟩ (.slice qa2 qn2 qc2)).setCell ⟨M2, 4, none⟩ (.int .i64 (e.p.1 : Int))).setCell ⟨M2, 5, none⟩ (.slice pa2 pn2 pc2)).setCell ⟨M2, 6, none⟩ (.string (strB e.d))).setCell ⟨M2, 7, none⟩ (.slice ta2 tn2 tc2))
          have hnV1 := (hx.2.block M1 (Array.getElem?_eq_some_iff.1 hnV1).1 (by omega)).trans hnV1
          have hnV2 := hx.1
          clear hx
          generalize ((((((((V3.setCell ⟨M2, 0, none⟩ (.int .i64 (e.k : Int))).setCell ⟨M2, 1, none⟩ (.string (strB e.q.1))).setCell ⟨M2, 2, none⟩ (.string (strB e.q.2.1))).setCell ⟨M2, 3, none⟩ (.slice qa2 qn2 qc2)).setCell ⟨M2, 4, none⟩ (.int .i64 (e.p.1 : Int))).setCell ⟨M2, 5, none⟩ (.slice pa2 pn2 pc2)).setCell ⟨M2, 6, none⟩ (.string (strB e.d))).setCell ⟨M2, 7, none⟩ (.slice ta2 tn2 tc2)) = V4 at *
          refine wpAnyH_done (by kernel_rfl) ?_ _
          (try go_wp2_with fail)
          go_meet
          exact ⟨M1, M2, rfl, rfl, hnV1, hnV2, hSV4⟩
        refine AllReadyH.cons (o := { dst := some 7, op := _, type := _, pos := _, after := _, guard := _ }) rfl (fun K hK => ?_) AllReadyH.nil
        go_simp
        have hnV1 := heap_alloc_new V0 (.cells #[.int .i64 0, .string ⟨#[]⟩, .string ⟨#[]⟩, noV, .int .i64 0, noV, .string ⟨#[]⟩, noV] 80)
        have hbV1 := below_new V0 (.cells #[.int .i64 0, .string ⟨#[]⟩, .string ⟨#[]⟩, noV, .int .i64 0, noV, .string ⟨#[]⟩, noV] 80)
        have hgV1 : V0.heap.size < (V0.alloc (.cells #[.int .i64 0, .string ⟨#[]⟩, .string ⟨#[]⟩, noV, .int .i64 0, noV, .string ⟨#[]⟩, noV] 80)).heap.size := by simp
        have hSV1 : Below wr.heap.size wr (V0.alloc (.cells #[.int .i64 0, .string ⟨#[]⟩, .string ⟨#[]⟩, noV, .int .i64 0, noV, .string ⟨#[]⟩, noV] 80)) := hSV0.trans (hbV1.mono hSV0.size)
        have hmV1 : wr.heap.size ≤ V0.heap.size := hSV0.size
        refine hK.out _ _ hSV1 (fun _ => ?_)
        clear hK K
        (try simp only [Act.put, List.setIfInBounds_toArray, List.set_cons_zero, List.set_cons_succ])
        change wpAnyH _ _ _ _ _ _ _ _ (V0.alloc (.cells #[.int .i64 0, .string ⟨#[]⟩, .string ⟨#[]⟩, noV, .int .i64 0, noV, .string ⟨#[]⟩, noV] 80))
        clear hbV1
        generalize hNM1 : V0.heap.size = M1 at *
        generalize V0.alloc (.cells #[.int .i64 0, .string ⟨#[]⟩, .string ⟨#[]⟩, noV, .int .i64 0, noV, .string ⟨#[]⟩, noV] 80) = V1 at *
        refine wpAnyH_ready (rs := [8]) (by kernel_rfl) (by simp) ?_
        refine AllReadyH.cons (o := { dst := some 6, op := _, type := _, pos := _, after := _, guard := _ }) rfl (fun K hK => ?_) AllReadyH.nil
        have hl1 := hgV1
        go_simp
        have hnV2 := heap_alloc_new V1 (.cells #[.int .i64 0, .string ⟨#[]⟩, .string ⟨#[]⟩, noV, .int .i64 0, noV, .string ⟨#[]⟩, noV] 80)
        have hbV2 := below_new V1 (.cells #[.int .i64 0, .string ⟨#[]⟩, .string ⟨#[]⟩, noV, .int .i64 0, noV, .string ⟨#[]⟩, noV] 80)
        have hgV2 : V1.heap.size < (V1.alloc (.cells #[.int .i64 0, .string ⟨#[]⟩, .string ⟨#[]⟩, noV, .int .i64 0, noV, .string ⟨#[]⟩, noV] 80)).heap.size := by simp
        have hSV2 : Below wr.heap.size wr (V1.alloc (.cells #[.int .i64 0, .string ⟨#[]⟩, .string ⟨#[]⟩, noV, .int .i64 0, noV, .string ⟨#[]⟩, noV] 80)) := hSV1.trans (hbV2.mono hSV1.size)
        have hmV2 : wr.heap.size ≤ V1.heap.size := hSV1.size
        refine hK.out _ _ hSV2 (fun _ => ?_)
        clear hK K
        (try simp only [Act.put, List.setIfInBounds_toArray, List.set_cons_zero, List.set_cons_succ])
        change wpAnyH _ _ _ _ _ _ _ _ (V1.alloc (.cells #[.int .i64 0, .string ⟨#[]⟩, .string ⟨#[]⟩, noV, .int .i64 0, noV, .string ⟨#[]⟩, noV] 80))
        have hnV1 := (hbV2.block _ (Array.getElem?_eq_some_iff.1 hnV1).1).trans hnV1
        clear hbV2
        generalize hNM2 : V1.heap.size = M2 at *
        generalize V1.alloc (.cells #[.int .i64 0, .string ⟨#[]⟩, .string ⟨#[]⟩, noV, .int .i64 0, noV, .string ⟨#[]⟩, noV] 80) = V2 at *
        have hne : M1 < M2 := by omega
        refine wpAnyH_ready (rs := [10]) (by kernel_rfl) (by simp) ?_
        refine AllReadyH.cons (o := { dst := none, op := _, type := _, pos := _, after := _, guard := _ }) rfl (fun K hK => ?_) AllReadyH.nil
        have z0 : V2.cell? ⟨M2, 0, none⟩ = some (.int .i64 0) := by rw [Lib.cell_of_heap hnV2]; rfl
        have f0 := Lib.frozen_of_heap hnV2 0
        have z1 : V2.cell? ⟨M2, 1, none⟩ = some (.string ⟨#[]⟩) := by rw [Lib.cell_of_heap hnV2]; rfl
        have f1 := Lib.frozen_of_heap hnV2 1
        have z2 : V2.cell? ⟨M2, 2, none⟩ = some (.string ⟨#[]⟩) := by rw [Lib.cell_of_heap hnV2]; rfl
        have f2 := Lib.frozen_of_heap hnV2 2
        have z3 : V2.cell? ⟨M2, 3, none⟩ = some (noV) := by rw [Lib.cell_of_heap hnV2]; rfl
        have f3 := Lib.frozen_of_heap hnV2 3
        have z4 : V2.cell? ⟨M2, 4, none⟩ = some (.int .i64 0) := by rw [Lib.cell_of_heap hnV2]; rfl
        have f4 := Lib.frozen_of_heap hnV2 4
        have z5 : V2.cell? ⟨M2, 5, none⟩ = some (noV) := by rw [Lib.cell_of_heap hnV2]; rfl
        have f5 := Lib.frozen_of_heap hnV2 5
        have z6 : V2.cell? ⟨M2, 6, none⟩ = some (.string ⟨#[]⟩) := by rw [Lib.cell_of_heap hnV2]; rfl
        have f6 := Lib.frozen_of_heap hnV2 6
        have z7 : V2.cell? ⟨M2, 7, none⟩ = some (noV) := by rw [Lib.cell_of_heap hnV2]; rfl
        have f7 := Lib.frozen_of_heap hnV2 7
        go_simp
        clear z0 f0 z1 f1 z2 f2 z3 f3 z4 f4 z5 f5 z6 f6 z7 f7
        have hx := set8 hnV2 (.int .i64 (e.k : Int)) (.string (strB e.q.1)) (.string (strB e.q.2.1)) (.slice qa qn qc) (.int .i64 (e.p.1 : Int)) (.slice pa pn pc) (.string (strB e.d)) (.slice ta tn tc)
        have hSV3 : Below wr.heap.size wr ((((((((V2.setCell ⟨M2, 0, none⟩ (.int .i64 (e.k : Int))).setCell ⟨M2, 1, none⟩ (.string (strB e.q.1))).setCell ⟨M2, 2, none⟩ (.string (strB e.q.2.1))).setCell ⟨M2, 3, none⟩ (.slice qa qn qc)).setCell ⟨M2, 4, none⟩ (.int .i64 (e.p.1 : Int))).setCell ⟨M2, 5, none⟩ (.slice pa pn pc)).setCell ⟨M2, 6, none⟩ (.string (strB e.d))).setCell ⟨M2, 7, none⟩ (.slice ta tn tc)) := hSV2.trans (hx.2.to (fun i hi => by omega) hSV2.size)
        refine hK.out _ _ hSV3 (fun _ => ?_)
        clear hK K
        (try simp only [Act.put, List.setIfInBounds_toArray, List.set_cons_zero, List.set_cons_succ])
        change wpAnyH _ _ _ _ _ _ _ _ ((((((((V2.setCell ⟨M2, 0, none⟩ (.int .i64 (e.k : Int))).setCell ⟨M2, 1, none⟩ (.string (strB e.q.1))).setCell ⟨M2, 2, none⟩ (.string (strB e.q.2.1))).setCell ⟨M2, 3, none⟩ (.slice qa qn qc)).setCell ⟨M2, 4, none⟩ (.int .i64 (e.p.1 : Int))).setCell ⟨M2, 5, none⟩ (.slice pa pn pc)).setCell ⟨M2, 6, none⟩ (.string (strB e.d))).setCell ⟨M2, 7, none⟩ (.slice ta tn tc))
        have hnV1 := (hx.2.block M1 (Array.getElem?_eq_some_iff.1 hnV1).1 (by omega)).trans hnV1
        have hnV2 := hx.1
        clear hx
        generalize ((((((((V2.setCell ⟨M2, 0, none⟩ (.int .i64 (e.k : Int))).setCell ⟨M2, 1, none⟩ (.string (strB e.q.1))).setCell ⟨M2, 2, none⟩ (.string (strB e.q.2.1))).setCell ⟨M2, 3, none⟩ (.slice qa qn qc)).setCell ⟨M2, 4, none⟩ (.int .i64 (e.p.1 : Int))).setCell ⟨M2, 5, none⟩ (.slice pa pn pc)).setCell ⟨M2, 6, none⟩ (.string (strB e.d))).setCell ⟨M2, 7, none⟩ (.slice ta tn tc)) = V3 at *
        refine wpAnyH_ready (rs := [11]) (by kernel_rfl) (by simp) ?_
        refine AllReadyH.cons (o := { dst := none, op := _, type := _, pos := _, after := _, guard := _ }) rfl (fun K hK => ?_) AllReadyH.nil
        have z0 : V3.cell? ⟨M1, 0, none⟩ = some (.int .i64 0) := by rw [Lib.cell_of_heap hnV1]; rfl
        have f0 := Lib.frozen_of_heap hnV1 0
        have z1 : V3.cell? ⟨M1, 1, none⟩ = some (.string ⟨#[]⟩) := by rw [Lib.cell_of_heap hnV1]; rfl
        have f1 := Lib.frozen_of_heap hnV1 1
        have z2 : V3.cell? ⟨M1, 2, none⟩ = some (.string ⟨#[]⟩) := by rw [Lib.cell_of_heap hnV1]; rfl
        have f2 := Lib.frozen_of_heap hnV1 2
        have z3 : V3.cell? ⟨M1, 3, none⟩ = some (noV) := by rw [Lib.cell_of_heap hnV1]; rfl
        have f3 := Lib.frozen_of_heap hnV1 3
        have z4 : V3.cell? ⟨M1, 4, none⟩ = some (.int .i64 0) := by rw [Lib.cell_of_heap hnV1]; rfl
        have f4 := Lib.frozen_of_heap hnV1 4
        have z5 : V3.cell? ⟨M1, 5, none⟩ = some (noV) := by rw [Lib.cell_of_heap hnV1]; rfl
        have f5 := Lib.frozen_of_heap hnV1 5
        have z6 : V3.cell? ⟨M1, 6, none⟩ = some (.string ⟨#[]⟩) := by rw [Lib.cell_of_heap hnV1]; rfl
        have f6 := Lib.frozen_of_heap hnV1 6
        have z7 : V3.cell? ⟨M1, 7, none⟩ = some (noV) := by rw [Lib.cell_of_heap hnV1]; rfl
        have f7 := Lib.frozen_of_heap hnV1 7
        go_simp
        clear z0 f0 z1 f1 z2 f2 z3 f3 z4 f4 z5 f5 z6 f6 z7 f7
        have hx := set8 hnV1 (.int .i64 (e.k : Int)) (.string (strB e.q.1)) (.string (strB e.q.2.1)) (.slice qa2 qn2 qc2) (.int .i64 (e.p.1 : Int)) (.slice pa2 pn2 pc2) (.string (strB e.d)) (.slice ta2 tn2 tc2)
        have hSV4 : Below wr.heap.size wr ((((((((V3.setCell ⟨M1, 0, none⟩ (.int .i64 (e.k : Int))).setCell ⟨M1, 1, none⟩ (.string (strB e.q.1))).setCell ⟨M1, 2, none⟩ (.string (strB e.q.2.1))).setCell ⟨M1, 3, none⟩ (.slice qa2 qn2 qc2)).setCell ⟨M1, 4, none⟩ (.int .i64 (e.p.1 : Int))).setCell ⟨M1, 5, none⟩ (.slice pa2 pn2 pc2)).setCell ⟨M1, 6, none⟩ (.string (strB e.d))).setCell ⟨M1, 7, none⟩ (.slice ta2 tn2 tc2)) := hSV3.trans (hx.2.to (fun i hi => by omega) hSV3.size)
        refine hK.out _ _ hSV4 (fun _ => ?_)
        clear hK K
        (try simp only [Act.put, List.setIfInBounds_toArray, List.set_cons_zero, List.set_cons_succ])
        change wpAnyH _ _ _ _ _ _ _ _ ((((((((V3.setCell ⟨M1, 0, none⟩ (.int .i64 (e.k : Int))).setCell ⟨M1, 1, none⟩ (.string (strB e.q.1))).setCell ⟨M1, 2, none⟩ (.string (strB e.q.2.1))).setCell ⟨M1, 3, none⟩ (.slice qa2 qn2 qc2)).setCell ⟨M1, 4, none⟩ (.int .i64 (e.p.1 : Int))).setCell ⟨M1, 5, none⟩ (.slice pa2 pn2 pc2)).setCell ⟨M1, 6, none⟩ (.string (strB e.d))).setCell ⟨M1, 7, none⟩ (.slice ta2 tn2 tc2))
        have hnV2 := (hx.2.block M2 (Array.getElem?_eq_some_iff.1 hnV2).1 (by omega)).trans hnV2
        have hnV1 := hx.1
        clear hx
        generalize ((((((((V3.setCell ⟨M1, 0, none⟩ (.int .i64 (e.k : Int))).setCell ⟨M1, 1, none⟩ (.string (strB e.q.1))).setCell ⟨M1, 2, none⟩ (.string (strB e.q.2.1))).setCell ⟨M1, 3, none⟩ (.slice qa2 qn2 qc2)).setCell ⟨M1, 4, none⟩ (.int .i64 (e.p.1 : Int))).setCell ⟨M1, 5, none⟩ (.slice pa2 pn2 pc2)).setCell ⟨M1, 6, none⟩ (.string (strB e.d))).setCell ⟨M1, 7, none⟩ (.slice ta2 tn2 tc2)) = V4 at *
        refine wpAnyH_done (by kernel_rfl) ?_ _
        (try go_wp2_with fail)
        go_meet
        exact ⟨M2, M1, rfl, rfl, hnV2, hnV1, hSV4⟩
      case rest =>
        obtain ⟨M, N, rfl, rfl, hM, hN, hBW⟩ := hcut
        have k1 := eight_at hM
        have k2 := eight_at hN
        have x0 : wc.cell? ⟨M, 0, none⟩ = some (.int .i64 (e.k : Int)) := (k1 0).1
        have y0 : wc.cell? ⟨N, 0, none⟩ = some (.int .i64 (e.k : Int)) := (k2 0).1
        have x1 : wc.cell? ⟨M, 1, none⟩ = some (.string (strB e.q.1)) := (k1 1).1
        have y1 : wc.cell? ⟨N, 1, none⟩ = some (.string (strB e.q.1)) := (k2 1).1
        have x2 : wc.cell? ⟨M, 2, none⟩ = some (.string (strB e.q.2.1)) := (k1 2).1
        have y2 : wc.cell? ⟨N, 2, none⟩ = some (.string (strB e.q.2.1)) := (k2 2).1
        have x3 : wc.cell? ⟨M, 3, none⟩ = some (.slice qa qn qc) := (k1 3).1
        have y3 : wc.cell? ⟨N, 3, none⟩ = some (.slice qa2 qn2 qc2) := (k2 3).1
        have x4 : wc.cell? ⟨M, 4, none⟩ = some (.int .i64 (e.p.1 : Int)) := (k1 4).1
        have y4 : wc.cell? ⟨N, 4, none⟩ = some (.int .i64 (e.p.1 : Int)) := (k2 4).1
        have x5 : wc.cell? ⟨M, 5, none⟩ = some (.slice pa pn pc) := (k1 5).1
        have y5 : wc.cell? ⟨N, 5, none⟩ = some (.slice pa2 pn2 pc2) := (k2 5).1
        have x6 : wc.cell? ⟨M, 6, none⟩ = some (.string (strB e.d)) := (k1 6).1
        have y6 : wc.cell? ⟨N, 6, none⟩ = some (.string (strB e.d)) := (k2 6).1
        have x7 : wc.cell? ⟨M, 7, none⟩ = some (.slice ta tn tc) := (k1 7).1
        have y7 : wc.cell? ⟨N, 7, none⟩ = some (.slice ta2 tn2 tc2) := (k2 7).1
        clear k1 k2 hM hN
        have HU2 := HRU.out.below hBW
        have HV2 := HRV.out.below hBW
        obtain ⟨_, _, _, hx, u1, u2, u3, _⟩ := HU2
        cases hx
        obtain ⟨_, _, _, hx, v1, v2, v3, _⟩ := HV2
        cases hx
        have C1 := Lib.hid (fun W (hW : Below wc.heap.size wc W) => fields8_any _ _ _ W (u1.below hW) (v1.below hW) (by have := HSM.out.1; omega))
        have C2 := Lib.hid (fun W (hW : Below wc.heap.size wc W) => fields8_any _ _ _ W (u2.below hW) (v2.below hW) (by have := HSM.out.2.1; omega))
        have C3 := Lib.hid (fun W (hW : Below wc.heap.size wc W) => fields8_any _ _ _ W (u3.below hW) (v3.below hW) (by have := HSM.out.2.2; omega))
        have HBW := Lib.hid (HBr.out.trans (hBW.mono HBr.out.size))
        clear u1 u2 u3 v1 v2 v3 HRU HRV hBW
        go_upto_region 7 with fail
        simp only [List.append_eq, List.cons_append, List.nil_append]
        go_wp2_with fail
        refine (C3.out _ (Below.refl _ _)).mono ?_
        rintro en w1 ⟨rfl, m1, rfl⟩
        go_wp2_with fail
        refine (C1.out _ (below_drewN (Below.refl _ _) _)).mono ?_
        rintro en w1 ⟨rfl, m2, rfl⟩
        go_wp2_with fail
        refine (C2.out _ (below_drewN (Below.refl _ _) _)).mono ?_
        rintro en w1 ⟨rfl, m3, rfl⟩
        go_wp2_with fail
        go_roundw
        case rel => exact ⟨k + 1, by go_num, by omega, below_drewN HBW.out _⟩
        case measure => simp [intOf]; omega
    · go_wp2_with fail
      go_ret
      exact ⟨rfl, hBr⟩
end Go.Proofs.YtpikjcmenmdolaaGreatDoor

/- The reference's Joined: adjacent data of a list of events are joined. -/
namespace Go.Proofs.YtpikjcmenmdolaaGreatDoor
open Go.RowKit

set_option maxHeartbeats 4000000 in
set_option maxRecDepth 100000 in
theorem joined_any {B : Nat} {Y : Nat → Prop} (v : Value) (es : List Ev) (w : World) (hr : OwnsR B Y w v es) (hl : es.length ≤ 1000000) (hd : datS es ≤ 1000000000) :
    Calls Tryz.prog 17 #[v] w fun e w' => ∃ v', e = .returned v' ∧ OwnsR w.heap.size Y w' v' (joinE es) ∧ Below w.heap.size w w' := by
  obtain ⟨sa, sc, rfl⟩ := hr.isSlice
  have HR := Lib.hid hr
  clear hr
  go_enter Tryz.func17, Tryz.ntmps17
  go_wp2_with fail
  go_loopw [3, 4] (fun x3 x4 wr => ∃ k : Nat, x4 = .int .i64 k ∧ k ≤ es.length ∧ OwnsR w.heap.size Y wr x3 (joinE (es.take k)) ∧ Below w.heap.size w wr) (fun _ x4 _ => es.length - (intOf x4).toNat)
  case atStart => exact ⟨0, rfl, Nat.zero_le _, by
    obtain ⟨xs, h1, h2, h3, h4, h5⟩ := OwnsR.nil w.heap.size w
    exact ⟨xs, h1, h2, fun i x e _ he => (by simp [joinE] at he), fun k hk => (by cases hk), HR.out.lt.2⟩, Below.refl _ _⟩
  case round =>
    obtain ⟨k, rfl, hk, hO, hBr⟩ := hrel
    by_cases hlt : k < es.length
    · obtain ⟨e, he⟩ : ∃ e, es[k]? = some e := ⟨es[k], by simp [hlt]⟩
      have htk : es.take k ++ [e] = es.take (k + 1) := by rw [List.take_add_one, he]; rfl
      have hjn : joinE (es.take (k + 1)) = snocE (joinE (es.take k)) e := by rw [← htk, joinE_snoc]
      have hle : (joinE (es.take k)).length ≤ k := by
        have h2 : (joinE (es.take k)).length ≤ [].length + (es.take k).length := joinE_len (es.take k) []
        simp only [List.length_nil, List.length_take] at h2
        omega
      have hds := datS_get he
      rw [← datS_join (es.take k)] at hds
      generalize joinE (es.take k) = o at *
      obtain ⟨g, cap, hsv, _, hgl, q, p, t, hcl, hRv⟩ := HR.out.ev he
      cases hsv
      have hRw := hRv.below hBr
      obtain ⟨qa, qn, qc, rfl⟩ : ∃ a n c, q = .slice a n c := by obtain ⟨_, _, _, hx, ⟨a, c, h, _⟩, _⟩ := hRv; exact ⟨a, _, c, by cases hx; exact h⟩
      obtain ⟨pa, pn, pc, rfl⟩ : ∃ a n c, p = .slice a n c := by obtain ⟨_, _, _, hx, _, ⟨a, c, h, _⟩, _⟩ := hRv; exact ⟨a, _, c, by cases hx; exact h⟩
      obtain ⟨ta, tn, tc, rfl⟩ : ∃ a n c, t = .slice a n c := by obtain ⟨_, _, _, hx, _, _, ⟨a, c, h, _⟩, _⟩ := hRv; exact ⟨a, _, c, by cases hx; exact h⟩
      have key : ∀ j u, (rvC e (.slice qa qn qc) (.slice pa pn pc) (.slice ta tn tc))[j]? = some u → wr.cell? ⟨g, k * 8 + j, none⟩ = some u := fun j u hu => (hBr.cell (p := ⟨g, k * 8 + j, none⟩) hgl).trans (hcl j u hu)
      have c0 : wr.cell? ⟨g, k * 8, none⟩ = some (.int .i64 (e.k : Int)) := key 0 _ rfl
      have c1 : wr.cell? ⟨g, k * 8 + 1, none⟩ = some (.string (strB e.q.1)) := key 1 _ rfl
      have c2 : wr.cell? ⟨g, k * 8 + 2, none⟩ = some (.string (strB e.q.2.1)) := key 2 _ rfl
      have c3 : wr.cell? ⟨g, k * 8 + 3, none⟩ = some (.slice qa qn qc) := key 3 _ rfl
      have c4 : wr.cell? ⟨g, k * 8 + 4, none⟩ = some (.int .i64 (e.p.1 : Int)) := key 4 _ rfl
      have c5 : wr.cell? ⟨g, k * 8 + 5, none⟩ = some (.slice pa pn pc) := key 5 _ rfl
      have c6 : wr.cell? ⟨g, k * 8 + 6, none⟩ = some (.string (strB e.d)) := key 6 _ rfl
      have c7 : wr.cell? ⟨g, k * 8 + 7, none⟩ = some (.slice ta tn tc) := key 7 _ rfl
      have hYv : ∀ i, Y i → i < w.heap.size := HR.out.lt.2
      have hov := hO.lt.1
      have HX := Lib.hid hRw
      have HYV := Lib.hid hYv
      have HOV := Lib.hid hov
      have HJN := Lib.hid hjn
      clear key hcl hRv he htk hRw hYv hov hjn
      obtain ⟨va, vc, rfl⟩ := hO.isSlice
      have HO := Lib.hid hO
      have HBr := Lib.hid hBr
      have hws := hBr.size
      clear hO hBr
      by_cases hn : o = []
      · subst hn
        have HS : Hid (snocE [] e = [] ++ [e]) := Lib.hid rfl
        have hA := HO.out.below (below_new wr (.cells #[.int .i64 (e.k : Int), .string (strB e.q.1), .string (strB e.q.2.1), .slice qa qn qc, .int .i64 (e.p.1 : Int), .slice pa pn pc, .string (strB e.d), .slice ta tn tc] 80))
        have HE8 := HX.out.below (below_new wr (.cells #[.int .i64 (e.k : Int), .string (strB e.q.1), .string (strB e.q.2.1), .slice qa qn qc, .int .i64 (e.p.1 : Int), .slice pa pn pc, .string (strB e.d), .slice ta tn tc] 80))
        have HB8 := HBr.out.trans ((below_new wr (.cells #[.int .i64 (e.k : Int), .string (strB e.q.1), .string (strB e.q.2.1), .slice qa qn qc, .int .i64 (e.p.1 : Int), .slice pa pn pc, .string (strB e.d), .slice ta tn tc] 80)).mono hws)
        have hs8 := HB8.size
        have hs9 : wr.heap.size ≤ (wr.alloc (.cells #[.int .i64 (e.k : Int), .string (strB e.q.1), .string (strB e.q.2.1), .slice qa qn qc, .int .i64 (e.p.1 : Int), .slice pa pn pc, .string (strB e.d), .slice ta tn tc] 80)).heap.size := by simp
        go_wp2_with (at_builtin; refine wpList_appendR (by rfl) _ _ (by rfl) _ (by rfl) hA wr.heap.size (by rfl) (e := e) (q := .slice qa qn qc) (p := .slice pa pn pc) (t := .slice ta tn tc) (Z := Y) (rv_box wr e _ _ _) (fun u hu => by simp at hu; rcases hu with rfl | rfl | rfl | rfl | rfl | rfl | rfl | rfl <;> rfl) HE8 (fun i hi => ⟨by have := HYV.out i hi; omega, fun h => by have := (HOV.out i h).1; have := HYV.out i hi; omega⟩) (by first | omega | (simp; omega)) (by omega) ?_; intro v2 w2 hO2 hg2 hat2)
        go_roundw
        case rel => exact ⟨k + 1, by go_num, by omega, by rw [HJN.out, HS.out]; exact hO2.same, HB8.grown hg2 hs8 (fun i hi => (HOV.out i hi).1)⟩
        case measure => simp [intOf]; omega
      · obtain ⟨o', x, rfl⟩ : ∃ o' x, o = o' ++ [x] := ⟨o.dropLast, o.getLast hn, (List.dropLast_concat_getLast hn).symm⟩
        obtain ⟨g2, cap2, hv2, hg2, hgl2, d0', d6', df', hgrow⟩ := HO.out.grow e.d
        have d0 : wr.cell? ⟨g2, o'.length * 8, none⟩ = some (.int .i64 (x.k : Int)) := d0'
        have d6 : wr.cell? ⟨g2, o'.length * 8 + 6, none⟩ = some (.string (strB x.d)) := d6'
        have df : wr.frozen? ⟨g2, o'.length * 8 + 6, none⟩ = false := df'
        have hl2 : (o' ++ [x]).length = o'.length + 1 := by simp
        rw [hl2] at hv2 hle HO ⊢
        cases hv2
        have HG := Lib.hid hgrow
        clear hgrow d0' d6' df'
        rw [datS_app, datS_one] at hds
        by_cases hk2 : e.k = 2
        · have hkb : ((e.k : Int) == 2) = true := by simpa using (show (e.k : Int) = 2 by omega)
          by_cases hx2 : x.k = 2
          · have hx2i : (x.k : Int) = 2 := by omega
            have HS := Lib.hid (snocE_old (o := o') hk2 hx2)
            go_upto_region 7 with fail
            have hwr : IntKind.i64.wrap (o'.length : Int) = o'.length := IntWalk.i64_in _ (by omega)
            have hl3 : (o'.length : Int) < (o'.length : Int) + 1 := by omega
            have hz1 : (strB x.d).size = x.d.length := strB_size _
            have hz2 : (strB e.d).size = e.d.length := strB_size _
            have hz3 : ¬ 9223372036854775807 < (strB x.d).size + (strB e.d).size := by omega
            clear hz1 hz2
            go_region_law fail
            all_goals go_wp2_with fail
            all_goals go_roundw
            all_goals first
              | (simp [intOf]; omega; done)
              | (refine ⟨k + 1, by go_num, by omega, ?_, ?_⟩
                 · rw [HJN.out, HS.out, strB_two]
                   have hg5 := HG.out
                   rw [hl2] at hg5
                   first
                     | exact hg5
                     | exact hg5.below (Below.refl _ _).drew
                 · first
                     | exact HBr.out.drew.setCell (p := ⟨g2, o'.length * 8 + 6, none⟩) hg2 _
                     | exact (HBr.out.setCell (p := ⟨g2, o'.length * 8 + 6, none⟩) hg2 _).drew)
          · have hx2i : ¬ (x.k : Int) = 2 := by omega
            have hxb : ((x.k : Int) == 2) = false := by simpa using hx2i
            have HS := Lib.hid (snocE_new (o := o' ++ [x]) (e := e) (.inr (notDat_end o' hx2)))
            have hE2 : (Value.int .i64 (e.k : Int)) = .int .i64 2 := by rw [hk2]; rfl
            have hRB := rv_box wr e (.slice qa qn qc) (.slice pa pn pc) (.slice ta tn tc)
            rw [hE2] at hRB
            have HRB := Lib.hid hRB
            clear hE2 hRB
            have hA := HO.out.below (below_new wr (.cells #[.int .i64 2, .string (strB e.q.1), .string (strB e.q.2.1), .slice qa qn qc, .int .i64 (e.p.1 : Int), .slice pa pn pc, .string (strB e.d), .slice ta tn tc] 80))
            have HE8 := HX.out.below (below_new wr (.cells #[.int .i64 2, .string (strB e.q.1), .string (strB e.q.2.1), .slice qa qn qc, .int .i64 (e.p.1 : Int), .slice pa pn pc, .string (strB e.d), .slice ta tn tc] 80))
            have HB8 := HBr.out.trans ((below_new wr (.cells #[.int .i64 2, .string (strB e.q.1), .string (strB e.q.2.1), .slice qa qn qc, .int .i64 (e.p.1 : Int), .slice pa pn pc, .string (strB e.d), .slice ta tn tc] 80)).mono hws)
            have hs8 := HB8.size
            have hs9 : wr.heap.size ≤ (wr.alloc (.cells #[.int .i64 2, .string (strB e.q.1), .string (strB e.q.2.1), .slice qa qn qc, .int .i64 (e.p.1 : Int), .slice pa pn pc, .string (strB e.d), .slice ta tn tc] 80)).heap.size := by simp
            go_wp2_with (at_builtin; refine wpList_appendR (by rfl) _ _ (by rfl) _ (by rfl) hA wr.heap.size (by rfl) (e := e) (q := .slice qa qn qc) (p := .slice pa pn pc) (t := .slice ta tn tc) (Z := Y) HRB.out (fun u hu => by simp at hu; rcases hu with rfl | rfl | rfl | rfl | rfl | rfl | rfl | rfl <;> rfl) HE8 (fun i hi => ⟨by have := HYV.out i hi; omega, fun h => by have := (HOV.out i h).1; have := HYV.out i hi; omega⟩) (by first | omega | (simp; omega)) (by omega) ?_; intro v2 w2 hO2 hg2 hat2)
            go_roundw
            case rel => exact ⟨k + 1, by go_num, by omega, by rw [HJN.out, HS.out]; exact hO2.same, HB8.grown hg2 hs8 (fun i hi => (HOV.out i hi).1)⟩
            case measure => simp [intOf]; omega
        · have hk2i : ¬ (e.k : Int) = 2 := by omega
          have HS := Lib.hid (snocE_new (o := o' ++ [x]) (e := e) (.inl hk2))
          have hA := HO.out.below (below_new wr (.cells #[.int .i64 (e.k : Int), .string (strB e.q.1), .string (strB e.q.2.1), .slice qa qn qc, .int .i64 (e.p.1 : Int), .slice pa pn pc, .string (strB e.d), .slice ta tn tc] 80))
          have HE8 := HX.out.below (below_new wr (.cells #[.int .i64 (e.k : Int), .string (strB e.q.1), .string (strB e.q.2.1), .slice qa qn qc, .int .i64 (e.p.1 : Int), .slice pa pn pc, .string (strB e.d), .slice ta tn tc] 80))
          have HB8 := HBr.out.trans ((below_new wr (.cells #[.int .i64 (e.k : Int), .string (strB e.q.1), .string (strB e.q.2.1), .slice qa qn qc, .int .i64 (e.p.1 : Int), .slice pa pn pc, .string (strB e.d), .slice ta tn tc] 80)).mono hws)
          have hs8 := HB8.size
          have hs9 : wr.heap.size ≤ (wr.alloc (.cells #[.int .i64 (e.k : Int), .string (strB e.q.1), .string (strB e.q.2.1), .slice qa qn qc, .int .i64 (e.p.1 : Int), .slice pa pn pc, .string (strB e.d), .slice ta tn tc] 80)).heap.size := by simp
          go_wp2_with (at_builtin; refine wpList_appendR (by rfl) _ _ (by rfl) _ (by rfl) hA wr.heap.size (by rfl) (e := e) (q := .slice qa qn qc) (p := .slice pa pn pc) (t := .slice ta tn tc) (Z := Y) (rv_box wr e _ _ _) (fun u hu => by simp at hu; rcases hu with rfl | rfl | rfl | rfl | rfl | rfl | rfl | rfl <;> rfl) HE8 (fun i hi => ⟨by have := HYV.out i hi; omega, fun h => by have := (HOV.out i h).1; have := HYV.out i hi; omega⟩) (by first | omega | (simp; omega)) (by omega) ?_; intro v2 w2 hO2 hg2 hat2)
          go_roundw
          case rel => exact ⟨k + 1, by go_num, by omega, by rw [HJN.out, HS.out]; exact hO2.same, HB8.grown hg2 hs8 (fun i hi => (HOV.out i hi).1)⟩
          case measure => simp [intOf]; omega
    · have htk : es.take k = es := List.take_of_length_le (by omega)
      rw [htk] at hO
      go_wp2_with fail
      go_ret
      exact ⟨_, rfl, hO, hBr⟩
end Go.Proofs.YtpikjcmenmdolaaGreatDoor

/- ConnCuts: for every input the statement's function returns true: the walk. -/
namespace Go.Proofs.YtpikjcmenmdolaaGreatDoor
open Go.RowKit

/-- A list of events whose blocks lie between lo and hi, none of them in X. -/
def Lst (lo hi : Nat) (X : Nat → Prop) (v : Value) (es : List Ev) (w : World) : Prop :=
  ∃ Y, OwnsE lo Y w v es ∧ (∀ i, Y i → lo ≤ i ∧ i < hi ∧ ¬ X i) ∧ (∀ i, v.ownBlock = some i → i < hi ∧ ¬ X i)
theorem Lst.of {B : Nat} {X : Nat → Prop} {v : Value} {es : List Ev} {w : World} (h : LsE B X v es w) : Lst B w.heap.size X v es w := by
  obtain ⟨Y, h1, h2, h3⟩ := h
  exact ⟨Y, h1, fun i hi => ⟨(h2 i hi).1, h1.lt.2 i hi, (h2 i hi).2⟩, fun i hi => ⟨(h1.lt.1 i hi).2, h3 i hi⟩⟩
theorem Lst.only {lo hi : Nat} {X : Nat → Prop} {v : Value} {es : List Ev} {w w1 : World} {Z : Nat → Prop} (h : Lst lo hi X v es w) (hO : Only Z w w1) (hZ : ∀ i, Z i → i < lo ∨ hi ≤ i ∨ X i) : Lst lo hi X v es w1 := by
  obtain ⟨Y, h1, h2, h3⟩ := h
  refine ⟨Y, h1.only hO (fun k hk hz => ?_) (fun k hk hz => ?_), h2, h3⟩
  · have := h2 k hk; rcases hZ k hz with a | a | a
    · omega
    · omega
    · exact this.2.2 a
  · have := (h1.lt.1 k hk).1; have := h3 k hk; rcases hZ k hz with a | a | a
    · omega
    · omega
    · exact this.2 a
theorem Lst.below {lo hi : Nat} {X : Nat → Prop} {v : Value} {es : List Ev} {w w1 : World} (h : Lst lo hi X v es w) (hb : Below w.heap.size w w1) : Lst lo hi X v es w1 := h.only (Z := fun _ => False) (Only.below hb) (fun _ h => False.elim h)
theorem Lst.reads {lo hi : Nat} {X : Nat → Prop} {v : Value} {es : List Ev} {w : World} (h : Lst lo hi X v es w) : ReadsE w v es := by
  obtain ⟨Y, h1, h2, _⟩ := h
  exact LsE.reads (X := fun _ => False) ⟨Y, h1, fun i hi => ⟨(h2 i hi).1, fun h => h⟩, fun _ _ h => h⟩
theorem Lst.own {B : Nat} {Y : Nat → Prop} {v : Value} {es : List Ev} {w : World} (h : OwnsE B Y w v es) (hY : ∀ i, Y i → B ≤ i) : Lst B w.heap.size (fun _ => False) v es w :=
  ⟨Y, h, fun i hi => ⟨hY i hi, h.lt.2 i hi, fun h => h⟩, fun i hi => ⟨(h.lt.1 i hi).2, fun h => h⟩⟩
theorem retV {a b : Bool} (h : a = b) : Ending.returned (.bool a) = .returned (.bool b) := by rw [h]
theorem close_cut {s : Cn} (h : s.er ≠ 0) : (closeC s).1.er = s.er ∧ (closeC s).2.length = 0 := by rw [closeC_stop h]; exact ⟨rfl, rfl⟩
theorem maxB_up {B C : Nat} {w : World} (h : MaxB B w) (hC : B ≤ C) : MaxB C w := ⟨h.1, Nat.lt_of_lt_of_le h.2 hC⟩
theorem one_at {l : List UInt8} {k : Nat} {c : UInt8} (h : l[k]? = some c) : (l.drop k).take (k + 1 - k) = [c] := by
  rw [show k + 1 - k = 1 by omega]
  obtain ⟨hk, rfl⟩ := List.getElem?_eq_some_iff.1 h
  rw [List.drop_eq_getElem_cons hk]; rfl
theorem made_ok (b : Bool) (ms : List (List UInt8)) : (madeC b ms).Ok := by
  unfold madeC
  cases b
  · exact ok_reqs
  · exact ok_resps ms
theorem box_kind (w : World) (b : Bool) (v : Value) (T : TypeId) : (w.alloc (.cells #[.bool b, v] T)).cell? ⟨w.heap.size, 0, none⟩ = some (.bool b) ∧ (w.alloc (.cells #[.bool b, v] T)).cell? ⟨w.heap.size, 1, none⟩ = some v :=
  ⟨by rw [World.cell?_alloc_at _ _ _ _ rfl]; rfl, by rw [World.cell?_alloc_at _ _ _ _ rfl]; rfl⟩
theorem made_er (b : Bool) (ms : List (List UInt8)) : (madeC b ms).er = 0 := by unfold madeC; cases b <;> rfl
/-- Two new connections of a kind. -/
def TwoC (B : Nat) (s : Cn) (u v : Value) (w : World) : Prop :=
  ∃ B1 P1 X1 B2 P2 X2, u = .pointer (some ⟨P1, 0, none⟩) ∧ v = .pointer (some ⟨P2, 0, none⟩) ∧ B ≤ B1 ∧ B1 ≤ B2 ∧ Con B1 P1 X1 s w ∧ Con B2 P2 X2 s w ∧ (∀ i, X1 i → i < B2)
set_option maxHeartbeats 8000000 in
set_option maxRecDepth 100000 in
theorem cn_cuts_walk (b : Bool) (va : Option Addr) (vc : Nat) (ms : List (List UInt8)) (s : ByteArray) (w : World) (hM : HasMax w) (hr : ReadsS w (.slice va ms.length vc) ms) (hp : Sane (.slice va ms.length vc)) (hml : ms.length ≤ 9223372036854775807) (hsl : s.size ≤ 9223372036854775807) :
    Calls Tryz.prog 5 #[.agg #[.bool b, .slice va ms.length vc], .string s] w fun e w' => e = .returned (.bool true) ∧ Below w.heap.size w w' := by
  have HM := Lib.hid hM
  have HR := Lib.hid hr
  have HP := Lib.hid hp
  have HB0 := Lib.hid (below_new w (.cells #[.bool b, .slice va ms.length vc] 33))
  have HK := Lib.hid (box_kind w b (.slice va ms.length vc) 33)
  have hlt0 : w.heap.size < (w.alloc (.cells #[.bool b, .slice va ms.length vc] 33)).heap.size := by simp
  clear hM hr hp
  go_enter Tryz.func5, Tryz.ntmps5
  go_upto_region 1 with fail
  change Code.wp _ _ _ _ (w.alloc (.cells #[.bool b, .slice va ms.length vc] 33))
  generalize w.alloc (.cells #[.bool b, .slice va ms.length vc] 33) = W at *
  obtain ⟨k0, k1⟩ := HK.out
  go_wp2_with fail
  refine (awake8_any _ (HM.out.below HB0.out)).mono ?_
  rintro e w1 ⟨rfl, hB⟩
  have HB1 := Lib.hid (HB0.out.trans (hB.mono HB0.out.size))
  have c0 := (hB.cell (p := ⟨w.heap.size, 0, none⟩) hlt0).trans k0
  have c1 := (hB.cell (p := ⟨w.heap.size, 1, none⟩) hlt0).trans k1
  have hlt1 : w.heap.size < w1.heap.size := Nat.lt_of_lt_of_le hlt0 hB.size
  have HM1 := Lib.hid (HM.out.below HB1.out)
  clear hB k0 k1 HK HB0 hlt0
  by_cases hs : 2000 < s.size
  · skip
    go_wp2_with fail
    refine (awake8_any _ HM1.out).mono ?_
    rintro e w2 ⟨rfl, hB⟩
    have HB2 := Lib.hid (HB1.out.trans (hB.mono HB1.out.size))
    clear hB
    go_wp2_with fail
    go_ret
    exact ⟨rfl, HB2.out⟩
  · by_cases hm : 70 < ms.length
    · skip
      go_wp2_with fail
      refine (awake8_any _ HM1.out).mono ?_
      rintro e w2 ⟨rfl, hB⟩
      have HB2 := Lib.hid (HB1.out.trans (hB.mono HB1.out.size))
      clear hB
      go_wp2_with fail
      go_ret
      exact ⟨rfl, HB2.out⟩
    · have hs2 : s.size ≤ 2000 := by omega
      have hm2 : ms.length ≤ 70 := by omega
      clear hs hm hsl hml
      go_upto_region 3 with fail
      go_cut [5, 6] (fun u v W => TwoC w1.heap.size (madeC b ms) u v W ∧ Below w1.heap.size w1 W)
      case first =>
        have hS0 : (fun V => V.cell? ⟨w.heap.size, 0, none⟩ = some (.bool b) ∧ V.cell? ⟨w.heap.size, 1, none⟩ = some (.slice va ms.length vc) ∧ Below w1.heap.size w1 V) w1.drew := ⟨c0, c1, (Below.refl _ _).drew⟩
        refine wp_region_held_drew (S := (fun V => V.cell? ⟨w.heap.size, 0, none⟩ = some (.bool b) ∧ V.cell? ⟨w.heap.size, 1, none⟩ = some (.slice va ms.length vc) ∧ Below w1.heap.size w1 V)) (by kernel_rfl) hS0 (fun hHeld => ?_)
        clear hHeld
        generalize w1.drew = V0 at *
        clear c0 c1
        refine wpAnyH_take (i := 0) (oi := { dst := some 32, op := _, type := _, pos := _, after := _, guard := _ }) (v := ?_) rfl (by kernel_rfl) (by kernel_rfl) (by kernel_rfl) (fun _ _ _ h => h) (Or.inl ⟨by rfl, ?_⟩) hS0 ?_
        rotate_left
        focus (intro wv hSw; obtain ⟨e0, e1, _⟩ := hSw; first | (go_simp; done) | (go_simp; with_reducible rfl))
        (try simp only [Act.put, List.setIfInBounds_toArray, List.set_cons_zero, List.set_cons_succ])
        refine wpAnyH_take (i := 1) (oi := { dst := some 33, op := _, type := _, pos := _, after := _, guard := _ }) (v := ?_) rfl (by kernel_rfl) (by kernel_rfl) (by kernel_rfl) (fun _ _ _ h => h) (Or.inl ⟨by rfl, ?_⟩) hS0 ?_
        rotate_left
        focus (intro wv hSw; obtain ⟨e0, e1, _⟩ := hSw; first | (go_simp; done) | (go_simp; with_reducible rfl))
        (try simp only [Act.put, List.setIfInBounds_toArray, List.set_cons_zero, List.set_cons_succ])
        refine wpAnyH_take (i := 2) (oi := { dst := some 34, op := _, type := _, pos := _, after := _, guard := _ }) (v := ?_) rfl (by kernel_rfl) (by kernel_rfl) (by kernel_rfl) (fun _ _ _ h => h) (Or.inl ⟨by rfl, ?_⟩) hS0 ?_
        rotate_left
        focus (intro wv hSw; obtain ⟨e0, e1, _⟩ := hSw; first | (go_simp; done) | (go_simp; with_reducible rfl))
        (try simp only [Act.put, List.setIfInBounds_toArray, List.set_cons_zero, List.set_cons_succ])
        refine wpAnyH_take (i := 3) (oi := { dst := some 35, op := _, type := _, pos := _, after := _, guard := _ }) (v := ?_) rfl (by kernel_rfl) (by kernel_rfl) (by kernel_rfl) (fun _ _ _ h => h) (Or.inl ⟨by rfl, ?_⟩) hS0 ?_
        rotate_left
        focus (intro wv hSw; obtain ⟨e0, e1, _⟩ := hSw; first | (go_simp; done) | (go_simp; with_reducible rfl))
        (try simp only [Act.put, List.setIfInBounds_toArray, List.set_cons_zero, List.set_cons_succ])
        refine wpAnyH_take (i := 5) (oi := { dst := some 37, op := _, type := _, pos := _, after := _, guard := _ }) (v := ?_) rfl (by kernel_rfl) (by kernel_rfl) (by kernel_rfl) (fun _ _ _ h => h) (Or.inl ⟨by rfl, ?_⟩) hS0 ?_
        rotate_left
        focus (intro wv hSw; obtain ⟨e0, e1, _⟩ := hSw; first | (go_simp; done) | (go_simp; with_reducible rfl))
        (try simp only [Act.put, List.setIfInBounds_toArray, List.set_cons_zero, List.set_cons_succ])
        refine wpAnyH_take (i := 6) (oi := { dst := some 38, op := _, type := _, pos := _, after := _, guard := _ }) (v := ?_) rfl (by kernel_rfl) (by kernel_rfl) (by kernel_rfl) (fun _ _ _ h => h) (Or.inl ⟨by rfl, ?_⟩) hS0 ?_
        rotate_left
        focus (intro wv hSw; obtain ⟨e0, e1, _⟩ := hSw; first | (go_simp; done) | (go_simp; with_reducible rfl))
        (try simp only [Act.put, List.setIfInBounds_toArray, List.set_cons_zero, List.set_cons_succ])
        refine wpAnyH_take (i := 7) (oi := { dst := some 39, op := _, type := _, pos := _, after := _, guard := _ }) (v := ?_) rfl (by kernel_rfl) (by kernel_rfl) (by kernel_rfl) (fun _ _ _ h => h) (Or.inl ⟨by rfl, ?_⟩) hS0 ?_
        rotate_left
        focus (intro wv hSw; obtain ⟨e0, e1, _⟩ := hSw; first | (go_simp; done) | (go_simp; with_reducible rfl))
        (try simp only [Act.put, List.setIfInBounds_toArray, List.set_cons_zero, List.set_cons_succ])
        refine wpAnyH_take (i := 8) (oi := { dst := some 40, op := _, type := _, pos := _, after := _, guard := _ }) (v := ?_) rfl (by kernel_rfl) (by kernel_rfl) (by kernel_rfl) (fun _ _ _ h => h) (Or.inl ⟨by rfl, ?_⟩) hS0 ?_
        rotate_left
        focus (intro wv hSw; obtain ⟨e0, e1, _⟩ := hSw; first | (go_simp; done) | (go_simp; with_reducible rfl))
        (try simp only [Act.put, List.setIfInBounds_toArray, List.set_cons_zero, List.set_cons_succ])
        have HRV := Lib.hid (HR.out.below (HB1.out.trans (hS0.2.2.mono HB1.out.size)))
        refine wpAnyH_ready (rs := [4]) (by kernel_rfl) (by simp) ?_
        refine AllReadyH.cons (o := { dst := some 36, op := _, type := _, pos := _, after := _, guard := _ }) rfl (fun K hK => ?_) AllReadyH.nil
        go_simp
        refine (made_any b _ ms V0 HRV.out HP.out (by omega)).mono ?_
        rintro e V1 ⟨P1, X1, rfl, hC1, hB1⟩
        have hS1 : (fun V => V.cell? ⟨w.heap.size, 0, none⟩ = some (.bool b) ∧ V.cell? ⟨w.heap.size, 1, none⟩ = some (.slice va ms.length vc) ∧ Below w1.heap.size w1 V) V1 := ⟨((hB1).cell (p := ⟨w.heap.size, 0, none⟩) (Nat.lt_of_lt_of_le hlt1 hS0.2.2.size)).trans hS0.1, ((hB1).cell (p := ⟨w.heap.size, 1, none⟩) (Nat.lt_of_lt_of_le hlt1 hS0.2.2.size)).trans hS0.2.1, hS0.2.2.trans ((hB1).mono hS0.2.2.size)⟩
        refine hK.out _ _ hS1 (fun _ => ?_)
        clear hK K
        (try simp only [Act.put, List.setIfInBounds_toArray, List.set_cons_zero, List.set_cons_succ])
        have HRV1 := Lib.hid (HRV.out.below hB1)
        have hz0 := hB1.size
        refine wpAnyH_ready (rs := [9]) (by kernel_rfl) (by simp) ?_
        refine AllReadyH.cons (o := { dst := some 41, op := _, type := _, pos := _, after := _, guard := _ }) rfl (fun K hK => ?_) AllReadyH.nil
        go_simp
        refine (made_any b _ ms V1 HRV1.out HP.out (by omega)).mono ?_
        rintro e V2 ⟨P2, X2, rfl, hC2, hB2⟩
        have hS2 : (fun V => V.cell? ⟨w.heap.size, 0, none⟩ = some (.bool b) ∧ V.cell? ⟨w.heap.size, 1, none⟩ = some (.slice va ms.length vc) ∧ Below w1.heap.size w1 V) V2 := ⟨((hB2).cell (p := ⟨w.heap.size, 0, none⟩) (Nat.lt_of_lt_of_le hlt1 hS1.2.2.size)).trans hS1.1, ((hB2).cell (p := ⟨w.heap.size, 1, none⟩) (Nat.lt_of_lt_of_le hlt1 hS1.2.2.size)).trans hS1.2.1, hS1.2.2.trans ((hB2).mono hS1.2.2.size)⟩
        refine hK.out _ _ hS2 (fun _ => ?_)
        clear hK K
        (try simp only [Act.put, List.setIfInBounds_toArray, List.set_cons_zero, List.set_cons_succ])
        refine wpAnyH_take (i := 10) (oi := { dst := some 5, op := _, type := _, pos := _, after := _, guard := _ }) (v := ?_) rfl (by kernel_rfl) (by kernel_rfl) (by kernel_rfl) (fun _ _ _ h => h) (Or.inl ⟨by rfl, ?_⟩) hS2 ?_
        rotate_left
        focus (intro wv hSw; obtain ⟨e0, e1, _⟩ := hSw; first | (go_simp; done) | (go_simp; with_reducible rfl))
        (try simp only [Act.put, List.setIfInBounds_toArray, List.set_cons_zero, List.set_cons_succ])
        refine wpAnyH_take (i := 11) (oi := { dst := some 6, op := _, type := _, pos := _, after := _, guard := _ }) (v := ?_) rfl (by kernel_rfl) (by kernel_rfl) (by kernel_rfl) (fun _ _ _ h => h) (Or.inl ⟨by rfl, ?_⟩) hS2 ?_
        rotate_left
        focus (intro wv hSw; obtain ⟨e0, e1, _⟩ := hSw; first | (go_simp; done) | (go_simp; with_reducible rfl))
        (try simp only [Act.put, List.setIfInBounds_toArray, List.set_cons_zero, List.set_cons_succ])
        refine wpAnyH_done (by kernel_rfl) ?_ _
        have hz1 := hS0.2.2.size
        have hTC : TwoC w1.heap.size (madeC b ms) (.pointer (some ⟨P1, 0, none⟩)) (.pointer (some ⟨P2, 0, none⟩)) V2 ∧ Below w1.heap.size w1 V2 :=
          ⟨⟨V0.heap.size, P1, X1, V1.heap.size, P2, X2, rfl, rfl, hz1, hz0, hC1.below hB2, hC2, fun i hi => (hC1.lt.2.2 i hi).2⟩, hS2.2.2⟩
        (try go_wp2_with fail)
        go_meet
        exact hTC
      case rest =>
        obtain ⟨⟨B1, P1, X1, B2, P2, X2, rfl, rfl, hb1, hb2, hC1, hC2, hX12⟩, hBT⟩ := hcut
        have HBc := Lib.hid (HB1.out.trans (hBT.mono HB1.out.size))
        have hw1 := HB1.out.size
        have HMB := Lib.hid ((MaxB.of HM.out).to HBc.out)
        have hC2l := hC2.lt
        have hok0 := made_ok b ms
        have HER0 := Lib.hid (made_er b ms)
        clear hBT c0 c1 HR HP HM1
        generalize madeC b ms = s0 at *
        obtain ⟨l, hl⟩ : ∃ l, s.data.toList = l := ⟨_, rfl⟩
        have HL := Lib.hid hl
        have hll : l.length = s.size := by rw [← hl, Array.length_toList]; rfl
        have hsm := sm_run l hok0
        have hsa := acc_sm l hok0
        have hok1 := ok_runC l hok0
        have HSM := Lib.hid hsm
        have HSA := Lib.hid hsa
        have HOK0 := Lib.hid hok0
        have HOK1 := Lib.hid hok1
        have hcb := fun (W : World) (s : ByteArray) => run_bytes_of_string (P := Tryz.prog) W 9 40 5 s Tryz.underlying9 Tryz.underlying40 Tryz.underlying5
        have HW1 := Lib.hid (write_strB s s.size wc wc.heap.size rfl rfl hC1 hok0 (maxB_up HMB.out (by omega)) (by omega))
        rw [hl] at HW1
        clear hl hsm hsa hok0 hok1
        go_wp2_with fail
        refine HW1.out.mono ?_
        rintro e w3 ⟨lv, X3, rfl, hX3, hC3, hL3, hO3⟩
        have HA3 := Lib.hid hC3
        have HL3 := Lib.hid (Lst.of hL3)
        have HO3 := Lib.hid hO3
        have HC2 := Lib.hid (hC2.only hO3 (fun i hi hx => by have := (hC2l.2.2 i hi).1; have := hX12 i hx; omega))
        have hX1B : ∀ i, X1 i → w.heap.size ≤ i := fun i hi => by have := (hC1.lt.2.2 i hi).1; omega
        have HB3 := Lib.hid (HBc.out.trans (hO3.to hX1B HBc.out.size))
        have HX3 := Lib.hid (show ∀ i, X3 i → X1 i ∨ wc.heap.size ≤ i from hX3)
        have HX3l := Lib.hid (show ∀ i, X3 i → i < w3.heap.size from fun i hi => (hC3.lt.2.2 i hi).2)
        have HM3 := Lib.hid ((MaxB.of HM.out).to HB3.out)
        have hwc3 := hO3.size
        obtain ⟨la, lc, rfl⟩ := hL3.isSlice
        have HX12 := Lib.hid hX12
        have HX2 := Lib.hid (show ∀ i, X2 i → B2 ≤ i ∧ i < wc.heap.size from hC2l.2.2)
        have HX1B := Lib.hid hX1B
        generalize he1 : (runC s0 l).1.er = er1 at *
        have HE1 := Lib.hid he1
        generalize hes1 : joinE (runC s0 l).2 = es1 at *
        have HES1 := Lib.hid hes1
        have hn1 := Lib.hid (show es1.length ≤ 2 * l.length by rw [← hes1]; exact Nat.le_trans (join_sm HSM.out.2.1).2 HSM.out.1)
        clear he1 hes1 hX3 hC3 hL3 hO3 hC2 hC1 hX12 hX1B hC2l HW1 HMB
        have hsi : (s.size : Int) ≤ 2000 := by omega
        generalize hln : es1.length = n1 at *
        have HLN := Lib.hid hln
        clear hln
        go_wp2_with fail
        go_loopw [9, 10, 11] (fun mv cv iv wr => ∃ (k : Nat) (X' : Nat → Prop), iv = .int .i64 k ∧ k ≤ s.size ∧ cv = .int .i64 ((runC s0 (l.take k)).1.er : Int) ∧ CutI B2 P2 X2 s0 l w3 k mv X' wr) (fun _ _ i _ => s.size - (intOf i).toNat)
        case atStart => exact ⟨0, X2, rfl, Nat.zero_le _, by rw [List.take_zero, runC, HER0.out]; rfl, CutI.start HC2.out⟩
        case round =>
          obtain ⟨k, X', rfl, hk, rfl, hI⟩ := hrel
          have HI := Lib.hid hI
          have hMr := Lib.hid (hI.max (maxB_up HM3.out (by omega)) (fun i hi => (HX2.out i hi).1) (by have := (HX2.out); have := HC2.out.lt.2.2 P2 HC2.out.lt.2.1; omega))
          obtain ⟨ma, mc, rfl⟩ := hI.ls.isSlice
          by_cases hlt : k < s.size
          · obtain ⟨c, hc⟩ : ∃ c, l[k]? = some c := ⟨l[k]'(by omega), by simp⟩
            have hz : (s.extract k (k + 1)).size = 1 := by rw [ByteArray.size_extract]; omega
            have hd : (s.extract k (k + 1)).data.toList = [c] := by rw [seg_list, HL.out]; exact one_at hc
            have HWk := Lib.hid (fun g hg => write_strB (s.extract k (k + 1)) 1 wr g hz.symm hg hI.c (ok_runC _ HOK0.out) hMr.out (by omega))
            rw [hd] at HWk
            have HCk := Lib.hid hc
            have hck := Lib.hid (acc_sm (l.take k) HOK0.out)
            have hr1 := Lib.hid (sm_run [c] (ok_runC (l.take k) HOK0.out))
            have htl : (l.take k).length ≤ l.length := by rw [List.length_take]; omega
            clear hI hc hd hMr
            go_wp2_with fail
            refine (HWk.out _ rfl).mono ?_
            intro e w4 hp
            obtain ⟨v, Xn, Y, Z, rfl, n1', n2, n3, y1, y2, y3, z1, z2, z3⟩ := HI.out.next HCk.out hp
            clear hp
            obtain ⟨oa, oc, rfl⟩ := z1.isSlice
            have N1 := Lib.hid n1'
            have N2 := Lib.hid n2
            have N3 := Lib.hid n3
            have Y2 := Lib.hid y2
            have Y3 := Lib.hid y3
            have Z2 := Lib.hid z2
            have hn3 := n3.size
            have hjl : (joinE (runC (runC s0 (l.take k)).1 [c]).2).length ≤ 2 := by have h1 := (join_sm hr1.out.2.1).2; have h2 := hr1.out.1; simp at h2; omega
            have hal : (accC s0 (l.take k)).length ≤ 5000 := by have h1 := hck.out.1; omega
            clear n1' n2 n3 y2 y3 z2 HWk
            by_cases her : (runC s0 (l.take k)).1.er = 0
            · have hcv : ((runC s0 (l.take k)).1.er : Int) = 0 := by omega
              rw [hcv]
              have HNu := Lib.hid (fun w => num_errV (runC s0 (l.take (k + 1))).1.er w)
              clear hcv her
              go_wp2_with (at_builtin; refine wpList_appendL rfl (.tmp 79) (.tmp 80) rfl _ rfl y1 _ rfl z1 z3  (by omega) (by omega) ?_; intro mv' w5 hO hg hat)
              refine (HNu.out _).mono ?_
              rintro e w' ⟨rfl, rfl⟩
              go_wp2_with fail
              go_roundw
              case rel => exact ⟨k + 1, Xn, by go_num, by omega, by first | rfl | trivial, CutI.round HCk.out N1.out N2.out N3.out y1 Y2.out Y3.out Z2.out hO hg hat⟩
              case measure => simp [intOf]; omega
            · have hst := cut_stop (s := s0) (l := l) (k := k) c her
              have e1 : (runC s0 (l.take (k + 1))).1.er = (runC s0 (l.take k)).1.er := by rw [runC_take HCk.out, hst]
              have e2 : (joinE (runC (runC s0 (l.take k)).1 [c]).2).length = 0 := by rw [hst]; rfl
              have E1 := Lib.hid e1
              have HNu := Lib.hid (fun w => num_errV (runC s0 (l.take (k + 1))).1.er w)
              rw [e1] at HNu
              rw [e1]
              have hne : ((((runC s0 (l.take k)).1.er : Nat) : Int) != 0) = true := by simp; omega
              rw [e2] at z1
              rw [e2]
              clear e1 e2 hst her hjl
              obtain ⟨ek, hek⟩ : ∃ ek, (runC s0 (l.take k)).1.er = ek := ⟨_, rfl⟩
              have HEK := Lib.hid hek
              rw [hek] at hne HNu ⊢
              clear hek
              go_wp2_with fail
              refine (HNu.out _).mono ?_
              rintro e w' ⟨rfl, rfl⟩
              go_wp2_with (at_builtin; refine wpList_appendL rfl (.tmp 79) (.tmp 80) rfl _ rfl y1 _ rfl z1 z3  (by have := HI.out; have h2 := hr1.out.1; have h1 := (join_sm hr1.out.2.1).2; simp at h2; omega) (by omega) ?_; intro mv' w5 hO hg hat)
              refine (HNu.out _).mono ?_
              rintro e w' ⟨rfl, rfl⟩
              go_wp2_with fail
              go_roundw
              case rel => exact ⟨k + 1, Xn, by go_num, by omega, by rw [E1.out, HEK.out], CutI.round HCk.out N1.out N2.out N3.out y1 Y2.out Y3.out Z2.out hO hg hat⟩
              case measure => simp [intOf]; omega
          · have hkl : l.take k = l := List.take_of_length_le (by omega)
            rw [hkl]
            clear HI hMr
            have HCb := Lib.hid (show Con B2 P2 X' (runC s0 l).1 wr by have := hI.c; rw [hkl] at this; exact this)
            have HXb := Lib.hid hI.x
            have HXbl := Lib.hid (show ∀ i, X' i → i < wr.heap.size from fun i hi => (hI.c.lt.2.2 i hi).2)
            have HLm := Lib.hid (show Lst w3.heap.size wr.heap.size X' (.slice ma (accC s0 l).length mc) (accC s0 l) wr by have := Lst.of hI.ls; rw [hkl] at this; exact this)
            have hOr := hI.on
            have dis : ∀ i, X3 i → ¬ (X2 i ∨ w3.heap.size ≤ i) := fun i hi hz => by
              have h1 := HX3l.out i hi
              rcases hz with a | a
              · have h2 := HX2.out i a
                rcases HX3.out i hi with b | b
                · have := HX12.out i b; omega
                · omega
              · omega
            have HDis := Lib.hid dis
            have HCa := Lib.hid (HA3.out.only hOr dis)
            have HLl := Lib.hid (HL3.out.only hOr (fun i hz => hz.elim (fun a => .inl (HX2.out i a).2) (fun a => .inr (.inl a))))
            have hlow : ∀ i, (X2 i ∨ w3.heap.size ≤ i) → w.heap.size ≤ i := fun i hz => by
              rcases hz with a | a
              · have := (HX2.out i a).1; omega
              · have := HB3.out.size; omega
            have HBr := Lib.hid (HB3.out.trans (hOr.to hlow HB3.out.size))
            have hwr := hOr.size
            have h3low : ∀ i, X3 i → w.heap.size ≤ i := fun i hi => by
              rcases HX3.out i hi with a | a
              · exact HX1B.out i a
              · have := HBc.out.size; omega
            have HES2 := Lib.hid (show joinE es1 = es1 by rw [← HES1.out]; exact joinE_twice _)
            have HES3 := Lib.hid (show joinE (accC s0 l) = es1 by rw [accC_join]; exact HES1.out)
            have hcs := close_sm HOK1.out
            have hcc : er1 ≠ 0 → (closeC (runC s0 l).1).1.er = er1 ∧ (closeC (runC s0 l).1).2.length = 0 := fun h => by
              have := close_cut (s := (runC s0 l).1) (by rw [HE1.out]; exact h)
              rw [HE1.out] at this; exact this
            have HS1 := Lib.hid (show (∀ e ∈ es1, EvSm e) ∧ datS es1 ≤ l.length by rw [← HES1.out]; exact ⟨(join_sm HSM.out.2.1).1, by rw [datS_join]; exact HSM.out.2.2⟩)
            have hal : (accC s0 l).length ≤ 5000 := by have h1 := HSA.out.1; omega
            have hn1' := hn1.out
            rw [HE1.out]
            clear hI hkl hOr dis
            have HKa := Lib.hid (cnClose_any wr HCa.out HOK1.out)
            have HOKb := Lib.hid HOK1.out
            generalize hQ : closeC (runC s0 l).1 = Q at *
            have HQ := Lib.hid hQ
            obtain ⟨s2, os⟩ := Q
            clear hQ
            simp only at hcs hcc
            generalize hno : os.length = no at *
            have HNO := Lib.hid hno
            clear hno
            generalize hna : (accC s0 l).length = na at *
            have HNA := Lib.hid hna
            clear hna
            go_wp2_with fail
            refine HKa.out.mono ?_
            intro e w6 hp
            obtain ⟨v6, Y6, rfl, hE6, hY6, hC6, hO6⟩ := hp
            have HL6 := Lib.hid (Lst.own hE6 (fun i hi => (hY6 i hi).1))
            obtain ⟨a6, c6, rfl⟩ := hE6.isSlice
            rw [HNO.out] at HL6
            simp only [HNO.out]
            have HCb6 := Lib.hid (HCb.out.only hO6 (fun i hi hx => HDis.out i hx (HXb.out i hi)))
            have HLm6 := Lib.hid (HLm.out.only hO6 (fun i hx => .inl (HX3l.out i hx)))
            have HLl6 := Lib.hid (HLl.out.only hO6 (fun i hx => .inr (.inr hx)))
            have HB6 := Lib.hid (HBr.out.trans (hO6.to h3low HBr.out.size))
            have hw6 := hO6.size
            clear hE6 hY6 hC6 hO6 HKa HCa HCb HLm HLl
            have HKb := Lib.hid (cnClose_any w6 HCb6.out HOKb.out)
            rw [HQ.out] at HKb
            go_wp2_with fail
            refine HKb.out.mono ?_
            intro e w7 hp
            obtain ⟨v7, Y7, rfl, hE7, hY7, hC7, hO7⟩ := hp
            have HL7 := Lib.hid (Lst.own hE7 (fun i hi => (hY7 i hi).1))
            obtain ⟨a7, c7, rfl⟩ := hE7.isSlice
            rw [HNO.out] at HL7
            simp only [HNO.out]
            have hxlow : ∀ i, X' i → w.heap.size ≤ i := fun i hi => hlow i (HXb.out i hi)
            have HLm7 := Lib.hid (HLm6.out.only hO7 (fun i hx => .inr (.inr hx)))
            have HLl7 := Lib.hid (HLl6.out.only hO7 (fun i hx => (HXb.out i hx).elim (fun a => .inl (HX2.out i a).2) (fun a => .inr (.inl a))))
            have HL67 := Lib.hid (HL6.out.only hO7 (fun i hx => .inl (HXbl.out i hx)))
            have HB7 := Lib.hid (HB6.out.trans (hO7.to hxlow HB6.out.size))
            clear hE7 hY7 hC7 hO7 HKb HCb6 HLm6 HLl6 HL6
            have HNu1 := Lib.hid (fun w => num_errV er1 w)
            have HNu2 := Lib.hid (fun w => num_errV s2.er w)
            have HRl := Lib.hid (fun (w : World) (hr : ReadsE w (.slice la n1 lc) es1) => refE_any (.slice la n1 lc) es1 w hr HS1.out.1 (by have := HLN.out; omega))
            have HRm := Lib.hid (fun (w : World) (hr : ReadsE w (.slice ma na mc) (accC s0 l)) => refE_any (.slice ma na mc) (accC s0 l) w hr HSA.out.2.1 (by have := HNA.out; omega))
            have HR6 := Lib.hid (fun (w : World) (hr : ReadsE w (.slice a6 no c6) os) => refE_any (.slice a6 no c6) os w hr hcs.2 (by have := HNO.out; omega))
            have HR7 := Lib.hid (fun (w : World) (hr : ReadsE w (.slice a7 no c7) os) => refE_any (.slice a7 no c7) os w hr hcs.2 (by have := HNO.out; omega))
            have HCS := Lib.hid hcs
            clear hcs
            by_cases h0 : er1 = 0
            · have hev : errV er1 = .nilIface := by rw [h0]; rfl
              rw [hev] at HNu1 ⊢
              clear hev h0 hcc
              go_wp2_with fail
              refine (HNu1.out _).mono ?_
              rintro e w' ⟨rfl, rfl⟩
              go_wp2_with fail
              refine (HRl.out _ HLl7.out.reads).mono ?_
              rintro e w8 ⟨v8, Y8, rfl, hR8, _, hB8⟩
              have HB8 := Lib.hid (HB7.out.trans (hB8.mono HB7.out.size))
              have HLm8 := Lib.hid (HLm7.out.below hB8)
              have HL68 := Lib.hid (HL67.out.below hB8)
              have HL78 := Lib.hid (HL7.out.below hB8)
              have HR8 := Lib.hid hR8
              clear hR8 hB8
              go_wp2_with fail
              refine (joined_any _ es1 _ HR8.out (by have := HLN.out; omega) (by have := HS1.out.2; omega)).mono ?_
              rintro e w9 ⟨v9, rfl, hR9, hB9⟩
              rw [HES2.out] at hR9
              have HB9 := Lib.hid (HB8.out.trans (hB9.mono HB8.out.size))
              have HLm9 := Lib.hid (HLm8.out.below hB9)
              have HL69 := Lib.hid (HL68.out.below hB9)
              have HL79 := Lib.hid (HL78.out.below hB9)
              have HR9 := Lib.hid hR9
              clear hR9 hB9
              go_wp2_with fail
              refine (HRm.out _ HLm9.out.reads).mono ?_
              rintro e w10 ⟨v10, Y10, rfl, hR10, _, hB10⟩
              have HB10 := Lib.hid (HB9.out.trans (hB10.mono HB9.out.size))
              have HL610 := Lib.hid (HL69.out.below hB10)
              have HL710 := Lib.hid (HL79.out.below hB10)
              have HR9b := Lib.hid (HR9.out.below hB10)
              have HR10 := Lib.hid hR10
              clear hR10 hB10
              go_wp2_with fail
              refine (joined_any _ (accC s0 l) _ HR10.out (by have := HNA.out; omega) (by have := HSA.out.2.2; omega)).mono ?_
              rintro e w11 ⟨v11, rfl, hR11, hB11⟩
              rw [HES3.out] at hR11
              have HB11 := Lib.hid (HB10.out.trans (hB11.mono HB10.out.size))
              have HL611 := Lib.hid (HL610.out.below hB11)
              have HL711 := Lib.hid (HL710.out.below hB11)
              have HR9c := Lib.hid (HR9b.out.below hB11)
              have HR11 := Lib.hid hR11
              clear hR11 hB11
              go_wp2_with fail
              refine (same8_any _ _ es1 _ HR9c.out HR11.out (by have := HLN.out; omega) HS1.out.1).mono ?_
              rintro e w12 ⟨rfl, hB12⟩
              have HB12 := Lib.hid (HB11.out.trans (hB12.mono HB11.out.size))
              have HL612 := Lib.hid (HL611.out.below hB12)
              have HL712 := Lib.hid (HL711.out.below hB12)
              clear hB12
              go_wp2_with fail
              refine (HNu2.out _).mono ?_
              rintro e w' ⟨rfl, rfl⟩
              go_wp2_with fail
              refine (HNu2.out _).mono ?_
              rintro e w' ⟨rfl, rfl⟩
              go_wp2_with fail
              refine (HR6.out _ HL612.out.reads).mono ?_
              rintro e w13 ⟨v13, Y13, rfl, hR13, _, hB13⟩
              have HB13 := Lib.hid (HB12.out.trans (hB13.mono HB12.out.size))
              have HL713 := Lib.hid (HL712.out.below hB13)
              have HR13 := Lib.hid hR13
              clear hR13 hB13
              go_wp2_with fail
              refine (HR7.out _ HL713.out.reads).mono ?_
              rintro e w14 ⟨v14, Y14, rfl, hR14, _, hB14⟩
              have HB14 := Lib.hid (HB13.out.trans (hB14.mono HB13.out.size))
              have HR13b := Lib.hid (HR13.out.below hB14)
              have HR14 := Lib.hid hR14
              clear hR14 hB14
              go_wp2_with fail
              refine (same8_any _ _ os _ HR13b.out HR14.out (by have h1 := HNO.out; have h2 := HCS.out.1; omega) HCS.out.2).mono ?_
              rintro e w15 ⟨rfl, hB15⟩
              have HB15 := Lib.hid (HB14.out.trans (hB15.mono HB14.out.size))
              clear hB15
              go_wp2_with fail
              (try simp only [Exit.inBlock, Exit.then])
              go_ret
              exact ⟨by first | rfl | exact retV (by simp), HB15.out⟩
            · have hev : errV er1 = .iface 51 (.int .i64 (er1 : Int)) := errV_yes h0
              obtain ⟨hse, hno0⟩ := hcc h0
              have hno1 : no = 0 := by have := HNO.out; omega
              have HSE := Lib.hid hse
              have HN0 := Lib.hid hno1
              rw [hse] at HNu2 ⊢
              rw [hno1] at HR6 HR7 HL67 HL7 ⊢
              rw [hev] at HNu1 HNu2 ⊢
              have hne : ((er1 : Int) == 0) = false := by simp; omega
              clear hev hse hno0 hno1 hcc h0
              go_wp2_with fail
              refine (HNu1.out _).mono ?_
              rintro e w' ⟨rfl, rfl⟩
              go_wp2_with fail
              refine (HRl.out _ HLl7.out.reads).mono ?_
              rintro e w8 ⟨v8, Y8, rfl, hR8, _, hB8⟩
              have HB8 := Lib.hid (HB7.out.trans (hB8.mono HB7.out.size))
              have HLm8 := Lib.hid (HLm7.out.below hB8)
              have HL68 := Lib.hid (HL67.out.below hB8)
              have HL78 := Lib.hid (HL7.out.below hB8)
              have HR8 := Lib.hid hR8
              clear hR8 hB8
              go_wp2_with fail
              refine (joined_any _ es1 _ HR8.out (by have := HLN.out; omega) (by have := HS1.out.2; omega)).mono ?_
              rintro e w9 ⟨v9, rfl, hR9, hB9⟩
              rw [HES2.out] at hR9
              have HB9 := Lib.hid (HB8.out.trans (hB9.mono HB8.out.size))
              have HLm9 := Lib.hid (HLm8.out.below hB9)
              have HL69 := Lib.hid (HL68.out.below hB9)
              have HL79 := Lib.hid (HL78.out.below hB9)
              have HR9 := Lib.hid hR9
              clear hR9 hB9
              go_wp2_with fail
              refine (HRm.out _ HLm9.out.reads).mono ?_
              rintro e w10 ⟨v10, Y10, rfl, hR10, _, hB10⟩
              have HB10 := Lib.hid (HB9.out.trans (hB10.mono HB9.out.size))
              have HL610 := Lib.hid (HL69.out.below hB10)
              have HL710 := Lib.hid (HL79.out.below hB10)
              have HR9b := Lib.hid (HR9.out.below hB10)
              have HR10 := Lib.hid hR10
              clear hR10 hB10
              go_wp2_with fail
              refine (joined_any _ (accC s0 l) _ HR10.out (by have := HNA.out; omega) (by have := HSA.out.2.2; omega)).mono ?_
              rintro e w11 ⟨v11, rfl, hR11, hB11⟩
              rw [HES3.out] at hR11
              have HB11 := Lib.hid (HB10.out.trans (hB11.mono HB10.out.size))
              have HL611 := Lib.hid (HL610.out.below hB11)
              have HL711 := Lib.hid (HL710.out.below hB11)
              have HR9c := Lib.hid (HR9b.out.below hB11)
              have HR11 := Lib.hid hR11
              clear hR11 hB11
              go_wp2_with fail
              refine (same8_any _ _ es1 _ HR9c.out HR11.out (by have := HLN.out; omega) HS1.out.1).mono ?_
              rintro e w12 ⟨rfl, hB12⟩
              have HB12 := Lib.hid (HB11.out.trans (hB12.mono HB11.out.size))
              have HL612 := Lib.hid (HL611.out.below hB12)
              have HL712 := Lib.hid (HL711.out.below hB12)
              clear hB12
              go_wp2_with fail
              refine (HNu2.out _).mono ?_
              rintro e w' ⟨rfl, rfl⟩
              go_wp2_with fail
              refine (HNu2.out _).mono ?_
              rintro e w' ⟨rfl, rfl⟩
              go_wp2_with fail
              refine (HR6.out _ HL612.out.reads).mono ?_
              rintro e w13 ⟨v13, Y13, rfl, hR13, _, hB13⟩
              have HB13 := Lib.hid (HB12.out.trans (hB13.mono HB12.out.size))
              have HL713 := Lib.hid (HL712.out.below hB13)
              have HR13 := Lib.hid hR13
              clear hR13 hB13
              go_wp2_with fail
              refine (HR7.out _ HL713.out.reads).mono ?_
              rintro e w14 ⟨v14, Y14, rfl, hR14, _, hB14⟩
              have HB14 := Lib.hid (HB13.out.trans (hB14.mono HB13.out.size))
              have HR13b := Lib.hid (HR13.out.below hB14)
              have HR14 := Lib.hid hR14
              clear hR14 hB14
              go_wp2_with fail
              refine (same8_any _ _ os _ HR13b.out HR14.out (by have h1 := HNO.out; have h2 := HCS.out.1; omega) HCS.out.2).mono ?_
              rintro e w15 ⟨rfl, hB15⟩
              have HB15 := Lib.hid (HB14.out.trans (hB15.mono HB14.out.size))
              clear hB15
              go_wp2_with fail
              refine (HNu2.out _).mono ?_
              rintro e w' ⟨rfl, rfl⟩
              go_wp2_with fail
              (try simp only [Exit.inBlock, Exit.then])
              go_ret
              exact ⟨by first | rfl | exact retV (by simp), HB15.out⟩
end Go.Proofs.YtpikjcmenmdolaaGreatDoor
