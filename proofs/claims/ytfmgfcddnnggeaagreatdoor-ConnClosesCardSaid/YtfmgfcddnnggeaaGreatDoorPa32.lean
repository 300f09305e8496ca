import Derived.Test.YtfmgfcddnnggeaaGreatDoorPa31
import Derived.OwnWalk
/- What the connection's take returns. -/
namespace Go.Proofs.YtfmgfcddnnggeaaGreatDoor
open Go.RowKit

/-- What a call leaves whose event goes into a box that was there before. -/
theorem tk_up {B P : Nat} {X : Nat → Prop} {r : Cn × Ev × Nat × Nat} {w w1 wF : World} {o : Obj} {e : Ending} (h : TkPost B P X r (w.alloc o) e w1) (hXw : ∀ k, X k → k < w.heap.size) (hF : Only (fun k => k = w.heap.size) w1 wF) : TkPost B P X r w e wF := by
  obtain ⟨q, p, d, X', he, hX, hC, hO, hq, hp, hd, hn⟩ := h
  have hs : (w.alloc o).heap.size = w.heap.size + 1 := by simp
  refine ⟨q, p, d, X', he, fun k hk => (hX k hk).imp id (fun a => by omega), hC.only hF (fun k hk e => ?_), ((Only.alloc X w o).trans' hO).trans hF (fun i hi => .inr (Nat.le_of_eq hi.symm)), OwnsP.mono (by omega) (ownsP_only hq hF (fun k hk => by omega)), OwnsP.mono (by omega) (ownsP_only hp hF (fun k hk => by omega)), OwnB.mono (C := (w.alloc o).heap.size) (by omega) (hd.only hF (fun k hk e => by have := (World.ownsRow.lt hd k hk).1; omega)), hn⟩
  rcases hX k hk with a | a
  · have := hXw k a; omega
  · omega
set_option maxHeartbeats 4000000 in
set_option maxRecDepth 100000 in
theorem take7_any {B P : Nat} {X : Nat → Prop} {s : Cn} (bv : Value) (l : List UInt8) (w : World) (h : Con B P X s w) (hok : s.Ok) (he : s.er = 0) (hb : ReadsD w bv l) (hbX : l ≠ [] → ∀ k, bv.ownBlock = some k → ¬ X k) (hne : l ≠ []) (hM : MaxB B w) (hl : l.length ≤ 1000000000) :
    Calls Tryz.prog 12 #[.pointer (some ⟨P, 0, none⟩), bv] w (TkPost B P X (takeC s l) w) := by
  have hbw := below_new w (.cells #[.int .i64 0, .string ⟨#[]⟩, .string ⟨#[]⟩, noV, .int .i64 0, noV, noV, noV] 42)
  have h' := h.below hbw
  have hM' : MaxB B (w.alloc (.cells #[.int .i64 0, .string ⟨#[]⟩, .string ⟨#[]⟩, noV, .int .i64 0, noV, noV, noV] 42)) := hM.to (hbw.mono (by have := h.lt.2.2 P h.lt.2.1; omega))
  obtain ⟨mv, sv, dv, XM, XD, hp⟩ := h'
  have HXw := Lib.hid (fun k hk => (h.lt.2.2 k hk).2)
  have HB := Lib.hid (hb.below hbw)
  have IB := Lib.hid (inBody_any hp.cells)
  obtain ⟨c0, c1, _, _, _, _, _, c7, _, _⟩ := hp.cells
  obtain ⟨ma, mc, rfl, hm1, hm2, _⟩ := hp.m
  have HO0 := Lib.hid (Only.alloc X w (.cells #[.int .i64 0, .string ⟨#[]⟩, .string ⟨#[]⟩, noV, .int .i64 0, noV, noV, noV] 42))
  have K := eight_at (heap_alloc_new w (.cells #[.int .i64 0, .string ⟨#[]⟩, .string ⟨#[]⟩, noV, .int .i64 0, noV, noV, noV] 42))
  have j0 : (w.alloc (.cells #[.int .i64 0, .string ⟨#[]⟩, .string ⟨#[]⟩, noV, .int .i64 0, noV, noV, noV] 42)).cell? ⟨w.heap.size, 0, none⟩ = some (.int .i64 0) := (K 0).1
  have k0 := (K 0).2
  have j1 : (w.alloc (.cells #[.int .i64 0, .string ⟨#[]⟩, .string ⟨#[]⟩, noV, .int .i64 0, noV, noV, noV] 42)).cell? ⟨w.heap.size, 1, none⟩ = some (.string ⟨#[]⟩) := (K 1).1
  have k1 := (K 1).2
  have j2 : (w.alloc (.cells #[.int .i64 0, .string ⟨#[]⟩, .string ⟨#[]⟩, noV, .int .i64 0, noV, noV, noV] 42)).cell? ⟨w.heap.size, 2, none⟩ = some (.string ⟨#[]⟩) := (K 2).1
  have k2 := (K 2).2
  have j3 : (w.alloc (.cells #[.int .i64 0, .string ⟨#[]⟩, .string ⟨#[]⟩, noV, .int .i64 0, noV, noV, noV] 42)).cell? ⟨w.heap.size, 3, none⟩ = some (noV) := (K 3).1
  have k3 := (K 3).2
  have j4 : (w.alloc (.cells #[.int .i64 0, .string ⟨#[]⟩, .string ⟨#[]⟩, noV, .int .i64 0, noV, noV, noV] 42)).cell? ⟨w.heap.size, 4, none⟩ = some (.int .i64 0) := (K 4).1
  have k4 := (K 4).2
  have j5 : (w.alloc (.cells #[.int .i64 0, .string ⟨#[]⟩, .string ⟨#[]⟩, noV, .int .i64 0, noV, noV, noV] 42)).cell? ⟨w.heap.size, 5, none⟩ = some (noV) := (K 5).1
  have k5 := (K 5).2
  have j6 : (w.alloc (.cells #[.int .i64 0, .string ⟨#[]⟩, .string ⟨#[]⟩, noV, .int .i64 0, noV, noV, noV] 42)).cell? ⟨w.heap.size, 6, none⟩ = some (noV) := (K 6).1
  have k6 := (K 6).2
  have j7 : (w.alloc (.cells #[.int .i64 0, .string ⟨#[]⟩, .string ⟨#[]⟩, noV, .int .i64 0, noV, noV, noV] 42)).cell? ⟨w.heap.size, 7, none⟩ = some (noV) := (K 7).1
  have k7 := (K 7).2
  clear K
  have HP0 := Lib.hid hp
  have H' := Lib.hid (show Con B P X s (w.alloc (.cells #[.int .i64 0, .string ⟨#[]⟩, .string ⟨#[]⟩, noV, .int .i64 0, noV, noV, noV] 42)) from ⟨_, sv, dv, XM, XD, hp⟩)
  obtain ⟨ba, bc, rfl⟩ : ∃ a c, bv = .slice a l.length c := by obtain ⟨a, c, h, _⟩ := hb; exact ⟨a, c, h⟩
  have HM' := Lib.hid hM'
  clear h hp hb hM hM' hbw
  by_cases h0 : s.fk = 0
  · rw [decide_eq_false (by simp [h0])] at IB
    by_cases hH : s.cl = true ∨ (s.rs = true ∧ s.ms = [])
    · have HC := Lib.hid hH
      cases hcl : s.cl with
      | true =>
        rw [hcl] at c7
        clear hH hcl
        have HTE : Hid (takeC s l = (s, ev0, 0, 6)) := Lib.hid (by unfold takeC; rw [if_neg (by simp [h0]), if_pos HC.out])
        clear h0 HB
        go_enter Tryz.func12, Tryz.ntmps12
        go_wp2_with fail
        refine IB.out.mono ?_
        rintro en wi ⟨rfl, rfl⟩
        generalize hW0 : w.alloc (.cells #[.int .i64 0, .string ⟨#[]⟩, .string ⟨#[]⟩, noV, .int .i64 0, noV, noV, noV] 42) = W0 at *
        clear hW0
        go_wp2_with fail
        (try simp only [Exit.inBlock, Exit.then])
        refine bodyPost_ret (v := .tuple #[evV ev0 noV noV noV noV, .int .i64 ((0 : Nat) : Int), errV 6]) (by simp (maxDischargeDepth := 9) [results, Tryz.results12, go_sem, strB, errV, j0, j1, j2, j3, j4, j5, j6, j7]) rfl ?_
        rw [HTE.out]
        exact tk_post (ev := ev0) (qv := noV) (pv := noV) (n := 0) HP0.out (fun k hk => .inl hk) HXw.out HO0.out (OwnsP.nil _ _ _) (OwnsP.nil _ _ _) (fun k hk => by rcases hk with a | a <;> cases a) rfl (only8 _ _ _ _ _ _ _ _ _ _)
      | false =>
        obtain ⟨hrs, hms⟩ : s.rs = true ∧ s.ms = [] := by rcases hH with a | a; · rw [hcl] at a; cases a
                                                          · exact a
        rw [hcl] at c7
        rw [hrs] at c0
        rw [hms] at c1
        clear hH hcl hrs hms
        have HTE : Hid (takeC s l = (s, ev0, 0, 6)) := Lib.hid (by unfold takeC; rw [if_neg (by simp [h0]), if_pos HC.out])
        clear h0 HB
        go_enter Tryz.func12, Tryz.ntmps12
        go_wp2_with fail
        refine IB.out.mono ?_
        rintro en wi ⟨rfl, rfl⟩
        generalize hW0 : w.alloc (.cells #[.int .i64 0, .string ⟨#[]⟩, .string ⟨#[]⟩, noV, .int .i64 0, noV, noV, noV] 42) = W0 at *
        clear hW0
        go_wp2_with fail
        (try simp only [Exit.inBlock, Exit.then])
        refine bodyPost_ret (v := .tuple #[evV ev0 noV noV noV noV, .int .i64 ((0 : Nat) : Int), errV 6]) (by simp (maxDischargeDepth := 9) [results, Tryz.results12, go_sem, strB, errV, j0, j1, j2, j3, j4, j5, j6, j7]) rfl ?_
        rw [HTE.out]
        exact tk_post (ev := ev0) (qv := noV) (pv := noV) (n := 0) HP0.out (fun k hk => .inl hk) HXw.out HO0.out (OwnsP.nil _ _ _) (OwnsP.nil _ _ _) (fun k hk => by rcases hk with a | a <;> cases a) rfl (only8 _ _ _ _ _ _ _ _ _ _)
    · have hcl : s.cl = false := by cases hc : s.cl; · rfl
                                    · exact absurd (.inl hc) hH
      rw [hcl] at c7
      have CBx := Lib.hid (takeHead_any (.slice ba l.length bc) l _ H'.out hok ⟨he, h0, hH⟩ HB.out hne HM'.out hl)
      cases hrs : s.rs with
      | false =>
        rw [hrs] at c0
        clear hrs hcl
        have HTE := Lib.hid (show takeC s l = thC s l by unfold takeC; rw [if_neg (by simp [h0]), if_neg hH])
        have CB := Lib.hid (CBx.out)
        clear h0 HB HP0 HO0 j0 j1 j2 j3 j4 j5 j6 j7 k0 k1 k2 k3 k4 k5 k6 k7
        go_enter Tryz.func12, Tryz.ntmps12
        go_wp2_with fail
        refine IB.out.mono ?_
        rintro en wi ⟨rfl, rfl⟩
        go_wp2_with fail
        refine CB.out.mono ?_
        intro en w1 hpost
        have hT := (by rw [HTE.out]; exact hpost : TkPost B P X (takeC s l) _ en w1)
        clear hpost
        generalize hr : takeC s l = rr at *
        obtain ⟨s', ev, n, er⟩ := rr
        clear hr
        have HT := Lib.hid hT
        obtain ⟨q, p, d, X', he, _, _, hO, hq, hp, hd, _⟩ := hT
        subst he
        obtain ⟨qa, qc, rfl⟩ := own_slice' hq
        obtain ⟨pa, pc, rfl⟩ := own_slice' hp
        obtain ⟨da, dc, rfl⟩ := hd.isSlice
        have K := eight_only w hO HXw.out
        have j0 : w1.cell? ⟨w.heap.size, 0, none⟩ = some (.int .i64 0) := (K 0).1
        have k0 := (K 0).2
        have j1 : w1.cell? ⟨w.heap.size, 1, none⟩ = some (.string ⟨#[]⟩) := (K 1).1
        have k1 := (K 1).2
        have j2 : w1.cell? ⟨w.heap.size, 2, none⟩ = some (.string ⟨#[]⟩) := (K 2).1
        have k2 := (K 2).2
        have j3 : w1.cell? ⟨w.heap.size, 3, none⟩ = some (noV) := (K 3).1
        have k3 := (K 3).2
        have j4 : w1.cell? ⟨w.heap.size, 4, none⟩ = some (.int .i64 0) := (K 4).1
        have k4 := (K 4).2
        have j5 : w1.cell? ⟨w.heap.size, 5, none⟩ = some (noV) := (K 5).1
        have k5 := (K 5).2
        have j6 : w1.cell? ⟨w.heap.size, 6, none⟩ = some (noV) := (K 6).1
        have k6 := (K 6).2
        have j7 : w1.cell? ⟨w.heap.size, 7, none⟩ = some (noV) := (K 7).1
        have k7 := (K 7).2
        clear K hO hq hp hd CB IB HTE
        go_wp2_with fail
        (try simp only [Exit.inBlock, Exit.then])
        refine bodyPost_ret (v := .tuple #[evV ev (.slice qa ev.q.2.2.length qc) (.slice pa ev.p.2.length pc) (.slice da ev.d.length dc) noV, .int .i64 (n : Int), errV er]) (by simp (maxDischargeDepth := 9) [results, Tryz.results12, go_sem, strB, j0, j1, j2, j3, j4, j5, j6, j7]) rfl ?_
        exact tk_up HT.out HXw.out (only8 _ _ _ _ _ _ _ _ _ _)
      | true =>
        have hms : s.ms ≠ [] := fun e => hH (.inr ⟨hrs, e⟩)
        have hz : ((s.ms.length : Int) == 0) = false := by have := List.length_pos_iff.2 hms; simp; omega
        rw [hrs] at c0
        clear hrs hcl hms
        have HTE := Lib.hid (show takeC s l = thC s l by unfold takeC; rw [if_neg (by simp [h0]), if_neg hH])
        have CB := Lib.hid (CBx.out)
        clear h0 HB HP0 HO0 j0 j1 j2 j3 j4 j5 j6 j7 k0 k1 k2 k3 k4 k5 k6 k7
        go_enter Tryz.func12, Tryz.ntmps12
        go_wp2_with fail
        refine IB.out.mono ?_
        rintro en wi ⟨rfl, rfl⟩
        go_wp2_with fail
        refine CB.out.mono ?_
        intro en w1 hpost
        have hT := (by rw [HTE.out]; exact hpost : TkPost B P X (takeC s l) _ en w1)
        clear hpost
        generalize hr : takeC s l = rr at *
        obtain ⟨s', ev, n, er⟩ := rr
        clear hr
        have HT := Lib.hid hT
        obtain ⟨q, p, d, X', he, _, _, hO, hq, hp, hd, _⟩ := hT
        subst he
        obtain ⟨qa, qc, rfl⟩ := own_slice' hq
        obtain ⟨pa, pc, rfl⟩ := own_slice' hp
        obtain ⟨da, dc, rfl⟩ := hd.isSlice
        have K := eight_only w hO HXw.out
        have j0 : w1.cell? ⟨w.heap.size, 0, none⟩ = some (.int .i64 0) := (K 0).1
        have k0 := (K 0).2
        have j1 : w1.cell? ⟨w.heap.size, 1, none⟩ = some (.string ⟨#[]⟩) := (K 1).1
        have k1 := (K 1).2
        have j2 : w1.cell? ⟨w.heap.size, 2, none⟩ = some (.string ⟨#[]⟩) := (K 2).1
        have k2 := (K 2).2
        have j3 : w1.cell? ⟨w.heap.size, 3, none⟩ = some (noV) := (K 3).1
        have k3 := (K 3).2
        have j4 : w1.cell? ⟨w.heap.size, 4, none⟩ = some (.int .i64 0) := (K 4).1
        have k4 := (K 4).2
        have j5 : w1.cell? ⟨w.heap.size, 5, none⟩ = some (noV) := (K 5).1
        have k5 := (K 5).2
        have j6 : w1.cell? ⟨w.heap.size, 6, none⟩ = some (noV) := (K 6).1
        have k6 := (K 6).2
        have j7 : w1.cell? ⟨w.heap.size, 7, none⟩ = some (noV) := (K 7).1
        have k7 := (K 7).2
        clear K hO hq hp hd CB IB HTE
        go_wp2_with fail
        (try simp only [Exit.inBlock, Exit.then])
        refine bodyPost_ret (v := .tuple #[evV ev (.slice qa ev.q.2.2.length qc) (.slice pa ev.p.2.length pc) (.slice da ev.d.length dc) noV, .int .i64 (n : Int), errV er]) (by simp (maxDischargeDepth := 9) [results, Tryz.results12, go_sem, strB, j0, j1, j2, j3, j4, j5, j6, j7]) rfl ?_
        exact tk_up HT.out HXw.out (only8 _ _ _ _ _ _ _ _ _ _)
  · rw [decide_eq_true h0] at IB
    have HTE := Lib.hid (show takeC s l = ((tdC s l).1, evD (tdC s l).2.1, (tdC s l).2.2.1, (tdC s l).2.2.2) by unfold takeC; rw [if_pos h0])
    have CB := Lib.hid (takeBody_any (.slice ba l.length bc) l _ H'.out hok h0 HB.out hbX HM'.out hl)
    clear h0 HB HP0 HO0 j0 j1 j2 j3 j4 j5 j6 j7 k0 k1 k2 k3 k4 k5 k6 k7
    go_enter Tryz.func12, Tryz.ntmps12
    go_wp2_with fail
    refine IB.out.mono ?_
    rintro en wi ⟨rfl, rfl⟩
    go_wp2_with fail
    refine CB.out.mono ?_
    intro en w1 hpost
    have hT := (by rw [HTE.out]; exact tk_of_tb hpost : TkPost B P X (takeC s l) _ en w1)
    clear hpost
    generalize hr : takeC s l = rr at *
    obtain ⟨s', ev, n, er⟩ := rr
    clear hr
    have HT := Lib.hid hT
    obtain ⟨q, p, d, X', he, _, _, hO, hq, hp, hd, _⟩ := hT
    subst he
    obtain ⟨qa, qc, rfl⟩ := own_slice' hq
    obtain ⟨pa, pc, rfl⟩ := own_slice' hp
    obtain ⟨da, dc, rfl⟩ := hd.isSlice
    have K := eight_only w hO HXw.out
    have j0 : w1.cell? ⟨w.heap.size, 0, none⟩ = some (.int .i64 0) := (K 0).1
    have k0 := (K 0).2
    have j1 : w1.cell? ⟨w.heap.size, 1, none⟩ = some (.string ⟨#[]⟩) := (K 1).1
    have k1 := (K 1).2
    have j2 : w1.cell? ⟨w.heap.size, 2, none⟩ = some (.string ⟨#[]⟩) := (K 2).1
    have k2 := (K 2).2
    have j3 : w1.cell? ⟨w.heap.size, 3, none⟩ = some (noV) := (K 3).1
    have k3 := (K 3).2
    have j4 : w1.cell? ⟨w.heap.size, 4, none⟩ = some (.int .i64 0) := (K 4).1
    have k4 := (K 4).2
    have j5 : w1.cell? ⟨w.heap.size, 5, none⟩ = some (noV) := (K 5).1
    have k5 := (K 5).2
    have j6 : w1.cell? ⟨w.heap.size, 6, none⟩ = some (noV) := (K 6).1
    have k6 := (K 6).2
    have j7 : w1.cell? ⟨w.heap.size, 7, none⟩ = some (noV) := (K 7).1
    have k7 := (K 7).2
    clear K hO hq hp hd CB IB HTE
    go_wp2_with fail
    (try simp only [Exit.inBlock, Exit.then])
    refine bodyPost_ret (v := .tuple #[evV ev (.slice qa ev.q.2.2.length qc) (.slice pa ev.p.2.length pc) (.slice da ev.d.length dc) noV, .int .i64 (n : Int), errV er]) (by simp (maxDischargeDepth := 9) [results, Tryz.results12, go_sem, strB, j0, j1, j2, j3, j4, j5, j6, j7]) rfl ?_
    exact tk_up HT.out HXw.out (only8 _ _ _ _ _ _ _ _ _ _)
end Go.Proofs.YtfmgfcddnnggeaaGreatDoor

/- A list of events that a call of Write or Close makes. -/
namespace Go.Proofs.YtfmgfcddnnggeaaGreatDoor
open Go.RowKit

theorem ReadsQ.only {w w' : World} {v : Value} {ps : Flds} {X : Nat → Prop} (h : ReadsQ w v ps) (hO : Only X w w') (hv : ∀ k, v.ownBlock = some k → ¬ X k) : ReadsQ w' v ps := by
  obtain ⟨ao, cap, rfl, hc⟩ := h
  refine ⟨ao, cap, rfl, fun j p hj => ?_⟩
  obtain ⟨g, off, ha, hg, h1, h2⟩ := hc j p hj
  subst ha
  have hx : ¬ X g := hv g rfl
  exact ⟨g, off, rfl, Nat.lt_of_lt_of_le hg hO.size, (hO.cell (p := ⟨g, off + j * 2, none⟩) hg hx).trans h1, (hO.cell (p := ⟨g, off + j * 2 + 1, none⟩) hg hx).trans h2⟩
/-- The eight cells of an event, with slices q, p, d, t. -/
abbrev evC (e : Ev) (q p d t : Value) : List Value := [.int .i64 (e.k : Int), .string (strB e.q.1), .string (strB e.q.2.1), q, .int .i64 (e.p.1 : Int), p, d, t]
/-- The cells x are an event's; what its slices hold lies in blocks of Y. -/
def EvR (Y : Nat → Prop) (w : World) (e : Ev) (x : List Value) : Prop :=
  ∃ q p d t, x = evC e q p d t ∧ ReadsQ w q e.q.2.2 ∧ ReadsQ w p e.p.2 ∧ ReadsD w d e.d ∧ ReadsQ w t e.t ∧ (∀ k, q.ownBlock = some k ∨ p.ownBlock = some k ∨ d.ownBlock = some k ∨ t.ownBlock = some k → Y k)
theorem EvR.only {Y X : Nat → Prop} {w w' : World} {e : Ev} {x : List Value} (h : EvR Y w e x) (hO : Only X w w') (hY : ∀ k, Y k → ¬ X k) : EvR Y w' e x := by
  obtain ⟨q, p, d, t, hx, h1, h2, h3, h4, hy⟩ := h
  exact ⟨q, p, d, t, hx, h1.only hO (fun k hk => hY k (hy k (.inl hk))), h2.only hO (fun k hk => hY k (hy k (.inr (.inl hk)))), h3.only hO (fun k hk => hY k (hy k (.inr (.inr (.inl hk))))), h4.only hO (fun k hk => hY k (hy k (.inr (.inr (.inr hk))))), hy⟩
theorem EvR.mono {Y Z : Nat → Prop} {w : World} {e : Ev} {x : List Value} (h : EvR Y w e x) (hY : ∀ k, Y k → Z k) : EvR Z w e x := by
  obtain ⟨q, p, d, t, hx, h1, h2, h3, h4, hy⟩ := h
  exact ⟨q, p, d, t, hx, h1, h2, h3, h4, fun k hk => hY k (hy k hk)⟩
/-- The value v is a list of events that the call has made; what they hold lies in blocks of Y. -/
def OwnsE (B : Nat) (Y : Nat → Prop) (w : World) (v : Value) (es : List Ev) : Prop :=
  ∃ xs : List (List Value), w.ownsRow B 42 8 v es.length xs.flatten ∧ xs.length = es.length ∧ (∀ (i : Nat) (x : List Value) (e : Ev), xs[i]? = some x → es[i]? = some e → EvR Y w e x) ∧ (∀ k, v.ownBlock = some k → ¬ Y k) ∧ ∀ k, Y k → k < w.heap.size
theorem OwnsE.nil (B : Nat) (w : World) : OwnsE B (fun _ => False) w (.slice none 0 0) [] :=
  ⟨[], World.ownsRow_nil _ _ _ _, rfl, fun i x e h => (by simp at h), fun _ _ h => h, fun _ h => False.elim h⟩
theorem OwnsE.only {B : Nat} {Y X : Nat → Prop} {w w' : World} {v : Value} {es : List Ev} (h : OwnsE B Y w v es) (hO : Only X w w') (hY : ∀ k, Y k → ¬ X k) (hv : ∀ k, v.ownBlock = some k → ¬ X k) : OwnsE B Y w' v es := by
  obtain ⟨xs, h1, h2, h3, h4, h5⟩ := h
  exact ⟨xs, hO.owns h1 hv, h2, fun i x e hx he => (h3 i x e hx he).only hO hY, h4, fun k hk => Nat.lt_of_lt_of_le (h5 k hk) hO.size⟩
/-- One event more: the row is appended to; the new event's slices lie in blocks of Z. -/
theorem OwnsE.snoc {B : Nat} {Y Z : Nat → Prop} {w w' : World} {v v' : Value} {es : List Ev} {e : Ev} {x : List Value} {xs : List (List Value)} (h2 : xs.length = es.length) (h3 : ∀ (i : Nat) (x : List Value) (e : Ev), xs[i]? = some x → es[i]? = some e → EvR Y w e x) (h4 : ∀ k, v.ownBlock = some k → ¬ Y k) (h5 : ∀ k, Y k → k < w.heap.size) (hx : EvR Z w e x) (hZ : ∀ k, Z k → k < w.heap.size ∧ v.ownBlock ≠ some k)
    (hrow : w'.ownsRow B 42 8 v' (es.length + 1) (xs.flatten ++ x)) (hg : w.grownBy w' v.ownBlock) (hat : v'.ownBlock = v.ownBlock ∨ v'.ownBlock = some w.heap.size) :
    OwnsE B (fun k => Y k ∨ Z k) w' v' (es ++ [e]) := by
  have hO : Only (fun k => v.ownBlock = some k) w w' := Only.grown hg (fun k hk => .inl hk)
  refine ⟨xs ++ [x], ?_, by simp [h2], fun i y f hy hf => ?_, fun k hk hyz => ?_, fun k hk => ?_⟩
  · rw [List.flatten_append, List.flatten_singleton, List.length_append]; exact hrow
  · by_cases hi : i < es.length
    · rw [List.getElem?_append_left (by omega)] at hy
      rw [List.getElem?_append_left hi] at hf
      exact ((h3 i y f hy hf).only hO (fun k hk e => h4 k e hk)).mono (fun k hk => .inl hk)
    · rw [List.getElem?_append_right (by omega)] at hy
      rw [List.getElem?_append_right (by omega)] at hf
      have hi0 : i - es.length = 0 := by
        have := (List.getElem?_eq_some_iff.1 hf).1
        simp at this; omega
      rw [h2] at hy
      rw [hi0] at hy hf
      simp at hy hf
      subst hy hf
      exact (hx.only hO (fun k hk e => (hZ k hk).2 e)).mono (fun k hk => .inr hk)
  · rcases hat with a | a
    · rw [a] at hk
      rcases hyz with b | b
      · exact h4 k hk b
      · exact (hZ k b).2 hk
    · rw [a] at hk
      have hk := Option.some.inj hk
      subst hk
      rcases hyz with b | b
      · exact Nat.lt_irrefl _ (h5 _ b)
      · exact Nat.lt_irrefl _ (hZ _ b).1
  · rcases hk with a | a
    · exact Nat.lt_of_lt_of_le (h5 k a) hO.size
    · exact Nat.lt_of_lt_of_le (hZ k a).1 hO.size
end Go.Proofs.YtfmgfcddnnggeaaGreatDoor

/- An event is appended to a list of events. -/
namespace Go.Proofs.YtfmgfcddnnggeaaGreatDoor
open Go.RowKit

theorem Tryz.infoEv : (Tryz.prog.info? 42).map (fun i => (i.zero, i.size, i.bytes)) = some (some (.agg #[.int .i64 0, .string ByteArray.empty, .string ByteArray.empty, noV, .int .i64 0, noV, noV, noV]), 8, 144) := by kernel_rfl
theorem wpList_appendE {B : Nat} {Y Z : Nat → Prop} {w : World} {ops : Array Oper} {rest : List Oper} {o : Oper} {a : Act} {Q : Exit → Act → World → Prop} (hgd : o.guard = none) (s x : Operand)
    (ho : o.op = .call { callee := .builtin .append, args := #[s, x], argTypes := #[23, 23] }) (v : Value) (hs : a.eval s = v) {es : List Ev} (hown : OwnsE B Y w v es) (g : Nat) (hx : a.eval x = .slice (some ⟨g, 0, none⟩) 1 1)
    {e : Ev} {q p d t : Value} (hc : ∀ j u, (evC e q p d t)[j]? = some u → w.cell? ((⟨g, 0, none⟩ : Addr).add j) = some u) (h1 : ∀ u ∈ evC e q p d t, u.oneCell' = true) (hE : EvR Z w e (evC e q p d t)) (hZ : ∀ k, Z k → k < w.heap.size ∧ v.ownBlock ≠ some k)
    (hn : es.length ≤ 1000000000) (hB : B ≤ w.heap.size)
    (h : ∀ v' w', OwnsE B (fun k => Y k ∨ Z k) w' v' (es ++ [e]) → w.grownBy w' v.ownBlock → (v'.ownBlock = v.ownBlock ∨ v'.ownBlock = some w.heap.size) → wpList Tryz.prog ops Q rest (a.put o.dst v') w') :
    wpList Tryz.prog ops Q (o :: rest) a w := by
  obtain ⟨i0, hi, hz0, hz1, hz2⟩ := info_parts Tryz.infoEv
  obtain ⟨xs, r1, r2, r3, r4, r5⟩ := hown
  refine wpList_plain hgd fun K hK => ?_
  obtain ⟨v', w', hr', hrow, hg, _, hat⟩ := run_append_own_at (P := Tryz.prog) w B 23 o.type 42 i0 _ 8 144 Tryz.underlying23 hi hz0 hz1 hz2 rfl (by decide) v es.length xs.flatten r1 ⟨g, 0, none⟩ 1 1 (evC e q p d t) rfl hc h1 (by unfold maxLen; omega) (by omega) hB
  unfold Oper.wp execOp
  simp only [ho, resolve, invoke, builtin, Sem.run_bind, Sem.run_pure, Result.andThen_ok, List.map_toArray, List.map_cons, List.map_nil, hs, hx, hr']
  exact hK _ _ (h v' w' (OwnsE.snoc r2 r3 r4 r5 hE hZ hrow hg hat) hg hat)
end Go.Proofs.YtfmgfcddnnggeaaGreatDoor
