/- What the reference's Step returns. -/
import Derived.Test.YtikkaakgehaenaaDoorKRefE
namespace Go.Proofs.YtikkaakgehaenaaDoor
open Go.RowKit

theorem four_kept (w : World) {o : Obj} {t : TypeId} {w1 : World} (h : Below ((w.alloc o).alloc (.cells #[.int .i64 0, .int .i64 0, .int .i64 0, .int .i64 0, .int .i64 0, .int .i64 0, .int .i64 0, .string ⟨#[]⟩, .slice none 0 0, .int .i64 0] t)).heap.size ((w.alloc o).alloc (.cells #[.int .i64 0, .int .i64 0, .int .i64 0, .int .i64 0, .int .i64 0, .int .i64 0, .int .i64 0, .string ⟨#[]⟩, .slice none 0 0, .int .i64 0] t)) w1) : Below w.heap.size w w1 :=
  (((Below.refl _ w).alloc (Nat.le_refl _) _).alloc (by simp) _).trans (h.mono (by simp; omega))
/-- Fields that are read do not lie in a state's block. -/
theorem reads_not_box {w wF : World} {b : Nat} {n0 n1 n2 n3 n4 n5 n6 n9 : Int} {s : ByteArray} {a : Option Addr} {x y : Nat} {t : TypeId} {fr : Nat × Nat} {v : Value} {ps : Flds}
    (hh : w.heap[b]? = some (.cells #[.int .i64 n0, .int .i64 n1, .int .i64 n2, .int .i64 n3, .int .i64 n4, .int .i64 n5, .int .i64 n6, .string s, .slice a x y, .int .i64 n9] t fr)) (h : ReadsQ w v ps) (hO : Only (fun k => k = b) w wF) : ReadsQ wF v ps := by
  obtain ⟨ao, c, hv, hc⟩ := h
  refine ⟨ao, c, hv, fun j p hj => ?_⟩
  obtain ⟨g, off, ha, hg, h1, h2⟩ := hc j p hj
  have hne : g ≠ b := by
    rintro rfl
    rw [Lib.cell_of_heap hh] at h1 h2
    generalize off + j * 2 = i at h1 h2
    have hi := (Array.getElem?_eq_some_iff.1 h1).1
    simp at hi
    rcases (show i = 0 ∨ i = 1 ∨ i = 2 ∨ i = 3 ∨ i = 4 ∨ i = 5 ∨ i = 6 ∨ i = 7 ∨ i = 8 ∨ i = 9 by omega) with r | r | r | r | r | r | r | r | r | r <;> subst r <;> simp at h1 h2
  exact ⟨g, off, ha, Nat.lt_of_lt_of_le hg hO.size, (hO.cell (p := ⟨g, _, none⟩) hg hne).trans h1, (hO.cell (p := ⟨g, _, none⟩) hg hne).trans h2⟩
theorem only_ten (W : World) (b : Nat) (a0 a1 a2 a3 a4 a5 a6 a7 a8 a9 : Value) : Only (fun k => k = b) W ((((((((((W.setCell ⟨b, 0, none⟩ a0).setCell ⟨b, 1, none⟩ a1).setCell ⟨b, 2, none⟩ a2).setCell ⟨b, 3, none⟩ a3).setCell ⟨b, 4, none⟩ a4).setCell ⟨b, 5, none⟩ a5).setCell ⟨b, 6, none⟩ a6).setCell ⟨b, 7, none⟩ a7).setCell ⟨b, 8, none⟩ a8).setCell ⟨b, 9, none⟩ a9) :=
  ((((((((((Only.set (X := fun k => k = b) (b := b) rfl _ _ _).trans' (Only.set (X := fun k => k = b) (b := b) rfl _ _ _)).trans' (Only.set (X := fun k => k = b) (b := b) rfl _ _ _)).trans' (Only.set (X := fun k => k = b) (b := b) rfl _ _ _)).trans' (Only.set (X := fun k => k = b) (b := b) rfl _ _ _)).trans' (Only.set (X := fun k => k = b) (b := b) rfl _ _ _)).trans' (Only.set (X := fun k => k = b) (b := b) rfl _ _ _)).trans' (Only.set (X := fun k => k = b) (b := b) rfl _ _ _)).trans' (Only.set (X := fun k => k = b) (b := b) rfl _ _ _)).trans' (Only.set (X := fun k => k = b) (b := b) rfl _ _ _))
theorem ended_step {fv : Value} {q : Rs} {w w1 wF : World} {o : Obj} {t : TypeId} {ga : Option Addr} {gn gc : Nat} (hB : Below ((w.alloc o).alloc (.cells #[.int .i64 0, .int .i64 0, .int .i64 0, .int .i64 0, .int .i64 0, .int .i64 0, .int .i64 0, .string ⟨#[]⟩, .slice none 0 0, .int .i64 0] t)).heap.size ((w.alloc o).alloc (.cells #[.int .i64 0, .int .i64 0, .int .i64 0, .int .i64 0, .int .i64 0, .int .i64 0, .int .i64 0, .string ⟨#[]⟩, .slice none 0 0, .int .i64 0] t)) w1)
    (hR : ReadsQ w1 (.slice ga gn gc) q.fs) (hS : Sane (.slice ga gn gc)) (hsep : ∀ j, (Value.slice ga gn gc).ownBlock = some j → fv.ownBlock = some j ∨ (((w.alloc o).alloc (.cells #[.int .i64 0, .int .i64 0, .int .i64 0, .int .i64 0, .int .i64 0, .int .i64 0, .int .i64 0, .string ⟨#[]⟩, .slice none 0 0, .int .i64 0] t)).heap.size ≤ j ∧ j < w1.heap.size)) (hF : Only (fun k => k = w.heap.size + 1) w1 wF) : StPost fv q w (.returned (stV q (.slice ga gn gc))) wF := by
  have hh : w1.heap[w.heap.size + 1]? = some (.cells #[.int .i64 0, .int .i64 0, .int .i64 0, .int .i64 0, .int .i64 0, .int .i64 0, .int .i64 0, .string ⟨#[]⟩, .slice none 0 0, .int .i64 0] t (0, 0)) := by
    rw [hB.block _ (by simp)]
    have := heap_alloc_new (w.alloc o) (.cells #[.int .i64 0, .int .i64 0, .int .i64 0, .int .i64 0, .int .i64 0, .int .i64 0, .int .i64 0, .string ⟨#[]⟩, .slice none 0 0, .int .i64 0] t)
    rwa [show (w.alloc o).heap.size = w.heap.size + 1 by simp] at this
  exact ⟨ga, gn, gc, rfl, reads_not_box hh hR hF, hS, fun j hj => (hsep j hj).imp (fun h => h) (fun h => ⟨by have := h.1; simp at this; omega, Nat.lt_of_lt_of_le h.2 hF.size⟩), (four_kept w hB).trans (hF.to (fun k hk => by omega) (by have := hB.size; simp at this; omega))⟩
set_option maxHeartbeats 8000000 in
set_option maxRecDepth 100000 in
theorem step_any (r : Rs) (fa : Option Addr) (fn fc : Nat) (c : UInt8) (w : World) (h : RsOk r) (h8 : r.p ≠ 8) (hr : ReadsQ w (.slice fa fn fc) r.fs) (hs : Sane (.slice fa fn fc)) :
    Calls Tryd.prog 47 #[stV r (.slice fa fn fc), .int .u8 (c.toNat : Int)] w (StPost (.slice fa fn fc) (stepR r c) w) := by
  have b1 := h.p
  have b2 := h.lf
  have b3 := h.tt
  have HR := Lib.hid hr
  have HS := Lib.hid hs
  have H := Lib.hid h
  have BAD := Lib.hid (fun W => badK_any r fa fn fc 33 W)
  by_cases q0 : r.p = 0 ∨ r.p = 1
  · have e1 : stepR r c = sizedR r c := by unfold stepR; rw [if_pos q0]
    rw [e1]
    have SZ := Lib.hid (fun W => sized_any r fa fn fc c W h)
    have Z : ((r.p : Int) == 0) = true ∨ (((r.p : Int) == 0) = false ∧ ((r.p : Int) == 1) = true) := by
      rcases q0 with q | q
      · exact .inl (intK_eq (b := 0) q)
      · exact .inr ⟨intK_ne (b := 0) (by omega), intK_eq (b := 1) q⟩
    have hfs : (sizedR r c).fs = r.fs := by
      unfold sizedR
      (repeat' split) <;> rfl
    have HF := Lib.hid hfs
    clear e1 q0 hr hs h h8 hfs
    rcases Z with z1 | ⟨z1, z2⟩
    all_goals
      go_enter Tryd.func47, Tryd.ntmps47
      go_wp2_with fail
      refine (SZ.out _).mono ?_
      rintro e w1 ⟨rfl, hB⟩
      obtain ⟨c0, f0, c1, f1, c2, f2, c3, f3, c4, f4, c5, f5, c6, f6, c7, f7, c8, f8, c9, f9⟩ := ten_kept w hB
      have HB := Lib.hid (four_kept w hB)
      clear hB
      generalize hq : sizedR r c = q at *
      go_wp2_with fail
      refine bodyPost_ret (v := stV q (.slice fa fn fc)) (by simp [results, Tryd.results47, go_sem, c0, c1, c2, c3, c4, c5, c6, c7, c8, c9]) rfl ?_
      exact .same HR.out HS.out rfl HF.out (below_ten HB.out _ _ _ _ _ _ _ _ _ _)
  · have z0 : ((r.p : Int) == 0) = false := intK_ne (b := 0) (fun e => q0 (.inl e))
    have z1 : ((r.p : Int) == 1) = false := intK_ne (b := 1) (fun e => q0 (.inr e))
    have e0 : stepR r c = if r.p = 2 then (if c.toNat ≠ 10 then badR r 33 else { r with p := if r.n = 0 then 6 else 3, lf := r.n })
      else if r.p = 3 then { r with lf := r.lf - 1, tt := r.tt + 1, p := if r.lf - 1 = 0 then 4 else 3 }
      else if r.p = 4 then (if c.toNat ≠ 13 then badR r 33 else { r with p := 5 })
      else if r.p = 5 then (if c.toNat ≠ 10 then badR r 33 else { r with p := 0, d := 0, n := 0, ln := 0 })
      else endedR r c := by unfold stepR; rw [if_neg q0]
    rw [e0]
    clear e0 q0
    by_cases q2 : r.p = 2
    · rw [if_pos q2]
      have z2 : ((r.p : Int) == 2) = true := intK_eq (b := 2) q2
      by_cases q10 : c.toNat = 10
      · rw [if_neg (by simp [q10])]
        have y : ((c.toNat : Int) != 10) = false := by rw [q10]; rfl
        by_cases qn : r.n = 0
        · rw [if_pos qn]
          have y2 : ((r.n : Int) == 0) = true := intK_eq (b := 0) qn
          clear q2 q10 qn hr hs h h8
          go_enter Tryd.func47, Tryd.ntmps47
          go_wp2_with fail
          refine bodyPost_ret (v := stV { r with p := 6, lf := r.n } (.slice fa fn fc)) (by simp [results, Tryd.results47, go_sem]) rfl ?_
          exact .same HR.out HS.out rfl rfl (((Below.refl _ _).alloc (Nat.le_refl _) _).alloc (by simp) _)
        · rw [if_neg qn]
          have y2 : ((r.n : Int) == 0) = false := intK_ne (b := 0) qn
          clear q2 q10 qn hr hs h h8
          go_enter Tryd.func47, Tryd.ntmps47
          go_wp2_with fail
          refine bodyPost_ret (v := stV { r with p := 3, lf := r.n } (.slice fa fn fc)) (by simp [results, Tryd.results47, go_sem]) rfl ?_
          exact .same HR.out HS.out rfl rfl (((Below.refl _ _).alloc (Nat.le_refl _) _).alloc (by simp) _)
      · rw [if_pos q10]
        have y : ((c.toNat : Int) != 10) = true := by simp; omega
        clear q2 q10 hr hs h h8
        go_enter Tryd.func47, Tryd.ntmps47
        go_wp2_with fail
        refine (BAD.out _).mono ?_
        rintro e w1 ⟨rfl, hB⟩
        obtain ⟨c0, f0, c1, f1, c2, f2, c3, f3, c4, f4, c5, f5, c6, f6, c7, f7, c8, f8, c9, f9⟩ := ten_kept w hB
        have HB := Lib.hid (four_kept w hB)
        clear hB
        go_wp2_with fail
        refine bodyPost_ret (v := stV (badR r 33) (.slice fa fn fc)) (by simp [results, Tryd.results47, go_sem, badR, c0, c1, c2, c3, c4, c5, c6, c7, c8, c9]) rfl ?_
        exact .same HR.out HS.out rfl rfl (below_ten HB.out _ _ _ _ _ _ _ _ _ _)
    · rw [if_neg q2]
      have z2 : ((r.p : Int) == 2) = false := intK_ne (b := 2) q2
      by_cases q3 : r.p = 3
      · rw [if_pos q3]
        have z3 : ((r.p : Int) == 3) = true := intK_eq (b := 3) q3
        obtain ⟨l1, l2⟩ := h.l3 q3
        have hsub : ((r.lf - 1 : Nat) : Int) = (r.lf : Int) - 1 := by omega
        have HSub := Lib.hid hsub
        by_cases ql : r.lf - 1 = 0
        · rw [if_pos ql]
          have y2 : ((r.lf : Int) - 1 == 0) = true := by rw [← hsub, ql]; rfl
          clear q2 q3 ql hr hs h h8 hsub
          go_enter Tryd.func47, Tryd.ntmps47
          go_wp2_with fail
          refine bodyPost_ret (v := stV { r with lf := r.lf - 1, tt := r.tt + 1, p := 4 } (.slice fa fn fc)) (by simp [results, Tryd.results47, go_sem, HSub.out]) rfl ?_
          exact .same HR.out HS.out rfl rfl (((Below.refl _ _).alloc (Nat.le_refl _) _).alloc (by simp) _)
        · rw [if_neg ql]
          have y2 : ((r.lf : Int) - 1 == 0) = false := by rw [beq_eq_false_iff_ne]; omega
          clear q2 ql hr hs h h8 hsub
          go_enter Tryd.func47, Tryd.ntmps47
          go_wp2_with fail
          refine bodyPost_ret (v := stV { r with lf := r.lf - 1, tt := r.tt + 1, p := 3 } (.slice fa fn fc)) (by simp [results, Tryd.results47, go_sem, HSub.out, q3]) rfl ?_
          exact .same HR.out HS.out rfl rfl (((Below.refl _ _).alloc (Nat.le_refl _) _).alloc (by simp) _)
      · rw [if_neg q3]
        have z3 : ((r.p : Int) == 3) = false := intK_ne (b := 3) q3
        by_cases q4 : r.p = 4
        · rw [if_pos q4]
          have z4 : ((r.p : Int) == 4) = true := intK_eq (b := 4) q4
          by_cases q13 : c.toNat = 13
          · rw [if_neg (by simp [q13])]
            have y : ((c.toNat : Int) != 13) = false := by rw [q13]; rfl
            clear q2 q3 q4 q13 hr hs h h8
            go_enter Tryd.func47, Tryd.ntmps47
            go_wp2_with fail
            refine bodyPost_ret (v := stV { r with p := 5 } (.slice fa fn fc)) (by simp [results, Tryd.results47, go_sem]) rfl ?_
            exact .same HR.out HS.out rfl rfl (((Below.refl _ _).alloc (Nat.le_refl _) _).alloc (by simp) _)
          · rw [if_pos q13]
            have y : ((c.toNat : Int) != 13) = true := by simp; omega
            clear q2 q3 q4 q13 hr hs h h8
            go_enter Tryd.func47, Tryd.ntmps47
            go_wp2_with fail
            refine (BAD.out _).mono ?_
            rintro e w1 ⟨rfl, hB⟩
            obtain ⟨c0, f0, c1, f1, c2, f2, c3, f3, c4, f4, c5, f5, c6, f6, c7, f7, c8, f8, c9, f9⟩ := ten_kept w hB
            have HB := Lib.hid (four_kept w hB)
            clear hB
            go_wp2_with fail
            refine bodyPost_ret (v := stV (badR r 33) (.slice fa fn fc)) (by simp [results, Tryd.results47, go_sem, badR, c0, c1, c2, c3, c4, c5, c6, c7, c8, c9]) rfl ?_
            exact .same HR.out HS.out rfl rfl (below_ten HB.out _ _ _ _ _ _ _ _ _ _)
        · rw [if_neg q4]
          have z4 : ((r.p : Int) == 4) = false := intK_ne (b := 4) q4
          by_cases q5 : r.p = 5
          · rw [if_pos q5]
            have z5 : ((r.p : Int) == 5) = true := intK_eq (b := 5) q5
            by_cases q10 : c.toNat = 10
            · rw [if_neg (by simp [q10])]
              have y : ((c.toNat : Int) != 10) = false := by rw [q10]; rfl
              clear q2 q3 q4 q5 q10 hr hs h h8
              go_enter Tryd.func47, Tryd.ntmps47
              go_wp2_with fail
              refine bodyPost_ret (v := stV { r with p := 0, d := 0, n := 0, ln := 0 } (.slice fa fn fc)) (by simp [results, Tryd.results47, go_sem]) rfl ?_
              exact .same HR.out HS.out rfl rfl (((Below.refl _ _).alloc (Nat.le_refl _) _).alloc (by simp) _)
            · rw [if_pos q10]
              have y : ((c.toNat : Int) != 10) = true := by simp; omega
              clear q2 q3 q4 q5 q10 hr hs h h8
              go_enter Tryd.func47, Tryd.ntmps47
              go_wp2_with fail
              refine (BAD.out _).mono ?_
              rintro e w1 ⟨rfl, hB⟩
              obtain ⟨c0, f0, c1, f1, c2, f2, c3, f3, c4, f4, c5, f5, c6, f6, c7, f7, c8, f8, c9, f9⟩ := ten_kept w hB
              have HB := Lib.hid (four_kept w hB)
              clear hB
              go_wp2_with fail
              refine bodyPost_ret (v := stV (badR r 33) (.slice fa fn fc)) (by simp [results, Tryd.results47, go_sem, badR, c0, c1, c2, c3, c4, c5, c6, c7, c8, c9]) rfl ?_
              exact .same HR.out HS.out rfl rfl (below_ten HB.out _ _ _ _ _ _ _ _ _ _)
          · rw [if_neg q5]
            have z5 : ((r.p : Int) == 5) = false := intK_ne (b := 5) q5
            have EN := Lib.hid (fun W (hr : ReadsQ W (.slice fa fn fc) r.fs) => ended_any r fa fn fc c W h hr hs)
            clear q2 q3 q4 q5 hr hs h h8
            go_enter Tryd.func47, Tryd.ntmps47
            go_wp2_with fail
            refine (EN.out _ (HR.out.below (((Below.refl _ _).alloc (Nat.le_refl _) _).alloc (by simp) _))).mono ?_
            rintro e w1 ⟨ga, gn, gc, rfl, hR, hS, hsep, hB⟩
            obtain ⟨c0, f0, c1, f1, c2, f2, c3, f3, c4, f4, c5, f5, c6, f6, c7, f7, c8, f8, c9, f9⟩ := ten_kept w hB
            have HB := Lib.hid hB
            have HR2 := Lib.hid hR
            have HSEP := Lib.hid hsep
            have HS2 := Lib.hid hS
            have hlt : w.heap.size + 1 < w1.heap.size := by have := hB.size; simp at this; omega
            clear hB hR hS hsep
            generalize endedR r c = q at *
            go_wp2_with fail
            refine bodyPost_ret (v := stV q (.slice ga gn gc)) (by simp [results, Tryd.results47, go_sem, c0, c1, c2, c3, c4, c5, c6, c7, c8, c9]) rfl ?_
            have h := fun wF hF => ended_step (wF := wF) HB.out HR2.out HS2.out HSEP.out hF
            exact h _ (only_ten _ _ _ _ _ _ _ _ _ _ _ _)
end Go.Proofs.YtikkaakgehaenaaDoor
