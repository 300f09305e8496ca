/- What takeTrailer and take return: every byte that is no data. -/
import Derived.Test.YthlfhbhjiofneaaDoorKTrl
namespace Go.Proofs.YthlfhbhjiofneaaDoor
open Go.RowKit

theorem cell_one_at (W : World) (m : Nat) (hm : m = W.heap.size) (x : Value) (t : TypeId) : ∀ j u, [x][j]? = some u → (W.alloc (.cells #[x] t)).cell? ((⟨m, 0, none⟩ : Addr).add j) = some u := by
  subst hm; exact cell_one_new W x t
/-- MaxLen is an int, in a block that lies below B. -/
def MaxB (B : Nat) (w : World) : Prop := HasMax w ∧ 3 < B
theorem MaxB.to {B : Nat} {w w' : World} (h : MaxB B w) (hb : Below B w w') : MaxB B w' := by
  obtain ⟨⟨m, hm⟩, hg⟩ := h
  exact ⟨⟨m, (hb.cell (p := ⟨3, 0, none⟩) hg).trans hm⟩, hg⟩
theorem MaxB.of {w : World} (h : HasMax w) : MaxB w.heap.size w := by
  obtain ⟨m, hm⟩ := h
  exact ⟨⟨m, hm⟩, World.block_lt_of_cell? _ _ hm⟩
theorem Dec.base {B P : Nat} {X : Nat → Prop} {s : Dc} {w : World} (h : Dec B P X s w) : B ≤ P ∧ B ≤ w.heap.size := by
  have h' := h.lt
  have := h'.2.2 P h'.2.1
  exact ⟨this.1, by omega⟩
theorem MaxB.only {B P : Nat} {X : Nat → Prop} {s : Dc} {w w' : World} (h : MaxB B w) (hd : Dec B P X s w) (hO : Only X w w') : MaxB B w' :=
  h.to (hO.to (fun k hk => (hd.lt.2.2 k hk).1) hd.base.2)
/-- The decoder's line's cell behind an append to its line. -/
theorem cells_grownL {B P : Nat} {X : Nat → Prop} {s : Dc} {lv tv : Value} {w w1 w5 : World} (h : DecP B P X s lv tv w) (hb : Below w.heap.size w w1) (hg : w1.grownBy w5 lv.ownBlock) :
    w5.cell? ⟨P, 5, none⟩ = some lv ∧ w5.frozen? ⟨P, 5, none⟩ = false := by
  have h' := h.below hb
  obtain ⟨h1, h2, h3, h4, h5, h6, h7⟩ := h'
  have b1 := (hg.block P (h7 P h4).2 (fun e => ownBlock_other h2 h1 (by decide) e.symm)).trans h1
  obtain ⟨_, _, _, _, _, c5, _, hf⟩ := dec_cells b1
  exact ⟨c5, hf 5⟩
set_option maxHeartbeats 8000000 in
set_option maxRecDepth 100000 in
theorem takeTrailer_any {B P : Nat} {X : Nat → Prop} {s : Dc} (c : UInt8) (w : World) (h : Dec B P X s w) (hM : MaxB B w) (hok : s.Ok) (_h67 : s.pl = 6 ∨ s.pl = 7) :
    Calls Tryd.prog 47 #[.pointer (some ⟨P, 0, none⟩), .int .u8 (c.toNat : Int)] w (StepPost B P X (trlS s c) w) := by
  obtain ⟨hx, HD, lv, tv, c0, _, _, _, c4, c5, _, hf⟩ := dec_open h
  have f0 := hf 0
  have f4 := hf 4
  have f5 := hf 5
  have h5 := hok.b5
  have hl := hok.line_le
  have ht := hok.b8
  have hBw := h.base.2
  have HM := Lib.hid hM
  clear hf hok hM
  by_cases hA : s.len = 8192 ∨ c.toNat = 0 ∨ ((decide (c.toNat = 10)) != decide (s.pl = 7)) = true
  · have e1 : trlS s c = (34, s) := by unfold trlS; rw [if_pos hA]
    rw [e1]
    clear e1 h
    have hq3 : ((c.toNat : Int) == 10) = decide (c.toNat = 10) := by
      by_cases h : c.toNat = 10 <;> simp [h] <;> omega
    have hq4 : ((s.pl : Int) == 7) = decide (s.pl = 7) := by
      by_cases h : s.pl = 7 <;> simp [h] <;> omega
    by_cases h1 : s.len = 8192
    · have hq1 : ((s.len : Int) == 8192) = true := by simp [h1] <;> rfl
      clear hA h1 hq3
      go_enter Tryd.func47, Tryd.ntmps47
      go_wp2_with fail
      go_ret
      exact ⟨rfl, .refl HD.out⟩
    · have hq1 : ((s.len : Int) == 8192) = false := by simp; omega
      by_cases h2 : c.toNat = 0
      · have hq2 : ((c.toNat : Int) == 0) = true := by simp [h2]
        clear hA h1 h2 hq3
        go_enter Tryd.func47, Tryd.ntmps47
        go_wp2_with fail
        go_ret
        exact ⟨rfl, .refl HD.out⟩
      · have hq2 : ((c.toNat : Int) == 0) = false := by simp; omega
        have hA' : ((decide (c.toNat = 10)) != decide (s.pl = 7)) = true := by
          rcases hA with h | h | h
          · exact absurd h h1
          · exact absurd h h2
          · exact h
        clear hA h1 h2
        by_cases h10 : c.toNat = 10
        · rw [decide_eq_true h10] at hq3
          have h7 : s.pl ≠ 7 := by
            intro h
            rw [decide_eq_true h10, decide_eq_true h] at hA'; cases hA'
          rw [decide_eq_false h7] at hq4
          clear h7 h10 hA'
          go_enter Tryd.func47, Tryd.ntmps47
          go_wp2_with fail
          go_ret
          exact ⟨rfl, .refl HD.out⟩
        · rw [decide_eq_false h10] at hq3
          have h7 : s.pl = 7 := by
            by_cases h : s.pl = 7
            · exact h
            · rw [decide_eq_false h10, decide_eq_false h] at hA'; cases hA'
          rw [decide_eq_true h7] at hq4
          clear h7 h10 hA'
          go_enter Tryd.func47, Tryd.ntmps47
          go_wp2_with fail
          go_ret
          exact ⟨rfl, .refl HD.out⟩
  · have g1 : s.len ≠ 8192 := fun e => hA (.inl e)
    have g2 : c.toNat ≠ 0 := fun e => hA (.inr (.inl e))
    have g3 : ((decide (c.toNat = 10)) != decide (s.pl = 7)) = false := by rw [Bool.eq_false_iff]; exact fun e => hA (.inr (.inr e))
    have E1 : trlS s c = if c.toNat = 10 then lineS { s with len := s.len + 1 } else if c.toNat = 13 then (0, { s with len := s.len + 1, pl := 7 }) else (0, { s with len := s.len + 1, line := s.line ++ [c] }) := by unfold trlS; rw [if_neg hA]
    have hq1 : ((s.len : Int) == 8192) = false := by simp; omega
    have hq2 : ((c.toNat : Int) == 0) = false := by simp; omega
    have hL := dec_len (n := s.len + 1) (z := (s.len : Int) + 1) h (by omega)
    have HS := Lib.hid (Only.set hx w 4 (.int .i64 ((s.len : Int) + 1)))
    clear hA g2
    by_cases h10 : c.toNat = 10
    · rw [if_pos h10] at E1
      have h7 : s.pl = 7 := by
        rw [decide_eq_true h10] at g3
        by_cases h : s.pl = 7
        · exact h
        · rw [decide_eq_false h] at g3; cases g3
      have hq3 : ((c.toNat : Int) == 10) = true := by simp [h10] <;> rfl
      have hq4 : ((s.pl : Int) == 7) = true := by simp [h7] <;> rfl
      have HE := Lib.hid (endTrailer_any _ hL (by simp; exact hBw) (HM.out.only h HS.out).1 (by show s.line.length ≤ 8193; omega) ht)
      rw [← E1] at HE
      clear E1 g1 g3 h10 h7 h hL
      go_enter Tryd.func47, Tryd.ntmps47
      go_wp2_with fail
      refine HE.out.mono ?_
      rintro e w' hp
      have hp := hp.from HS.out
      obtain ⟨rfl, hT⟩ := hp
      go_wp2_with fail
      go_ret
      exact ⟨rfl, hT⟩
    · rw [if_neg h10] at E1
      have h7 : s.pl ≠ 7 := by
        intro h
        rw [decide_eq_false h10, decide_eq_true h] at g3; cases g3
      have hq3 : ((c.toNat : Int) == 10) = false := by simp; omega
      have hq4 : ((s.pl : Int) == 7) = false := by simp; omega
      by_cases h13 : c.toNat = 13
      · rw [if_pos h13] at E1
        rw [E1]
        have hq5 : ((c.toNat : Int) == 13) = true := by simp [h13] <;> rfl
        clear E1 g1 g3 h10 h7 h hL h13
        go_enter Tryd.func47, Tryd.ntmps47
        go_wp2_with fail
        go_ret
        exact ⟨rfl, .same (dec_pl (n := 7) (z := 7) (dec_len (n := s.len + 1) (z := (s.len : Int) + 1) HD.out (by omega)) rfl) ((Only.set hx _ _ _).trans' (Only.set hx _ _ _))⟩
      · rw [if_neg h13] at E1
        rw [E1]
        have hq5 : ((c.toNat : Int) == 13) = false := by simp; omega
        obtain ⟨lv, tv, hp⟩ := hL.parts
        have HP := Lib.hid hp
        obtain ⟨_, _, _, _, d4, d5, _, df⟩ := dec_cells hp.1
        have e4 := df 4
        have e5 := df 5
        obtain ⟨i0, hi, hz0, hz1, hz2⟩ := info_parts Tryd.infoB
        have hb' : Below (w.setCell ⟨P, 4, none⟩ (.int .i64 ((s.len : Int) + 1))).heap.size (w.setCell ⟨P, 4, none⟩ (.int .i64 ((s.len : Int) + 1))) ((w.setCell ⟨P, 4, none⟩ (.int .i64 ((s.len : Int) + 1))).alloc (.cells #[.int .u8 (c.toNat : Int)] 5)) := below_new _ _
        have HB := Lib.hid hb'
        clear E1 g1 g3 h10 h7 h hL h13 hp hb' df c5 f5
        go_enter Tryd.func47, Tryd.ntmps47
        go_wp2_with (at_builtin; refine wpList_append_own_at _ rfl _ _ 27 rfl B 5 i0 (.int .u8 0) 1 1 Tryd.underlying27 hi hz0 hz1 hz2 rfl (by decide) _ _ _ rfl (HP.out.below HB.out).2.1 ⟨w.heap.size, 0, none⟩ 1 1 [.int .u8 (c.toNat : Int)] rfl rfl (cell_one_at _ _ (by simp) _ _) (fun u hu => by simp at hu; subst hu; rfl) (by show s.line.length + 1 ≤ _; unfold maxLen; omega) (by show (s.line.length + 1) * 1 ≤ _; omega) (by simp; omega) ?_; intro v' w2 hown hgrow _ hat; obtain ⟨va, vc, rfl⟩ := OwnB.isSlice (own_appB (m := [c]) hown); obtain ⟨r5, q5⟩ := cells_grownL HP.out HB.out hgrow)
        go_ret
        exact ⟨rfl, .trans HS.out (dec_newline (l' := s.line ++ [c]) HP.out HB.out hgrow (by have h' := own_appB (m := [c]) hown; unfold OwnB at h'; rw [List.length_append] at h' ⊢; exact h') (by rw [List.length_append] at hat; exact hat))⟩
/-- A byte that is no data: what take returns. -/
theorem take_any {B P : Nat} {X : Nat → Prop} {s : Dc} (c : UInt8) (w : World) (h : Dec B P X s w) (hM : MaxB B w) (hok : s.Ok) (h3 : s.pl ≠ 3) (h8 : s.pl ≠ 8) :
    Calls Tryd.prog 33 #[.pointer (some ⟨P, 0, none⟩), .int .u8 (c.toNat : Int)] w (StepPost B P X (stepS s c) w) := by
  obtain ⟨hx, HD, lv, tv, c0, _⟩ := dec_open h
  have hlt := hok.b11
  rcases (show s.pl = 0 ∨ s.pl = 1 ∨ s.pl = 2 ∨ s.pl = 4 ∨ s.pl = 5 ∨ s.pl = 6 ∨ s.pl = 7 by omega) with p | p | p | p | p | p | p
  · have e1 : stepS s c = sizeS s c := by unfold stepS; rw [if_pos p]
    have HT := Lib.hid (takeSize_any c w h hok)
    rw [e1]
    rw [p] at c0
    clear e1 h hok hM h3 h8 hlt p
    go_enter Tryd.func33, Tryd.ntmps33
    go_wp2_with fail
    refine HT.out.mono ?_
    rintro e w' ⟨rfl, hT⟩
    go_wp2_with fail
    go_ret
    exact ⟨rfl, hT⟩
  · have e1 : stepS s c = extS s c := by unfold stepS; rw [if_neg (by omega), if_pos p]
    have HT := Lib.hid (takeExt_any c w h hok)
    rw [e1]
    rw [p] at c0
    clear e1 h hok hM h3 h8 hlt p
    go_enter Tryd.func33, Tryd.ntmps33
    go_wp2_with fail
    refine HT.out.mono ?_
    rintro e w' ⟨rfl, hT⟩
    go_wp2_with fail
    go_ret
    exact ⟨rfl, hT⟩
  · have e1 : stepS s c = endS s c := by unfold stepS; rw [if_neg (by omega), if_neg (by omega), if_pos p]
    have HT := Lib.hid (endSize_any c w h)
    rw [e1]
    rw [p] at c0
    clear e1 h hok hM h3 h8 hlt p
    go_enter Tryd.func33, Tryd.ntmps33
    go_wp2_with fail
    refine HT.out.mono ?_
    rintro e w' ⟨rfl, hT⟩
    go_wp2_with fail
    go_ret
    exact ⟨rfl, hT⟩
  · have e1 : stepS s c = expS s c 13 5 := by unfold stepS; rw [if_neg (by omega), if_neg (by omega), if_neg (by omega), if_pos p]
    have HT := Lib.hid (expect_any c 13 5 w h)
    rw [e1]
    rw [p] at c0
    clear e1 h hok hM h3 h8 hlt p
    go_enter Tryd.func33, Tryd.ntmps33
    go_wp2_with fail
    refine HT.out.mono ?_
    rintro e w' ⟨rfl, hT⟩
    go_wp2_with fail
    go_ret
    exact ⟨rfl, hT⟩
  · have e1 : stepS s c = expS s c 10 0 := by unfold stepS; rw [if_neg (by omega), if_neg (by omega), if_neg (by omega), if_neg (by omega), if_pos p]
    have HT := Lib.hid (expect_any c 10 0 w h)
    rw [e1]
    rw [p] at c0
    clear e1 h hok hM h3 h8 hlt p
    go_enter Tryd.func33, Tryd.ntmps33
    go_wp2_with fail
    refine HT.out.mono ?_
    rintro e w' ⟨rfl, hT⟩
    go_wp2_with fail
    go_ret
    exact ⟨rfl, hT⟩
  all_goals
    have e1 : stepS s c = trlS s c := by unfold stepS; rw [if_neg (by omega), if_neg (by omega), if_neg (by omega), if_neg (by omega), if_neg (by omega)]
    have HT := Lib.hid (takeTrailer_any c w h hM hok (by omega))
    rw [e1]
    rw [p] at c0
    clear e1 h hok hM h3 h8 hlt p
    go_enter Tryd.func33, Tryd.ntmps33
    go_wp2_with fail
    refine HT.out.mono ?_
    rintro e w' ⟨rfl, hT⟩
    go_wp2_with fail
    go_ret
    exact ⟨rfl, hT⟩
end Go.Proofs.YthlfhbhjiofneaaDoor
