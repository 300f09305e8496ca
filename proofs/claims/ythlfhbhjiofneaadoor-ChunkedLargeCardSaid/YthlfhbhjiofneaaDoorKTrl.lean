/- What the decoder does with a byte of the trailer section: endTrailer, takeTrailer. -/
import Derived.Test.YthlfhbhjiofneaaDoorKLine
import Derived.Test.YthlfhbhjiofneaaDoorPairs
namespace Go.Proofs.YthlfhbhjiofneaaDoor
open Go.RowKit

theorem Tryd.infoFK : (Tryd.prog.info? 52).map (fun i => (i.zero, i.size, i.bytes)) = some (some (.agg #[.string ByteArray.empty, .string ByteArray.empty]), 2, 32) := by kernel_rfl
/-- A decoder with its parts. -/
def DecP (B P : Nat) (X : Nat → Prop) (s : Dc) (lv tv : Value) (w : World) : Prop :=
  w.heap[P]? = some (.cells #[.int .i64 (s.pl : Int), errV s.er, .int .i64 (s.sz : Int), .int .i64 (s.tot : Int), .int .i64 (s.len : Int), lv, tv] 67 (0, 0)) ∧
    w.ownsRow B 5 1 lv s.line.length (Lib.byteCells s.line) ∧ OwnsP 52 B w tv s.trs ∧ X P ∧ (∀ k, lv.ownBlock = some k → X k) ∧ (∀ k, tv.ownBlock = some k → X k) ∧ (∀ k, X k → B ≤ k ∧ k < w.heap.size)
theorem Dec.parts {B P : Nat} {X : Nat → Prop} {s : Dc} {w : World} (h : Dec B P X s w) : ∃ lv tv, DecP B P X s lv tv w := h
theorem rows_apart {w : World} {B C : Nat} {e T : TypeId} {n m z1 z2 : Nat} {u v : Value} {xs ys : List Value} (h1 : w.ownsRow B e z1 u n xs) (h2 : w.ownsRow C T z2 v m ys) (hT : T ≠ e) : u.ownBlock = none ∨ u.ownBlock ≠ v.ownBlock := by
  rcases h2.2 with ⟨rfl, _⟩ | ⟨g, cap, cur, rfl, _, hg, _⟩
  · cases hu : u.ownBlock <;> simp [Value.ownBlock]
  · exact .inr (ownBlock_other h1 hg hT)
theorem DecP.dec {B P : Nat} {X : Nat → Prop} {s : Dc} {lv tv : Value} {w : World} (h : DecP B P X s lv tv w) : Dec B P X s w := ⟨lv, tv, h⟩
theorem DecP.below {B P : Nat} {X : Nat → Prop} {s : Dc} {lv tv : Value} {w w' : World} (h : DecP B P X s lv tv w) (hb : Below w.heap.size w w') : DecP B P X s lv tv w' := by
  obtain ⟨h1, h2, h3, h4, h5, h6, h7⟩ := h
  have hO := Only.below (X := fun _ => False) hb
  exact ⟨(hb.block P (h7 P h4).2).trans h1, hO.owns h2 (fun _ _ h => h), hO.owns h3 (fun _ _ h => h), h4, h5, h6, fun k hk => ⟨(h7 k hk).1, Nat.lt_of_lt_of_le (h7 k hk).2 hb.size⟩⟩
/-- A new line behind an append. -/
theorem dec_newline {B P : Nat} {X : Nat → Prop} {s : Dc} {lv tv : Value} {w w1 w2 : World} {v' : Value} {l' : List UInt8} (h : DecP B P X s lv tv w) (hb : Below w.heap.size w w1) (hg : w1.grownBy w2 lv.ownBlock)
    (ho : w2.ownsRow B 5 1 v' l'.length (Lib.byteCells l')) (hat : v'.ownBlock = lv.ownBlock ∨ v'.ownBlock = some w1.heap.size) : DecTo B P X { s with line := l' } w (w2.setCell ⟨P, 5, none⟩ v') := by
  obtain ⟨h1, h2, h3, h4, h5, h6, h7⟩ := h
  have hP := (h7 P h4).2
  have hw1 := hb.size
  have a1 := (hb.block P hP).trans h1
  have a2 : w1.ownsRow B 5 1 lv s.line.length (Lib.byteCells s.line) := (Only.below (X := fun _ => False) hb).owns h2 (fun _ _ h => h)
  have a3 : w1.ownsRow B 52 2 tv s.trs.length (flatP s.trs) := (Only.below (X := fun _ => False) hb).owns h3 (fun _ _ h => h)
  have b1 := (hg.block P (Nat.lt_of_lt_of_le hP hw1) (fun e => ownBlock_other a2 a1 (by decide) e.symm)).trans a1
  have b3 : w2.ownsRow B 52 2 tv s.trs.length (flatP s.trs) := a3.kept hg (rows_apart a3 a2 (by decide))
  have hset : w2.grownBy (w2.setCell ⟨P, 5, none⟩ v') (some P) := ⟨rfl, rfl, rfl, by simp, fun k _ hk => Below.heap_setCell _ _ _ _ (fun e => hk (by rw [e]))⟩
  have hw2 := hg.size
  refine ⟨fun k => X k ∨ v'.ownBlock = some k, ?_, ⟨v', tv, ?_, ?_, ?_, .inl h4, fun k hk => .inr hk, fun k hk => .inl (h6 k hk), ?_⟩, ?_⟩
  · rintro k (hk | hk)
    · exact .inl hk
    · rcases hat with e | e
      · exact .inl (h5 k (e ▸ hk))
      · rw [e] at hk; have := Option.some.inj hk; exact .inr (by omega)
  · rw [heap_setCell_same w2 P 5 _ _ v' b1]; rfl
  · exact ho.kept hset (.inr (ownBlock_other ho b1 (by decide)))
  · exact World.ownsRow.kept b3 hset (.inr (ownBlock_other b3 b1 (by decide)))
  · rintro k (hk | hk)
    · have := h7 k hk; exact ⟨this.1, by simp; omega⟩
    · have := World.ownsRow.lt ho k hk; exact ⟨this.1, by simpa using this.2⟩
  · exact ((Only.below hb).trans' (Only.grown hg fun k hk => .inl (h5 k hk))).trans' (Only.set h4 _ _ _)
/-- One trailer more, behind an append. -/
theorem dec_newtrs {B P : Nat} {X : Nat → Prop} {s : Dc} {lv tv : Value} {w w1 w2 : World} {v' : Value} {t' : List (List UInt8 × List UInt8)} (h : DecP B P X s lv tv w) (hb : Below w.heap.size w w1) (hg : w1.grownBy w2 tv.ownBlock)
    (ho : OwnsP 52 B w2 v' t') (hat : v'.ownBlock = tv.ownBlock ∨ v'.ownBlock = some w1.heap.size) : DecTo B P X { s with trs := t' } w (w2.setCell ⟨P, 6, none⟩ v') := by
  obtain ⟨h1, h2, h3, h4, h5, h6, h7⟩ := h
  have hP := (h7 P h4).2
  have hw1 := hb.size
  have a1 := (hb.block P hP).trans h1
  have a2 : w1.ownsRow B 5 1 lv s.line.length (Lib.byteCells s.line) := (Only.below (X := fun _ => False) hb).owns h2 (fun _ _ h => h)
  have a3 : w1.ownsRow B 52 2 tv s.trs.length (flatP s.trs) := (Only.below (X := fun _ => False) hb).owns h3 (fun _ _ h => h)
  have b1 := (hg.block P (Nat.lt_of_lt_of_le hP hw1) (fun e => ownBlock_other a3 a1 (by decide) e.symm)).trans a1
  have b2 : w2.ownsRow B 5 1 lv s.line.length (Lib.byteCells s.line) := a2.kept hg (rows_apart a2 a3 (by decide))
  have hset : w2.grownBy (w2.setCell ⟨P, 6, none⟩ v') (some P) := ⟨rfl, rfl, rfl, by simp, fun k _ hk => Below.heap_setCell _ _ _ _ (fun e => hk (by rw [e]))⟩
  have hw2 := hg.size
  refine ⟨fun k => X k ∨ v'.ownBlock = some k, ?_, ⟨lv, v', ?_, ?_, ?_, .inl h4, fun k hk => .inl (h5 k hk), fun k hk => .inr hk, ?_⟩, ?_⟩
  · rintro k (hk | hk)
    · exact .inl hk
    · rcases hat with e | e
      · exact .inl (h6 k (e ▸ hk))
      · rw [e] at hk; have := Option.some.inj hk; exact .inr (by omega)
  · rw [heap_setCell_same w2 P 6 _ _ v' b1]; rfl
  · exact b2.kept hset (.inr (ownBlock_other b2 b1 (by decide)))
  · exact World.ownsRow.kept ho hset (.inr (ownBlock_other ho b1 (by decide)))
  · rintro k (hk | hk)
    · have := h7 k hk; exact ⟨this.1, by simp; omega⟩
    · have := World.ownsRow.lt ho k hk; exact ⟨this.1, by simpa using this.2⟩
  · exact ((Only.below hb).trans' (Only.grown hg fun k hk => .inl (h6 k hk))).trans' (Only.set h4 _ _ _)
/-- A line let go. -/
theorem dec_noline {B P : Nat} {X : Nat → Prop} {s : Dc} {w : World} (h : Dec B P X s w) : Dec B P X { s with line := [] } (w.setCell ⟨P, 5, none⟩ (.slice none 0 0)) := by
  obtain ⟨lv, tv, h1, h2, h3, h4, h5, h6, h7⟩ := h
  have hset : w.grownBy (w.setCell ⟨P, 5, none⟩ (.slice none 0 0)) (some P) := ⟨rfl, rfl, rfl, by simp, fun k _ hk => Below.heap_setCell _ _ _ _ (fun e => hk (by rw [e]))⟩
  refine ⟨.slice none 0 0, tv, ?_, World.ownsRow_nil _ _ _ _, World.ownsRow.kept h3 hset (.inr (ownBlock_other h3 h1 (by decide))), h4, fun k hk => (by cases hk), h6, fun k hk => ⟨(h7 k hk).1, by simpa using (h7 k hk).2⟩⟩
  rw [heap_setCell_same w P 5 _ _ _ h1]; rfl
theorem DecTo.trans {B P : Nat} {X : Nat → Prop} {s : Dc} {a b c : World} (h : Only X a b) (k : DecTo B P X s b c) : DecTo B P X s a c := by
  obtain ⟨X', h1, h2, h3⟩ := k
  have hs := h.size
  exact ⟨X', fun i hi => by rcases h1 i hi with h | h; exact .inl h; exact .inr (by omega), h2, h.trans' h3⟩
theorem DecTo.mapS {B P : Nat} {X : Nat → Prop} {s s' : Dc} {a b c : World} (h : DecTo B P X s a b) (f : ∀ X', Dec B P X' s b → Dec B P X' s' c ∧ Only X' b c) : DecTo B P X s' a c := by
  obtain ⟨X', h1, h2, h3⟩ := h
  obtain ⟨g1, g2⟩ := f X' h2
  exact ⟨X', h1, g1, h3.trans g2 h1⟩
theorem len_line {w : World} {B : Nat} {lv : Value} {l : List UInt8} (h : w.ownsRow B 5 1 lv l.length (Lib.byteCells l)) : ∃ a c, lv = .slice a l.length c := OwnB.isSlice h
theorem len_trs {w : World} {B : Nat} {tv : Value} {t : List (List UInt8 × List UInt8)} (h : OwnsP 52 B w tv t) : ∃ a c, tv = .slice a t.length c := by
  obtain ⟨ao, cap, rfl, _⟩ := h.reads; exact ⟨ao, cap, rfl⟩
theorem cutC_lt {c : UInt8} (l : List UInt8) : (cutC c l).1.length ≤ l.length ∧ (cutC c l).2.1.length ≤ l.length := cutC_len c l
/-- The decoder's cells behind an append to its trailers. -/
theorem cells_grown {B P : Nat} {X : Nat → Prop} {s : Dc} {lv tv : Value} {w w1 w5 : World} (h : DecP B P X s lv tv w) (hb : Below w.heap.size w w1) (hg : w1.grownBy w5 tv.ownBlock) :
    (w5.cell? ⟨P, 6, none⟩ = some tv ∧ w5.frozen? ⟨P, 6, none⟩ = false) ∧ (w5.cell? ⟨P, 5, none⟩ = some lv ∧ w5.frozen? ⟨P, 5, none⟩ = false) ∧ (w5.cell? ⟨P, 0, none⟩ = some (.int .i64 (s.pl : Int)) ∧ w5.frozen? ⟨P, 0, none⟩ = false) := by
  have h' := h.below hb
  obtain ⟨h1, h2, h3, h4, h5, h6, h7⟩ := h'
  have b1 := (hg.block P (h7 P h4).2 (fun e => ownBlock_other h3 h1 (by decide) e.symm)).trans h1
  obtain ⟨c0, _, _, _, _, c5, c6, hf⟩ := dec_cells b1
  exact ⟨⟨c6, hf 6⟩, ⟨c5, hf 5⟩, c0, hf 0⟩
theorem trV_yes {n v : List UInt8} (h : trB n v = true) : trV n v = .tuple #[.agg #[.string (strB (nameR n)), .string (strB (valueR v))], .nilIface] := by unfold trV; rw [if_pos h]
theorem trV_no {n v : List UInt8} (h : trB n v = false) : trV n v = .tuple #[.agg #[.string (strB []), .string (strB [])], .iface 41 (.int .i64 34)] := by unfold trV; rw [if_neg (by rw [h]; simp)]
theorem pair_new (W : World) (a b : List UInt8) (T : TypeId) : ∀ (j : Nat) (u : Value), [strV a, strV b][j]? = some u →
    (W.alloc (.cells #[.string (strB a), .string (strB b)] T)).cell? ((⟨W.heap.size, 0, none⟩ : Addr).add j) = some u := by
  intro j u h
  rw [Addr.add_lit, Nat.zero_add, World.cell?_alloc_at _ _ _ _ rfl]
  match j, h with
  | 0, h => simpa using h
  | 1, h => simpa using h
  | j + 2, h => simp at h
set_option maxHeartbeats 8000000 in
set_option maxRecDepth 100000 in
theorem endTrailer_any {B P : Nat} {X : Nat → Prop} {s : Dc} (w : World) (h : Dec B P X s w) (hB : B ≤ w.heap.size) (hM : HasMax w) (hl : s.line.length ≤ 8193) (ht : s.trs.length ≤ 64) :
    Calls Tryd.prog 60 #[.pointer (some ⟨P, 0, none⟩)] w (StepPost B P X (lineS s) w) := by
  obtain ⟨hx, HD, lv0, tv0, _⟩ := dec_open h
  obtain ⟨lv, tv, hp⟩ := h.parts
  have HP := Lib.hid hp
  obtain ⟨h1, h2, h3, _, _, _, _⟩ := hp
  obtain ⟨c0, c1, c2, c3, c4, c5, c6, hf⟩ := dec_cells h1
  obtain ⟨la, lc, rfl⟩ := len_line h2
  obtain ⟨ta, tc, rfl⟩ := len_trs h3
  have f0 := hf 0
  have f5 := hf 5
  have f6 := hf 6
  have HR := Lib.hid (OwnB.reads (show OwnB B w (.slice la s.line.length lc) s.line from h2))
  have HM := Lib.hid hM
  clear c1 c2 c3 c4 hf hM h h1
  by_cases hn : s.line = []
  · have e1 : lineS s = (0, { s with pl := 8 }) := by unfold lineS; rw [if_pos hn]
    rw [e1]
    have hq : ((s.line.length : Int) == 0) = true := by simp [hn]
    clear e1 hn h2 h3
    go_enter Tryd.func60, Tryd.ntmps60
    go_wp2_with fail
    go_ret
    exact ⟨rfl, .same (dec_pl (n := 8) (z := 8) HD.out rfl) (Only.set hx _ _ _)⟩
  · have hq : ((s.line.length : Int) == 0) = false := by
      have : s.line.length ≠ 0 := fun e => hn (List.eq_nil_of_length_eq_zero e)
      simp; omega
    have C := Lib.hid (fun W hM => cutM_any 58 (strB s.line) W hM (by rw [strB_size]; omega))
    rw [strB_list] at C
    have hcl := cutC_lt (c := 58) s.line
    have T := Lib.hid (fun W => trailer_any (cutC 58 s.line).1 (cutC 58 s.line).2.1 W (by omega) (by omega))
    have HV := Lib.hid (convB HR.out)
    have hcv := HV.out
    have E1 : lineS s = if (cutC 58 s.line).2.2 = false ∨ s.trs.length = 64 then (34, s)
      else if trB (cutC 58 s.line).1 (cutC 58 s.line).2.1 = false then (34, s)
      else (0, { s with trs := s.trs ++ [(nameR (cutC 58 s.line).1, valueR (cutC 58 s.line).2.1)], line := [], pl := 6 }) := by unfold lineS; rw [if_neg hn]
    clear hn hcv
    cases h22 : (cutC 58 s.line).2.2 with
    | false =>
      rw [if_pos (.inl h22)] at E1
      rw [E1]
      rw [h22] at C
      have hcv := HV.out
      clear E1 h22 h2 h3 hcl
      go_enter Tryd.func60, Tryd.ntmps60
      go_wp2_with fail
      refine (C.out _ HM.out).mono ?_
      rintro e w1 ⟨rfl, n, rfl⟩
      go_wp2_with fail
      go_ret
      exact ⟨rfl, .same (HD.out.below (below_drewN (Below.refl _ _) n)) (Only.drewN _ _ n)⟩
    | true =>
      rw [h22] at C
      by_cases h64 : s.trs.length = 64
      · rw [if_pos (.inr h64)] at E1
        rw [E1]
        have hcv := HV.out
        have hq2 : ((s.trs.length : Int) == 64) = true := by simp [h64] <;> rfl
        clear E1 h22 h2 h3 hcl h64
        go_enter Tryd.func60, Tryd.ntmps60
        go_wp2_with fail
        refine (C.out _ HM.out).mono ?_
        rintro e w1 ⟨rfl, n, rfl⟩
        have hB1 := below_drewN (Below.refl w.heap.size w) n
        generalize w.drewN n = w1 at *
        have HP1 := Lib.hid (HP.out.below hB1)
        obtain ⟨_, _, _, _, _, _, d6, _⟩ := dec_cells HP1.out.1
        go_wp2_with fail
        go_ret
        exact ⟨rfl, .same HP1.out.dec (Only.below hB1)⟩
      · rw [if_neg (by rw [h22]; simp [h64])] at E1
        have hq2 : ((s.trs.length : Int) == 64) = false := by simp; omega
        cases htr : trB (cutC 58 s.line).1 (cutC 58 s.line).2.1 with
        | false =>
          rw [if_pos htr] at E1
          rw [E1]
          rw [trV_no htr] at T
          have hcv := HV.out
          clear E1 h22 h2 h3 hcl h64 htr
          go_enter Tryd.func60, Tryd.ntmps60
          go_wp2_with fail
          refine (C.out _ HM.out).mono ?_
          rintro e w1 ⟨rfl, n, rfl⟩
          have hB1 := below_drewN (Below.refl w.heap.size w) n
          generalize w.drewN n = w1 at *
          have HP1 := Lib.hid (HP.out.below hB1)
          obtain ⟨_, _, _, _, _, _, d6, _⟩ := dec_cells HP1.out.1
          go_wp2_with fail
          refine (T.out _).mono ?_
          rintro e w2 ⟨rfl, hB2⟩
          have hs1 := hB1.size
          have hB12 := hB1.trans (hB2.mono hs1)
          have hs2 := hB12.size
          go_wp2_with fail
          go_ret
          have hbb := hB12.alloc hs2 (.cells #[.string (strB []), .string (strB [])] 52)
          exact ⟨rfl, .same (HD.out.below hbb) (Only.below hbb)⟩
        | true =>
          rw [if_neg (by rw [htr]; simp)] at E1
          rw [E1]
          rw [trV_yes htr] at T
          have hcv := HV.out
          clear E1 h22 h2 h3 hcl h64 htr
          obtain ⟨i0, hi, hz0, hz1, hz2⟩ := info_parts Tryd.infoFK
          generalize nameR (cutC 58 s.line).1 = nm at *
          generalize valueR (cutC 58 s.line).2.1 = vl at *
          go_enter Tryd.func60, Tryd.ntmps60
          go_wp2_with fail
          refine (C.out _ HM.out).mono ?_
          rintro e w1 ⟨rfl, n, rfl⟩
          have hB1 := below_drewN (Below.refl w.heap.size w) n
          generalize w.drewN n = w1 at *
          have HP1 := Lib.hid (HP.out.below hB1)
          obtain ⟨_, _, _, _, _, _, d6, _⟩ := dec_cells HP1.out.1
          go_wp2_with fail
          refine (T.out _).mono ?_
          rintro e w2 ⟨rfl, hB2⟩
          have hs1 := hB1.size
          have hB12 := hB1.trans (hB2.mono hs1)
          have hs2 := hB12.size
          have hbb := hB12.alloc hs2 (.cells #[.string (strB nm), .string (strB vl)] 52)
          have HP3 := Lib.hid (HP.out.below hbb)
          obtain ⟨_, _, _, _, _, _, e6, ef⟩ := dec_cells HP3.out.1
          have g6 := ef 6
          have x0 : (w2.alloc (.cells #[.string (strB nm), .string (strB vl)] 52)).cell? ⟨w2.heap.size, 0, none⟩ = some (.string (strB nm)) := by rw [World.cell?_alloc_at _ _ _ _ rfl]; rfl
          have x1 : (w2.alloc (.cells #[.string (strB nm), .string (strB vl)] 52)).cell? ⟨w2.heap.size, 1, none⟩ = some (.string (strB vl)) := by rw [World.cell?_alloc_at _ _ _ _ rfl]; rfl
          have hs3 := hbb.size
          clear hB1 hB12 hB2 d6 c0 c5 c6 f0 f5 f6 hq hq2 ef hs1 hs2
          go_wp2_with fail
          generalize hw3 : w2.alloc (.cells #[.string (strB nm), .string (strB vl)] 52) = w3 at *
          generalize w2.heap.size = M at *
          obtain ⟨_, _, _, _, _, _, a6, _⟩ := dec_cells (HP3.out.below (below_new w3 (.cells #[.string (strB nm), .string (strB vl)] 52))).1
          go_region_law (first
            | (refine step_append_lies _ (by rfl) (.tmp 51) (.tmp 53) 37 (by rfl) B 52 i0 (.agg #[.string ByteArray.empty, .string ByteArray.empty]) 2 32 Tryd.underlying37 hi hz0 hz1 hz2 rfl (by decide) _ s.trs.length (flatP s.trs) (by rfl) (World.ownsRow.alloc HP3.out.2.2.1 _) ⟨w3.heap.size, 0, none⟩ 1 1 [strV nm, strV vl] (by rfl) rfl (pair_new w3 nm vl _) (fun u hu => by simp at hu; rcases hu with rfl | rfl <;> rfl) (by omega) (by unfold maxLen; omega) (by omega) (by simp; omega) (w3.heap.size + 1) (by simp) ?_; intro g cap w5 hown hgrow hat hlt; obtain ⟨⟨r6, q6⟩, ⟨r5, q5⟩, r0, q0⟩ := cells_grown HP3.out (by first | exact (below_new _ _).drew | exact below_new _ _) hgrow))
          all_goals
            go_wp2_with fail
            go_ret
            refine ⟨rfl, (dec_newtrs HP.out (by first | exact (hbb.alloc hs3 _).drew | exact hbb.alloc hs3 _) hgrow (OwnsP.snoc (p := (nm, vl)) hown) ?_).mapS fun X' hX' => ⟨dec_pl (n := 6) (z := 6) (dec_noline hX') rfl, (Only.set hX'.lt.2.1 _ _ _).trans' (Only.set hX'.lt.2.1 _ _ _)⟩⟩
            rcases hat with e | e
            · exact .inl e.symm
            · exact .inr (by rw [e]; simp [Value.ownBlock])
end Go.Proofs.YthlfhbhjiofneaaDoor
