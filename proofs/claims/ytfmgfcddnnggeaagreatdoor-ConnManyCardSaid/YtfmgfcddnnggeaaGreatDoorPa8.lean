import Derived.Test.YtfmgfcddnnggeaaGreatDoorPa7
import Derived.Deep.QuietTactic
import Derived.BigQuiet
import Derived.Test.YtfmgfcddnnggeaaGreatDoorPa0
import Derived.Test.YtfmgfcddnnggeaaGreatDoorPa4
/- What takeTrailer and take return: every byte that is no data. -/
namespace Go.Proofs.YtfmgfcddnnggeaaGreatDoor
open Go.RowKit

theorem cell_one_at (W : World) (m : Nat) (hm : m = W.heap.size) (x : Value) (t : TypeId) : ∀ j u, [x][j]? = some u → (W.alloc (.cells #[x] t)).cell? ((⟨m, 0, none⟩ : Addr).add j) = some u := by
  subst hm; exact cell_one_new W x t
/-- MaxLen is an int, in a block that lies below B. -/
def MaxB (B : Nat) (w : World) : Prop := HasMax w ∧ 0 < B
theorem MaxB.to {B : Nat} {w w' : World} (h : MaxB B w) (hb : Below B w w') : MaxB B w' := by
  obtain ⟨⟨m, hm⟩, hg⟩ := h
  exact ⟨⟨m, (hb.cell (p := ⟨0, 0, none⟩) hg).trans hm⟩, hg⟩
theorem MaxB.of {w : World} (h : HasMax w) : MaxB w.heap.size w := by
  obtain ⟨m, hm⟩ := h
  exact ⟨⟨m, hm⟩, World.block_lt_of_cell? _ _ hm⟩
theorem Dec.base {B P : Nat} {X : Nat → Prop} {s : Dc} {w : World} (h : Dec B P X s w) : B ≤ P ∧ B ≤ w.heap.size := by
  have h' := h.lt
  have := h'.2.2 P h'.2.1
  exact ⟨this.1, by omega⟩
theorem MaxB.only {B P : Nat} {X : Nat → Prop} {s : Dc} {w w' : World} (h : MaxB B w) (hd : Dec B P X s w) (hO : Only X w w') : MaxB B w' :=
  h.to (hO.to (fun k hk => (hd.lt.2.2 k hk).1) hd.base.2)
/-- The decoder's line's cell behind an append to its line. -/
theorem cells_grownL {B P : Nat} {X : Nat → Prop} {s : Dc} {lv tv : Value} {w w1 w5 : World} (h : DecP B P X s lv tv w) (hb : Below w.heap.size w w1) (hg : w1.grownBy w5 lv.ownBlock) :
    w5.cell? ⟨P, 5, none⟩ = some lv ∧ w5.frozen? ⟨P, 5, none⟩ = false := by
  have h' := h.below hb
  obtain ⟨h1, h2, h3, h4, h5, h6, h7⟩ := h'
  have b1 := (hg.block P (h7 P h4).2 (fun e => ownBlock_other h2 h1 (by decide) e.symm)).trans h1
  obtain ⟨_, _, _, _, _, c5, _, hf⟩ := dec_cells b1
  exact ⟨c5, hf 5⟩
set_option maxHeartbeats 8000000 in
set_option maxRecDepth 100000 in
theorem takeTrailer_any {B P : Nat} {X : Nat → Prop} {s : Dc} (c : UInt8) (w : World) (h : Dec B P X s w) (hM : MaxB B w) (hok : s.Ok) (_h67 : s.pl = 6 ∨ s.pl = 7) :
    Calls Tryz.prog 50 #[.pointer (some ⟨P, 0, none⟩), .int .u8 (c.toNat : Int)] w (StepPost B P X (trlS s c) w) := by
  obtain ⟨hx, HD, lv, tv, c0, _, _, _, c4, c5, _, hf⟩ := dec_open h
  have f0 := hf 0
  have f4 := hf 4
  have f5 := hf 5
  have h5 := hok.b5
  have hl := hok.line_le
  have ht := hok.b8
  have hBw := h.base.2
  have HM := Lib.hid hM
  clear hf hok hM
  by_cases hA : s.len = 8192 ∨ c.toNat = 0 ∨ ((decide (c.toNat = 10)) != decide (s.pl = 7)) = true
  · have e1 : trlS s c = (34, s) := by unfold trlS; rw [if_pos hA]
    rw [e1]
    clear e1 h
    have hq3 : ((c.toNat : Int) == 10) = decide (c.toNat = 10) := by
      by_cases h : c.toNat = 10 <;> simp [h] <;> omega
    have hq4 : ((s.pl : Int) == 7) = decide (s.pl = 7) := by
      by_cases h : s.pl = 7 <;> simp [h] <;> omega
    by_cases h1 : s.len = 8192
    · have hq1 : ((s.len : Int) == 8192) = true := by simp [h1] <;> rfl
      clear hA h1 hq3
      go_enter Tryz.func50, Tryz.ntmps50
      go_wp2_with fail
      go_ret
      exact ⟨rfl, .refl HD.out⟩
    · have hq1 : ((s.len : Int) == 8192) = false := by simp; omega
      by_cases h2 : c.toNat = 0
      · have hq2 : ((c.toNat : Int) == 0) = true := by simp [h2]
        clear hA h1 h2 hq3
        go_enter Tryz.func50, Tryz.ntmps50
        go_wp2_with fail
        go_ret
        exact ⟨rfl, .refl HD.out⟩
      · have hq2 : ((c.toNat : Int) == 0) = false := by simp; omega
        have hA' : ((decide (c.toNat = 10)) != decide (s.pl = 7)) = true := by
          rcases hA with h | h | h
          · exact absurd h h1
          · exact absurd h h2
          · exact h
        clear hA h1 h2
        by_cases h10 : c.toNat = 10
        · rw [decide_eq_true h10] at hq3
          have h7 : s.pl ≠ 7 := by
            intro h
            rw [decide_eq_true h10, decide_eq_true h] at hA'; cases hA'
          rw [decide_eq_false h7] at hq4
          clear h7 h10 hA'
          go_enter Tryz.func50, Tryz.ntmps50
          go_wp2_with fail
          go_ret
          exact ⟨rfl, .refl HD.out⟩
        · rw [decide_eq_false h10] at hq3
          have h7 : s.pl = 7 := by
            by_cases h : s.pl = 7
            · exact h
            · rw [decide_eq_false h10, decide_eq_false h] at hA'; cases hA'
          rw [decide_eq_true h7] at hq4
          clear h7 h10 hA'
          go_enter Tryz.func50, Tryz.ntmps50
          go_wp2_with fail
          go_ret
          exact ⟨rfl, .refl HD.out⟩
  · have g1 : s.len ≠ 8192 := fun e => hA (.inl e)
    have g2 : c.toNat ≠ 0 := fun e => hA (.inr (.inl e))
    have g3 : ((decide (c.toNat = 10)) != decide (s.pl = 7)) = false := by rw [Bool.eq_false_iff]; exact fun e => hA (.inr (.inr e))
    have E1 : trlS s c = if c.toNat = 10 then lineS { s with len := s.len + 1 } else if c.toNat = 13 then (0, { s with len := s.len + 1, pl := 7 }) else (0, { s with len := s.len + 1, line := s.line ++ [c] }) := by unfold trlS; rw [if_neg hA]
    have hq1 : ((s.len : Int) == 8192) = false := by simp; omega
    have hq2 : ((c.toNat : Int) == 0) = false := by simp; omega
    have hL := dec_len (n := s.len + 1) (z := (s.len : Int) + 1) h (by omega)
    have HS := Lib.hid (Only.set hx w 4 (.int .i64 ((s.len : Int) + 1)))
    clear hA g2
    by_cases h10 : c.toNat = 10
    · rw [if_pos h10] at E1
      have h7 : s.pl = 7 := by
        rw [decide_eq_true h10] at g3
        by_cases h : s.pl = 7
        · exact h
        · rw [decide_eq_false h] at g3; cases g3
      have hq3 : ((c.toNat : Int) == 10) = true := by simp [h10] <;> rfl
      have hq4 : ((s.pl : Int) == 7) = true := by simp [h7] <;> rfl
      have HE := Lib.hid (endTrailer_any _ hL (by simp; exact hBw) (HM.out.only h HS.out).1 (by show s.line.length ≤ 8193; omega) ht)
      rw [← E1] at HE
      clear E1 g1 g3 h10 h7 h hL
      go_enter Tryz.func50, Tryz.ntmps50
      go_wp2_with fail
      refine HE.out.mono ?_
      rintro e w' hp
      have hp := hp.from HS.out
      obtain ⟨rfl, hT⟩ := hp
      go_wp2_with fail
      go_ret
      exact ⟨rfl, hT⟩
    · rw [if_neg h10] at E1
      have h7 : s.pl ≠ 7 := by
        intro h
        rw [decide_eq_false h10, decide_eq_true h] at g3; cases g3
      have hq3 : ((c.toNat : Int) == 10) = false := by simp; omega
      have hq4 : ((s.pl : Int) == 7) = false := by simp; omega
      by_cases h13 : c.toNat = 13
      · rw [if_pos h13] at E1
        rw [E1]
        have hq5 : ((c.toNat : Int) == 13) = true := by simp [h13] <;> rfl
        clear E1 g1 g3 h10 h7 h hL h13
        go_enter Tryz.func50, Tryz.ntmps50
        go_wp2_with fail
        go_ret
        exact ⟨rfl, .same (dec_pl (n := 7) (z := 7) (dec_len (n := s.len + 1) (z := (s.len : Int) + 1) HD.out (by omega)) rfl) ((Only.set hx _ _ _).trans' (Only.set hx _ _ _))⟩
      · rw [if_neg h13] at E1
        rw [E1]
        have hq5 : ((c.toNat : Int) == 13) = false := by simp; omega
        obtain ⟨lv, tv, hp⟩ := hL.parts
        have HP := Lib.hid hp
        obtain ⟨_, _, _, _, d4, d5, _, df⟩ := dec_cells hp.1
        have e4 := df 4
        have e5 := df 5
        obtain ⟨i0, hi, hz0, hz1, hz2⟩ := info_parts Tryz.infoB
        have hb' : Below (w.setCell ⟨P, 4, none⟩ (.int .i64 ((s.len : Int) + 1))).heap.size (w.setCell ⟨P, 4, none⟩ (.int .i64 ((s.len : Int) + 1))) ((w.setCell ⟨P, 4, none⟩ (.int .i64 ((s.len : Int) + 1))).alloc (.cells #[.int .u8 (c.toNat : Int)] 5)) := below_new _ _
        have HB := Lib.hid hb'
        clear E1 g1 g3 h10 h7 h hL h13 hp hb' df c5 f5
        go_enter Tryz.func50, Tryz.ntmps50
        go_wp2_with (at_builtin; refine wpList_append_own_at _ rfl _ _ 30 rfl B 5 i0 (.int .u8 0) 1 1 Tryz.underlying30 hi hz0 hz1 hz2 rfl (by decide) _ _ _ rfl (HP.out.below HB.out).2.1 ⟨w.heap.size, 0, none⟩ 1 1 [.int .u8 (c.toNat : Int)] rfl rfl (cell_one_at _ _ (by simp) _ _) (fun u hu => by simp at hu; subst hu; rfl) (by show s.line.length + 1 ≤ _; unfold maxLen; omega) (by show (s.line.length + 1) * 1 ≤ _; omega) (by simp; omega) ?_; intro v' w2 hown hgrow _ hat; obtain ⟨va, vc, rfl⟩ := OwnB.isSlice (own_appB (m := [c]) hown); obtain ⟨r5, q5⟩ := cells_grownL HP.out HB.out hgrow)
        go_ret
        exact ⟨rfl, .trans HS.out (dec_newline (l' := s.line ++ [c]) HP.out HB.out hgrow (by have h' := own_appB (m := [c]) hown; unfold OwnB at h'; rw [List.length_append] at h' ⊢; exact h') (by rw [List.length_append] at hat; exact hat))⟩
/-- A byte that is no data: what take returns. -/
theorem take_any {B P : Nat} {X : Nat → Prop} {s : Dc} (c : UInt8) (w : World) (h : Dec B P X s w) (hM : MaxB B w) (hok : s.Ok) (h3 : s.pl ≠ 3) (h8 : s.pl ≠ 8) :
    Calls Tryz.prog 38 #[.pointer (some ⟨P, 0, none⟩), .int .u8 (c.toNat : Int)] w (StepPost B P X (stepS s c) w) := by
  obtain ⟨hx, HD, lv, tv, c0, _⟩ := dec_open h
  have hlt := hok.b11
  rcases (show s.pl = 0 ∨ s.pl = 1 ∨ s.pl = 2 ∨ s.pl = 4 ∨ s.pl = 5 ∨ s.pl = 6 ∨ s.pl = 7 by omega) with p | p | p | p | p | p | p
  · have e1 : stepS s c = sizeS s c := by unfold stepS; rw [if_pos p]
    have HT := Lib.hid (takeSize_any c w h hok)
    rw [e1]
    rw [p] at c0
    clear e1 h hok hM h3 h8 hlt p
    go_enter Tryz.func38, Tryz.ntmps38
    go_wp2_with fail
    refine HT.out.mono ?_
    rintro e w' ⟨rfl, hT⟩
    go_wp2_with fail
    go_ret
    exact ⟨rfl, hT⟩
  · have e1 : stepS s c = extS s c := by unfold stepS; rw [if_neg (by omega), if_pos p]
    have HT := Lib.hid (takeExt_any c w h hok)
    rw [e1]
    rw [p] at c0
    clear e1 h hok hM h3 h8 hlt p
    go_enter Tryz.func38, Tryz.ntmps38
    go_wp2_with fail
    refine HT.out.mono ?_
    rintro e w' ⟨rfl, hT⟩
    go_wp2_with fail
    go_ret
    exact ⟨rfl, hT⟩
  · have e1 : stepS s c = endS s c := by unfold stepS; rw [if_neg (by omega), if_neg (by omega), if_pos p]
    have HT := Lib.hid (endSize_any c w h)
    rw [e1]
    rw [p] at c0
    clear e1 h hok hM h3 h8 hlt p
    go_enter Tryz.func38, Tryz.ntmps38
    go_wp2_with fail
    refine HT.out.mono ?_
    rintro e w' ⟨rfl, hT⟩
    go_wp2_with fail
    go_ret
    exact ⟨rfl, hT⟩
  · have e1 : stepS s c = expS s c 13 5 := by unfold stepS; rw [if_neg (by omega), if_neg (by omega), if_neg (by omega), if_pos p]
    have HT := Lib.hid (expect_any c 13 5 w h)
    rw [e1]
    rw [p] at c0
    clear e1 h hok hM h3 h8 hlt p
    go_enter Tryz.func38, Tryz.ntmps38
    go_wp2_with fail
    refine HT.out.mono ?_
    rintro e w' ⟨rfl, hT⟩
    go_wp2_with fail
    go_ret
    exact ⟨rfl, hT⟩
  · have e1 : stepS s c = expS s c 10 0 := by unfold stepS; rw [if_neg (by omega), if_neg (by omega), if_neg (by omega), if_neg (by omega), if_pos p]
    have HT := Lib.hid (expect_any c 10 0 w h)
    rw [e1]
    rw [p] at c0
    clear e1 h hok hM h3 h8 hlt p
    go_enter Tryz.func38, Tryz.ntmps38
    go_wp2_with fail
    refine HT.out.mono ?_
    rintro e w' ⟨rfl, hT⟩
    go_wp2_with fail
    go_ret
    exact ⟨rfl, hT⟩
  all_goals
    have e1 : stepS s c = trlS s c := by unfold stepS; rw [if_neg (by omega), if_neg (by omega), if_neg (by omega), if_neg (by omega), if_neg (by omega)]
    have HT := Lib.hid (takeTrailer_any c w h hM hok (by omega))
    rw [e1]
    rw [p] at c0
    clear e1 h hok hM h3 h8 hlt p
    go_enter Tryz.func38, Tryz.ntmps38
    go_wp2_with fail
    refine HT.out.mono ?_
    rintro e w' ⟨rfl, hT⟩
    go_wp2_with fail
    go_ret
    exact ⟨rfl, hT⟩
end Go.Proofs.YtfmgfcddnnggeaaGreatDoor

/- What Write returns, for every state of the decoder and all bytes. -/
namespace Go.Proofs.YtfmgfcddnnggeaaGreatDoor
open Go.RowKit

theorem expS_er (s : Dc) (c : UInt8) (o n : Nat) : (expS s c o n).2.er = s.er := by unfold expS; split <;> rfl
theorem stepS_er (s : Dc) (c : UInt8) : (stepS s c).2.er = s.er := by
  unfold stepS
  split
  · unfold sizeS
    split
    · unfold digS; split; rfl; split <;> rfl
    · split; rfl; split; rfl; exact expS_er ..
  split
  · unfold extS; split; rfl; split <;> rfl
  split
  · unfold endS; split <;> exact expS_er ..
  split
  · exact expS_er ..
  split
  · exact expS_er ..
  · unfold trlS lineS
    split; rfl; split
    · split; rfl; split; rfl; split <;> rfl
    · split <;> rfl
theorem er_same (t : Dc) (h : t.er = 0) : ({ t with er := 0 } : Dc) = t := by cases t; simp at h; subst h; rfl
/-- What Write leaves: the decoder behind the bytes, the data, how many bytes were taken, the error. -/
def WritePost (B P : Nat) (X : Nat → Prop) (s : Dc) (l : List UInt8) (w : World) (e : Ending) (w' : World) : Prop :=
  ∃ v X', e = .returned (.tuple #[v, .int .i64 ((wrD s l).2.2 : Int), errV (wrD s l).1.er]) ∧ Dec B P X' (wrD s l).1 w' ∧ (∀ i, X' i → X i ∨ w.heap.size ≤ i) ∧ Only X w w' ∧ OwnB w.heap.size w' v (wrD s l).2.1 ∧ (∀ i, v.ownBlock = some i → ¬ X' i)
def WriteRel (B P : Nat) (X : Nat → Prop) (s : Dc) (l : List UInt8) (w : World) (v t : Value) (wr : World) : Prop :=
  ∃ (k : Nat) (s' : Dc) (X' : Nat → Prop) (out : List UInt8), t = .int .i64 (k : Int) ∧ k ≤ l.length ∧ s'.Ok ∧ Dec B P X' s' wr ∧ (∀ i, X' i → X i ∨ w.heap.size ≤ i) ∧ Only X w wr ∧ OwnB w.heap.size wr v out ∧ (∀ i, v.ownBlock = some i → ¬ X' i) ∧ out.length ≤ k ∧
    wrD s l = ((wrD s' (l.drop k)).1, out ++ (wrD s' (l.drop k)).2.1, k + (wrD s' (l.drop k)).2.2)
/-- Does a decoder go on? -/
def goesOn (P : Nat) (w : World) : Nat := match w.cell? ⟨P, 1, none⟩ with | some .nilIface => 1 | _ => 0
theorem goesOn_yes {P : Nat} {w : World} (h : w.cell? ⟨P, 1, none⟩ = some .nilIface) : goesOn P w = 1 := by unfold goesOn; rw [h]
theorem goesOn_no {P : Nat} {w : World} {t : TypeId} {u : Value} (h : w.cell? ⟨P, 1, none⟩ = some (.iface t u)) : goesOn P w = 0 := by unfold goesOn; rw [h]
theorem goesOn_le (P : Nat) (w : World) : goesOn P w ≤ 1 := by unfold goesOn; split <;> omega
theorem wrD_done {s' : Dc} {l : List UInt8} {k : Nat} (h : s'.er ≠ 0 ∨ s'.pl = 8 ∨ l.length ≤ k) : wrD s' (l.drop k) = (s', [], 0) := by
  rcases h with h | h | h
  · exact wrD_stop (.inl h) _
  · exact wrD_stop (.inr h) _
  · rw [List.drop_eq_nil_of_le h]; rfl
theorem write_end {B P : Nat} {X : Nat → Prop} {s : Dc} {l : List UInt8} {w wr w' : World} {v : Value} {k : Nat} {s' : Dc} {X' : Nat → Prop} {out : List UInt8} (hd : s'.er ≠ 0 ∨ s'.pl = 8 ∨ l.length ≤ k) (hD : Dec B P X' s' wr) (hX : ∀ i, X' i → X i ∨ w.heap.size ≤ i) (hO : Only X w wr)
    (ho : OwnB w.heap.size wr v out) (hv : ∀ i, v.ownBlock = some i → ¬ X' i) (hw : wrD s l = ((wrD s' (l.drop k)).1, out ++ (wrD s' (l.drop k)).2.1, k + (wrD s' (l.drop k)).2.2)) (hb : Below wr.heap.size wr w') :
    WritePost B P X s l w (.returned (.tuple #[v, .int .i64 (k : Int), errV s'.er])) w' := by
  rw [wrD_done hd] at hw
  simp only [List.append_nil, Nat.add_zero] at hw
  refine ⟨v, X', by rw [hw], by rw [hw]; exact hD.below hb, hX, hO.trans' (Only.below hb), by rw [hw]; exact ho.below hb, hv⟩
set_option maxHeartbeats 8000000 in
set_option maxRecDepth 100000 in
theorem decWrite_any {B P : Nat} {X : Nat → Prop} {s : Dc} (bv : Value) (l : List UInt8) (w : World) (h : Dec B P X s w) (hM : MaxB B w) (hok : s.Ok) (hb : ReadsD w bv l) (hbX : l ≠ [] → ∀ k, bv.ownBlock = some k → ¬ X k) (hl : l.length ≤ 1000000000) :
    Calls Tryz.prog 29 #[.pointer (some ⟨P, 0, none⟩), bv] w (WritePost B P X s l w) := by
  obtain ⟨i0, hi, hz0, hz1, hz2⟩ := info_parts Tryz.infoB
  have HH := Lib.hid h
  have HM := Lib.hid hM
  have HB := Lib.hid hb
  obtain ⟨ao, cap, rfl, hcap, hcapm, hnil, hc⟩ := hb
  have HC := Lib.hid hc
  have hBw := h.base.2
  clear h hM hc hnil
  unfold maxLen at hcapm
  go_enter Tryz.func29, Tryz.ntmps29
  go_wp2_with fail
  go_loopw [4, 5] (fun v t wr => WriteRel B P X s l w v t wr) (fun _ t wr => 2 * (l.length - (intOf t).toNat) + goesOn P wr)
  case atStart => exact ⟨0, s, X, [], rfl, Nat.zero_le _, hok, HH.out, fun _ h => .inl h, Only.refl _ _, OwnB.nil _ _, fun i hi => (by cases hi), Nat.le_refl _, by rw [List.drop_zero]; simp⟩
  case round =>
    obtain ⟨k, s', X', out, rfl, hk, hok', hD, hX, hO, ho, hv, hol, hw⟩ := hrel
    obtain ⟨hx, HD, lv, tv, c0, c1, _, _, _, _, _, hf⟩ := dec_open hD
    have f1 := hf 1
    obtain ⟨va, vc, rfl⟩ := ho.isSlice
    have hso := hO.size
    clear hf
    by_cases he : s'.er = 0
    · rw [he] at c1
      have c1' : wr.cell? ⟨P, 1, none⟩ = some .nilIface := c1
      clear c1
      by_cases hlt : k < l.length
      · by_cases h8 : s'.pl = 8
        · rw [h8] at c0
          have W := Lib.hid (fun w' hb => write_end (w' := w') (.inr (.inl h8)) hD hX hO ho hv hw hb)
          rw [he] at W
          clear hw ho hD hX hO hv he
          go_wp2_with fail
          go_quiet (fail)
          go_wp2_with fail
          refine bodyPost_ret (v := .tuple #[.slice va out.length vc, .int .i64 (k : Int), .nilIface]) (by simp [results, Tryz.results29, go_sem]) rfl ?_
          exact W.out _ (below_drewN (Below.refl _ _) nq)
        · have hq8 : ((s'.pl : Int) != 8) = true := by simp; omega
          obtain ⟨c, hcl⟩ : ∃ c, l[k]? = some c := ⟨l[k], by simp [hlt]⟩
          obtain ⟨g, off, rfl, hg1, hcg⟩ := HC.out k c hcl
          have hdrop : l.drop k = c :: l.drop (k + 1) := by
            rw [List.drop_eq_getElem_cons hlt]
            rw [List.getElem?_eq_getElem hlt] at hcl
            rw [Option.some.inj hcl]
          have hbX := hbX (fun e => by rw [e] at hlt; simp at hlt)
          have HR := Lib.hid (HB.out.only hO hbX)
          have hgX : ¬ X g := hbX g rfl
          by_cases h3 : s'.pl = 3
          · rw [h3] at c0
            have hpos := hok'.b10 h3
            obtain ⟨n, hn⟩ : ∃ n, n = min (l.length - k) s'.sz := ⟨_, rfl⟩
            have hn1 : 0 < n := by omega
            have hn2 : n ≤ s'.sz := by omega
            have hn3 : k + n ≤ l.length := by omega
            have T := takeData_any (l.length - k) wr hD hok' h3 (by omega)
            rw [← hn, show ((l.length - k : Nat) : Int) = (l.length : Int) - (k : Int) by omega] at T
            have HT := Lib.hid T
            have hw2 : wrD s l = ((wrD (dataS s' n) (l.drop (k + n))).1, (out ++ (l.drop k).take n) ++ (wrD (dataS s' n) (l.drop (k + n))).2.1, (k + n) + (wrD (dataS s' n) (l.drop (k + n))).2.2) := by
              rw [hw, wrD_data he h3 hn1 hn2 (by rw [List.length_drop]; omega), List.drop_drop]; simp; omega
            have HW := Lib.hid hw2
            have HO := Lib.hid hO
            have HV := Lib.hid hv
            have HX := Lib.hid hX
            have HOW := Lib.hid ho
            have HOK := Lib.hid (ok_data hok' h3 hn2)
            have HCut := Lib.hid (reads_cutB HR.out k n (cap - k) hn3 (by omega) (by unfold maxLen; omega))
            have hkc : k < cap := by omega
            have hknc : k + n ≤ cap := by omega
            have hgo := goesOn_le P wr
            have hln : ((l.drop k).take n).length = n := by rw [List.length_take, List.length_drop]; omega
            have HLn := Lib.hid hln
            have hgw := HH.out.lt
            clear T hw hw2 h3 h8 he hdrop hcl hcg hO hv hX ho hok' hD hn hq8 hpos hln
            go_wp2_with fail
            refine HT.out.mono ?_
            rintro e w1 ⟨rfl, hD2, hO2⟩
            have HO2 := Lib.hid hO2
            have HD2 := Lib.hid hD2
            have HOW1 := Lib.hid (HOW.out.only hO2 HV.out)
            have HRC := Lib.hid (HCut.out.only hO2 (fun i hi hx' => by
              have hig : i = g := by simp [Value.ownBlock] at hi; exact hi.symm
              subst hig
              rcases HX.out i hx' with h | h
              · exact hgX h
              · exact absurd hg1 (by omega)))
            have hs1 := hO2.size
            clear hO2 hD2
            go_wp2_with (at_builtin; refine wpList_append_own_at _ rfl _ _ 30 rfl w.heap.size 5 i0 (.int .u8 0) 1 1 Tryz.underlying30 hi hz0 hz1 hz2 rfl (by decide) _ _ _ rfl HOW1.out ⟨g, off + k, none⟩ (k + n - k) (cap - k) (Lib.byteCells ((l.drop k).take n)) rfl (by rw [Lib.byteCells_length, HLn.out]; omega) (readsB_src HRC.out).2 (oneB _) (by unfold maxLen; omega) (by omega) (by omega) ?_; intro v' w2 hown hgrow _ hat)
            rw [Nat.add_sub_cancel_left] at hown
            go_roundw
            case rel =>
              have hY : ∀ i, (Value.slice va out.length vc).ownBlock = some i → w.heap.size ≤ i := fun i hi => (World.ownsRow.lt HOW1.out i hi).1
              have hgr : Only (fun i => (Value.slice va out.length vc).ownBlock = some i) w1 w2 := Only.grown hgrow fun i hi => .inl hi
              refine ⟨k + n, dataS s' n, X', out ++ (l.drop k).take n, by go_num, hn3, HOK.out, HD2.out.only hgr (fun i hi h2 => HV.out i h2 hi), HX.out, ?_, own_appB (by rw [HLn.out]; exact hown), ?_, by rw [List.length_append, HLn.out]; omega, HW.out⟩
              · exact (HO.out.trans HO2.out HX.out).trans hgr fun i hi => .inr (hY i hi)
              · intro i hi h2
                rcases hat with e | e
                · exact HV.out i (e ▸ hi) h2
                · rw [e] at hi
                  have := Option.some.inj hi
                  have := (HD2.out.lt.2.2 i h2).2
                  omega
            case measure =>
              have := goesOn_le P w2
              simp [intOf]; omega
          · have hq3 : ((s'.pl : Int) == 3) = false := by simp; omega
            have hcr : wr.cell? ⟨g, off + k, none⟩ = some (.int .u8 (c.toNat : Int)) := (hO.cell (p := ⟨g, off + k, none⟩) hg1 hgX).trans hcg
            have T := take_any c wr hD (HM.out.only HH.out hO) hok' h3 h8
            have hok2 := ok_step hok' h3 h8 c
            have her := stepS_er s' c
            have hgo := goesOn_yes c1'
            by_cases h0 : (stepS s' c).1 = 0
            · unfold StepPost at T
              rw [h0, show errV 0 = .nilIface from rfl] at T
              have HT := Lib.hid T
              have hw2 : wrD s l = ((wrD (stepS s' c).2 (l.drop (k + 1))).1, out ++ (wrD (stepS s' c).2 (l.drop (k + 1))).2.1, (k + 1) + (wrD (stepS s' c).2 (l.drop (k + 1))).2.2) := by
                rw [hw, hdrop, wrD_step he h8 h3 h0]; simp; omega
              have HW := Lib.hid hw2
              have HE := Lib.hid (show (stepS s' c).2.er = 0 by rw [her]; exact he)
              have HO := Lib.hid hO
              have HV := Lib.hid hv
              have HX := Lib.hid hX
              have HOW := Lib.hid ho
              have HOK := Lib.hid hok2
              clear T hw hw2 her h0 h3 h8 he hdrop hcl hcg hO hv hX ho hok2 hok' hD
              go_wp2_with fail
              refine HT.out.mono ?_
              rintro e w1 ⟨rfl, X2, hx1, hD2, hO2⟩
              obtain ⟨hxp, HD2, lv2, tv2, _, d1, _, _, _, _, _, df⟩ := dec_open hD2
              have e1 := df 1
              clear df
              go_wp2_with fail
              go_roundw
              case rel =>
                have hs1 := hO2.size
                refine ⟨k + 1, (stepS s' c).2, X2, out, by go_num, by omega, HOK.out, ?_, ?_, ?_, ?_, ?_, by omega, HW.out⟩
                · have := dec_er (n := 0) (v := .nilIface) HD2.out rfl
                  rwa [er_same _ HE.out] at this
                · intro i hi
                  rcases hx1 i hi with h | h
                  · exact HX.out i h
                  · exact .inr (by omega)
                · exact (HO.out.trans hO2 HX.out).trans (Only.set hxp _ _ _) fun i hi => by
                    rcases hx1 i hi with h | h
                    · exact HX.out i h
                    · exact .inr (by omega)
                · refine OwnB.only (HOW.out.only hO2 HV.out) (Only.set (X := fun i => i = P) rfl _ _ _) ?_
                  intro i hi e
                  exact HV.out i hi (e ▸ hx)
                · intro i hi h2
                  rcases hx1 i h2 with h | h
                  · exact HV.out i hi h
                  · have := (World.ownsRow.lt HOW.out i hi).2; omega
              case measure =>
                have := goesOn_le P (w1.setCell ⟨P, 1, none⟩ .nilIface)
                simp [intOf]; omega
            · unfold StepPost at T
              rw [errV_yes h0] at T
              have HT := Lib.hid T
              have hst : wrD { (stepS s' c).2 with er := (stepS s' c).1 } (l.drop k) = ({ (stepS s' c).2 with er := (stepS s' c).1 }, [], 0) := wrD_stop (.inl h0) _
              have hw2 : wrD s l = ((wrD { (stepS s' c).2 with er := (stepS s' c).1 } (l.drop k)).1, out ++ (wrD { (stepS s' c).2 with er := (stepS s' c).1 } (l.drop k)).2.1, k + (wrD { (stepS s' c).2 with er := (stepS s' c).1 } (l.drop k)).2.2) := by
                rw [hw, hst, hdrop, wrD_bad he h8 h3 h0]
              have HW := Lib.hid hw2
              have HO := Lib.hid hO
              have HV := Lib.hid hv
              have HX := Lib.hid hX
              have HOW := Lib.hid ho
              have HOK := Lib.hid hok2
              have H0 := Lib.hid h0
              clear T hw hw2 her h0 h3 h8 he hdrop hcl hcg hO hv hX ho hok2 hok' hD hst
              go_wp2_with fail
              refine HT.out.mono ?_
              rintro e w1 ⟨rfl, X2, hx1, hD2, hO2⟩
              have HE3 := Lib.hid (dec_er (n := (stepS s' c).1) (v := .iface 32 (.int .i64 ((stepS s' c).1 : Int))) hD2 (errV_yes H0.out).symm)
              obtain ⟨hxp, HD2, lv2, tv2, _, d1, _, _, _, _, _, df⟩ := dec_open hD2
              have e1 := df 1
              clear df
              go_wp2_with fail
              go_roundw
              case rel =>
                have hs1 := hO2.size
                refine ⟨k, { (stepS s' c).2 with er := (stepS s' c).1 }, X2, out, rfl, hk, ok_er HOK.out _, HE3.out, ?_, ?_, ?_, ?_, by omega, HW.out⟩
                · intro i hi
                  rcases hx1 i hi with h | h
                  · exact HX.out i h
                  · exact .inr (by omega)
                · exact (HO.out.trans hO2 HX.out).trans (Only.set hxp _ _ _) fun i hi => by
                    rcases hx1 i hi with h | h
                    · exact HX.out i h
                    · exact .inr (by omega)
                · refine OwnB.only (HOW.out.only hO2 HV.out) (Only.set (X := fun i => i = P) rfl _ _ _) ?_
                  intro i hi e
                  exact HV.out i hi (e ▸ hx)
                · intro i hi h2
                  rcases hx1 i h2 with h | h
                  · exact HV.out i hi h
                  · have := (World.ownsRow.lt HOW.out i hi).2; omega
              case measure =>
                obtain ⟨_, _, _, _, _, q1, _⟩ := dec_open HE3.out
                rw [show errV ({ (stepS s' c).2 with er := (stepS s' c).1 } : Dc).er = .iface 32 (.int .i64 ((stepS s' c).1 : Int)) from errV_yes H0.out] at q1
                have := goesOn_no q1
                simp [intOf]; omega
      · have W := Lib.hid (fun w' hb => write_end (w' := w') (.inr (.inr (by omega : l.length ≤ k))) hD hX hO ho hv hw hb)
        rw [he] at W
        clear hw ho hD hX hO hv he
        go_wp2_with fail
        go_quiet (fail)
        go_wp2_with fail
        refine bodyPost_ret (v := .tuple #[.slice va out.length vc, .int .i64 (k : Int), .nilIface]) (by simp [results, Tryz.results29, go_sem]) rfl ?_
        exact W.out _ (below_drewN (Below.refl _ _) nq)
    · have W := Lib.hid (fun w' hb => write_end (w' := w') (.inl he) hD hX hO ho hv hw hb)
      rw [errV_yes he] at W c1
      clear hw ho hD hX hO hv he
      go_wp2_with fail
      go_quiet (fail)
      go_wp2_with fail
      refine bodyPost_ret (v := .tuple #[.slice va out.length vc, .int .i64 (k : Int), .iface 32 (.int .i64 (s'.er : Int))]) (by simp [results, Tryz.results29, go_sem]) rfl ?_
      exact W.out _ (below_drewN (Below.refl _ _) nq)
end Go.Proofs.YtfmgfcddnnggeaaGreatDoor

/- Plain mathematics: lists of fields (names and values as lists of bytes), the values of a name, and lists with a name set, added, removed; nothing of the program. -/
namespace Go.Proofs.YtfmgfcddnnggeaaGreatDoor
open Go.RowKit

abbrev Flds := List (List UInt8 × List UInt8)
theorem lowB_low (c : UInt8) : lowB (lowB c) = lowB c := by
  by_cases h : 65 ≤ c.toNat ∧ c.toNat ≤ 90
  · have e := lowB_up h.1 h.2
    exact lowB_not (by omega)
  · rw [lowB_not h, lowB_not h]
theorem lowS_low (l : List UInt8) : lowS (lowS l) = lowS l := by
  unfold lowS
  rw [List.map_map]
  exact List.map_congr_left fun c _ => lowB_low c
/-- A field is one of a name. -/
def ofN (n : List UInt8) (p : List UInt8 × List UInt8) : Bool := decide (lowS p.1 = lowS n)
theorem ofN_low (n : List UInt8) (p : List UInt8 × List UInt8) : ofN (lowS n) p = ofN n p := by unfold ofN; rw [lowS_low]
def allL (ps : Flds) (n : List UInt8) : List (List UInt8) := (ps.filter (ofN n)).map (·.2)
def remL (ps : Flds) (n : List UInt8) : Flds := ps.filter fun p => !ofN n p
def addL (ps : Flds) (n v : List UInt8) : Flds := ps ++ [(lowS n, v)]
def setL : Flds → List UInt8 → List UInt8 → Flds
  | [], n, v => [(lowS n, v)]
  | p :: r, n, v => if ofN n p = true then (lowS n, v) :: remL r n else p :: setL r n v
def sizL (ps : Flds) : Nat := ps.foldr (fun p n => p.1.length + p.2.length + 4 + n) 0
/-- The texts of a list, with a comma and a blank between them. -/
def getL : List (List UInt8) → List UInt8
  | [] => []
  | [t] => t
  | t :: r => t ++ 44 :: 32 :: getL r

theorem take_more {α : Type} {ps : List α} {k : Nat} {p : α} (h : ps[k]? = some p) : ps.take (k + 1) = ps.take k ++ [p] := by
  rw [List.take_add_one, h]; rfl
theorem all_yes {ps : Flds} {n : List UInt8} {k : Nat} {p : List UInt8 × List UInt8} (h : ps[k]? = some p) (ho : ofN n p = true) : allL (ps.take (k + 1)) n = allL (ps.take k) n ++ [p.2] := by
  unfold allL; rw [take_more h, List.filter_append, List.map_append]; simp [ho]
theorem all_no {ps : Flds} {n : List UInt8} {k : Nat} {p : List UInt8 × List UInt8} (h : ps[k]? = some p) (ho : ofN n p = false) : allL (ps.take (k + 1)) n = allL (ps.take k) n := by
  unfold allL; rw [take_more h, List.filter_append, List.map_append]; simp [ho]
theorem all_le (ps : Flds) (n : List UInt8) (k : Nat) : (allL (ps.take k) n).length ≤ k := by
  unfold allL; rw [List.length_map]
  exact Nat.le_trans (List.length_filter_le _ _) (List.length_take_le _ _)
theorem all_len (ps : Flds) (n : List UInt8) : (allL ps n).length ≤ ps.length := by
  unfold allL; rw [List.length_map]; exact List.length_filter_le _ _
theorem rem_yes {ps : Flds} {n : List UInt8} {k : Nat} {p : List UInt8 × List UInt8} (h : ps[k]? = some p) (ho : ofN n p = true) : remL (ps.take (k + 1)) n = remL (ps.take k) n := by
  unfold remL; rw [take_more h, List.filter_append]; simp [ho]
theorem rem_no {ps : Flds} {n : List UInt8} {k : Nat} {p : List UInt8 × List UInt8} (h : ps[k]? = some p) (ho : ofN n p = false) : remL (ps.take (k + 1)) n = remL (ps.take k) n ++ [p] := by
  unfold remL; rw [take_more h, List.filter_append]; simp [ho]
theorem rem_le (ps : Flds) (n : List UInt8) (k : Nat) : (remL (ps.take k) n).length ≤ k :=
  Nat.le_trans (List.length_filter_le _ _) (List.length_take_le _ _)
theorem rem_len (ps : Flds) (n : List UInt8) : (remL ps n).length ≤ ps.length := List.length_filter_le _ _
theorem any_more {ps : Flds} {n : List UInt8} {k : Nat} {p : List UInt8 × List UInt8} (h : ps[k]? = some p) : (ps.take (k + 1)).any (ofN n) = ((ps.take k).any (ofN n) || ofN n p) := by
  rw [take_more h, List.any_append]; simp

theorem set_none {ps : Flds} {n v : List UInt8} (h : ps.any (ofN n) = false) : setL ps n v = ps ++ [(lowS n, v)] := by
  induction ps with
  | nil => rfl
  | cons p r ih =>
    simp only [List.any_cons, Bool.or_eq_false_iff] at h
    rw [setL, if_neg (by rw [h.1]; simp), ih h.2]; rfl
theorem set_app {ps : Flds} {n v : List UInt8} (h : ps.any (ofN n) = true) (qs : Flds) : setL (ps ++ qs) n v = setL ps n v ++ remL qs n := by
  induction ps with
  | nil => simp at h
  | cons p r ih =>
    rw [List.cons_append, setL, setL]
    cases hp : ofN n p with
    | true =>
      rw [if_pos rfl, if_pos rfl]
      unfold remL
      rw [List.filter_append]; rfl
    | false =>
      rw [if_neg (by simp), if_neg (by simp)]
      simp only [List.any_cons, hp, Bool.false_or] at h
      rw [ih h]; rfl
/-- What a list with a name set is after k of its fields: the fields so far, until one is of the name. -/
def setK (ps : Flds) (n v : List UInt8) (k : Nat) : Flds := if (ps.take k).any (ofN n) = true then setL (ps.take k) n v else ps.take k
theorem setK0 (ps : Flds) (n v : List UInt8) : setK ps n v 0 = [] := by simp [setK]
theorem setK_other {ps : Flds} {n v : List UInt8} {k : Nat} {p : List UInt8 × List UInt8} (h : ps[k]? = some p) (ho : ofN n p = false) : setK ps n v (k + 1) = setK ps n v k ++ [p] := by
  unfold setK
  rw [any_more h, ho, Bool.or_false]
  cases ha : (ps.take k).any (ofN n) with
  | true =>
    rw [if_pos rfl, if_pos rfl, take_more h, set_app ha]
    unfold remL; simp [ho]
  | false =>
    rw [if_neg (by simp), if_neg (by simp), take_more h]
theorem setK_first {ps : Flds} {n v : List UInt8} {k : Nat} {p : List UInt8 × List UInt8} (h : ps[k]? = some p) (ho : ofN n p = true) (hf : (ps.take k).any (ofN n) = false) : setK ps n v (k + 1) = setK ps n v k ++ [(lowS n, v)] := by
  unfold setK
  rw [any_more h, ho, Bool.or_true, if_pos rfl, hf, if_neg (by simp), take_more h]
  have : ∀ (l : Flds), l.any (ofN n) = false → setL (l ++ [p]) n v = l ++ [(lowS n, v)] := by
    intro l
    induction l with
    | nil => intro _; rw [List.nil_append, setL, if_pos ho]; rfl
    | cons q r ih =>
      intro hl
      simp only [List.any_cons, Bool.or_eq_false_iff] at hl
      rw [List.cons_append, setL, if_neg (by rw [hl.1]; simp), ih hl.2]; rfl
  exact this _ hf
theorem setK_again {ps : Flds} {n v : List UInt8} {k : Nat} {p : List UInt8 × List UInt8} (h : ps[k]? = some p) (ho : ofN n p = true) (hf : (ps.take k).any (ofN n) = true) : setK ps n v (k + 1) = setK ps n v k := by
  unfold setK
  rw [any_more h, hf, Bool.true_or, if_pos rfl, if_pos rfl, take_more h, set_app hf]
  unfold remL; simp [ho]
theorem set_len (ps : Flds) (n v : List UInt8) : (setL ps n v).length ≤ ps.length + 1 := by
  induction ps with
  | nil => simp [setL]
  | cons p r ih =>
    rw [setL]
    split
    · have := rem_len r n; simp; omega
    · simp; omega
theorem setK_len (ps : Flds) (n v : List UInt8) (k : Nat) : (setK ps n v k).length ≤ k + 1 := by
  unfold setK
  have h : (ps.take k).length ≤ k := List.length_take_le _ _
  split
  · have := set_len (ps.take k) n v; omega
  · omega
theorem setK_end {ps : Flds} {n v : List UInt8} {k : Nat} (hk : ps.length ≤ k) (hf : (ps.take k).any (ofN n) = true) : setK ps n v k = setL ps n v := by
  unfold setK; rw [if_pos hf, List.take_of_length_le hk]
theorem setK_end' {ps : Flds} {n v : List UInt8} {k : Nat} (hk : ps.length ≤ k) (hf : (ps.take k).any (ofN n) = false) : setK ps n v k ++ [(lowS n, v)] = setL ps n v := by
  unfold setK
  rw [hf, if_neg (by simp)]
  rw [List.take_of_length_le hk] at hf ⊢
  exact (set_none hf).symm
/-- The reference's way: what stands before the first field of the name, the new field, the others of the rest. -/
theorem set_at {ps : Flds} {n v : List UInt8} {k : Nat} {p : List UInt8 × List UInt8} (h : ps[k]? = some p) (ho : ofN n p = true) (hf : (ps.take k).any (ofN n) = false) :
    setL ps n v = addL (ps.take k) n v ++ remL (ps.drop (k + 1)) n := by
  have e := setK_first (v := v) h ho hf
  have hd : ps = ps.take (k + 1) ++ ps.drop (k + 1) := (List.take_append_drop _ _).symm
  have ha : (ps.take (k + 1)).any (ofN n) = true := by rw [any_more h, ho, Bool.or_true]
  have e1 : setL ps n v = setL (ps.take (k + 1)) n v ++ remL (ps.drop (k + 1)) n := by
    conv => lhs; rw [hd]
    exact set_app ha _
  rw [e1]
  have e2 : setK ps n v (k + 1) = setL (ps.take (k + 1)) n v := by unfold setK; rw [if_pos ha]
  have e3 : setK ps n v k = ps.take k := by unfold setK; rw [hf, if_neg (by simp)]
  rw [← e2, e, e3]; rfl

theorem all_app (ps qs : Flds) (n : List UInt8) : allL (ps ++ qs) n = allL ps n ++ allL qs n := by unfold allL; rw [List.filter_append, List.map_append]
theorem all_rem_same {ps : Flds} {n m : List UInt8} (h : lowS n = lowS m) : allL (remL ps n) m = [] := by
  unfold allL remL
  rw [List.filter_filter]
  have : (ps.filter fun p => ofN m p && !ofN n p) = [] := by
    rw [List.filter_eq_nil_iff]
    intro p _
    unfold ofN; rw [h]; simp
  rw [this]; rfl
theorem all_rem_other {ps : Flds} {n m : List UInt8} (h : lowS n ≠ lowS m) : allL (remL ps n) m = allL ps m := by
  unfold allL remL
  rw [List.filter_filter]
  congr 1
  refine List.filter_congr fun p _ => ?_
  unfold ofN
  by_cases hp : lowS p.1 = lowS m
  · simp only [hp, decide_true, Bool.true_and]
    rw [decide_eq_false (fun e => h e.symm)]; rfl
  · simp [hp]
theorem ofN_new_same {n m v : List UInt8} (h : lowS n = lowS m) : ofN m (lowS n, v) = true := by unfold ofN; rw [lowS_low, h]; simp
theorem ofN_new_other {n m v : List UInt8} (h : lowS n ≠ lowS m) : ofN m (lowS n, v) = false := by unfold ofN; rw [lowS_low]; simp [h]
theorem all_add_same {ps : Flds} {n m v : List UInt8} (h : lowS n = lowS m) : allL (addL ps n v) m = allL ps m ++ [v] := by
  unfold addL; rw [all_app]; congr 1; unfold allL; simp [ofN_new_same h]
theorem all_add_other {ps : Flds} {n m v : List UInt8} (h : lowS n ≠ lowS m) : allL (addL ps n v) m = allL ps m := by
  unfold addL; rw [all_app]; unfold allL; simp [ofN_new_other h]
theorem all_set_same {ps : Flds} {n m v : List UInt8} (h : lowS n = lowS m) : allL (setL ps n v) m = [v] := by
  induction ps with
  | nil => unfold setL allL; simp [ofN_new_same h]
  | cons p r ih =>
    rw [setL]
    split
    · have e : (lowS n, v) :: remL r n = [(lowS n, v)] ++ remL r n := rfl
      rw [e, all_app, all_rem_same h]; unfold allL; simp [ofN_new_same h]
    · rename_i hp
      have e : p :: setL r n v = [p] ++ setL r n v := rfl
      have hp' : ofN m p = false := by unfold ofN at hp ⊢; rw [← h]; simpa using hp
      rw [e, all_app, ih]; unfold allL; simp [hp']
theorem all_set_other {ps : Flds} {n m v : List UInt8} (h : lowS n ≠ lowS m) : allL (setL ps n v) m = allL ps m := by
  induction ps with
  | nil => unfold setL allL; simp [ofN_new_other h]
  | cons p r ih =>
    have e0 : p :: r = [p] ++ r := rfl
    rw [setL]
    split
    · rename_i hp
      have e : (lowS n, v) :: remL r n = [(lowS n, v)] ++ remL r n := rfl
      have hp' : ofN m p = false := by
        unfold ofN at hp ⊢
        have := of_decide_eq_true hp
        rw [this]; simp [h]
      rw [e, all_app, all_rem_other h, e0, all_app]; unfold allL; simp [ofN_new_other h, hp']
    · have e : p :: setL r n v = [p] ++ setL r n v := rfl
      rw [e, all_app, ih, e0, all_app]
theorem all_congr {ps : Flds} {n m : List UInt8} (h : lowS n = lowS m) : allL ps n = allL ps m := by
  unfold allL ofN; rw [h]
theorem siz_app (ps qs : Flds) : sizL (ps ++ qs) = sizL ps + sizL qs := by
  induction ps with
  | nil => simp [sizL]
  | cons p r ih => unfold sizL at *; rw [List.cons_append, List.foldr_cons, List.foldr_cons, ih]; omega
theorem siz_more {ps : Flds} {k : Nat} {p : List UInt8 × List UInt8} (h : ps[k]? = some p) : sizL (ps.take (k + 1)) = sizL (ps.take k) + (p.1.length + p.2.length + 4) := by
  rw [take_more h, siz_app]; simp [sizL]
theorem getL_cons (t : List UInt8) (r : List (List UInt8)) (h : r ≠ []) : getL (t :: r) = t ++ 44 :: 32 :: getL r := by
  cases r with
  | nil => exact absurd rfl h
  | cons a b => rfl
theorem getL_snoc (ls : List (List UInt8)) (t : List UInt8) (h : ls ≠ []) : getL (ls ++ [t]) = getL ls ++ 44 :: 32 :: t := by
  induction ls with
  | nil => exact absurd rfl h
  | cons a r ih =>
    cases r with
    | nil => rfl
    | cons b c =>
      rw [List.cons_append, getL_cons a _ (by simp), ih (by simp), getL_cons a (b :: c) (by simp)]
      simp
end Go.Proofs.YtfmgfcddnnggeaaGreatDoor
