import Derived.Test.YtfmgfcddnnggeaaGreatDoorPa0
import Derived.Test.YtfmgfcddnnggeaaGreatDoorPa4
import Derived.Test.YtfmgfcddnnggeaaGreatDoorPa1
import Derived.BigFrame
import Derived.Laws.OwnMore
import Derived.Deep.AppendLies
import Derived.Laws.IdiomStrings
/- A decoder in memory: what its block holds, and the rows that are its own. -/
namespace Go.Proofs.YtfmgfcddnnggeaaGreatDoor
open Go.RowKit

/-- The decoder at the block P holds s; its blocks are those of X, all from B on. -/
def Dec (B P : Nat) (X : Nat → Prop) (s : Dc) (w : World) : Prop :=
  ∃ lv tv, w.heap[P]? = some (.cells #[.int .i64 (s.pl : Int), errV s.er, .int .i64 (s.sz : Int), .int .i64 (s.tot : Int), .int .i64 (s.len : Int), lv, tv] 68 (0, 0)) ∧
    w.ownsRow B 5 1 lv s.line.length (Lib.byteCells s.line) ∧ OwnsP 71 B w tv s.trs ∧ X P ∧ (∀ k, lv.ownBlock = some k → X k) ∧ (∀ k, tv.ownBlock = some k → X k) ∧ (∀ k, X k → B ≤ k ∧ k < w.heap.size)
/-- The seven cells of a decoder: what the walks read. -/
def DecC (P : Nat) (s : Dc) (lv tv : Value) (w : World) : Prop :=
  w.cell? ⟨P, 0, none⟩ = some (.int .i64 (s.pl : Int)) ∧ w.cell? ⟨P, 1, none⟩ = some (errV s.er) ∧ w.cell? ⟨P, 2, none⟩ = some (.int .i64 (s.sz : Int)) ∧ w.cell? ⟨P, 3, none⟩ = some (.int .i64 (s.tot : Int)) ∧
    w.cell? ⟨P, 4, none⟩ = some (.int .i64 (s.len : Int)) ∧ w.cell? ⟨P, 5, none⟩ = some lv ∧ w.cell? ⟨P, 6, none⟩ = some tv ∧ (∀ j, w.frozen? ⟨P, j, none⟩ = false)
theorem dec_cells {P : Nat} {s : Dc} {lv tv : Value} {w : World} (h : w.heap[P]? = some (.cells #[.int .i64 (s.pl : Int), errV s.er, .int .i64 (s.sz : Int), .int .i64 (s.tot : Int), .int .i64 (s.len : Int), lv, tv] 68 (0, 0))) : DecC P s lv tv w := by
  refine ⟨?_, ?_, ?_, ?_, ?_, ?_, ?_, fun j => Lib.frozen_of_heap h j⟩ <;> rw [Lib.cell_of_heap h] <;> rfl
theorem Dec.lt {B P : Nat} {X : Nat → Prop} {s : Dc} {w : World} (h : Dec B P X s w) : P < w.heap.size ∧ X P ∧ (∀ k, X k → B ≤ k ∧ k < w.heap.size) := by
  obtain ⟨lv, tv, h1, _, _, h4, _, _, h7⟩ := h
  exact ⟨(h7 P h4).2, h4, h7⟩
/-- A decoder stands as it is where its blocks do. -/
theorem Dec.only {B P : Nat} {X Y : Nat → Prop} {s : Dc} {w w' : World} (h : Dec B P X s w) (hO : Only Y w w') (hd : ∀ k, X k → ¬ Y k) : Dec B P X s w' := by
  obtain ⟨lv, tv, h1, h2, h3, h4, h5, h6, h7⟩ := h
  exact ⟨lv, tv, (hO.block P (h7 P h4).2 (hd P h4)).trans h1, hO.owns h2 (fun k hk => hd k (h5 k hk)), hO.owns h3 (fun k hk => hd k (h6 k hk)), h4, h5, h6, fun k hk => ⟨(h7 k hk).1, Nat.lt_of_lt_of_le (h7 k hk).2 hO.size⟩⟩
theorem Dec.below {B P : Nat} {X : Nat → Prop} {s : Dc} {w w' : World} (h : Dec B P X s w) (hb : Below w.heap.size w w') : Dec B P X s w' :=
  h.only (Y := fun _ => False) (Only.below hb) (fun _ _ h => h)
theorem Dec.alloc {B P : Nat} {X : Nat → Prop} {s : Dc} {w : World} (h : Dec B P X s w) (o : Obj) : Dec B P X s (w.alloc o) := h.below (below_new w o)
/-- A store into the decoder's own block. -/
theorem dec_set {B P : Nat} {X : Nat → Prop} {s s' : Dc} {w : World} (h : Dec B P X s w) (j : Nat) (u : Value)
    (hl : s'.line = s.line) (ht : s'.trs = s.trs)
    (hc : ∀ lv tv, (#[.int .i64 (s.pl : Int), errV s.er, .int .i64 (s.sz : Int), .int .i64 (s.tot : Int), .int .i64 (s.len : Int), lv, tv] : Array Value).setIfInBounds j u = #[.int .i64 (s'.pl : Int), errV s'.er, .int .i64 (s'.sz : Int), .int .i64 (s'.tot : Int), .int .i64 (s'.len : Int), lv, tv]) :
    Dec B P X s' (w.setCell ⟨P, j, none⟩ u) := by
  obtain ⟨lv, tv, h1, h2, h3, h4, h5, h6, h7⟩ := h
  have hg : w.grownBy (w.setCell ⟨P, j, none⟩ u) (some P) := ⟨rfl, rfl, rfl, by simp, fun k _ hk => Below.heap_setCell _ _ _ _ (fun e => hk (by rw [e]))⟩
  refine ⟨lv, tv, ?_, ?_, ?_, h4, h5, h6, fun k hk => ⟨(h7 k hk).1, by simpa using (h7 k hk).2⟩⟩
  · rw [heap_setCell_same w P j _ _ u h1, hc]
  · rw [hl]; exact h2.kept hg (.inr (ownBlock_other h2 h1 (by decide)))
  · rw [ht]; exact World.ownsRow.kept h3 hg (.inr (ownBlock_other h3 h1 (by decide)))
theorem dec_pl {B P : Nat} {X : Nat → Prop} {s : Dc} {w : World} (h : Dec B P X s w) {n : Nat} {z : Int} (hz : z = n) : Dec B P X { s with pl := n } (w.setCell ⟨P, 0, none⟩ (.int .i64 z)) := dec_set h _ _ rfl rfl fun _ _ => by rw [hz]; rfl
theorem dec_er {B P : Nat} {X : Nat → Prop} {s : Dc} {w : World} (h : Dec B P X s w) {n : Nat} {v : Value} (hv : v = errV n) : Dec B P X { s with er := n } (w.setCell ⟨P, 1, none⟩ v) := dec_set h _ _ rfl rfl fun _ _ => by rw [hv]; rfl
theorem dec_sz {B P : Nat} {X : Nat → Prop} {s : Dc} {w : World} (h : Dec B P X s w) {n : Nat} {z : Int} (hz : z = n) : Dec B P X { s with sz := n } (w.setCell ⟨P, 2, none⟩ (.int .i64 z)) := dec_set h _ _ rfl rfl fun _ _ => by rw [hz]; rfl
theorem dec_tot {B P : Nat} {X : Nat → Prop} {s : Dc} {w : World} (h : Dec B P X s w) {n : Nat} {z : Int} (hz : z = n) : Dec B P X { s with tot := n } (w.setCell ⟨P, 3, none⟩ (.int .i64 z)) := dec_set h _ _ rfl rfl fun _ _ => by rw [hz]; rfl
theorem dec_len {B P : Nat} {X : Nat → Prop} {s : Dc} {w : World} (h : Dec B P X s w) {n : Nat} {z : Int} (hz : z = n) : Dec B P X { s with len := n } (w.setCell ⟨P, 4, none⟩ (.int .i64 z)) := dec_set h _ _ rfl rfl fun _ _ => by rw [hz]; rfl
/-- What a call leaves that changes the decoder: its new state, and nothing else that was there is changed. -/
def DecTo (B P : Nat) (X : Nat → Prop) (s' : Dc) (w w' : World) : Prop := ∃ X', (∀ k, X' k → X k ∨ w.heap.size ≤ k) ∧ Dec B P X' s' w' ∧ Only X w w'
theorem DecTo.same {B P : Nat} {X : Nat → Prop} {s' : Dc} {w w' : World} (h : Dec B P X s' w') (hO : Only X w w') : DecTo B P X s' w w' := ⟨X, fun _ h => .inl h, h, hO⟩
theorem DecTo.refl {B P : Nat} {X : Nat → Prop} {s : Dc} {w : World} (h : Dec B P X s w) : DecTo B P X s w w := .same h (Only.refl _ _)
/-- What a step returns: the error's number, and the decoder in its new state. -/
def StepPost (B P : Nat) (X : Nat → Prop) (r : Nat × Dc) (w : World) (e : Ending) (w' : World) : Prop := e = .returned (errV r.1) ∧ DecTo B P X r.2 w w'
end Go.Proofs.YtfmgfcddnnggeaaGreatDoor

/- What the decoder's steps return: the size line, the places of single bytes, the data. -/
namespace Go.Proofs.YtfmgfcddnnggeaaGreatDoor
open Go.RowKit

theorem i64_eq {a b : Int} (h : a = b) : Value.int .i64 a = .int .i64 b := by rw [h]
def hexN (c : UInt8) : Nat := (hexV c).getD 0
def hexO (c : UInt8) : Bool := (hexV c).isSome
set_option maxHeartbeats 1000000 in
set_option maxRecDepth 100000 in
theorem hexDigit_any (c : UInt8) (w : World) :
    Calls Tryz.prog 67 #[.int .u8 (c.toNat : Int)] w fun e w' => e = .returned (.tuple #[.int .i64 (hexN c : Int), .bool (hexO c)]) ∧ w = w' := by
  by_cases h1 : 48 ≤ c.toNat ∧ c.toNat ≤ 57
  · have hv : hexV c = some (c.toNat - 48) := by unfold hexV; rw [if_pos h1]
    have hd : digB c = true := by simp [digB]; omega
    have e1 : hexN c = c.toNat - 48 := by unfold hexN; rw [hv]; rfl
    have e2 : hexO c = true := by unfold hexO; rw [hv]; rfl
    rw [e1, e2]
    obtain ⟨h1, h2⟩ := h1
    have HD := Lib.hid hd
    clear hv hd e1 e2
    go_enter Tryz.func67, Tryz.ntmps67
    go_wp2_with fail
    refine (isDigit_any c _).mono ?_
    rintro e w' ⟨rfl, rfl⟩
    rw [HD.out]
    go_wp2_with fail
    go_ret2
    exact ⟨ret_two (i64_eq (by omega)) rfl, rfl⟩
  · have hd : digB c = false := by rw [Bool.eq_false_iff]; simp [digB]; omega
    have HD := Lib.hid hd
    clear hd
    by_cases h2 : 97 ≤ c.toNat ∧ c.toNat ≤ 102
    · have hv : hexV c = some (c.toNat - 87) := by unfold hexV; rw [if_neg h1, if_pos h2]
      have e1 : hexN c = c.toNat - 87 := by unfold hexN; rw [hv]; rfl
      have e2 : hexO c = true := by unfold hexO; rw [hv]; rfl
      rw [e1, e2]
      obtain ⟨h3, h4⟩ := h2
      clear hv e1 e2 h1
      go_enter Tryz.func67, Tryz.ntmps67
      go_wp2_with fail
      refine (isDigit_any c _).mono ?_
      rintro e w' ⟨rfl, rfl⟩
      rw [HD.out]
      go_wp2_with fail
      go_ret2
      exact ⟨ret_two (i64_eq (by omega)) rfl, rfl⟩
    · by_cases h3 : 65 ≤ c.toNat ∧ c.toNat ≤ 70
      · have hv : hexV c = some (c.toNat - 55) := by unfold hexV; rw [if_neg h1, if_neg h2, if_pos h3]
        have e1 : hexN c = c.toNat - 55 := by unfold hexN; rw [hv]; rfl
        have e2 : hexO c = true := by unfold hexO; rw [hv]; rfl
        rw [e1, e2]
        obtain ⟨h4, h5⟩ := h3
        have h6 : ¬ (97 : Int) ≤ (c.toNat : Int) := by omega
        clear hv e1 e2 h1 h2
        go_enter Tryz.func67, Tryz.ntmps67
        go_wp2_with fail
        refine (isDigit_any c _).mono ?_
        rintro e w' ⟨rfl, rfl⟩
        rw [HD.out]
        go_wp2_with fail
        go_ret2
        exact ⟨ret_two (i64_eq (by omega)) rfl, rfl⟩
      · have hv : hexV c = none := by unfold hexV; rw [if_neg h1, if_neg h2, if_neg h3]
        have e1 : hexN c = 0 := by unfold hexN; rw [hv]; rfl
        have e2 : hexO c = false := by unfold hexO; rw [hv]; rfl
        rw [e1, e2]
        clear hv e1 e2
        go_enter Tryz.func67, Tryz.ntmps67
        go_wp2_with fail
        refine (isDigit_any c _).mono ?_
        rintro e w' ⟨rfl, rfl⟩
        rw [HD.out]
        go_wp2_with fail
        all_goals first
          | (exfalso; omega)
          | (go_ret2; exact ⟨rfl, rfl⟩)
theorem errV_yes {c : Nat} (h : c ≠ 0) : errV c = .iface 32 (.int .i64 c) := by unfold errV; rw [if_neg h]
set_option maxHeartbeats 1000000 in
set_option maxRecDepth 100000 in
theorem expect_any {B P : Nat} {X : Nat → Prop} {s : Dc} (c : UInt8) (o n : Nat) (w : World) (h : Dec B P X s w) :
    Calls Tryz.prog 49 #[.pointer (some ⟨P, 0, none⟩), .int .u8 (c.toNat : Int), .int .u8 (o : Int), .int .i64 (n : Int)] w (StepPost B P X (expS s c o n) w) := by
  have hd := h
  obtain ⟨lv, tv, h1, _, _, h4, _⟩ := h
  obtain ⟨c0, _, _, _, _, _, _, hf⟩ := dec_cells h1
  have f0 := hf 0
  have H1 := Lib.hid h1
  have HD := Lib.hid hd
  clear hf h1 hd
  by_cases he : c.toNat = o
  · have e1 : expS s c o n = (0, { s with pl := n }) := by unfold expS; rw [if_pos he]
    rw [e1]
    have hne : ((c.toNat : Int) != (o : Int)) = false := by simp [he]
    clear e1 he
    go_enter Tryz.func49, Tryz.ntmps49
    go_wp2_with fail
    go_ret
    exact ⟨rfl, .same (dec_pl HD.out rfl) (Only.set h4 _ _ _)⟩
  · have e1 : expS s c o n = (33, s) := by unfold expS; rw [if_neg he]
    rw [e1]
    have hne : ((c.toNat : Int) != (o : Int)) = true := by simp; omega
    clear e1 he
    go_enter Tryz.func49, Tryz.ntmps49
    go_wp2_with fail
    go_ret
    exact ⟨rfl, .refl HD.out⟩
/-- The facts of a decoder that the walks read, with its predicate hidden. -/
theorem dec_open {B P : Nat} {X : Nat → Prop} {s : Dc} {w : World} (h : Dec B P X s w) : X P ∧ Hid (Dec B P X s w) ∧ ∃ lv tv, DecC P s lv tv w := by
  have hd := h
  obtain ⟨lv, tv, h1, _, _, h4, _⟩ := h
  exact ⟨h4, Lib.hid hd, lv, tv, dec_cells h1⟩
set_option maxHeartbeats 1000000 in
set_option maxRecDepth 100000 in
theorem takeDigit_any {B P : Nat} {X : Nat → Prop} {s : Dc} (d : Nat) (w : World) (h : Dec B P X s w) (hok : s.Ok) (hd : d < 16) :
    Calls Tryz.prog 68 #[.pointer (some ⟨P, 0, none⟩), .int .i64 (d : Int)] w (StepPost B P X (digS s d) w) := by
  obtain ⟨hx, HD, lv, tv, _, _, c2, c3, c4, _, _, hf⟩ := dec_open h
  have f2 := hf 2
  have f4 := hf 4
  have h1 := hok.b1
  have h5 := hok.b5
  clear h hf hok
  by_cases h8 : s.len = 8
  · have e1 : digS s d = (33, s) := by unfold digS; rw [if_pos h8]
    rw [e1]
    have hq : ((s.len : Int) == 8) = true := by simp [h8] <;> rfl
    clear e1 h8
    go_enter Tryz.func68, Tryz.ntmps68
    go_wp2_with fail
    go_ret
    exact ⟨rfl, .refl HD.out⟩
  · have hq : ((s.len : Int) == 8) = false := by simp; omega
    by_cases hl : 65536 < s.tot + (s.sz * 16 + d)
    · have e1 : digS s d = (5, s) := by unfold digS; rw [if_neg h8, if_pos hl]
      rw [e1]
      have hq2 : (65536 : Int) < (s.tot : Int) + ((s.sz : Int) * 16 + (d : Int)) := by omega
      clear e1 h8
      go_enter Tryz.func68, Tryz.ntmps68
      go_wp2_with fail
      go_ret
      exact ⟨rfl, .refl HD.out⟩
    · have e1 : digS s d = (0, { s with sz := s.sz * 16 + d, len := s.len + 1 }) := by unfold digS; rw [if_neg h8, if_neg hl]
      rw [e1]
      have hq2 : ¬ (65536 : Int) < (s.tot : Int) + ((s.sz : Int) * 16 + (d : Int)) := by omega
      clear e1 h8
      go_enter Tryz.func68, Tryz.ntmps68
      go_wp2_with fail
      go_ret
      exact ⟨rfl, .same (dec_len (n := s.len + 1) (z := (s.len : Int) + 1) (dec_sz (n := s.sz * 16 + d) (z := (s.sz : Int) * 16 + (d : Int)) HD.out (by omega)) (by omega)) ((Only.set hx _ _ _).trans' (Only.set hx _ _ _))⟩
set_option maxHeartbeats 1000000 in
set_option maxRecDepth 100000 in
theorem takeSize_any {B P : Nat} {X : Nat → Prop} {s : Dc} (c : UInt8) (w : World) (h : Dec B P X s w) (hok : s.Ok) :
    Calls Tryz.prog 46 #[.pointer (some ⟨P, 0, none⟩), .int .u8 (c.toNat : Int)] w (StepPost B P X (sizeS s c) w) := by
  have HH := Lib.hid h
  have HO := Lib.hid hok
  obtain ⟨hx, HD, lv, tv, _, _, _, _, c4, _, _, hf⟩ := dec_open h
  have f0 := hf 0
  have f4 := hf 4
  have h5 := hok.b5
  clear h hf hok
  cases hv : hexV c with
  | some d =>
    have e1 : sizeS s c = digS s d := by unfold sizeS; rw [hv]
    have e2 : hexN c = d := by unfold hexN; rw [hv]; rfl
    have e3 : hexO c = true := by unfold hexO; rw [hv]; rfl
    have HT := Lib.hid (takeDigit_any d w HH.out HO.out (hexV_lt hv))
    rw [← e1] at HT
    have E2 := Lib.hid e2
    have E3 := Lib.hid e3
    clear hv e1 e2 e3
    go_enter Tryz.func46, Tryz.ntmps46
    go_wp2_with fail
    refine (hexDigit_any c _).mono ?_
    rintro e w' ⟨rfl, rfl⟩
    rw [E2.out, E3.out]
    go_wp2_with fail
    refine HT.out.mono ?_
    rintro e w' ⟨rfl, hT⟩
    go_wp2_with fail
    go_ret
    exact ⟨rfl, hT⟩
  | none =>
    have e2 : hexN c = 0 := by unfold hexN; rw [hv]; rfl
    have e3 : hexO c = false := by unfold hexO; rw [hv]; rfl
    have E2 := Lib.hid e2
    have E3 := Lib.hid e3
    have E1 : sizeS s c = if s.len = 0 then (33, s) else if c.toNat = 59 then (0, { s with pl := 1, len := s.len + 1 }) else expS s c 13 2 := by unfold sizeS; rw [hv]
    clear e2 e3 hv
    by_cases h0 : s.len = 0
    · rw [if_pos h0] at E1
      rw [E1]
      have hq : ((s.len : Int) == 0) = true := by simp [h0]
      clear E1 h0
      go_enter Tryz.func46, Tryz.ntmps46
      go_wp2_with fail
      refine (hexDigit_any c _).mono ?_
      rintro e w' ⟨rfl, rfl⟩
      rw [E2.out, E3.out]
      go_wp2_with fail
      go_ret
      exact ⟨rfl, .refl HD.out⟩
    · rw [if_neg h0] at E1
      have hq : ((s.len : Int) == 0) = false := by simp; omega
      by_cases h59 : c.toNat = 59
      · rw [if_pos h59] at E1
        rw [E1]
        have hq2 : ((c.toNat : Int) == 59) = true := by simp [h59] <;> rfl
        clear E1 h0 h59
        go_enter Tryz.func46, Tryz.ntmps46
        go_wp2_with fail
        refine (hexDigit_any c _).mono ?_
        rintro e w' ⟨rfl, rfl⟩
        rw [E2.out, E3.out]
        go_wp2_with fail
        go_ret
        exact ⟨rfl, .same (dec_len (n := s.len + 1) (z := (s.len : Int) + 1) (dec_pl (n := 1) (z := 1) HD.out rfl) (by omega)) ((Only.set hx _ _ _).trans' (Only.set hx _ _ _))⟩
      · rw [if_neg h59] at E1
        rw [E1]
        have hq2 : ((c.toNat : Int) == 59) = false := by simp; omega
        have HE := Lib.hid (expect_any c 13 2 w HH.out)
        clear E1 h0 h59
        go_enter Tryz.func46, Tryz.ntmps46
        go_wp2_with fail
        refine (hexDigit_any c _).mono ?_
        rintro e w' ⟨rfl, rfl⟩
        rw [E2.out, E3.out]
        go_wp2_with fail
        refine HE.out.mono ?_
        rintro e w' ⟨rfl, hT⟩
        go_wp2_with fail
        go_ret
        exact ⟨rfl, hT⟩
set_option maxHeartbeats 1000000 in
set_option maxRecDepth 100000 in
theorem takeExt_any {B P : Nat} {X : Nat → Prop} {s : Dc} (c : UInt8) (w : World) (h : Dec B P X s w) (hok : s.Ok) :
    Calls Tryz.prog 47 #[.pointer (some ⟨P, 0, none⟩), .int .u8 (c.toNat : Int)] w (StepPost B P X (extS s c) w) := by
  obtain ⟨hx, HD, lv, tv, _, _, _, _, c4, _, _, hf⟩ := dec_open h
  have f0 := hf 0
  have f4 := hf 4
  have h5 := hok.b5
  clear h hf hok
  by_cases h13 : c.toNat = 13
  · have e1 : extS s c = (0, { s with pl := 2 }) := by unfold extS; rw [if_pos h13]
    rw [e1]
    have hq : ((c.toNat : Int) == 13) = true := by simp [h13] <;> rfl
    clear e1 h13
    go_enter Tryz.func47, Tryz.ntmps47
    go_wp2_with fail
    go_ret
    exact ⟨rfl, .same (dec_pl HD.out rfl) (Only.set hx _ _ _)⟩
  · have hq : ((c.toNat : Int) == 13) = false := by simp; omega
    cases hc : ctlB c with
    | true =>
      have e1 : extS s c = (33, s) := by unfold extS; rw [if_neg h13, if_pos (.inl hc)]
      rw [e1]
      have HC := Lib.hid hc
      clear e1 h13 hc
      go_enter Tryz.func47, Tryz.ntmps47
      go_wp2_with fail
      refine (isControl_any c _).mono ?_
      rintro e w' ⟨rfl, rfl⟩
      rw [HC.out]
      go_wp2_with fail
      go_ret
      exact ⟨rfl, .refl HD.out⟩
    | false =>
      have HC := Lib.hid hc
      by_cases h256 : s.len = 256
      · have e1 : extS s c = (33, s) := by unfold extS; rw [if_neg h13, if_pos (.inr h256)]
        rw [e1]
        have hq2 : ((s.len : Int) == 256) = true := by simp [h256] <;> rfl
        clear e1 h13 hc h256
        go_enter Tryz.func47, Tryz.ntmps47
        go_wp2_with fail
        refine (isControl_any c _).mono ?_
        rintro e w' ⟨rfl, rfl⟩
        rw [HC.out]
        go_wp2_with fail
        go_ret
        exact ⟨rfl, .refl HD.out⟩
      · have e1 : extS s c = (0, { s with len := s.len + 1 }) := by unfold extS; rw [if_neg h13, if_neg (by simp [hc, h256])]
        rw [e1]
        have hq2 : ((s.len : Int) == 256) = false := by simp; omega
        clear e1 h13 hc h256
        go_enter Tryz.func47, Tryz.ntmps47
        go_wp2_with fail
        refine (isControl_any c _).mono ?_
        rintro e w' ⟨rfl, rfl⟩
        rw [HC.out]
        go_wp2_with fail
        go_ret
        exact ⟨rfl, .same (dec_len (n := s.len + 1) (z := (s.len : Int) + 1) HD.out (by omega)) (Only.set hx _ _ _)⟩
theorem StepPost.from {B P : Nat} {X : Nat → Prop} {r : Nat × Dc} {w w1 w2 : World} {e : Ending} (h : StepPost B P X r w1 e w2) (hO : Only X w w1) : StepPost B P X r w e w2 := by
  obtain ⟨he, X', h1, h2, h3⟩ := h
  have hs := hO.size
  exact ⟨he, X', fun k hk => by rcases h1 k hk with h | h; exact .inl h; exact .inr (by omega), h2, hO.trans' h3⟩
set_option maxHeartbeats 1000000 in
set_option maxRecDepth 100000 in
theorem endSize_any {B P : Nat} {X : Nat → Prop} {s : Dc} (c : UInt8) (w : World) (h : Dec B P X s w) :
    Calls Tryz.prog 48 #[.pointer (some ⟨P, 0, none⟩), .int .u8 (c.toNat : Int)] w (StepPost B P X (endS s c) w) := by
  obtain ⟨hx, HD, lv, tv, _, _, c2, _, c4, _, _, hf⟩ := dec_open h
  have f4 := hf 4
  have hL := dec_len (n := 0) (z := 0) h rfl
  have HS := Lib.hid (Only.set hx w 4 (.int .i64 0))
  by_cases h0 : s.sz = 0
  · have e1 : endS s c = expS { s with len := 0 } c 10 6 := by unfold endS; rw [if_pos h0]
    have HE := Lib.hid (expect_any c 10 6 _ hL)
    rw [← e1] at HE
    have hq : ((s.sz : Int) == 0) = true := by simp [h0]
    clear e1 h0 h hf hL
    go_enter Tryz.func48, Tryz.ntmps48
    go_wp2_with fail
    refine HE.out.mono ?_
    rintro e w' hp
    have hp := hp.from HS.out
    obtain ⟨rfl, hT⟩ := hp
    go_wp2_with fail
    go_ret
    exact ⟨rfl, hT⟩
  · have e1 : endS s c = expS { s with len := 0 } c 10 3 := by unfold endS; rw [if_neg h0]
    have HE := Lib.hid (expect_any c 10 3 _ hL)
    rw [← e1] at HE
    have hq : ((s.sz : Int) == 0) = false := by simp; omega
    clear e1 h0 h hf hL
    go_enter Tryz.func48, Tryz.ntmps48
    go_wp2_with fail
    refine HE.out.mono ?_
    rintro e w' hp
    have hp := hp.from HS.out
    obtain ⟨rfl, hT⟩ := hp
    go_wp2_with fail
    go_ret
    exact ⟨rfl, hT⟩
/-- What takeData leaves. -/
def DataPost (B P : Nat) (X : Nat → Prop) (s : Dc) (n : Nat) (w : World) (e : Ending) (w' : World) : Prop := e = .returned (.int .i64 (n : Int)) ∧ Dec B P X (dataS s n) w' ∧ Only X w w'
set_option maxHeartbeats 1000000 in
set_option maxRecDepth 100000 in
theorem takeData_any {B P : Nat} {X : Nat → Prop} {s : Dc} (m : Nat) (w : World) (h : Dec B P X s w) (hok : s.Ok) (h3 : s.pl = 3) (_hm : m ≤ 1000000000000) :
    Calls Tryz.prog 37 #[.pointer (some ⟨P, 0, none⟩), .int .i64 (m : Int)] w (DataPost B P X s (min m s.sz) w) := by
  obtain ⟨hx, HD, lv, tv, c0, _, c2, c3, _, _, _, hf⟩ := dec_open h
  have f0 := hf 0
  have f2 := hf 2
  have f3 := hf 3
  have h1 := hok.b1
  clear h hf hok
  obtain ⟨n, hn⟩ : ∃ n, n = min m s.sz := ⟨_, rfl⟩
  have hmin : min (m : Int) (s.sz : Int) = (n : Int) := by omega
  have hns : n ≤ s.sz := by omega
  rw [← hn]
  clear hn
  by_cases h0 : s.sz - n = 0
  · have e1 : dataS s n = { s with sz := s.sz - n, tot := s.tot + n, pl := 4 } := by unfold dataS; rw [if_pos h0]
    have E1 := Lib.hid e1
    have hq : ((s.sz : Int) - (n : Int) == 0) = true := by simp; omega
    clear e1 h0
    go_enter Tryz.func37, Tryz.ntmps37
    go_wp2_with fail
    go_ret
    refine ⟨rfl, ?_, ((Only.set hx _ _ _).trans' (Only.set hx _ _ _)).trans' (Only.set hx _ _ _)⟩
    rw [E1.out]
    exact dec_pl (n := 4) (z := 4) (dec_tot (n := s.tot + n) (z := (s.tot : Int) + (n : Int)) (dec_sz (n := s.sz - n) (z := (s.sz : Int) - (n : Int)) HD.out (by omega)) (by omega)) rfl
  · have e1 : dataS s n = { s with sz := s.sz - n, tot := s.tot + n } := by unfold dataS; rw [if_neg h0, ← h3]
    have E1 := Lib.hid e1
    have hq : ((s.sz : Int) - (n : Int) == 0) = false := by simp; omega
    clear e1 h0
    go_enter Tryz.func37, Tryz.ntmps37
    go_wp2_with fail
    go_ret
    refine ⟨rfl, ?_, (Only.set hx _ _ _).trans' (Only.set hx _ _ _)⟩
    rw [E1.out]
    exact dec_tot (n := s.tot + n) (z := (s.tot : Int) + (n : Int)) (dec_sz (n := s.sz - n) (z := (s.sz : Int) - (n : Int)) HD.out (by omega)) (by omega)
end Go.Proofs.YtfmgfcddnnggeaaGreatDoor

/- Slices of bytes: those that are read, those of the call's own; appends; whether two hold the same. -/
namespace Go.Proofs.YtfmgfcddnnggeaaGreatDoor
open Go.RowKit

theorem Tryz.infoB : (Tryz.prog.info? 5).map (fun i => (i.zero, i.size, i.bytes)) = some (some (.int .u8 0), 1, 1) := by kernel_rfl
/-- The value v is a slice of bytes of the call's own (its block lies from B on) that holds l. -/
def OwnB (B : Nat) (w : World) (v : Value) (l : List UInt8) : Prop := w.ownsRow B 5 1 v l.length (Lib.byteCells l)
/-- The value v is a slice of bytes that reads as l in the world w. -/
def ReadsD (w : World) (v : Value) (l : List UInt8) : Prop :=
  ∃ ao cap, v = .slice ao l.length cap ∧ l.length ≤ cap ∧ cap ≤ maxLen ∧ (ao = none → cap = 0) ∧ ∀ j c, l[j]? = some c → ∃ g off, ao = some ⟨g, off, none⟩ ∧ g < w.heap.size ∧ w.cell? ⟨g, off + j, none⟩ = some (.int .u8 (c.toNat : Int))
theorem OwnB.nil (B : Nat) (w : World) : OwnB B w (.slice none 0 0) [] := World.ownsRow_nil _ _ _ _
theorem OwnB.below {B : Nat} {w w' : World} {v : Value} {l : List UInt8} (h : OwnB B w v l) (hb : Below w.heap.size w w') : OwnB B w' v l :=
  World.ownsRow.kept h (grown_of_below hb none) (by cases hv : v.ownBlock <;> simp)
theorem OwnB.mono {B C : Nat} {w : World} {v : Value} {l : List UInt8} (hBC : B ≤ C) (h : OwnB C w v l) : OwnB B w v l :=
  ownsRow_base h fun k hk => Nat.le_trans hBC (World.ownsRow.lt h k hk).1
theorem OwnB.only {B : Nat} {w w' : World} {v : Value} {l : List UInt8} {X : Nat → Prop} (h : OwnB B w v l) (hO : Only X w w') (hv : ∀ k, v.ownBlock = some k → ¬ X k) : OwnB B w' v l := hO.owns h hv
theorem cellB_get {l : List UInt8} {j : Nat} {c : UInt8} (h : l[j]? = some c) : (Lib.byteCells l)[j]? = some (.int .u8 (c.toNat : Int)) := by
  unfold Lib.byteCells; rw [List.getElem?_map, h]; rfl
theorem cellB_of {l : List UInt8} {j : Nat} {u : Value} (h : (Lib.byteCells l)[j]? = some u) : ∃ c, l[j]? = some c ∧ u = .int .u8 (c.toNat : Int) := by
  unfold Lib.byteCells at h
  rw [List.getElem?_map] at h
  cases hc : l[j]? with
  | none => rw [hc] at h; cases h
  | some c => rw [hc] at h; exact ⟨c, rfl, (Option.some.inj h).symm⟩
theorem cellB_app (a b : List UInt8) : Lib.byteCells a ++ Lib.byteCells b = Lib.byteCells (a ++ b) := by unfold Lib.byteCells; rw [List.map_append]
theorem OwnB.reads {B : Nat} {w : World} {v : Value} {l : List UInt8} (h : OwnB B w v l) : ReadsD w v l := by
  have h0 := h
  rcases h with ⟨hl, ⟨hv, hn⟩ | ⟨g, cap, cur, hv, hb, hg, hn, hm, hs, ht⟩⟩
  · have : l = [] := List.eq_nil_of_length_eq_zero hn
    subst this
    exact ⟨none, 0, hv, Nat.le_refl _, Nat.zero_le _, fun _ => rfl, fun j c h => by simp at h⟩
  · refine ⟨_, cap, hv, hn, hm, fun h => (by cases h), fun j c hj => ⟨g, 0, rfl, (World.ownsRow.lt h0 g (by rw [hv]; rfl)).2, ?_⟩⟩
    have hj' : j < l.length := (List.getElem?_eq_some_iff.mp hj).1
    subst hv
    rw [Nat.zero_add, World.ownsRow.cellAt h0 j (by omega), cellB_get hj]
theorem OwnB.isSlice {B : Nat} {w : World} {v : Value} {l : List UInt8} (h : OwnB B w v l) : ∃ a c, v = .slice a l.length c := by
  obtain ⟨ao, cap, rfl, _⟩ := h.reads; exact ⟨ao, cap, rfl⟩
theorem ReadsD.below {w w' : World} {v : Value} {l : List UInt8} (h : ReadsD w v l) (hb : Below w.heap.size w w') : ReadsD w' v l := by
  obtain ⟨ao, cap, rfl, h1, h2, h3, hc⟩ := h
  refine ⟨ao, cap, rfl, h1, h2, h3, fun j l hj => ?_⟩
  obtain ⟨g, off, h1, h2, h3⟩ := hc j l hj
  exact ⟨g, off, h1, Nat.lt_of_lt_of_le h2 hb.size, (hb.cell (p := ⟨g, off + j, none⟩) h2).trans h3⟩
theorem ReadsD.only {w w' : World} {v : Value} {l : List UInt8} {X : Nat → Prop} (h : ReadsD w v l) (hO : Only X w w') (hv : ∀ k, v.ownBlock = some k → ¬ X k) : ReadsD w' v l := by
  obtain ⟨ao, cap, rfl, h1, h2, h3, hc⟩ := h
  refine ⟨ao, cap, rfl, h1, h2, h3, fun j l hj => ?_⟩
  obtain ⟨g, off, rfl, h2, h3⟩ := hc j l hj
  exact ⟨g, off, rfl, Nat.lt_of_lt_of_le h2 hO.size, (hO.cell (p := ⟨g, off + j, none⟩) h2 (hv g rfl)).trans h3⟩
theorem readsB_nil (w : World) : ReadsD w (.slice none 0 0) [] := (OwnB.nil 0 w).reads
theorem readsB_src {w : World} {ad : Addr} {n cap : Nat} {l : List UInt8} (h : ReadsD w (.slice (some ad) n cap) l) : n = l.length ∧ ∀ j u, (Lib.byteCells l)[j]? = some u → w.cell? (ad.add j) = some u := by
  obtain ⟨ao, c, hv, _, _, _, hc⟩ := h
  simp only [Value.slice.injEq] at hv
  obtain ⟨rfl, rfl, rfl⟩ := hv
  refine ⟨rfl, fun j u hj => ?_⟩
  obtain ⟨b, hb, rfl⟩ := cellB_of hj
  obtain ⟨g, off, ha, _, h1⟩ := hc j b hb
  obtain rfl : ad = ⟨g, off, none⟩ := Option.some.inj ha
  rw [Addr.add_lit]; exact h1
theorem readsB_none {w : World} {n cap : Nat} {l : List UInt8} (h : ReadsD w (.slice none n cap) l) : l = [] ∧ n = 0 ∧ cap = 0 := by
  obtain ⟨ao, c, hv, _, _, h3, hc⟩ := h
  simp only [Value.slice.injEq] at hv
  obtain ⟨rfl, rfl, rfl⟩ := hv
  cases l with
  | nil => exact ⟨rfl, rfl, h3 rfl⟩
  | cons p r => obtain ⟨g, off, ha, _⟩ := hc 0 p rfl; cases ha
theorem readsB_lt {w : World} {v : Value} {l : List UInt8} (h : ReadsD w v l) (hl : l ≠ []) : ∀ k, v.ownBlock = some k → k < w.heap.size := by
  obtain ⟨ao, cap, rfl, _, _, _, hc⟩ := h
  cases l with
  | nil => exact absurd rfl hl
  | cons c t =>
    obtain ⟨g, off, rfl, hg, _⟩ := hc 0 c rfl
    intro k hk
    have : g = k := by simpa [Value.ownBlock] using hk
    omega
theorem own_appB {B : Nat} {w : World} {v : Value} {l m : List UInt8} (h : w.ownsRow B 5 1 v (l.length + m.length) (Lib.byteCells l ++ Lib.byteCells m)) : OwnB B w v (l ++ m) := by
  unfold OwnB; rw [List.length_append, ← cellB_app]; exact h
theorem oneB (l : List UInt8) : ∀ u ∈ Lib.byteCells l, u.oneCell' = true := by
  intro u hu
  unfold Lib.byteCells at hu
  obtain ⟨m, _, rfl⟩ := List.mem_map.mp hu; rfl
/-- An append of bytes that are read to a slice of bytes of the call's own, whatever the guard. -/
theorem wpList_appendB {B : Nat} {w : World} {ops : Array Oper} {rest : List Oper} {o : Oper} {a : Act} {Q : Exit → Act → World → Prop} (hw : Region.wanted o (yielded ops a.tmps) = true) (s x : Operand)
    (ho : o.op = .call { callee := .builtin .append, args := #[s, x], argTypes := #[30, 30] }) (v v2 : Value) (hs : a.eval s = v) (hx : a.eval x = v2) {l m : List UInt8} (hown : OwnB B w v l) (hr : ReadsD w v2 m)
    (hn : l.length + m.length ≤ 1000000000) (hB : B ≤ w.heap.size) (h : ∀ v' w', OwnB B w' v' (l ++ m) → w.grownBy w' v.ownBlock → wpList Tryz.prog ops Q rest (a.put o.dst v') w') :
    wpList Tryz.prog ops Q (o :: rest) a w := by
  obtain ⟨i0, hi, hz0, hz1, hz2⟩ := info_parts Tryz.infoB
  refine BigFrame.wpList_want hw fun K hK => ?_
  obtain ⟨ao, cap, rfl, hc⟩ := id hr
  cases ao with
  | none =>
    obtain ⟨rfl, _, rfl⟩ := readsB_none hr
    have hrun := run_append_owned_none (P := Tryz.prog) (w := w) B 30 o.type 5 i0 1 Tryz.underlying30 hi v l.length (Lib.byteCells l) hown
    unfold Oper.wp
    simp [execOp, ho, resolve, invoke, builtin, hs, hx, hrun, Result.andThen]
    exact hK _ _ (h v w (by rw [List.append_nil]; exact hown) ⟨rfl, rfl, rfl, Nat.le_refl _, fun _ _ _ => rfl⟩)
  | some ad =>
    obtain ⟨_, hs'⟩ := readsB_src hr
    exact wp_append_own w s x 30 ho B 5 i0 _ 1 1 Tryz.underlying30 hi hz0 hz1 hz2 rfl (by decide) v l.length (Lib.byteCells l) hs hown ad m.length cap (Lib.byteCells m) hx (by rw [Lib.byteCells_length]; omega) hs' (oneB m) (by unfold maxLen; omega) (by omega) hB
      fun v' w' h1 h2 _ => hK _ _ (h v' w' (own_appB h1) h2)
/-- A part of a slice of bytes that is read. -/
theorem reads_cutB {w : World} {g off len cap : Nat} {l : List UInt8} (h : ReadsD w (.slice (some ⟨g, off, none⟩) len cap) l) (i n c2 : Nat) (hn : i + n ≤ l.length) (hc : n ≤ c2) (hc2 : c2 ≤ maxLen) :
    ReadsD w (.slice (some ⟨g, off + i, none⟩) n c2) ((l.drop i).take n) := by
  obtain ⟨ao, c, hv, _, _, _, hc'⟩ := h
  simp only [Value.slice.injEq] at hv
  obtain ⟨rfl, rfl, rfl⟩ := hv
  have hl : ((l.drop i).take n).length = n := by simp; omega
  refine ⟨_, c2, by rw [hl], by rw [hl]; exact hc, hc2, fun h => (by cases h), fun j b hj => ?_⟩
  have hjn : j < n := by have := (List.getElem?_eq_some_iff.mp hj).1; omega
  rw [List.getElem?_take_of_lt hjn, List.getElem?_drop] at hj
  obtain ⟨g', off', ha, h1, h2⟩ := hc' (i + j) b hj
  simp only [Option.some.injEq, Addr.mk.injEq, and_true] at ha
  obtain ⟨rfl, rfl⟩ := ha
  exact ⟨g, off + i, rfl, h1, by rw [Nat.add_assoc]; exact h2⟩
/-- The conversion of bytes that are read to a string. -/
theorem convB {w : World} {v : Value} {l : List UInt8} (h : ReadsD w v l) : (convert 30 9 v).run Tryz.prog w = .ok (.string (strB l)) w := by
  obtain ⟨ao, cap, rfl, h1, h2, h3, hc⟩ := h
  cases ao with
  | none =>
    cases l with
    | cons p r => obtain ⟨g, off, ha, _⟩ := hc 0 p rfl; cases ha
    | nil =>
      rw [List.length_nil, run_convert_bytes_string w 30 9 5 none 0 cap Tryz.underlying30 Tryz.underlying5 Tryz.underlying9]
      simp [Conv.bytesToString]
      rfl
  | some ad =>
    exact run_convert_bytes_back w 30 9 5 ad cap l Tryz.underlying30 Tryz.underlying5 Tryz.underlying9 (fun j hj => by
      obtain ⟨g, off, ha, _, h1⟩ := hc j l[j] (by simp [hj])
      obtain rfl : ad = ⟨g, off, none⟩ := Option.some.inj ha
      rw [Addr.add_lit]; exact h1)
end Go.Proofs.YtfmgfcddnnggeaaGreatDoor
