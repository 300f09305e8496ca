import Derived.Test.YtfmgfcddnnggeaaGreatDoorPa0
import Derived.Test.YtfmgfcddnnggeaaGreatDoorPa5
import Derived.Test.YtfmgfcddnnggeaaGreatDoorPa3
import Derived.Test.YtfmgfcddnnggeaaGreatDoorPa6
import Derived.Deep.RegionLaw
import Derived.Deep.AppendLies
import Derived.Maps.AppendAt
import Derived.Test.YtfmgfcddnnggeaaGreatDoorPa4
/- A new variable of two strings, kept over calls. -/
namespace Go.Proofs.YtfmgfcddnnggeaaGreatDoor
open Go.RowKit

theorem below_draw {B : Nat} {a w : World} (h : Below B a w) (n : Nat) : Below B a (w.drewN n) := ⟨h.os, h.tape, h.output, h.size, h.block⟩
theorem below_two {w w' : World} (h : Below w.heap.size w w') (u v : Value) : Below w.heap.size w ((w'.setCell ⟨w.heap.size, 0, none⟩ u).setCell ⟨w.heap.size, 1, none⟩ v) :=
  (h.setCell (p := ⟨w.heap.size, 0, none⟩) (Nat.le_refl _) u).setCell (p := ⟨w.heap.size, 1, none⟩) (Nat.le_refl _) v
theorem below_over {a w w' : World} (h : Below a.heap.size a w) (hw : Below w.heap.size w w') : Below a.heap.size a w' := h.trans (hw.mono h.size)
/-- A new variable of two strings is as it was behind a call that leaves what was there. -/
theorem two_kept (w : World) (n : Nat) {t : TypeId} {w' : World} (h : Below ((w.alloc (.cells #[.string ⟨#[]⟩, .string ⟨#[]⟩] t)).drewN n).heap.size ((w.alloc (.cells #[.string ⟨#[]⟩, .string ⟨#[]⟩] t)).drewN n) w') :
    w'.cell? ⟨w.heap.size, 0, none⟩ = some (.string ⟨#[]⟩) ∧ w'.cell? ⟨w.heap.size, 1, none⟩ = some (.string ⟨#[]⟩) ∧ w'.frozen? ⟨w.heap.size, 0, none⟩ = false ∧ w'.frozen? ⟨w.heap.size, 1, none⟩ = false ∧ w.heap.size < w'.heap.size := by
  have hs : w.heap.size < ((w.alloc (.cells #[.string ⟨#[]⟩, .string ⟨#[]⟩] t)).drewN n).heap.size := by show w.heap.size < (w.heap.push _).size; simp
  have c : ∀ j, ((w.alloc (.cells #[.string ⟨#[]⟩, .string ⟨#[]⟩] t)).drewN n).cell? ⟨w.heap.size, j, none⟩ = (#[.string ⟨#[]⟩, .string ⟨#[]⟩] : Array Value)[j]? := fun j => by
    show (w.alloc _).cell? _ = _
    rw [World.cell?_alloc_at _ _ _ _ rfl]
  have f : ∀ j, ((w.alloc (.cells #[.string ⟨#[]⟩, .string ⟨#[]⟩] t)).drewN n).frozen? ⟨w.heap.size, j, none⟩ = false := fun j => by
    show (w.alloc _).frozen? _ = _
    exact World.frozen?_alloc_at _ _ _ _ rfl
  refine ⟨(h.cell (p := ⟨w.heap.size, 0, none⟩) hs).trans (c 0), (h.cell (p := ⟨w.heap.size, 1, none⟩) hs).trans (c 1), (h.frozen (p := ⟨w.heap.size, 0, none⟩) hs).trans (f 0), (h.frozen (p := ⟨w.heap.size, 1, none⟩) hs).trans (f 1), Nat.lt_of_lt_of_le hs h.size⟩
theorem box_kept (w : World) {a b : Value} {t : TypeId} {w' : World} (h : Below (w.alloc (.cells #[a, b] t)).heap.size (w.alloc (.cells #[a, b] t)) w') :
    w'.cell? ⟨w.heap.size, 0, none⟩ = some a ∧ w'.cell? ⟨w.heap.size, 1, none⟩ = some b ∧ w'.frozen? ⟨w.heap.size, 0, none⟩ = false ∧ w'.frozen? ⟨w.heap.size, 1, none⟩ = false ∧ w.heap.size < w'.heap.size := by
  have hs : w.heap.size < (w.alloc (.cells #[a, b] t)).heap.size := by simp
  have hc : ∀ j, (w.alloc (.cells #[a, b] t)).cell? ⟨w.heap.size, j, none⟩ = (#[a, b] : Array Value)[j]? := fun j => by rw [World.cell?_alloc_at _ _ _ _ rfl]
  have hf : ∀ j, (w.alloc (.cells #[a, b] t)).frozen? ⟨w.heap.size, j, none⟩ = false := fun j => World.frozen?_alloc_at _ _ _ _ rfl
  exact ⟨(h.cell (p := ⟨w.heap.size, 0, none⟩) hs).trans (hc 0), (h.cell (p := ⟨w.heap.size, 1, none⟩) hs).trans (hc 1),
    (h.frozen (p := ⟨w.heap.size, 0, none⟩) hs).trans (hf 0), (h.frozen (p := ⟨w.heap.size, 1, none⟩) hs).trans (hf 1), Nat.lt_of_lt_of_le hs h.size⟩
theorem two_newG (W : World) (a b : List UInt8) (T : TypeId) : ∀ (j : Nat) (u : Value), [strV a, strV b][j]? = some u →
    (W.alloc (.cells #[.string (strB a), .string (strB b)] T)).cell? ((⟨W.heap.size, 0, none⟩ : Addr).add j) = some u := by
  intro j u h
  rw [Addr.add_lit, Nat.zero_add, World.cell?_alloc_at _ _ _ _ rfl]
  match j, h with
  | 0, h => simpa using h
  | 1, h => simpa using h
  | j + 2, h => simp at h
theorem two_newS (W : World) (a b : List UInt8) (T : TypeId) (m : Nat) (hm : m = W.heap.size) : ∀ (j : Nat) (u : Value), [strV a, strV b][j]? = some u →
    (W.alloc (.cells #[.string (strB a), .string (strB b)] T)).cell? ((⟨m, 0, none⟩ : Addr).add j) = some u := by
  subst hm; exact two_newG W a b T
end Go.Proofs.YtfmgfcddnnggeaaGreatDoor

/- What the decoder does with trailer lines: isForbidden, trailer, endTrailer, takeTrailer. -/
namespace Go.Proofs.YtfmgfcddnnggeaaGreatDoor
open Go.RowKit

set_option maxHeartbeats 4000000 in
set_option maxRecDepth 100000 in
theorem isForbidden_any (n : List UInt8) (w : World) :
    Calls Tryz.prog 104 #[.string (strB n)] w fun e w' => e = .returned (.bool (forbB n)) ∧ w = w' := by
  have e0 : (strB n).toList = n := by rw [ByteArray.toList_eq, strB_list]
  have E0 := Lib.hid e0
  clear e0
  go_enter Tryz.func104, Tryz.ntmps104
  go_wp2_with fail
  all_goals
    go_ret
    refine ⟨ret_bool ?_, rfl⟩
    rw [E0.out] at *
    unfold forbB forbL
    simp_all
theorem lit_nil : (⟨#[]⟩ : ByteArray) = strB [] := rfl
/-- What trailer returns. -/
def trV (n v : List UInt8) : Value :=
  if trB n v = true then .tuple #[.agg #[.string (strB (nameR n)), .string (strB (valueR v))], .nilIface]
  else .tuple #[.agg #[.string (strB []), .string (strB [])], .iface 32 (.int .i64 34)]
set_option maxHeartbeats 4000000 in
set_option maxRecDepth 100000 in
theorem trailer_any (n v : List UInt8) (w : World) (hn : n.length ≤ 1000000) (hv : v.length ≤ 1000000) :
    Calls Tryz.prog 88 #[.string (strB n), .string (strB v)] w fun e w' => e = .returned (trV n v) ∧ Below w.heap.size w w' := by
  have N := Lib.hid (fun W => name_any (strB n) W (by rw [strB_size]; omega))
  have V := Lib.hid (fun W => value_any (strB v) W (by rw [strB_size]; omega))
  rw [strB_list] at N V
  clear hn hv
  by_cases h1 : nameC n = 0
  · cases h2 : forbB (nameR n) with
    | true =>
      have e1 : trV n v = .tuple #[.agg #[.string (strB []), .string (strB [])], .iface 32 (.int .i64 34)] := by unfold trV trB; rw [h2]; simp
      rw [e1, ← lit_nil]
      have HF := Lib.hid (show ∀ W, Calls Tryz.prog 104 #[.string (strB (nameR n))] W fun e w' => e = .returned (.bool true) ∧ W = w' by intro W; rw [← h2]; exact isForbidden_any _ W)
      have he : errV (nameC n) = .nilIface := by rw [h1]; rfl
      rw [he] at N
      clear e1 h1 h2 he V
      go_enter Tryz.func88, Tryz.ntmps88
      go_wp2_with fail
      refine (N.out _).mono ?_
      rintro e w1 ⟨rfl, hB⟩
      obtain ⟨c0, c1, f0, f1, hsz⟩ := two_kept w 0 hB
      go_wp2_with fail
      refine (HF.out _).mono ?_
      rintro e w' ⟨rfl, rfl⟩
      go_wp2_with fail
      refine bodyPost_ret (v := .tuple #[.agg #[.string ⟨#[]⟩, .string ⟨#[]⟩], .iface 32 (.int .i64 34)]) (by simp [results, Tryz.results88, go_sem, c0, c1]) rfl ?_
      exact ⟨rfl, below_two ((below_new w _).trans (hB.mono (by simp))) _ _⟩
    | false =>
      have HF := Lib.hid (show ∀ W, Calls Tryz.prog 104 #[.string (strB (nameR n))] W fun e w' => e = .returned (.bool false) ∧ W = w' by intro W; rw [← h2]; exact isForbidden_any _ W)
      have he : errV (nameC n) = .nilIface := by rw [h1]; rfl
      rw [he] at N
      by_cases h3 : valueC v = 0
      · have e1 : trV n v = .tuple #[.agg #[.string (strB (nameR n)), .string (strB (valueR v))], .nilIface] := by unfold trV trB; rw [h1, h2, h3]; simp
        rw [e1]
        have he2 : errV (valueC v) = .nilIface := by rw [h3]; rfl
        rw [he2] at V
        clear e1 h1 h2 h3 he he2
        go_enter Tryz.func88, Tryz.ntmps88
        go_wp2_with fail
        refine (N.out _).mono ?_
        rintro e w1 ⟨rfl, hB⟩
        go_wp2_with fail
        refine (HF.out _).mono ?_
        rintro e w' ⟨rfl, rfl⟩
        go_wp2_with fail
        refine (V.out _).mono ?_
        rintro e w2 ⟨rfl, hB2⟩
        have hB := hB.trans (hB2.mono hB.size)
        clear hB2
        obtain ⟨c0, c1, f0, f1, hsz⟩ := two_kept w 0 hB
        go_wp2_with fail
        refine bodyPost_ret (v := .tuple #[.agg #[.string (strB (nameR n)), .string (strB (valueR v))], .nilIface]) (by simp [results, Tryz.results88, go_sem, c0, c1]) rfl ?_
        exact ⟨rfl, below_two ((below_new w _).trans (hB.mono (by simp))) _ _⟩
      · have e1 : trV n v = .tuple #[.agg #[.string (strB []), .string (strB [])], .iface 32 (.int .i64 34)] := by unfold trV trB; rw [decide_eq_false h3]; simp
        rw [e1, ← lit_nil]
        rw [errV_yes h3] at V
        clear e1 h1 h2 h3 he
        go_enter Tryz.func88, Tryz.ntmps88
        go_wp2_with fail
        refine (N.out _).mono ?_
        rintro e w1 ⟨rfl, hB⟩
        go_wp2_with fail
        refine (HF.out _).mono ?_
        rintro e w' ⟨rfl, rfl⟩
        go_wp2_with fail
        refine (V.out _).mono ?_
        rintro e w2 ⟨rfl, hB2⟩
        have hB := hB.trans (hB2.mono hB.size)
        clear hB2
        obtain ⟨c0, c1, f0, f1, hsz⟩ := two_kept w 0 hB
        go_wp2_with fail
        refine bodyPost_ret (v := .tuple #[.agg #[.string ⟨#[]⟩, .string ⟨#[]⟩], .iface 32 (.int .i64 34)]) (by simp [results, Tryz.results88, go_sem, c0, c1]) rfl ?_
        exact ⟨rfl, below_two ((below_new w _).trans (hB.mono (by simp))) _ _⟩
  · have e1 : trV n v = .tuple #[.agg #[.string (strB []), .string (strB [])], .iface 32 (.int .i64 34)] := by unfold trV trB; rw [decide_eq_false h1]; simp
    rw [e1, ← lit_nil]
    rw [errV_yes h1] at N
    clear e1 h1 V
    go_enter Tryz.func88, Tryz.ntmps88
    go_wp2_with fail
    refine (N.out _).mono ?_
    rintro e w1 ⟨rfl, hB⟩
    obtain ⟨c0, c1, f0, f1, hsz⟩ := two_kept w 0 hB
    go_wp2_with fail
    refine bodyPost_ret (v := .tuple #[.agg #[.string ⟨#[]⟩, .string ⟨#[]⟩], .iface 32 (.int .i64 34)]) (by simp [results, Tryz.results88, go_sem, c0, c1]) rfl ?_
    exact ⟨rfl, below_two ((below_new w _).trans (hB.mono (by simp))) _ _⟩
end Go.Proofs.YtfmgfcddnnggeaaGreatDoor

/- What the decoder does with a byte of the trailer section: endTrailer, takeTrailer. -/
namespace Go.Proofs.YtfmgfcddnnggeaaGreatDoor
open Go.RowKit

theorem Tryz.infoFK : (Tryz.prog.info? 71).map (fun i => (i.zero, i.size, i.bytes)) = some (some (.agg #[.string ByteArray.empty, .string ByteArray.empty]), 2, 32) := by kernel_rfl
/-- A decoder with its parts. -/
def DecP (B P : Nat) (X : Nat → Prop) (s : Dc) (lv tv : Value) (w : World) : Prop :=
  w.heap[P]? = some (.cells #[.int .i64 (s.pl : Int), errV s.er, .int .i64 (s.sz : Int), .int .i64 (s.tot : Int), .int .i64 (s.len : Int), lv, tv] 68 (0, 0)) ∧
    w.ownsRow B 5 1 lv s.line.length (Lib.byteCells s.line) ∧ OwnsP 71 B w tv s.trs ∧ X P ∧ (∀ k, lv.ownBlock = some k → X k) ∧ (∀ k, tv.ownBlock = some k → X k) ∧ (∀ k, X k → B ≤ k ∧ k < w.heap.size)
theorem Dec.parts {B P : Nat} {X : Nat → Prop} {s : Dc} {w : World} (h : Dec B P X s w) : ∃ lv tv, DecP B P X s lv tv w := h
theorem rows_apart {w : World} {B C : Nat} {e T : TypeId} {n m z1 z2 : Nat} {u v : Value} {xs ys : List Value} (h1 : w.ownsRow B e z1 u n xs) (h2 : w.ownsRow C T z2 v m ys) (hT : T ≠ e) : u.ownBlock = none ∨ u.ownBlock ≠ v.ownBlock := by
  rcases h2.2 with ⟨rfl, _⟩ | ⟨g, cap, cur, rfl, _, hg, _⟩
  · cases hu : u.ownBlock <;> simp [Value.ownBlock]
  · exact .inr (ownBlock_other h1 hg hT)
theorem DecP.dec {B P : Nat} {X : Nat → Prop} {s : Dc} {lv tv : Value} {w : World} (h : DecP B P X s lv tv w) : Dec B P X s w := ⟨lv, tv, h⟩
theorem DecP.below {B P : Nat} {X : Nat → Prop} {s : Dc} {lv tv : Value} {w w' : World} (h : DecP B P X s lv tv w) (hb : Below w.heap.size w w') : DecP B P X s lv tv w' := by
  obtain ⟨h1, h2, h3, h4, h5, h6, h7⟩ := h
  have hO := Only.below (X := fun _ => False) hb
  exact ⟨(hb.block P (h7 P h4).2).trans h1, hO.owns h2 (fun _ _ h => h), hO.owns h3 (fun _ _ h => h), h4, h5, h6, fun k hk => ⟨(h7 k hk).1, Nat.lt_of_lt_of_le (h7 k hk).2 hb.size⟩⟩
/-- A new line behind an append. -/
theorem dec_newline {B P : Nat} {X : Nat → Prop} {s : Dc} {lv tv : Value} {w w1 w2 : World} {v' : Value} {l' : List UInt8} (h : DecP B P X s lv tv w) (hb : Below w.heap.size w w1) (hg : w1.grownBy w2 lv.ownBlock)
    (ho : w2.ownsRow B 5 1 v' l'.length (Lib.byteCells l')) (hat : v'.ownBlock = lv.ownBlock ∨ v'.ownBlock = some w1.heap.size) : DecTo B P X { s with line := l' } w (w2.setCell ⟨P, 5, none⟩ v') := by
  obtain ⟨h1, h2, h3, h4, h5, h6, h7⟩ := h
  have hP := (h7 P h4).2
  have hw1 := hb.size
  have a1 := (hb.block P hP).trans h1
  have a2 : w1.ownsRow B 5 1 lv s.line.length (Lib.byteCells s.line) := (Only.below (X := fun _ => False) hb).owns h2 (fun _ _ h => h)
  have a3 : w1.ownsRow B 71 2 tv s.trs.length (flatP s.trs) := (Only.below (X := fun _ => False) hb).owns h3 (fun _ _ h => h)
  have b1 := (hg.block P (Nat.lt_of_lt_of_le hP hw1) (fun e => ownBlock_other a2 a1 (by decide) e.symm)).trans a1
  have b3 : w2.ownsRow B 71 2 tv s.trs.length (flatP s.trs) := a3.kept hg (rows_apart a3 a2 (by decide))
  have hset : w2.grownBy (w2.setCell ⟨P, 5, none⟩ v') (some P) := ⟨rfl, rfl, rfl, by simp, fun k _ hk => Below.heap_setCell _ _ _ _ (fun e => hk (by rw [e]))⟩
  have hw2 := hg.size
  refine ⟨fun k => X k ∨ v'.ownBlock = some k, ?_, ⟨v', tv, ?_, ?_, ?_, .inl h4, fun k hk => .inr hk, fun k hk => .inl (h6 k hk), ?_⟩, ?_⟩
  · rintro k (hk | hk)
    · exact .inl hk
    · rcases hat with e | e
      · exact .inl (h5 k (e ▸ hk))
      · rw [e] at hk; have := Option.some.inj hk; exact .inr (by omega)
  · rw [heap_setCell_same w2 P 5 _ _ v' b1]; rfl
  · exact ho.kept hset (.inr (ownBlock_other ho b1 (by decide)))
  · exact World.ownsRow.kept b3 hset (.inr (ownBlock_other b3 b1 (by decide)))
  · rintro k (hk | hk)
    · have := h7 k hk; exact ⟨this.1, by simp; omega⟩
    · have := World.ownsRow.lt ho k hk; exact ⟨this.1, by simpa using this.2⟩
  · exact ((Only.below hb).trans' (Only.grown hg fun k hk => .inl (h5 k hk))).trans' (Only.set h4 _ _ _)
/-- One trailer more, behind an append. -/
theorem dec_newtrs {B P : Nat} {X : Nat → Prop} {s : Dc} {lv tv : Value} {w w1 w2 : World} {v' : Value} {t' : List (List UInt8 × List UInt8)} (h : DecP B P X s lv tv w) (hb : Below w.heap.size w w1) (hg : w1.grownBy w2 tv.ownBlock)
    (ho : OwnsP 71 B w2 v' t') (hat : v'.ownBlock = tv.ownBlock ∨ v'.ownBlock = some w1.heap.size) : DecTo B P X { s with trs := t' } w (w2.setCell ⟨P, 6, none⟩ v') := by
  obtain ⟨h1, h2, h3, h4, h5, h6, h7⟩ := h
  have hP := (h7 P h4).2
  have hw1 := hb.size
  have a1 := (hb.block P hP).trans h1
  have a2 : w1.ownsRow B 5 1 lv s.line.length (Lib.byteCells s.line) := (Only.below (X := fun _ => False) hb).owns h2 (fun _ _ h => h)
  have a3 : w1.ownsRow B 71 2 tv s.trs.length (flatP s.trs) := (Only.below (X := fun _ => False) hb).owns h3 (fun _ _ h => h)
  have b1 := (hg.block P (Nat.lt_of_lt_of_le hP hw1) (fun e => ownBlock_other a3 a1 (by decide) e.symm)).trans a1
  have b2 : w2.ownsRow B 5 1 lv s.line.length (Lib.byteCells s.line) := a2.kept hg (rows_apart a2 a3 (by decide))
  have hset : w2.grownBy (w2.setCell ⟨P, 6, none⟩ v') (some P) := ⟨rfl, rfl, rfl, by simp, fun k _ hk => Below.heap_setCell _ _ _ _ (fun e => hk (by rw [e]))⟩
  have hw2 := hg.size
  refine ⟨fun k => X k ∨ v'.ownBlock = some k, ?_, ⟨lv, v', ?_, ?_, ?_, .inl h4, fun k hk => .inl (h5 k hk), fun k hk => .inr hk, ?_⟩, ?_⟩
  · rintro k (hk | hk)
    · exact .inl hk
    · rcases hat with e | e
      · exact .inl (h6 k (e ▸ hk))
      · rw [e] at hk; have := Option.some.inj hk; exact .inr (by omega)
  · rw [heap_setCell_same w2 P 6 _ _ v' b1]; rfl
  · exact b2.kept hset (.inr (ownBlock_other b2 b1 (by decide)))
  · exact World.ownsRow.kept ho hset (.inr (ownBlock_other ho b1 (by decide)))
  · rintro k (hk | hk)
    · have := h7 k hk; exact ⟨this.1, by simp; omega⟩
    · have := World.ownsRow.lt ho k hk; exact ⟨this.1, by simpa using this.2⟩
  · exact ((Only.below hb).trans' (Only.grown hg fun k hk => .inl (h6 k hk))).trans' (Only.set h4 _ _ _)
/-- A line let go. -/
theorem dec_noline {B P : Nat} {X : Nat → Prop} {s : Dc} {w : World} (h : Dec B P X s w) : Dec B P X { s with line := [] } (w.setCell ⟨P, 5, none⟩ (.slice none 0 0)) := by
  obtain ⟨lv, tv, h1, h2, h3, h4, h5, h6, h7⟩ := h
  have hset : w.grownBy (w.setCell ⟨P, 5, none⟩ (.slice none 0 0)) (some P) := ⟨rfl, rfl, rfl, by simp, fun k _ hk => Below.heap_setCell _ _ _ _ (fun e => hk (by rw [e]))⟩
  refine ⟨.slice none 0 0, tv, ?_, World.ownsRow_nil _ _ _ _, World.ownsRow.kept h3 hset (.inr (ownBlock_other h3 h1 (by decide))), h4, fun k hk => (by cases hk), h6, fun k hk => ⟨(h7 k hk).1, by simpa using (h7 k hk).2⟩⟩
  rw [heap_setCell_same w P 5 _ _ _ h1]; rfl
theorem DecTo.trans {B P : Nat} {X : Nat → Prop} {s : Dc} {a b c : World} (h : Only X a b) (k : DecTo B P X s b c) : DecTo B P X s a c := by
  obtain ⟨X', h1, h2, h3⟩ := k
  have hs := h.size
  exact ⟨X', fun i hi => by rcases h1 i hi with h | h; exact .inl h; exact .inr (by omega), h2, h.trans' h3⟩
theorem DecTo.mapS {B P : Nat} {X : Nat → Prop} {s s' : Dc} {a b c : World} (h : DecTo B P X s a b) (f : ∀ X', Dec B P X' s b → Dec B P X' s' c ∧ Only X' b c) : DecTo B P X s' a c := by
  obtain ⟨X', h1, h2, h3⟩ := h
  obtain ⟨g1, g2⟩ := f X' h2
  exact ⟨X', h1, g1, h3.trans g2 h1⟩
theorem len_line {w : World} {B : Nat} {lv : Value} {l : List UInt8} (h : w.ownsRow B 5 1 lv l.length (Lib.byteCells l)) : ∃ a c, lv = .slice a l.length c := OwnB.isSlice h
theorem len_trs {w : World} {B : Nat} {tv : Value} {t : List (List UInt8 × List UInt8)} (h : OwnsP 71 B w tv t) : ∃ a c, tv = .slice a t.length c := by
  obtain ⟨ao, cap, rfl, _⟩ := h.reads; exact ⟨ao, cap, rfl⟩
theorem cutC_lt {c : UInt8} (l : List UInt8) : (cutC c l).1.length ≤ l.length ∧ (cutC c l).2.1.length ≤ l.length := cutC_len c l
/-- The decoder's cells behind an append to its trailers. -/
theorem cells_grown {B P : Nat} {X : Nat → Prop} {s : Dc} {lv tv : Value} {w w1 w5 : World} (h : DecP B P X s lv tv w) (hb : Below w.heap.size w w1) (hg : w1.grownBy w5 tv.ownBlock) :
    (w5.cell? ⟨P, 6, none⟩ = some tv ∧ w5.frozen? ⟨P, 6, none⟩ = false) ∧ (w5.cell? ⟨P, 5, none⟩ = some lv ∧ w5.frozen? ⟨P, 5, none⟩ = false) ∧ (w5.cell? ⟨P, 0, none⟩ = some (.int .i64 (s.pl : Int)) ∧ w5.frozen? ⟨P, 0, none⟩ = false) := by
  have h' := h.below hb
  obtain ⟨h1, h2, h3, h4, h5, h6, h7⟩ := h'
  have b1 := (hg.block P (h7 P h4).2 (fun e => ownBlock_other h3 h1 (by decide) e.symm)).trans h1
  obtain ⟨c0, _, _, _, _, c5, c6, hf⟩ := dec_cells b1
  exact ⟨⟨c6, hf 6⟩, ⟨c5, hf 5⟩, c0, hf 0⟩
theorem trV_yes {n v : List UInt8} (h : trB n v = true) : trV n v = .tuple #[.agg #[.string (strB (nameR n)), .string (strB (valueR v))], .nilIface] := by unfold trV; rw [if_pos h]
theorem trV_no {n v : List UInt8} (h : trB n v = false) : trV n v = .tuple #[.agg #[.string (strB []), .string (strB [])], .iface 32 (.int .i64 34)] := by unfold trV; rw [if_neg (by rw [h]; simp)]
theorem pair_new (W : World) (a b : List UInt8) (T : TypeId) : ∀ (j : Nat) (u : Value), [strV a, strV b][j]? = some u →
    (W.alloc (.cells #[.string (strB a), .string (strB b)] T)).cell? ((⟨W.heap.size, 0, none⟩ : Addr).add j) = some u := by
  intro j u h
  rw [Addr.add_lit, Nat.zero_add, World.cell?_alloc_at _ _ _ _ rfl]
  match j, h with
  | 0, h => simpa using h
  | 1, h => simpa using h
  | j + 2, h => simp at h
set_option maxHeartbeats 8000000 in
set_option maxRecDepth 100000 in
theorem endTrailer_any {B P : Nat} {X : Nat → Prop} {s : Dc} (w : World) (h : Dec B P X s w) (hB : B ≤ w.heap.size) (hM : HasMax w) (hl : s.line.length ≤ 8193) (ht : s.trs.length ≤ 64) :
    Calls Tryz.prog 70 #[.pointer (some ⟨P, 0, none⟩)] w (StepPost B P X (lineS s) w) := by
  obtain ⟨hx, HD, lv0, tv0, _⟩ := dec_open h
  obtain ⟨lv, tv, hp⟩ := h.parts
  have HP := Lib.hid hp
  obtain ⟨h1, h2, h3, _, _, _, _⟩ := hp
  obtain ⟨c0, c1, c2, c3, c4, c5, c6, hf⟩ := dec_cells h1
  obtain ⟨la, lc, rfl⟩ := len_line h2
  obtain ⟨ta, tc, rfl⟩ := len_trs h3
  have f0 := hf 0
  have f5 := hf 5
  have f6 := hf 6
  have HR := Lib.hid (OwnB.reads (show OwnB B w (.slice la s.line.length lc) s.line from h2))
  have HM := Lib.hid hM
  clear c1 c2 c3 c4 hf hM h h1
  by_cases hn : s.line = []
  · have e1 : lineS s = (0, { s with pl := 8 }) := by unfold lineS; rw [if_pos hn]
    rw [e1]
    have hq : ((s.line.length : Int) == 0) = true := by simp [hn]
    clear e1 hn h2 h3
    go_enter Tryz.func70, Tryz.ntmps70
    go_wp2_with fail
    go_ret
    exact ⟨rfl, .same (dec_pl (n := 8) (z := 8) HD.out rfl) (Only.set hx _ _ _)⟩
  · have hq : ((s.line.length : Int) == 0) = false := by
      have : s.line.length ≠ 0 := fun e => hn (List.eq_nil_of_length_eq_zero e)
      simp; omega
    have C := Lib.hid (fun W hM => cutM_any 58 (strB s.line) W hM (by rw [strB_size]; omega))
    rw [strB_list] at C
    have hcl := cutC_lt (c := 58) s.line
    have T := Lib.hid (fun W => trailer_any (cutC 58 s.line).1 (cutC 58 s.line).2.1 W (by omega) (by omega))
    have HV := Lib.hid (convB HR.out)
    have hcv := HV.out
    have E1 : lineS s = if (cutC 58 s.line).2.2 = false ∨ s.trs.length = 64 then (34, s)
      else if trB (cutC 58 s.line).1 (cutC 58 s.line).2.1 = false then (34, s)
      else (0, { s with trs := s.trs ++ [(nameR (cutC 58 s.line).1, valueR (cutC 58 s.line).2.1)], line := [], pl := 6 }) := by unfold lineS; rw [if_neg hn]
    clear hn hcv
    cases h22 : (cutC 58 s.line).2.2 with
    | false =>
      rw [if_pos (.inl h22)] at E1
      rw [E1]
      rw [h22] at C
      have hcv := HV.out
      clear E1 h22 h2 h3 hcl
      go_enter Tryz.func70, Tryz.ntmps70
      go_wp2_with fail
      refine (C.out _ HM.out).mono ?_
      rintro e w1 ⟨rfl, n, rfl⟩
      go_wp2_with fail
      go_ret
      exact ⟨rfl, .same (HD.out.below (below_drewN (Below.refl _ _) n)) (Only.drewN _ _ n)⟩
    | true =>
      rw [h22] at C
      by_cases h64 : s.trs.length = 64
      · rw [if_pos (.inr h64)] at E1
        rw [E1]
        have hcv := HV.out
        have hq2 : ((s.trs.length : Int) == 64) = true := by simp [h64] <;> rfl
        clear E1 h22 h2 h3 hcl h64
        go_enter Tryz.func70, Tryz.ntmps70
        go_wp2_with fail
        refine (C.out _ HM.out).mono ?_
        rintro e w1 ⟨rfl, n, rfl⟩
        have hB1 := below_drewN (Below.refl w.heap.size w) n
        generalize w.drewN n = w1 at *
        have HP1 := Lib.hid (HP.out.below hB1)
        obtain ⟨_, _, _, _, _, _, d6, _⟩ := dec_cells HP1.out.1
        go_wp2_with fail
        go_ret
        exact ⟨rfl, .same HP1.out.dec (Only.below hB1)⟩
      · rw [if_neg (by rw [h22]; simp [h64])] at E1
        have hq2 : ((s.trs.length : Int) == 64) = false := by simp; omega
        cases htr : trB (cutC 58 s.line).1 (cutC 58 s.line).2.1 with
        | false =>
          rw [if_pos htr] at E1
          rw [E1]
          rw [trV_no htr] at T
          have hcv := HV.out
          clear E1 h22 h2 h3 hcl h64 htr
          go_enter Tryz.func70, Tryz.ntmps70
          go_wp2_with fail
          refine (C.out _ HM.out).mono ?_
          rintro e w1 ⟨rfl, n, rfl⟩
          have hB1 := below_drewN (Below.refl w.heap.size w) n
          generalize w.drewN n = w1 at *
          have HP1 := Lib.hid (HP.out.below hB1)
          obtain ⟨_, _, _, _, _, _, d6, _⟩ := dec_cells HP1.out.1
          go_wp2_with fail
          refine (T.out _).mono ?_
          rintro e w2 ⟨rfl, hB2⟩
          have hs1 := hB1.size
          have hB12 := hB1.trans (hB2.mono hs1)
          have hs2 := hB12.size
          go_wp2_with fail
          go_ret
          have hbb := hB12.alloc hs2 (.cells #[.string (strB []), .string (strB [])] 71)
          exact ⟨rfl, .same (HD.out.below hbb) (Only.below hbb)⟩
        | true =>
          rw [if_neg (by rw [htr]; simp)] at E1
          rw [E1]
          rw [trV_yes htr] at T
          have hcv := HV.out
          clear E1 h22 h2 h3 hcl h64 htr
          obtain ⟨i0, hi, hz0, hz1, hz2⟩ := info_parts Tryz.infoFK
          generalize nameR (cutC 58 s.line).1 = nm at *
          generalize valueR (cutC 58 s.line).2.1 = vl at *
          go_enter Tryz.func70, Tryz.ntmps70
          go_wp2_with fail
          refine (C.out _ HM.out).mono ?_
          rintro e w1 ⟨rfl, n, rfl⟩
          have hB1 := below_drewN (Below.refl w.heap.size w) n
          generalize w.drewN n = w1 at *
          have HP1 := Lib.hid (HP.out.below hB1)
          obtain ⟨_, _, _, _, _, _, d6, _⟩ := dec_cells HP1.out.1
          go_wp2_with fail
          refine (T.out _).mono ?_
          rintro e w2 ⟨rfl, hB2⟩
          have hs1 := hB1.size
          have hB12 := hB1.trans (hB2.mono hs1)
          have hs2 := hB12.size
          have hbb := hB12.alloc hs2 (.cells #[.string (strB nm), .string (strB vl)] 71)
          have HP3 := Lib.hid (HP.out.below hbb)
          obtain ⟨_, _, _, _, _, _, e6, ef⟩ := dec_cells HP3.out.1
          have g6 := ef 6
          have x0 : (w2.alloc (.cells #[.string (strB nm), .string (strB vl)] 71)).cell? ⟨w2.heap.size, 0, none⟩ = some (.string (strB nm)) := by rw [World.cell?_alloc_at _ _ _ _ rfl]; rfl
          have x1 : (w2.alloc (.cells #[.string (strB nm), .string (strB vl)] 71)).cell? ⟨w2.heap.size, 1, none⟩ = some (.string (strB vl)) := by rw [World.cell?_alloc_at _ _ _ _ rfl]; rfl
          have hs3 := hbb.size
          clear hB1 hB12 hB2 d6 c0 c5 c6 f0 f5 f6 hq hq2 ef hs1 hs2
          go_wp2_with fail
          generalize hw3 : w2.alloc (.cells #[.string (strB nm), .string (strB vl)] 71) = w3 at *
          generalize w2.heap.size = M at *
          obtain ⟨_, _, _, _, _, _, a6, _⟩ := dec_cells (HP3.out.below (below_new w3 (.cells #[.string (strB nm), .string (strB vl)] 71))).1
          go_region_law (first
            | (refine step_append_lies _ (by rfl) (.tmp 51) (.tmp 53) 36 (by rfl) B 71 i0 (.agg #[.string ByteArray.empty, .string ByteArray.empty]) 2 32 Tryz.underlying36 hi hz0 hz1 hz2 rfl (by decide) _ s.trs.length (flatP s.trs) (by rfl) (World.ownsRow.alloc HP3.out.2.2.1 _) ⟨w3.heap.size, 0, none⟩ 1 1 [strV nm, strV vl] (by rfl) rfl (pair_new w3 nm vl _) (fun u hu => by simp at hu; rcases hu with rfl | rfl <;> rfl) (by omega) (by unfold maxLen; omega) (by omega) (by simp; omega) (w3.heap.size + 1) (by simp) ?_; intro g cap w5 hown hgrow hat hlt; obtain ⟨⟨r6, q6⟩, ⟨r5, q5⟩, r0, q0⟩ := cells_grown HP3.out (by first | exact (below_new _ _).drew | exact below_new _ _) hgrow))
          all_goals
            go_wp2_with fail
            go_ret
            refine ⟨rfl, (dec_newtrs HP.out (by first | exact (hbb.alloc hs3 _).drew | exact hbb.alloc hs3 _) hgrow (OwnsP.snoc (p := (nm, vl)) hown) ?_).mapS fun X' hX' => ⟨dec_pl (n := 6) (z := 6) (dec_noline hX') rfl, (Only.set hX'.lt.2.1 _ _ _).trans' (Only.set hX'.lt.2.1 _ _ _)⟩⟩
            rcases hat with e | e
            · exact .inl e.symm
            · exact .inr (by rw [e]; simp [Value.ownBlock])
end Go.Proofs.YtfmgfcddnnggeaaGreatDoor
