import Derived.Test.YtgbcpheccaldlaaGreatDoorPa10
import Derived.Test.YtgbcpheccaldlaaGreatDoorPa13
import Derived.Test.YtgbcpheccaldlaaGreatDoorPa1
import Derived.Test.YtgbcpheccaldlaaGreatDoorPa7
import Derived.Shelf.Bytes.BufferK
import Derived.Shelf.Bytes.Bytes
import Derived.Lib.BufferKept
/- What the program's ReadResponse returns. -/
namespace Go.Proofs.YtgbcpheccaldlaaGreatDoor
open Go.RowKit

abbrev rdP (l : List UInt8) := readP nmO vlO l
theorem respL_cons (nm vl : List UInt8 → Option (List UInt8)) (x : List UInt8) (t : List (List UInt8)) : respL nm vl (x :: t) =
    (if (cutG 32 x).1 ≠ verL then (28, 0, [])
    else if statusN (cutG 32 x).2 = 0 then (2, 0, [])
    else if (readFs nm vl t).1 ≠ 0 then ((readFs nm vl t).1, 0, [])
    else (0, statusN (cutG 32 x).2, (readFs nm vl t).2)) := rfl
theorem respL_start {nm vl : List UInt8 → Option (List UInt8)} {x : List UInt8} {t : List (List UInt8)} (h : statC x ≠ 0) : respL nm vl (x :: t) = (statC x, 0, []) := by
  rw [respL_cons]
  by_cases h1 : (cutG 32 x).1 ≠ verL
  · rw [if_pos h1, statC_28 h1]
  · rw [if_neg h1]
    by_cases h2 : statusN (cutG 32 x).2 = 0
    · rw [if_pos h2, statC_2 (by simpa using h1) h2]
    · exact absurd (statC_0 (by simpa using h1) h2) h
theorem statC_zero {x : List UInt8} (h : statC x = 0) : (cutG 32 x).1 = verL ∧ statusN (cutG 32 x).2 ≠ 0 := by
  unfold statC at h
  by_cases h1 : (cutG 32 x).1 ≠ verL
  · rw [if_pos h1] at h; cases h
  · rw [if_neg h1] at h
    by_cases h2 : statusN (cutG 32 x).2 = 0
    · rw [if_pos h2] at h; cases h
    · exact ⟨by simpa using h1, h2⟩
theorem respL_rest {nm vl : List UInt8 → Option (List UInt8)} {x : List UInt8} {t : List (List UInt8)} (h : statC x = 0) :
    respL nm vl (x :: t) = if (readFs nm vl t).1 ≠ 0 then ((readFs nm vl t).1, 0, []) else (0, statusN (cutG 32 x).2, (readFs nm vl t).2) := by
  obtain ⟨h1, h2⟩ := statC_zero h
  rw [respL_cons, if_neg (by simp [h1]), if_neg h2]
theorem rdP_split {l : List UInt8} {c : Nat} (h : (splitG l).1 = c) (hc : c ≠ 0) : rdP l = (c, (0, []), 0) := by
  unfold rdP readP; rw [h, if_pos hc]
theorem rdP_lines {l : List UInt8} (h : (splitG l).1 = 0) : rdP l = if (respL nmO vlO (splitG l).2.1).1 ≠ 0 then ((respL nmO vlO (splitG l).2.1).1, (0, []), 0) else (0, (respL nmO vlO (splitG l).2.1).2, (splitG l).2.2) := by
  unfold rdP readP; rw [if_neg (by rw [h]; simp)]
theorem rdP_start {l x : List UInt8} {t : List (List UInt8)} {c : Nat} (h : (splitG l).1 = 0) (hx : (splitG l).2.1 = x :: t) (h1 : statC x = c) (hc : c ≠ 0) : rdP l = (c, (0, []), 0) := by
  rw [rdP_lines h, hx, respL_start (by rw [h1]; exact hc), h1, if_pos hc]
theorem rdP_f {l x : List UInt8} {t : List (List UInt8)} (h : (splitG l).1 = 0) (hx : (splitG l).2.1 = x :: t) (h1 : statC x = 0) (h2 : (readFs nmO vlO t).1 ≠ 0) : rdP l = ((readFs nmO vlO t).1, (0, []), 0) := by
  rw [rdP_lines h, hx, respL_rest h1, if_pos h2, if_pos h2]
theorem rdP_g {l x : List UInt8} {t : List (List UInt8)} (h : (splitG l).1 = 0) (hx : (splitG l).2.1 = x :: t) (h1 : statC x = 0) (h2 : (readFs nmO vlO t).1 = 0) : rdP l = (0, (statusN (cutG 32 x).2, (readFs nmO vlO t).2), (splitG l).2.2) := by
  have e : respL nmO vlO (x :: t) = (0, statusN (cutG 32 x).2, (readFs nmO vlO t).2) := by rw [respL_rest h1, if_neg (by simp [h2])]
  rw [rdP_lines h, hx, e]; rfl
/-- A slice of the call's own is kept when the first block is written. -/
theorem ownsP_two (w : World) {T : TypeId} {w' : World} {v : Value} {ps : Fs} (h : OwnsP T (w.heap.size + 1) w' v ps) (a b : Value) :
    OwnsP T w.heap.size ((w'.setCell ⟨w.heap.size, 0, none⟩ a).setCell ⟨w.heap.size, 1, none⟩ b) v ps := by
  have hn : ∀ k, v.ownBlock ≠ some (⟨w.heap.size, k, none⟩ : Addr).block := fun k hq => by have := (World.ownsRow.lt h _ hq).1; simp at this; omega
  exact OwnsP.mono (Nat.le_succ _) (ownsRow_setCell_other (ownsRow_setCell_other h (hn 0) a) (hn 1) b)
/-- What ReadResponse leaves. -/
def ResPost (l : List UInt8) (w : World) (e : Ending) (w' : World) : Prop :=
  ∃ v, e = .returned (.tuple #[.agg #[.int .i64 ((rdP l).2.1.1 : Int), v], .int .i64 ((rdP l).2.2 : Int), errV (rdP l).1]) ∧ OwnsP 60 w.heap.size w' v (rdP l).2.1.2 ∧ Below w.heap.size w w'
theorem resPost_err {l : List UInt8} {w w' : World} {c : Nat} (h : rdP l = (c, (0, []), 0)) (hc : c ≠ 0) (hB : Below w.heap.size w w') :
    ResPost l w (.returned (.tuple #[.agg #[.int .i64 0, .slice none 0 0], .int .i64 0, .iface 63 (.int .i64 c)])) w' :=
  ⟨.slice none 0 0, by rw [h, errV_no hc]; rfl, by rw [h]; exact OwnsP.nil _ _ _, hB⟩
end Go.Proofs.YtgbcpheccaldlaaGreatDoor

/- What the reference's status and ReadResponse return. -/
namespace Go.Proofs.YtgbcpheccaldlaaGreatDoor
open Go.RowKit

/-- No control byte behind the first three, up to k. -/
def tailOk (s : ByteArray) (k : Nat) : Prop := ((s.data.toList.take k).drop 3).any ctlB = false
theorem tailOk0 (s : ByteArray) : tailOk s 3 := by
  unfold tailOk
  rw [List.drop_of_length_le (by rw [List.length_take]; omega)]; rfl
theorem tailOk_step {s : ByteArray} {k : Nat} (hk : k < s.size) (h3 : 3 ≤ k) (h : tailOk s k) (hb : ctlB s[k] = false) : tailOk s (k + 1) := by
  unfold tailOk at *
  have hl : (s.data.toList.take k).length = k := by
    have : s.data.toList.length = s.size := by rw [Array.length_toList]; rfl
    rw [List.length_take]; omega
  rw [take_snoc s k hk, List.drop_append_of_le_length (by omega), List.any_append, h]
  simp [hb]
theorem tail_end {s : ByteArray} {k : Nat} (hk : s.size ≤ k) (h : tailOk s k) : (s.data.toList.drop 3).any ctlB = false := by
  unfold tailOk at h
  rwa [take_all s k hk] at h
theorem tail_bad {s : ByteArray} {k : Nat} (hk : k < s.size) (h3 : 3 ≤ k) (hb : ctlB s[k] = true) : (s.data.toList.drop 3).any ctlB = true := by
  rw [List.any_eq_true]
  have hsz : s.data.toList.length = s.size := by rw [Array.length_toList]; rfl
  refine ⟨s[k], ?_, hb⟩
  rw [List.mem_iff_getElem?]
  refine ⟨k - 3, ?_⟩
  rw [List.getElem?_drop, show 3 + (k - 3) = k by omega, List.getElem?_eq_getElem (by omega)]
  rfl
theorem status_short {s : ByteArray} (h : s.size < 3) : statusN s.data.toList = 0 := by
  have : s.data.toList.length = s.size := by rw [Array.length_toList]; rfl
  rw [statusN_eq, if_neg]; rintro ⟨a, _⟩; omega
theorem status_form {s : ByteArray} (h : 3 < s.size) (hb : s[3] ≠ 32) : statusN s.data.toList = 0 := by
  have : s.data.toList.length = s.size := by rw [Array.length_toList]; rfl
  rw [statusN_eq, if_neg]
  rintro ⟨_, h2, _⟩
  rcases h2 with h2 | h2
  · omega
  · rw [List.getElem?_eq_getElem (by omega)] at h2
    exact hb (Option.some.inj h2)
theorem status_dig {s : ByteArray} {k : Nat} (hk : k < 3) (h3 : 3 ≤ s.size) (hb : digB s[k] = false) : statusN s.data.toList = 0 := by
  have hsz : s.data.toList.length = s.size := by rw [Array.length_toList]; rfl
  rw [statusN_eq, if_neg]
  rintro ⟨_, _, a, _⟩
  have hm : s[k] ∈ s.data.toList.take 3 := by
    rw [List.mem_iff_getElem?]
    exact ⟨k, by rw [List.getElem?_take_of_lt hk, List.getElem?_eq_getElem (by omega)]; rfl⟩
  have := List.all_eq_true.1 a _ hm
  rw [hb] at this; cases this
theorem status_ctl {s : ByteArray} (h : (s.data.toList.drop 3).any ctlB = true) : statusN s.data.toList = 0 := by
  rw [statusN_eq, if_neg]
  rintro ⟨_, _, _, a, _⟩
  rw [h] at a; cases a
theorem status_out {s : ByteArray} (h : ¬ (100 ≤ numV (s.data.toList.take 3) ∧ numV (s.data.toList.take 3) ≤ 599)) : statusN s.data.toList = 0 := by
  rw [statusN_eq, if_neg]
  rintro ⟨_, _, _, _, a⟩
  exact h a
theorem status_good {s : ByteArray} (h3 : 3 ≤ s.size) (hf : s.size = 3 ∨ ∃ h : 3 < s.size, s[3] = 32) (hd : (s.data.toList.take 3).all digB = true) (hc : (s.data.toList.drop 3).any ctlB = false) (h : 100 ≤ numV (s.data.toList.take 3) ∧ numV (s.data.toList.take 3) ≤ 599) :
    statusN s.data.toList = numV (s.data.toList.take 3) := by
  have hsz : s.data.toList.length = s.size := by rw [Array.length_toList]; rfl
  rw [statusN_eq, if_pos]
  refine ⟨by omega, ?_, hd, hc, h⟩
  rcases hf with hf | ⟨hlt, hf⟩
  · exact .inl (by omega)
  · refine .inr ?_
    rw [List.getElem?_eq_getElem (by omega)]
    exact congrArg some hf
end Go.Proofs.YtgbcpheccaldlaaGreatDoor

/- What the reference's ReadResponse returns. -/
namespace Go.Proofs.YtgbcpheccaldlaaGreatDoor
open Go.RowKit

/-- What the reference's ReadResponse leaves. -/
def RefResPost (l : List UInt8) (w : World) (e : Ending) (w' : World) : Prop :=
  ∃ v, e = .returned (.tuple #[.agg #[.int .i64 ((rdP l).2.1.1 : Int), v], .int .i64 ((rdP l).2.2 : Int), .int .i64 ((rdP l).1 : Int)]) ∧ OwnsP 41 w.heap.size w' v (rdP l).2.1.2 ∧ Below w.heap.size w w'
theorem refRes_err {l : List UInt8} {w w' : World} {c : Nat} (h : rdP l = (c, (0, []), 0)) (hB : Below w.heap.size w w') :
    RefResPost l w (.returned (.tuple #[.agg #[.int .i64 0, .slice none 0 0], .int .i64 0, .int .i64 (c : Int)])) w' :=
  ⟨.slice none 0 0, by rw [h]; rfl, by rw [h]; exact OwnsP.nil _ _ _, hB⟩
end Go.Proofs.YtgbcpheccaldlaaGreatDoor

/- What the program's write returns: the text of a head. -/
namespace Go.Proofs.YtgbcpheccaldlaaGreatDoor
open Go.RowKit

/-- The value v is a slice of bytes of the call's own that holds l. -/
def OwnsB (B : Nat) (w : World) (v : Value) (l : List UInt8) : Prop := w.ownsRow B 5 1 v l.length (Lib.byteCells l)
theorem OwnsB.below {B : Nat} {w w' : World} {v : Value} {l : List UInt8} (h : OwnsB B w v l) (hb : Below w.heap.size w w') : OwnsB B w' v l :=
  World.ownsRow.kept h (grown_of_below hb none) (by cases hv : v.ownBlock <;> simp)
theorem OwnsB.mono {B C : Nat} {w : World} {v : Value} {l : List UInt8} (hBC : B ≤ C) (h : OwnsB C w v l) : OwnsB B w v l := by
  rcases h with ⟨hl, hv | ⟨g, cap, cur, hv, hb, hg, hn, hm, hs, ht⟩⟩
  · exact ⟨hl, .inl hv⟩
  · exact ⟨hl, .inr ⟨g, cap, cur, hv, Nat.le_trans hBC hb, hg, hn, hm, hs, ht⟩⟩
theorem OwnsB.nil (B : Nat) (w : World) : OwnsB B w (.slice none 0 0) [] := World.ownsRow_nil _ _ _ _
theorem OwnsB.isSlice {B : Nat} {w : World} {v : Value} {l : List UInt8} (h : OwnsB B w v l) : (v = .slice none 0 0 ∧ l = []) ∨ ∃ g cap, v = .slice (some ⟨g, 0, none⟩) l.length cap ∧ l.length ≤ cap ∧ B ≤ g ∧ g < w.heap.size ∧ ∀ i (h : i < l.length), w.cell? ⟨g, i, none⟩ = some (.int .u8 ((l[i]'h).toNat : Int)) := by
  have h0 := h
  rcases h with ⟨hl, ⟨hv, hn⟩ | ⟨g, cap, cur, hv, hb, hg, hn, hm, hs, ht⟩⟩
  · exact .inl ⟨hv, List.eq_nil_of_length_eq_zero hn⟩
  · refine .inr ⟨g, cap, hv, hn, hb, (World.ownsRow.lt h0 g (by rw [hv]; rfl)).2, fun i hi => ?_⟩
    subst hv
    rw [World.ownsRow.cellAt h0 i (by omega)]
    unfold Lib.byteCells
    rw [List.getElem?_map, List.getElem?_eq_getElem hi]; rfl
theorem flat_len {ls : List (List UInt8)} {M : Nat} (h : ∀ l ∈ ls, l.length ≤ M) : (flat ls).length ≤ ls.length * (M + 2) := by
  induction ls with
  | nil => simp [flat]
  | cons x t ih =>
    have h1 := h x (by simp)
    have h2 := ih fun l hl => h l (by simp [hl])
    rw [flat_cons, List.length_cons, Nat.succ_mul]; simp; omega
theorem flat_snoc (ls : List (List UInt8)) (x : List UInt8) : flat (ls ++ [x]) = flat ls ++ (x ++ [13, 10]) := by simp [flat]
theorem wline_len {p : List UInt8 × List UInt8} {M : Nat} (h : p.1.length + p.2.length ≤ M) : (wline p).length ≤ M + 2 := by unfold wline; simp; omega
/-- What is written behind k fields. -/
def bodyTo (start : List UInt8) (fs : Fs) (k : Nat) : List UInt8 := start ++ 13 :: 10 :: flat ((fs.take k).map wline)
theorem bodyTo_step {start : List UInt8} {fs : Fs} {k : Nat} {p : List UInt8 × List UInt8} (hp : fs[k]? = some p) : bodyTo start fs (k + 1) = bodyTo start fs k ++ (wline p ++ [13, 10]) := by
  unfold bodyTo; rw [take_more hp, List.map_append, List.map_singleton, flat_snoc]; simp
theorem bodyTo_end {start : List UInt8} {fs : Fs} {k : Nat} (hk : fs.length ≤ k) : bodyTo start fs k ++ [13, 10] = enc (start :: fs.map wline) := by
  unfold bodyTo; rw [List.take_of_length_le hk, enc_cons]; simp [enc]
theorem bodyTo_len {start : List UInt8} {fs : Fs} {k M : Nat} (hb : ∀ p ∈ fs, p.1.length + p.2.length ≤ M) : (bodyTo start fs k).length ≤ start.length + 2 + k * (M + 4) := by
  have h1 := flat_len (ls := (fs.take k).map wline) (M := M + 2) (by
    intro l hl
    obtain ⟨p, hp, rfl⟩ := List.mem_map.1 hl
    exact wline_len (hb p (List.mem_of_mem_take hp)))
  rw [List.length_map] at h1
  have h2 : (fs.take k).length * (M + 2 + 2) ≤ k * (M + 4) := Nat.mul_le_mul_right _ (List.length_take_le _ _)
  unfold bodyTo; rw [List.length_append, List.length_cons, List.length_cons]; omega
theorem str_wline (a b : List UInt8) : strB a ++ (⟨#[58, 32]⟩ : ByteArray) ++ strB b ++ (⟨#[13, 10]⟩ : ByteArray) = strB (wline (a, b) ++ [13, 10]) := by
  apply ByteArray.ext; simp [strB, wline]
theorem str_start (a : List UInt8) : strB a ++ (⟨#[13, 10]⟩ : ByteArray) = strB (a ++ [13, 10]) := by apply ByteArray.ext; simp [strB]
theorem bodyTo0 (start : List UInt8) (fs : Fs) : bodyTo start fs 0 = start ++ [13, 10] := by unfold bodyTo; simp [flat]
def WrtPost (l : List UInt8) (w : World) (e : Ending) (w' : World) : Prop := ∃ v, e = .returned v ∧ OwnsB w.heap.size w' v l ∧ Below w.heap.size w w'
theorem cellsB_len (l : List UInt8) : (Lib.byteCells l).length = l.length := Lib.byteCells_length l
theorem cellsB_app (a b : List UInt8) : Lib.byteCells a ++ Lib.byteCells b = Lib.byteCells (a ++ b) := by unfold Lib.byteCells; rw [List.map_append]
abbrev IsBuf (B b : Nat) (l : List UInt8) (w : World) : Prop := Lib.IsBuffer 73 5 B b (Lib.byteCells l) w
theorem wstr_any (B b : Nat) (l s : List UInt8) (w : World) (h : IsBuf B b l w) (hBw : B ≤ w.heap.size) (hlim : l.length + s.length ≤ 140737488355328) :
    Calls Tryz.prog 33 #[.pointer (some ⟨b, 0, none⟩), .string (strB s)] w fun e w' => (∃ z, e = .returned (.tuple #[.int .i64 z, .nilIface])) ∧ IsBuf B b (l ++ s) w' ∧ Below B w w' := by
  refine (Tryz.Buffer_WriteString_k B b (Lib.byteCells l) (strB s) w h hBw (Lib.byteCells_one _) (by rw [cellsB_len, strB_size]; exact hlim)).mono ?_
  rintro e w' ⟨rfl, h1, h2, _⟩
  rw [strB_list, cellsB_app] at h1
  exact ⟨⟨_, rfl⟩, h1, h2⟩
set_option maxHeartbeats 8000000 in
set_option maxRecDepth 100000 in
theorem write_any (start : List UInt8) (fv : Value) (fs : Fs) (w : World) (hr : ReadsQ w fv fs) (hs : start.length ≤ 1000000) (hl : fs.length ≤ 1000) (hb : ∀ p ∈ fs, p.1.length + p.2.length ≤ 1000000) :
    Calls Tryz.prog 17 #[.string (strB start), fv] w (WrtPost (enc (start :: fs.map wline)) w) := by
  obtain ⟨ao, cap, rfl, hc⟩ := hr
  have HC := Lib.hid hc
  have HBig := Lib.hid hb
  have HLen := Lib.hid (fun k (hk : k ≤ 1000) => (show (bodyTo start fs k).length ≤ 2000000000 by
    have h1 := bodyTo_len (start := start) (k := k) hb
    have h2 : k * (1000000 + 4) ≤ 1000 * (1000000 + 4) := Nat.mul_le_mul_right _ hk
    omega))
  have hz : (strB start).size ≤ 1000000 := by rw [strB_size]; exact hs
  have hI0 : IsBuf w.heap.size w.heap.size [] (w.alloc (.cells #[.slice none 0 0, .int .i64 0, .int .i8 0] 73)) := Lib.fresh_isBuffer 73 5 w
  have H1 := wstr_any w.heap.size w.heap.size [] (start ++ [13, 10]) _ hI0 (by simp) (by simp; omega)
  rw [← str_start] at H1
  have HB0 := Lib.hid (bodyTo0 start fs)
  have hB0 : Below w.heap.size w (w.alloc (.cells #[.slice none 0 0, .int .i64 0, .int .i8 0] 73)) := below_new _ _
  clear hc hb hI0
  go_enter Tryz.func17, Tryz.ntmps17
  go_wp2_with (go_at_call 33; refine H1.mono ?_; rintro e w1 ⟨⟨z, rfl⟩, hI, hB⟩)
  have hB1 := hB0.trans hB
  rw [List.nil_append, ← HB0.out] at hI
  clear H1 hB
  have HI := Lib.hid hI
  clear hI
  go_loopw [13] (fun i wr => ∃ k : Nat, i = .int .i64 k ∧ k ≤ fs.length ∧ IsBuf w.heap.size w.heap.size (bodyTo start fs k) wr ∧ Below w.heap.size w wr) (fun i _ => fs.length - (intOf i).toNat)
  case atStart => exact ⟨0, rfl, Nat.zero_le _, HI.out, hB1⟩
  case round =>
    obtain ⟨k, rfl, hk, hI2, hBr⟩ := hrel
    have hbr := hBr.size
    by_cases hlt : k < fs.length
    · obtain ⟨p, hp⟩ : ∃ p, fs[k]? = some p := ⟨fs[k], by simp [hlt]⟩
      obtain ⟨g, off, rfl, hg1, h1, h2⟩ := HC.out k p hp
      have hc1 : wr.cell? ⟨g, off + k * 2, none⟩ = some (.string (strB p.1)) := (hBr.cell (p := ⟨g, off + k * 2, none⟩) hg1).trans h1
      have hc2 : wr.cell? ⟨g, off + k * 2 + 1, none⟩ = some (.string (strB p.2)) := (hBr.cell (p := ⟨g, off + k * 2 + 1, none⟩) hg1).trans h2
      have hpl := HBig.out p (List.mem_of_getElem? hp)
      have z1 : (strB p.1).size ≤ 1000000 := by rw [strB_size]; omega
      have z2 : (strB p.2).size ≤ 1000000 := by rw [strB_size]; omega
      have hwl := wline_len (p := (p.1, p.2)) hpl
      have hlk := HLen.out k (by omega)
      have H2 := wstr_any w.heap.size w.heap.size (bodyTo start fs k) (wline (p.1, p.2) ++ [13, 10]) (wr.alloc (.cells #[.string (strB p.1), .string (strB p.2)] 60)) (Lib.IsBuffer.alloc hI2 _) (by simp; omega) (by simp; omega)
      rw [← str_wline] at H2
      have HS := Lib.hid (bodyTo_step (start := start) hp)
      clear hp h1 h2 hI2 hlk hwl
      go_wp2_with (go_at_call 33; refine H2.mono ?_; rintro e w2 ⟨⟨z2, rfl⟩, hI3, hB3⟩)
      go_roundw
      case rel => exact ⟨k + 1, by go_num, by omega, by rw [HS.out]; exact hI3, hBr.trans (((below_new wr _).mono hbr).trans hB3)⟩
      case measure => simp [intOf]; omega
    · have HE := Lib.hid (bodyTo_end (start := start) (fs := fs) (k := k) (by omega))
      have hlk := HLen.out k (by omega)
      have H2 := wstr_any w.heap.size w.heap.size (bodyTo start fs k) [13, 10] wr hI2 hbr (by simp; omega)
      clear hI2 hlk
      go_wp2_with (go_at_call 33; refine H2.mono ?_; rintro e w2 ⟨⟨z2, rfl⟩, hI3, hB3⟩)
      rw [HE.out] at hI3
      have H3 := Tryz.Buffer_Bytes w.heap.size w.heap.size _ w2 hI3
      clear hI3 H2
      refine H3.mono ?_
      rintro e w3 ⟨v, rfl, hO, n, rfl⟩
      rw [cellsB_len] at hO
      go_wp2_with fail
      go_ret
      exact ⟨v, rfl, hO, below_drewN (hBr.trans hB3) n⟩
end Go.Proofs.YtgbcpheccaldlaaGreatDoor
