import Derived.Test.YtacfkljpjjnlfaaGreatDoorPa16
import Derived.Test.YtacfkljpjjnlfaaGreatDoorPa8
import Derived.Shelf.Bytes.BufferK
import Derived.Shelf.Bytes.Bytes
import Derived.Lib.BufferKept
import Derived.Test.YtacfkljpjjnlfaaGreatDoorPa0
import Derived.Lib.AppendIntMem
import Derived.Lib.SmallJoins
import Derived.Stop.LaidErr
/- What the program's write returns: the text of a head. -/
namespace Go.Proofs.YtacfkljpjjnlfaaGreatDoor
open Go.RowKit

/-- The value v is a slice of bytes of the call's own that holds l. -/
def OwnsB (B : Nat) (w : World) (v : Value) (l : List UInt8) : Prop := w.ownsRow B 5 1 v l.length (Lib.byteCells l)
theorem OwnsB.below {B : Nat} {w w' : World} {v : Value} {l : List UInt8} (h : OwnsB B w v l) (hb : Below w.heap.size w w') : OwnsB B w' v l :=
  World.ownsRow.kept h (grown_of_below hb none) (by cases hv : v.ownBlock <;> simp)
theorem OwnsB.mono {B C : Nat} {w : World} {v : Value} {l : List UInt8} (hBC : B ≤ C) (h : OwnsB C w v l) : OwnsB B w v l := by
  rcases h with ⟨hl, hv | ⟨g, cap, cur, hv, hb, hg, hn, hm, hs, ht⟩⟩
  · exact ⟨hl, .inl hv⟩
  · exact ⟨hl, .inr ⟨g, cap, cur, hv, Nat.le_trans hBC hb, hg, hn, hm, hs, ht⟩⟩
theorem OwnsB.nil (B : Nat) (w : World) : OwnsB B w (.slice none 0 0) [] := World.ownsRow_nil _ _ _ _
theorem OwnsB.isSlice {B : Nat} {w : World} {v : Value} {l : List UInt8} (h : OwnsB B w v l) : (v = .slice none 0 0 ∧ l = []) ∨ ∃ g cap, v = .slice (some ⟨g, 0, none⟩) l.length cap ∧ l.length ≤ cap ∧ B ≤ g ∧ g < w.heap.size ∧ ∀ i (h : i < l.length), w.cell? ⟨g, i, none⟩ = some (.int .u8 ((l[i]'h).toNat : Int)) := by
  have h0 := h
  rcases h with ⟨hl, ⟨hv, hn⟩ | ⟨g, cap, cur, hv, hb, hg, hn, hm, hs, ht⟩⟩
  · exact .inl ⟨hv, List.eq_nil_of_length_eq_zero hn⟩
  · refine .inr ⟨g, cap, hv, hn, hb, (World.ownsRow.lt h0 g (by rw [hv]; rfl)).2, fun i hi => ?_⟩
    subst hv
    rw [World.ownsRow.cellAt h0 i (by omega)]
    unfold Lib.byteCells
    rw [List.getElem?_map, List.getElem?_eq_getElem hi]; rfl
theorem flat_len {ls : List (List UInt8)} {M : Nat} (h : ∀ l ∈ ls, l.length ≤ M) : (flat ls).length ≤ ls.length * (M + 2) := by
  induction ls with
  | nil => simp [flat]
  | cons x t ih =>
    have h1 := h x (by simp)
    have h2 := ih fun l hl => h l (by simp [hl])
    rw [flat_cons, List.length_cons, Nat.succ_mul]; simp; omega
theorem flat_snoc (ls : List (List UInt8)) (x : List UInt8) : flat (ls ++ [x]) = flat ls ++ (x ++ [13, 10]) := by simp [flat]
theorem wline_len {p : List UInt8 × List UInt8} {M : Nat} (h : p.1.length + p.2.length ≤ M) : (wline p).length ≤ M + 2 := by unfold wline; simp; omega
/-- What is written behind k fields. -/
def bodyTo (start : List UInt8) (fs : Fs) (k : Nat) : List UInt8 := start ++ 13 :: 10 :: flat ((fs.take k).map wline)
theorem bodyTo_step {start : List UInt8} {fs : Fs} {k : Nat} {p : List UInt8 × List UInt8} (hp : fs[k]? = some p) : bodyTo start fs (k + 1) = bodyTo start fs k ++ (wline p ++ [13, 10]) := by
  unfold bodyTo; rw [take_more hp, List.map_append, List.map_singleton, flat_snoc]; simp
theorem bodyTo_end {start : List UInt8} {fs : Fs} {k : Nat} (hk : fs.length ≤ k) : bodyTo start fs k ++ [13, 10] = enc (start :: fs.map wline) := by
  unfold bodyTo; rw [List.take_of_length_le hk, enc_cons]; simp [enc]
theorem bodyTo_len {start : List UInt8} {fs : Fs} {k M : Nat} (hb : ∀ p ∈ fs, p.1.length + p.2.length ≤ M) : (bodyTo start fs k).length ≤ start.length + 2 + k * (M + 4) := by
  have h1 := flat_len (ls := (fs.take k).map wline) (M := M + 2) (by
    intro l hl
    obtain ⟨p, hp, rfl⟩ := List.mem_map.1 hl
    exact wline_len (hb p (List.mem_of_mem_take hp)))
  rw [List.length_map] at h1
  have h2 : (fs.take k).length * (M + 2 + 2) ≤ k * (M + 4) := Nat.mul_le_mul_right _ (List.length_take_le _ _)
  unfold bodyTo; rw [List.length_append, List.length_cons, List.length_cons]; omega
theorem str_wline (a b : List UInt8) : strB a ++ (⟨#[58, 32]⟩ : ByteArray) ++ strB b ++ (⟨#[13, 10]⟩ : ByteArray) = strB (wline (a, b) ++ [13, 10]) := by
  apply ByteArray.ext; simp [strB, wline]
theorem str_start (a : List UInt8) : strB a ++ (⟨#[13, 10]⟩ : ByteArray) = strB (a ++ [13, 10]) := by apply ByteArray.ext; simp [strB]
theorem bodyTo0 (start : List UInt8) (fs : Fs) : bodyTo start fs 0 = start ++ [13, 10] := by unfold bodyTo; simp [flat]
def WrtPost (l : List UInt8) (w : World) (e : Ending) (w' : World) : Prop := ∃ v, e = .returned v ∧ OwnsB w.heap.size w' v l ∧ Below w.heap.size w w'
theorem cellsB_len (l : List UInt8) : (Lib.byteCells l).length = l.length := Lib.byteCells_length l
theorem cellsB_app (a b : List UInt8) : Lib.byteCells a ++ Lib.byteCells b = Lib.byteCells (a ++ b) := by unfold Lib.byteCells; rw [List.map_append]
abbrev IsBuf (B b : Nat) (l : List UInt8) (w : World) : Prop := Lib.IsBuffer 116 5 B b (Lib.byteCells l) w
theorem wstr_any (B b : Nat) (l s : List UInt8) (w : World) (h : IsBuf B b l w) (hBw : B ≤ w.heap.size) (hlim : l.length + s.length ≤ 140737488355328) :
    Calls Tryz.prog 69 #[.pointer (some ⟨b, 0, none⟩), .string (strB s)] w fun e w' => (∃ z, e = .returned (.tuple #[.int .i64 z, .nilIface])) ∧ IsBuf B b (l ++ s) w' ∧ Below B w w' := by
  refine (Tryz.Buffer_WriteString_k B b (Lib.byteCells l) (strB s) w h hBw (Lib.byteCells_one _) (by rw [cellsB_len, strB_size]; exact hlim)).mono ?_
  rintro e w' ⟨rfl, h1, h2, _⟩
  rw [strB_list, cellsB_app] at h1
  exact ⟨⟨_, rfl⟩, h1, h2⟩
set_option maxHeartbeats 8000000 in
set_option maxRecDepth 100000 in
theorem write_any (start : List UInt8) (fv : Value) (fs : Fs) (w : World) (hr : ReadsQ w fv fs) (hs : start.length ≤ 1000000) (hl : fs.length ≤ 1000) (hb : ∀ p ∈ fs, p.1.length + p.2.length ≤ 1000000) :
    Calls Tryz.prog 39 #[.string (strB start), fv] w (WrtPost (enc (start :: fs.map wline)) w) := by
  obtain ⟨ao, cap, rfl, hc⟩ := hr
  have HC := Lib.hid hc
  have HBig := Lib.hid hb
  have HLen := Lib.hid (fun k (hk : k ≤ 1000) => (show (bodyTo start fs k).length ≤ 2000000000 by
    have h1 := bodyTo_len (start := start) (k := k) hb
    have h2 : k * (1000000 + 4) ≤ 1000 * (1000000 + 4) := Nat.mul_le_mul_right _ hk
    omega))
  have hz : (strB start).size ≤ 1000000 := by rw [strB_size]; exact hs
  have hI0 : IsBuf w.heap.size w.heap.size [] (w.alloc (.cells #[.slice none 0 0, .int .i64 0, .int .i8 0] 116)) := Lib.fresh_isBuffer 116 5 w
  have H1 := wstr_any w.heap.size w.heap.size [] (start ++ [13, 10]) _ hI0 (by simp) (by simp; omega)
  rw [← str_start] at H1
  have HB0 := Lib.hid (bodyTo0 start fs)
  have hB0 : Below w.heap.size w (w.alloc (.cells #[.slice none 0 0, .int .i64 0, .int .i8 0] 116)) := below_new _ _
  clear hc hb hI0
  go_enter Tryz.func39, Tryz.ntmps39
  go_wp2_with (go_at_call 69; refine H1.mono ?_; rintro e w1 ⟨⟨z, rfl⟩, hI, hB⟩)
  have hB1 := hB0.trans hB
  rw [List.nil_append, ← HB0.out] at hI
  clear H1 hB
  have HI := Lib.hid hI
  clear hI
  go_loopw [13] (fun i wr => ∃ k : Nat, i = .int .i64 k ∧ k ≤ fs.length ∧ IsBuf w.heap.size w.heap.size (bodyTo start fs k) wr ∧ Below w.heap.size w wr) (fun i _ => fs.length - (intOf i).toNat)
  case atStart => exact ⟨0, rfl, Nat.zero_le _, HI.out, hB1⟩
  case round =>
    obtain ⟨k, rfl, hk, hI2, hBr⟩ := hrel
    have hbr := hBr.size
    by_cases hlt : k < fs.length
    · obtain ⟨p, hp⟩ : ∃ p, fs[k]? = some p := ⟨fs[k], by simp [hlt]⟩
      obtain ⟨g, off, rfl, hg1, h1, h2⟩ := HC.out k p hp
      have hc1 : wr.cell? ⟨g, off + k * 2, none⟩ = some (.string (strB p.1)) := (hBr.cell (p := ⟨g, off + k * 2, none⟩) hg1).trans h1
      have hc2 : wr.cell? ⟨g, off + k * 2 + 1, none⟩ = some (.string (strB p.2)) := (hBr.cell (p := ⟨g, off + k * 2 + 1, none⟩) hg1).trans h2
      have hpl := HBig.out p (List.mem_of_getElem? hp)
      have z1 : (strB p.1).size ≤ 1000000 := by rw [strB_size]; omega
      have z2 : (strB p.2).size ≤ 1000000 := by rw [strB_size]; omega
      have hwl := wline_len (p := (p.1, p.2)) hpl
      have hlk := HLen.out k (by omega)
      have H2 := wstr_any w.heap.size w.heap.size (bodyTo start fs k) (wline (p.1, p.2) ++ [13, 10]) (wr.alloc (.cells #[.string (strB p.1), .string (strB p.2)] 91)) (Lib.IsBuffer.alloc hI2 _) (by simp; omega) (by simp; omega)
      rw [← str_wline] at H2
      have HS := Lib.hid (bodyTo_step (start := start) hp)
      clear hp h1 h2 hI2 hlk hwl
      go_wp2_with (go_at_call 69; refine H2.mono ?_; rintro e w2 ⟨⟨z2, rfl⟩, hI3, hB3⟩)
      go_roundw
      case rel => exact ⟨k + 1, by go_num, by omega, by rw [HS.out]; exact hI3, hBr.trans (((below_new wr _).mono hbr).trans hB3)⟩
      case measure => simp [intOf]; omega
    · have HE := Lib.hid (bodyTo_end (start := start) (fs := fs) (k := k) (by omega))
      have hlk := HLen.out k (by omega)
      have H2 := wstr_any w.heap.size w.heap.size (bodyTo start fs k) [13, 10] wr hI2 hbr (by simp; omega)
      clear hI2 hlk
      go_wp2_with (go_at_call 69; refine H2.mono ?_; rintro e w2 ⟨⟨z2, rfl⟩, hI3, hB3⟩)
      rw [HE.out] at hI3
      have H3 := Tryz.Buffer_Bytes w.heap.size w.heap.size _ w2 hI3
      clear hI3 H2
      refine H3.mono ?_
      rintro e w3 ⟨v, rfl, hO, n, rfl⟩
      rw [cellsB_len] at hO
      go_wp2_with fail
      go_ret
      exact ⟨v, rfl, hO, below_drewN (hBr.trans hB3) n⟩
end Go.Proofs.YtacfkljpjjnlfaaGreatDoor

/- What the contract of Itoa asks of a world: the table of powers of ten. -/
namespace Go.Proofs.YtacfkljpjjnlfaaGreatDoor
open Go.RowKit

/-- The table of powers of ten, for Itoa. -/
def HasTab (w : World) : Prop := Lib.TabIs Tryz.prog w "internal/strconv.uint64pow10" .u64 Lib.pow10Tab
theorem gTab : Tryz.prog.globalNamed "internal/strconv.uint64pow10" = some 2 := by kernel_rfl
theorem HasTab.below {w w' : World} (h : HasTab w) (hb : Below w.heap.size w w') : HasTab w' := Joins.tab_stays gTab h hb (Nat.le_refl _)
end Go.Proofs.YtacfkljpjjnlfaaGreatDoor

/- What the program's WriteResponse returns. -/
namespace Go.Proofs.YtacfkljpjjnlfaaGreatDoor
open Go.RowKit

theorem decDigits_3 (n : Nat) (h1 : 100 ≤ n) (h2 : n < 1000) : Lib.decDigits n = d3 n := by
  rw [Lib.decDigits, dif_neg (by omega), Lib.decDigits, dif_neg (by omega), Lib.decDigits, dif_pos (by omega)]
  have e2 : n / 10 / 10 = n / 100 := by omega
  unfold d3
  rw [e2]; rfl
theorem itoa_status (n : Nat) (h1 : 100 ≤ n) (h2 : n ≤ 599) (w : World) (hT : HasTab w) :
    Calls Tryz.prog 44 #[.int .i64 (n : Int)] w fun e w' => e = .returned (.string (strB (d3 n))) ∧ Below w.heap.size w w' := by
  refine (Tryz.strconv_Itoa (n : Int) (by omega) (by omega) w hT).mono ?_
  rintro e w' ⟨rfl, k, os, rfl⟩
  refine ⟨?_, Lib.below_grow _ _ (Nat.le_refl _) _ _⟩
  rw [Lib.itoa_nonneg, decDigits_3 n h1 (by omega)]; rfl
abbrev wrP (st : Int) (fs : Fs) := writeP nmO vlO st fs
theorem sizL_lines (fs : Fs) : (flat (fs.map (lineW nmO))).length = sizL fs := by
  induction fs with
  | nil => rfl
  | cons p r ih =>
    have e : sizL (p :: r) = p.1.length + p.2.length + 4 + sizL r := rfl
    have hl : (lineW nmO p).length = p.1.length + p.2.length + 2 := by
      unfold lineW
      cases h : nmO p.1 with
      | none => simp; omega
      | some y => rw [(nmO_some h).1]; simp [lowS_len]; omega
    rw [e, List.map_cons, flat_cons, List.length_append, List.length_cons, List.length_cons, ih, hl]; omega
theorem enc_size (s : List UInt8) (fs : Fs) : (enc (s :: fs.map (lineW nmO))).length = s.length + 4 + sizL fs := by
  rw [enc_cons, List.length_append, List.length_cons, List.length_cons]
  unfold enc
  rw [List.length_append, sizL_lines]; simp; omega
theorem stN_len (st : Int) : (startP st).length = 13 + (reasonZ st).length := by
  unfold startP stN
  by_cases h : st < 100 ∨ 599 < st
  · rw [if_pos h, reasonZ_neg h]; decide
  · rw [if_neg h]
    have e : reasonL st.toNat = reasonZ st := by rw [← reasonZ_nat, Int.toNat_of_nonneg (by omega)]
    rw [e]; simp [verL, d3]; omega
theorem wrP_large {st : Int} {fs : Fs} (h : sizeC (13 + (reasonZ st).length) fs ≠ 0) : sizeC (13 + (reasonZ st).length) fs = 5 ∧ wrP st fs = (5, []) := by
  unfold sizeC at h ⊢
  by_cases h1 : 64 < fs.length ∨ 8192 < 13 + (reasonZ st).length + 4 + sizL fs
  · refine ⟨if_pos h1, ?_⟩
    unfold wrP writeP
    rw [enc_size, stN_len, if_pos h1]
  · rw [if_neg h1] at h; exact absurd rfl h
theorem wrP_form {st : Int} {fs : Fs} (h : sizeC (13 + (reasonZ st).length) fs = 0) (h2 : stB st = false) : wrP st fs = (2, []) := by
  unfold sizeC at h
  by_cases h1 : 64 < fs.length ∨ 8192 < 13 + (reasonZ st).length + 4 + sizL fs
  · rw [if_pos h1] at h; exact absurd h (by decide)
  · have hz : stN st = 0 := by unfold stN; unfold stB at h2; rw [if_pos]; simp at h2; omega
    unfold wrP writeP
    rw [enc_size, stN_len, if_neg h1, if_pos hz]
theorem wrP_rest {st : Int} {fs : Fs} (h : sizeC (13 + (reasonZ st).length) fs = 0) (h2 : stB st = true) : wrP st fs = if goodB nmO vlO fs = false then (25, []) else (0, enc (startP st :: fs.map (lineW nmO))) := by
  unfold sizeC at h
  by_cases h1 : 64 < fs.length ∨ 8192 < 13 + (reasonZ st).length + 4 + sizL fs
  · rw [if_pos h1] at h; exact absurd h (by decide)
  · have hz : stN st ≠ 0 := by unfold stN; unfold stB at h2; simp at h2; rw [if_neg (by omega)]; omega
    unfold wrP writeP
    rw [enc_size, stN_len, if_neg h1, if_neg hz]
theorem sizeC_len {n : Nat} {fs : Fs} (h : sizeC n fs = 0) : fs.length ≤ 64 := by
  unfold sizeC at h
  by_cases h1 : 64 < fs.length ∨ 8192 < n + 4 + sizL fs
  · rw [if_pos h1] at h; exact absurd h (by decide)
  · omega
theorem lines_low {fs : Fs} (h : goodB nmO vlO fs = true) : (fs.map low1).map wline = fs.map (lineW nmO) := by
  rw [List.map_map]
  apply List.map_congr_left
  intro p hp
  unfold goodB at h
  rw [List.all_eq_true] at h
  have := h p hp
  rw [Bool.and_eq_true] at this
  exact wline_low this.1
theorem start_resp {n : Nat} (h1 : 100 ≤ n) (h2 : n ≤ 599) : (⟨#[72, 84, 84, 80, 47, 49, 46, 49, 32]⟩ : ByteArray) ++ strB (d3 n) ++ (⟨#[32]⟩ : ByteArray) ++ strB (reasonZ n) = strB (startP n) := by
  have e : stN (n : Int) = n := by unfold stN; rw [if_neg (by omega)]; simp
  unfold startP
  rw [e, ← reasonZ_nat]
  apply ByteArray.ext; simp [strB, verL]
def RespPost (st : Int) (fs : Fs) (w : World) (e : Ending) (w' : World) : Prop :=
  ∃ v, e = .returned (.tuple #[v, errV (wrP st fs).1]) ∧ OwnsB w.heap.size w' v (wrP st fs).2 ∧ Below w.heap.size w w'
theorem resp_err {st : Int} {fs : Fs} {w w' : World} {c : Nat} (h : wrP st fs = (c, [])) (hc : c ≠ 0) (hB : Below w.heap.size w w') : RespPost st fs w (.returned (.tuple #[.slice none 0 0, .iface 64 (.int .i64 c)])) w' :=
  ⟨.slice none 0 0, by rw [h, errV_pos' hc], by rw [h]; exact OwnsB.nil _ _, hB⟩
set_option maxHeartbeats 8000000 in
set_option maxRecDepth 100000 in
theorem writeResponse_any (st : Int) (fv : Value) (fs : Fs) (w : World) (hr : ReadsQ w fv fs) (hT : HasTab w) (hl : fs.length ≤ 1000) (hb : ∀ p ∈ fs, p.1.length + p.2.length ≤ 1000000) :
    Calls Tryz.prog 21 #[.agg #[.int .i64 st, fv]] w (RespPost st fs w) := by
  have HR := Lib.hid hr
  have HT := Lib.hid hT
  have hrl := reasonZ_len st
  have R := fun w => reason_any st w
  have S := Lib.hid (fun w (hr : ReadsQ w fv fs) => checkSize_any (13 + (reasonZ st).length) fv fs w hr (by omega) hl hb)
  have C := Lib.hid (fun w (hr : ReadsQ w fv fs) => canon_any fv fs w hr hl hb)
  have I := Lib.hid (fun w => isStatus_any st w)
  have HB := Lib.hid hb
  rw [show (((13 + (reasonZ st).length : Nat)) : Int) = (13 : Int) + ((reasonZ st).length : Int) by omega] at S
  have H5 := Lib.hid (fun h => wrP_large (st := st) (fs := fs) h)
  have H2 := Lib.hid (fun h => wrP_form (st := st) (fs := fs) h)
  have HR0 := Lib.hid (fun h => wrP_rest (st := st) (fs := fs) h)
  have HSL := Lib.hid (fun h => sizeC_len (n := 13 + (reasonZ st).length) (fs := fs) h)
  obtain ⟨ao, cap, rfl, hc⟩ := hr
  have hB0 : Below w.heap.size w (w.alloc (.cells #[.int .i64 st, .slice ao fs.length cap] 57)) := below_new _ _
  have hrz : (strB (reasonZ st)).size = (reasonZ st).length := strB_size _
  clear hc hb hT
  generalize hcz : sizeC (13 + (reasonZ st).length) fs = cz at *
  have HCZ := Lib.hid hcz
  clear hcz
  go_enter Tryz.func21, Tryz.ntmps21
  go_wp2_with (go_at_call 42; refine (R _).mono ?_; rintro e w' ⟨rfl, rfl⟩)
  refine (S.out _ (HR.out.below hB0)).mono ?_
  rintro e w1 ⟨rfl, hB1⟩
  obtain ⟨b0, b1, bf0, bf1, bz⟩ := box_kept w hB1
  have hBx := hB0.trans (hB1.mono hB0.size)
  by_cases h0 : cz = 0
  · rw [show errV cz = .nilIface by rw [h0]; rfl]
    cases hst : stB st with
    | false =>
      have HE := Lib.hid (H2.out h0 hst)
      rw [hst] at I
      clear h0 hst
      go_wp2_with fail
      refine (I.out _).mono ?_
      rintro e w' ⟨rfl, rfl⟩
      go_wp2_with fail
      go_ret2
      exact resp_err HE.out (by decide) hBx
    | true =>
      have HE := Lib.hid (HR0.out h0 hst)
      have hl64 := HSL.out h0
      rw [hst] at I
      have hst2 : 100 ≤ st ∧ st ≤ 599 := by unfold stB at hst; simpa using hst
      obtain ⟨n, rfl⟩ : ∃ n : Nat, st = (n : Int) := ⟨st.toNat, by omega⟩
      have T := Lib.hid (fun w hT => itoa_status n (by omega) (by omega) w hT)
      have HSt := Lib.hid (start_resp (n := n) (by omega) (by omega))
      have hsl : (startP (n : Int)).length ≤ 1000000 := by rw [stN_len]; omega
      have hd3 : (strB (d3 n)).size = 3 := by rw [strB_size]; rfl
      clear h0 hst
      go_wp2_with fail
      refine (I.out _).mono ?_
      rintro e w' ⟨rfl, rfl⟩
      go_wp2_with fail
      refine (C.out _ (HR.out.below hBx)).mono ?_
      rintro e w2 ⟨v2, he2, hO2, hB2⟩
      have hB12 := hB1.trans (hB2.mono hB1.size)
      have hBy := hB0.trans (hB12.mono hB0.size)
      clear b0 b1 bf0 bf1 bz hB1 hB2
      obtain ⟨b0, b1, bf0, bf1, bz⟩ := box_kept w hB12
      cases hg : goodB nmO vlO fs with
      | false =>
        rw [hg] at he2
        have HE2 := Lib.hid (show wrP (n : Int) fs = (25, []) by rw [HE.out, hg]; rfl)
        have he2' : e = .returned (.tuple #[v2, .iface 64 (.int .i64 25)]) := he2
        subst he2'
        clear hg he2
        go_wp2_with fail
        go_ret2
        exact resp_err HE2.out (by decide) hBy
      | true =>
        rw [hg] at he2 hO2
        have HE2 := Lib.hid (show wrP (n : Int) fs = (0, enc (startP (n : Int) :: fs.map (lineW nmO))) by rw [HE.out, hg]; rfl)
        have HLL := Lib.hid (lines_low hg)
        have he2' : e = .returned (.tuple #[v2, .nilIface]) := he2
        have hO3 : OwnsP 91 _ w2 v2 (fs.map low1) := hO2
        obtain ⟨ao2, n2, cp2, rfl⟩ : ∃ a n c, v2 = .slice a n c := by obtain ⟨ao, cap, rfl, _⟩ := hO3.reads; exact ⟨_, _, _, rfl⟩
        have HQ := Lib.hid hO3.q
        subst he2'
        clear hg he2 hO2 hO3
        go_wp2_with fail
        refine (T.out _ (HT.out.below hBy)).mono ?_
        rintro e w3 ⟨rfl, hB3⟩
        have hBz := hBy.trans (hB3.mono hBy.size)
        have W := write_any (startP (n : Int)) (.slice ao2 n2 cp2) (fs.map low1) w3 (HQ.out.below hB3) hsl (by rw [List.length_map]; omega) (by
          intro p hp
          obtain ⟨q, hq, rfl⟩ := List.mem_map.1 hp
          have := HB.out q hq
          unfold low1; rw [lowS_len]; exact this)
        rw [← HSt.out, HLL.out] at W
        clear hsl
        go_wp2_with fail
        refine W.mono ?_
        rintro e w4 ⟨v4, rfl, hO4, hB4⟩
        obtain hv4 | ⟨g4, cp4, rfl, _⟩ := hO4.isSlice
        · exact absurd (congrArg List.length hv4.2) (by rw [enc_cons]; simp)
        go_wp2_with fail
        go_ret2
        exact ⟨_, by rw [HE2.out]; rfl, by rw [HE2.out]; exact hO4.mono hBz.size, hBz.trans (hB4.mono hBz.size)⟩
  · obtain ⟨h5, h6⟩ := H5.out h0
    have HE := Lib.hid h6
    rw [show errV cz = .iface 64 (.int .i64 5) by rw [h5]; rfl]
    clear h0 h5 h6
    go_wp2_with fail
    go_ret2
    exact resp_err HE.out (by decide) hBx
end Go.Proofs.YtacfkljpjjnlfaaGreatDoor
