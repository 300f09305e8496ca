/- What the program's write returns: the text of a head. -/
import Derived.Test.YtboemdhmmdcmpaaDoorGReason
import Derived.Test.YtboemdhmmdcmpaaDoorTwo
import Derived.Shelf.Bytes.BufferK
import Derived.Shelf.Bytes.Bytes
import Derived.Lib.BufferKept
namespace Go.Proofs.YtboemdhmmdcmpaaDoor
open Go.RowKit

/-- The value v is a slice of bytes of the call's own that holds l. -/
def OwnsB (B : Nat) (w : World) (v : Value) (l : List UInt8) : Prop := w.ownsRow B 5 1 v l.length (Lib.byteCells l)
theorem OwnsB.below {B : Nat} {w w' : World} {v : Value} {l : List UInt8} (h : OwnsB B w v l) (hb : Below w.heap.size w w') : OwnsB B w' v l :=
  World.ownsRow.kept h (grown_of_below hb none) (by cases hv : v.ownBlock <;> simp)
theorem OwnsB.mono {B C : Nat} {w : World} {v : Value} {l : List UInt8} (hBC : B ≤ C) (h : OwnsB C w v l) : OwnsB B w v l := by
  rcases h with ⟨hl, hv | ⟨g, cap, cur, hv, hb, hg, hn, hm, hs, ht⟩⟩
  · exact ⟨hl, .inl hv⟩
  · exact ⟨hl, .inr ⟨g, cap, cur, hv, Nat.le_trans hBC hb, hg, hn, hm, hs, ht⟩⟩
theorem OwnsB.nil (B : Nat) (w : World) : OwnsB B w (.slice none 0 0) [] := World.ownsRow_nil _ _ _ _
theorem OwnsB.isSlice {B : Nat} {w : World} {v : Value} {l : List UInt8} (h : OwnsB B w v l) : (v = .slice none 0 0 ∧ l = []) ∨ ∃ g cap, v = .slice (some ⟨g, 0, none⟩) l.length cap ∧ l.length ≤ cap ∧ B ≤ g ∧ g < w.heap.size ∧ ∀ i (h : i < l.length), w.cell? ⟨g, i, none⟩ = some (.int .u8 ((l[i]'h).toNat : Int)) := by
  have h0 := h
  rcases h with ⟨hl, ⟨hv, hn⟩ | ⟨g, cap, cur, hv, hb, hg, hn, hm, hs, ht⟩⟩
  · exact .inl ⟨hv, List.eq_nil_of_length_eq_zero hn⟩
  · refine .inr ⟨g, cap, hv, hn, hb, (World.ownsRow.lt h0 g (by rw [hv]; rfl)).2, fun i hi => ?_⟩
    subst hv
    rw [World.ownsRow.cellAt h0 i (by omega)]
    unfold Lib.byteCells
    rw [List.getElem?_map, List.getElem?_eq_getElem hi]; rfl
theorem flat_len {ls : List (List UInt8)} {M : Nat} (h : ∀ l ∈ ls, l.length ≤ M) : (flat ls).length ≤ ls.length * (M + 2) := by
  induction ls with
  | nil => simp [flat]
  | cons x t ih =>
    have h1 := h x (by simp)
    have h2 := ih fun l hl => h l (by simp [hl])
    rw [flat_cons, List.length_cons, Nat.succ_mul]; simp; omega
theorem flat_snoc (ls : List (List UInt8)) (x : List UInt8) : flat (ls ++ [x]) = flat ls ++ (x ++ [13, 10]) := by simp [flat]
theorem wline_len {p : List UInt8 × List UInt8} {M : Nat} (h : p.1.length + p.2.length ≤ M) : (wline p).length ≤ M + 2 := by unfold wline; simp; omega
/-- What is written behind k fields. -/
def bodyTo (start : List UInt8) (fs : Fs) (k : Nat) : List UInt8 := start ++ 13 :: 10 :: flat ((fs.take k).map wline)
theorem bodyTo_step {start : List UInt8} {fs : Fs} {k : Nat} {p : List UInt8 × List UInt8} (hp : fs[k]? = some p) : bodyTo start fs (k + 1) = bodyTo start fs k ++ (wline p ++ [13, 10]) := by
  unfold bodyTo; rw [take_more hp, List.map_append, List.map_singleton, flat_snoc]; simp
theorem bodyTo_end {start : List UInt8} {fs : Fs} {k : Nat} (hk : fs.length ≤ k) : bodyTo start fs k ++ [13, 10] = enc (start :: fs.map wline) := by
  unfold bodyTo; rw [List.take_of_length_le hk, enc_cons]; simp [enc]
theorem bodyTo_len {start : List UInt8} {fs : Fs} {k M : Nat} (hb : ∀ p ∈ fs, p.1.length + p.2.length ≤ M) : (bodyTo start fs k).length ≤ start.length + 2 + k * (M + 4) := by
  have h1 := flat_len (ls := (fs.take k).map wline) (M := M + 2) (by
    intro l hl
    obtain ⟨p, hp, rfl⟩ := List.mem_map.1 hl
    exact wline_len (hb p (List.mem_of_mem_take hp)))
  rw [List.length_map] at h1
  have h2 : (fs.take k).length * (M + 2 + 2) ≤ k * (M + 4) := Nat.mul_le_mul_right _ (List.length_take_le _ _)
  unfold bodyTo; rw [List.length_append, List.length_cons, List.length_cons]; omega
theorem str_wline (a b : List UInt8) : strB a ++ (⟨#[58, 32]⟩ : ByteArray) ++ strB b ++ (⟨#[13, 10]⟩ : ByteArray) = strB (wline (a, b) ++ [13, 10]) := by
  apply ByteArray.ext; simp [strB, wline]
theorem str_start (a : List UInt8) : strB a ++ (⟨#[13, 10]⟩ : ByteArray) = strB (a ++ [13, 10]) := by apply ByteArray.ext; simp [strB]
theorem bodyTo0 (start : List UInt8) (fs : Fs) : bodyTo start fs 0 = start ++ [13, 10] := by unfold bodyTo; simp [flat]
def WrtPost (l : List UInt8) (w : World) (e : Ending) (w' : World) : Prop := ∃ v, e = .returned v ∧ OwnsB w.heap.size w' v l ∧ Below w.heap.size w w'
theorem cellsB_len (l : List UInt8) : (Lib.byteCells l).length = l.length := Lib.byteCells_length l
theorem cellsB_app (a b : List UInt8) : Lib.byteCells a ++ Lib.byteCells b = Lib.byteCells (a ++ b) := by unfold Lib.byteCells; rw [List.map_append]
abbrev IsBuf (B b : Nat) (l : List UInt8) (w : World) : Prop := Lib.IsBuffer 95 5 B b (Lib.byteCells l) w
theorem wstr_any (B b : Nat) (l s : List UInt8) (w : World) (h : IsBuf B b l w) (hBw : B ≤ w.heap.size) (hlim : l.length + s.length ≤ 140737488355328) :
    Calls Tryd.prog 55 #[.pointer (some ⟨b, 0, none⟩), .string (strB s)] w fun e w' => (∃ z, e = .returned (.tuple #[.int .i64 z, .nilIface])) ∧ IsBuf B b (l ++ s) w' ∧ Below B w w' := by
  refine (Tryd.Buffer_WriteString_k B b (Lib.byteCells l) (strB s) w h hBw (Lib.byteCells_one _) (by rw [cellsB_len, strB_size]; exact hlim)).mono ?_
  rintro e w' ⟨rfl, h1, h2, _⟩
  rw [strB_list, cellsB_app] at h1
  exact ⟨⟨_, rfl⟩, h1, h2⟩
set_option maxHeartbeats 8000000 in
set_option maxRecDepth 100000 in
theorem write_any (start : List UInt8) (fv : Value) (fs : Fs) (w : World) (hr : ReadsQ w fv fs) (hs : start.length ≤ 1000000) (hl : fs.length ≤ 1000) (hb : ∀ p ∈ fs, p.1.length + p.2.length ≤ 1000000) :
    Calls Tryd.prog 35 #[.string (strB start), fv] w (WrtPost (enc (start :: fs.map wline)) w) := by
  obtain ⟨ao, cap, rfl, hc⟩ := hr
  have HC := Lib.hid hc
  have HBig := Lib.hid hb
  have HLen := Lib.hid (fun k (hk : k ≤ 1000) => (show (bodyTo start fs k).length ≤ 2000000000 by
    have h1 := bodyTo_len (start := start) (k := k) hb
    have h2 : k * (1000000 + 4) ≤ 1000 * (1000000 + 4) := Nat.mul_le_mul_right _ hk
    omega))
  have hz : (strB start).size ≤ 1000000 := by rw [strB_size]; exact hs
  have hI0 : IsBuf w.heap.size w.heap.size [] (w.alloc (.cells #[.slice none 0 0, .int .i64 0, .int .i8 0] 95)) := Lib.fresh_isBuffer 95 5 w
  have H1 := wstr_any w.heap.size w.heap.size [] (start ++ [13, 10]) _ hI0 (by simp) (by simp; omega)
  rw [← str_start] at H1
  have HB0 := Lib.hid (bodyTo0 start fs)
  have hB0 : Below w.heap.size w (w.alloc (.cells #[.slice none 0 0, .int .i64 0, .int .i8 0] 95)) := below_new _ _
  clear hc hb hI0
  go_enter Tryd.func35, Tryd.ntmps35
  go_wp2_with (go_at_call 55; refine H1.mono ?_; rintro e w1 ⟨⟨z, rfl⟩, hI, hB⟩)
  have hB1 := hB0.trans hB
  rw [List.nil_append, ← HB0.out] at hI
  clear H1 hB
  have HI := Lib.hid hI
  clear hI
  go_loopw [13] (fun i wr => ∃ k : Nat, i = .int .i64 k ∧ k ≤ fs.length ∧ IsBuf w.heap.size w.heap.size (bodyTo start fs k) wr ∧ Below w.heap.size w wr) (fun i _ => fs.length - (intOf i).toNat)
  case atStart => exact ⟨0, rfl, Nat.zero_le _, HI.out, hB1⟩
  case round =>
    obtain ⟨k, rfl, hk, hI2, hBr⟩ := hrel
    have hbr := hBr.size
    by_cases hlt : k < fs.length
    · obtain ⟨p, hp⟩ : ∃ p, fs[k]? = some p := ⟨fs[k], by simp [hlt]⟩
      obtain ⟨g, off, rfl, hg1, h1, h2⟩ := HC.out k p hp
      have hc1 : wr.cell? ⟨g, off + k * 2, none⟩ = some (.string (strB p.1)) := (hBr.cell (p := ⟨g, off + k * 2, none⟩) hg1).trans h1
      have hc2 : wr.cell? ⟨g, off + k * 2 + 1, none⟩ = some (.string (strB p.2)) := (hBr.cell (p := ⟨g, off + k * 2 + 1, none⟩) hg1).trans h2
      have hpl := HBig.out p (List.mem_of_getElem? hp)
      have z1 : (strB p.1).size ≤ 1000000 := by rw [strB_size]; omega
      have z2 : (strB p.2).size ≤ 1000000 := by rw [strB_size]; omega
      have hwl := wline_len (p := (p.1, p.2)) hpl
      have hlk := HLen.out k (by omega)
      have H2 := wstr_any w.heap.size w.heap.size (bodyTo start fs k) (wline (p.1, p.2) ++ [13, 10]) (wr.alloc (.cells #[.string (strB p.1), .string (strB p.2)] 62)) (Lib.IsBuffer.alloc hI2 _) (by simp; omega) (by simp; omega)
      rw [← str_wline] at H2
      have HS := Lib.hid (bodyTo_step (start := start) hp)
      clear hp h1 h2 hI2 hlk hwl
      go_wp2_with (go_at_call 55; refine H2.mono ?_; rintro e w2 ⟨⟨z2, rfl⟩, hI3, hB3⟩)
      go_roundw
      case rel => exact ⟨k + 1, by go_num, by omega, by rw [HS.out]; exact hI3, hBr.trans (((below_new wr _).mono hbr).trans hB3)⟩
      case measure => simp [intOf]; omega
    · have HE := Lib.hid (bodyTo_end (start := start) (fs := fs) (k := k) (by omega))
      have hlk := HLen.out k (by omega)
      have H2 := wstr_any w.heap.size w.heap.size (bodyTo start fs k) [13, 10] wr hI2 hbr (by simp; omega)
      clear hI2 hlk
      go_wp2_with (go_at_call 55; refine H2.mono ?_; rintro e w2 ⟨⟨z2, rfl⟩, hI3, hB3⟩)
      rw [HE.out] at hI3
      have H3 := Tryd.Buffer_Bytes w.heap.size w.heap.size _ w2 hI3
      clear hI3 H2
      refine H3.mono ?_
      rintro e w3 ⟨v, rfl, hO, n, rfl⟩
      rw [cellsB_len] at hO
      go_wp2_with fail
      go_ret
      exact ⟨v, rfl, hO, below_drewN (hBr.trans hB3) n⟩
end Go.Proofs.YtboemdhmmdcmpaaDoor
