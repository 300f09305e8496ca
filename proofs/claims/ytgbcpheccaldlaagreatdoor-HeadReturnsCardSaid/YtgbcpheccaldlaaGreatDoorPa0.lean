import Derived.Test.YtgbcpheccaldlaaGreatDoorProg
import Derived.WalkKit
import Derived.WalkSpells
import Derived.WalkLawsBesides
import Derived.Lib.Hide
import Derived.Lib.SlTrimSet
import Derived.OwnWalk
import Derived.Below
import Derived.Maps.AppendAt
/- What all texts of a seat share: strings as lists of bytes, slices of strings that a call makes or reads, worlds that leave old blocks as they were. -/
namespace Go.Proofs.YtgbcpheccaldlaaGreatDoor
open Go.RowKit

theorem ret_bool {a b : Bool} (h : a = b) : Ending.returned (.bool a) = .returned (.bool b) := by rw [h]

theorem take_snoc (s : ByteArray) (k : Nat) (h : k < s.size) : s.data.toList.take (k + 1) = s.data.toList.take k ++ [s[k]] := by
  rw [List.take_succ_eq_append_getElem (by simpa using h)]; rfl
theorem get_mem (s : ByteArray) (k : Nat) (h : k < s.size) : s[k] ∈ s.data.toList := by
  have : s[k] = s.data.toList[k]'(by simpa using h) := rfl
  rw [this]; exact List.getElem_mem _
theorem take_all (s : ByteArray) (k : Nat) (h : s.size ≤ k) : s.data.toList.take k = s.data.toList := List.take_of_length_le (by simpa using h)
theorem Tryz.infoS : (Tryz.prog.info? 9).map (fun i => (i.zero, i.size, i.bytes)) = some (some (.string ByteArray.empty), 1, 16) := by kernel_rfl

def strB (l : List UInt8) : ByteArray := ⟨l.toArray⟩
abbrev strV (l : List UInt8) : Value := .string (strB l)
/-- The value v is a slice of the call's own (its cells lie in blocks from B on) that holds these strings. -/
def OwnsS (B : Nat) (w : World) (v : Value) (ls : List (List UInt8)) : Prop :=
  w.ownsRow B 9 1 v ls.length (ls.map strV)

theorem seg_list (s : ByteArray) (x k : Nat) : (s.extract x k).data.toList = (s.data.toList.drop x).take (k - x) := by
  exact Lib.extract_data s x k
theorem below_drewN {B : Nat} {a w : World} (h : Below B a w) (n : Nat) : Below B a (w.drewN n) := ⟨h.os, h.tape, h.output, h.size, h.block⟩
theorem grown_of_below {a w : World} (h : Below a.heap.size a w) (row : Option Nat) : a.grownBy w row := ⟨h.os, h.tape, h.output, h.size, fun i hi _ => h.block i hi⟩
theorem OwnsS.below {B : Nat} {w w' : World} {v : Value} {ls : List (List UInt8)} (h : OwnsS B w v ls) (hb : Below w.heap.size w w') : OwnsS B w' v ls :=
  World.ownsRow.kept h (grown_of_below hb none) (by cases hv : v.ownBlock <;> simp)

theorem OwnsS.snoc {B : Nat} {w : World} {v : Value} {ls : List (List UInt8)} {l : List UInt8} (h : w.ownsRow B 9 1 v (ls.length + 1) (ls.map strV ++ [strV l])) : OwnsS B w v (ls ++ [l]) := by
  unfold OwnsS; rw [List.length_append, List.map_append]; exact h
theorem below_append {B : Nat} {a w w1 w2 : World} {v : Value} {ls : List (List UInt8)} {o : Obj} (hB : Below B a w) (hBs : B ≤ w.heap.size) (hb1 : Below w.heap.size w w1) (hown : OwnsS B w v ls)
    (hgrow : (w1.alloc o).grownBy w2 v.ownBlock) : Below B a w2 :=
  ((hB.trans (hb1.mono hBs)).alloc (by have := hb1.size; omega) o).grown hgrow (by have := hb1.size; simp; omega) (fun q hq => (World.ownsRow.lt hown q hq).1)

theorem below_new (w : World) (o : Obj) : Below w.heap.size w (w.alloc o) := (Below.refl _ _).alloc (Nat.le_refl _) o
theorem nat_of_u8 {a b : UInt8} (h : a.toNat = b.toNat) : a = b := UInt8.toNat_inj.mp h

theorem strB_size (l : List UInt8) : (strB l).size = l.length := by show l.toArray.size = _; simp
theorem strB_list (l : List UInt8) : (strB l).data.toList = l := by simp [strB]
theorem strB_of (s : ByteArray) : strB s.data.toList = s := by apply ByteArray.ext; simp [strB]
theorem strB_ext {s : ByteArray} {l : List UInt8} (h : s.data.toList = l) : s = strB l := by rw [← h, strB_of]
theorem strB_snoc (l : List UInt8) (c : UInt8) : strB l ++ ⟨#[c]⟩ = strB (l ++ [c]) := by apply ByteArray.ext; simp [strB]
theorem strB_app (l : List UInt8) (s : ByteArray) : strB l ++ s = strB (l ++ s.data.toList) := by apply ByteArray.ext; simp [strB]
theorem one_byte (s : ByteArray) (k : Nat) (h : k < s.size) : (s.extract k (k + 1)).data.toList = [s[k]] := by
  rw [seg_list, show k + 1 - k = 1 by omega, List.drop_eq_getElem_cons (by simpa using h)]; rfl
/-- A slice of the call's own, opened: nil and empty, or a block with its cells. -/
theorem OwnsS.open' {B : Nat} {w : World} {v : Value} {ls : List (List UInt8)} (h : OwnsS B w v ls) :
    (v = .slice none 0 0 ∧ ls = []) ∨ ∃ g cap, v = .slice (some ⟨g, 0, none⟩) ls.length cap ∧ B ≤ g ∧ g < w.heap.size ∧ (∀ j l, ls[j]? = some l → w.cell? ⟨g, j, none⟩ = some (.string (strB l))) := by
  have h0 := h
  rcases h with ⟨hl, ⟨hv, hn⟩ | ⟨g, cap, cur, hv, hb, hg, hn, hm, hs, ht⟩⟩
  · exact .inl ⟨hv, List.eq_nil_of_length_eq_zero hn⟩
  · refine .inr ⟨g, cap, hv, hb, ?_, ?_⟩
    · have := World.ownsRow.lt h0 g (by rw [hv]; rfl)
      exact this.2
    · intro j l hj
      subst hv
      have hj' : j < ls.length := (List.getElem?_eq_some_iff.mp hj).1
      have := World.ownsRow.cellAt h0 j (by omega)
      rw [this, List.getElem?_map, hj]; rfl

theorem OwnsS.mono {B C : Nat} {w : World} {v : Value} {ls : List (List UInt8)} (hBC : B ≤ C) (h : OwnsS C w v ls) : OwnsS B w v ls := by
  rcases h with ⟨hl, hv | ⟨g, cap, cur, hv, hb, hg, hn, hm, hs, ht⟩⟩
  · exact ⟨hl, .inl hv⟩
  · exact ⟨hl, .inr ⟨g, cap, cur, hv, Nat.le_trans hBC hb, hg, hn, hm, hs, ht⟩⟩
theorem empty_yes {l : List UInt8} (h : l = []) : (strB l).toList.isEmpty = true := by subst h; rw [ByteArray.toList_eq]; rfl
theorem empty_no {l : List UInt8} (h : l ≠ []) : (strB l).toList.isEmpty = false := by
  rw [ByteArray.toList_eq]
  cases l with
  | nil => exact absurd rfl h
  | cons a t => rfl

/-- The value v is a slice of strings that reads as ls in the world w. -/
def ReadsS (w : World) (v : Value) (ls : List (List UInt8)) : Prop :=
  ∃ ao cap, v = .slice ao ls.length cap ∧ ∀ j l, ls[j]? = some l → ∃ g off, ao = some ⟨g, off, none⟩ ∧ g < w.heap.size ∧ w.cell? ⟨g, off + j, none⟩ = some (.string (strB l))
theorem OwnsS.reads {B : Nat} {w : World} {v : Value} {ls : List (List UInt8)} (h : OwnsS B w v ls) : ReadsS w v ls := by
  rcases h.open' with ⟨rfl, rfl⟩ | ⟨g, cap, rfl, _, hg, hc⟩
  · exact ⟨none, 0, rfl, fun j l h => by simp at h⟩
  · exact ⟨_, cap, rfl, fun j l hj => ⟨g, 0, rfl, hg, by rw [Nat.zero_add]; exact hc j l hj⟩⟩
theorem ReadsS.below {w w' : World} {v : Value} {ls : List (List UInt8)} (h : ReadsS w v ls) (hb : Below w.heap.size w w') : ReadsS w' v ls := by
  obtain ⟨ao, cap, rfl, hc⟩ := h
  refine ⟨ao, cap, rfl, fun j l hj => ?_⟩
  obtain ⟨g, off, h1, h2, h3⟩ := hc j l hj
  exact ⟨g, off, h1, Nat.lt_of_lt_of_le h2 hb.size, (hb.cell (p := ⟨g, off + j, none⟩) h2).trans h3⟩
theorem strB_inj {a b : List UInt8} (h : strB a = strB b) : a = b := by
  have := congrArg (fun s : ByteArray => s.data.toList) h
  simpa [strB] using this

end Go.Proofs.YtgbcpheccaldlaaGreatDoor

/- Lower case; what the code's lower returns. -/
namespace Go.Proofs.YtgbcpheccaldlaaGreatDoor
open Go.RowKit

def lowB (c : UInt8) : UInt8 := if 65 ≤ c.toNat ∧ c.toNat ≤ 90 then c + 32 else c
def lowS (l : List UInt8) : List UInt8 := l.map lowB
theorem lowB_up {c : UInt8} (h1 : 65 ≤ c.toNat) (h2 : c.toNat ≤ 90) : (lowB c).toNat = c.toNat + 32 := by
  unfold lowB; rw [if_pos ⟨h1, h2⟩, UInt8.toNat_add]; simp; omega
theorem lowB_not {c : UInt8} (h : ¬ (65 ≤ c.toNat ∧ c.toNat ≤ 90)) : lowB c = c := by unfold lowB; rw [if_neg h]
theorem lowS_take (s : ByteArray) (k : Nat) (h : k < s.size) : lowS (s.data.toList.take (k + 1)) = lowS (s.data.toList.take k) ++ [lowB s[k]] := by
  rw [take_snoc s k h]; simp [lowS]
theorem lowS_len (l : List UInt8) : (lowS l).length = l.length := by simp [lowS]
theorem conv_one (z : Int) (c : UInt8) (hz : z = (c.toNat : Int)) (W : World) :
    (convert 27 9 (.slice (some ⟨W.heap.size, 0, none⟩) 1 1)).run Tryz.prog (W.alloc (.cells #[.int .u8 z] 5)) = .ok (.string ⟨#[c]⟩) (W.alloc (.cells #[.int .u8 z] 5)) :=
  run_convert_bytes_back _ _ _ 5 ⟨W.heap.size, 0, none⟩ 1 [c] Tryz.underlying27 Tryz.underlying5 Tryz.underlying9 (fun j hj => by
    have : j = 0 := by simp at hj; omega
    subst this
    subst hz
    simp [Addr.add])
/-- The bytes after k rounds: those before k in lower case. -/
def lowTo (l : List UInt8) (k j : Nat) : Int := if j < k then ((lowB (l.getD j 0)).toNat : Int) else ((l.getD j 0).toNat : Int)
def LowC (s : ByteArray) (w : World) (i : Value) (wr : World) : Prop :=
  ∃ k : Nat, i = .int .i64 k ∧ k ≤ s.size ∧ (∀ j, j < s.size → wr.cell? ⟨w.heap.size, j, none⟩ = some (.int .u8 (lowTo s.data.toList k j)) ∧ wr.frozen? ⟨w.heap.size, j, none⟩ = false) ∧ Below w.heap.size w wr
theorem getD_list (s : ByteArray) (j : Nat) (h : j < s.size) : s.data.toList.getD j 0 = s[j] := by
  have h' : j < s.data.toList.length := by simpa using h
  rw [List.getD, List.getElem?_eq_getElem h']; rfl
theorem lowTo_at {s : ByteArray} {k : Nat} (h : k < s.size) : lowTo s.data.toList k k = (s[k].toNat : Int) := by
  unfold lowTo; rw [if_neg (by omega), getD_list s k h]
theorem row_at (s : ByteArray) (cap j : Nat) (h : j < s.size) : (bytesRow s cap)[j]? = some (.int .u8 (s[j].toNat : Int)) := by
  have h' : j < s.data.size := h
  unfold bytesRow
  rw [Array.getElem?_append_left (by simpa using h')]
  rw [Array.getElem?_map, Array.getElem?_eq_getElem h']; rfl
theorem LowC0 (s : ByteArray) (w : World) (cap : Nat) : LowC s w (.int .i64 0) (w.alloc (.cells (bytesRow s cap) 5 ((bytesRow s cap).size, (bytesRow s cap).size + 1))).drew := by
  refine ⟨0, rfl, Nat.zero_le _, fun j hj => ⟨?_, ?_⟩, ((Below.refl _ _).alloc (Nat.le_refl _) _).drew⟩
  · show (w.alloc _).cell? _ = _
    rw [World.cell?_alloc_mark, row_at s cap j hj]
    unfold lowTo; rw [if_neg (by omega), getD_list s j hj]
  · have hz : s.size ≤ (bytesRow s cap).size := by unfold bytesRow; simp
    have e : (w.alloc (.cells (bytesRow s cap) 5 ((bytesRow s cap).size, (bytesRow s cap).size + 1))).drew.heap[w.heap.size]? = some (.cells (bytesRow s cap) 5 ((bytesRow s cap).size, (bytesRow s cap).size + 1)) := by
      show (w.heap.push _)[w.heap.size]? = _
      simp
    unfold World.frozen?
    rw [e]
    simp
    omega
theorem LowC_up {s : ByteArray} {w wr : World} {k : Nat} (h : k < s.size) (h1 : 65 ≤ s[k].toNat) (h2 : s[k].toNat ≤ 90)
    (hc : ∀ j, j < s.size → wr.cell? ⟨w.heap.size, j, none⟩ = some (.int .u8 (lowTo s.data.toList k j)) ∧ wr.frozen? ⟨w.heap.size, j, none⟩ = false)
    (hk : wr.cell? ⟨w.heap.size, k, none⟩ = some (.int .u8 (s[k].toNat : Int))) :
    ∀ j, j < s.size → (wr.setCell ⟨w.heap.size, k, none⟩ (.int .u8 ((s[k].toNat : Int) - 65 + 97))).cell? ⟨w.heap.size, j, none⟩ = some (.int .u8 (lowTo s.data.toList (k + 1) j)) ∧
      (wr.setCell ⟨w.heap.size, k, none⟩ (.int .u8 ((s[k].toNat : Int) - 65 + 97))).frozen? ⟨w.heap.size, j, none⟩ = false := by
  intro j hj
  refine ⟨?_, (World.frozen?_setCell _ _ _ _).trans (hc j hj).2⟩
  by_cases e : j = k
  · subst e
    rw [World.cell?_setCell_same _ _ _ hk]
    unfold lowTo
    rw [if_pos (by omega), getD_list s j hj, lowB_up h1 h2]
    congr 2; omega
  · rw [World.cell?_setCell_other _ _ _ _ (by first | (simp; done) | (simp; exact fun h => e h.symm)), (hc j hj).1]
    unfold lowTo
    by_cases hjk : j < k
    · rw [if_pos hjk, if_pos (by omega)]
    · rw [if_neg hjk, if_neg (by omega)]
theorem LowC_not {s : ByteArray} {w wr : World} {k : Nat} (h : k < s.size) (hn : ¬ (65 ≤ s[k].toNat ∧ s[k].toNat ≤ 90))
    (hc : ∀ j, j < s.size → wr.cell? ⟨w.heap.size, j, none⟩ = some (.int .u8 (lowTo s.data.toList k j)) ∧ wr.frozen? ⟨w.heap.size, j, none⟩ = false) :
    ∀ j, j < s.size → wr.cell? ⟨w.heap.size, j, none⟩ = some (.int .u8 (lowTo s.data.toList (k + 1) j)) ∧ wr.frozen? ⟨w.heap.size, j, none⟩ = false := by
  intro j hj
  refine ⟨?_, (hc j hj).2⟩
  rw [(hc j hj).1]
  unfold lowTo
  by_cases hjk : j < k
  · rw [if_pos hjk, if_pos (by omega)]
  · rw [if_neg hjk]
    by_cases e : j = k
    · subst e; rw [if_pos (by omega), getD_list s j hj, lowB_not hn]
    · rw [if_neg (by omega)]
theorem low_conv (s : ByteArray) (w wr : World) (cap : Nat)
    (hc : ∀ j, j < s.size → wr.cell? ⟨w.heap.size, j, none⟩ = some (.int .u8 (lowTo s.data.toList s.size j)) ∧ wr.frozen? ⟨w.heap.size, j, none⟩ = false) :
    (convert 27 9 (.slice (some ⟨w.heap.size, 0, none⟩) s.size cap)).run Tryz.prog wr = .ok (.string (strB (lowS s.data.toList))) wr := by
  have hl : (lowS s.data.toList).length = s.size := by rw [lowS_len]; simp
  have := run_convert_bytes_back wr 27 9 5 ⟨w.heap.size, 0, none⟩ cap (lowS s.data.toList) Tryz.underlying27 Tryz.underlying5 Tryz.underlying9 (fun j hj => by
    rw [Addr.add_lit, Nat.zero_add, (hc j (by omega)).1]
    unfold lowTo
    rw [if_pos (by omega)]
    have hj' : j < s.data.toList.length := by rw [lowS_len] at hj; exact hj
    rw [List.getD, List.getElem?_eq_getElem hj']
    simp [lowS])
  rw [hl] at this
  exact this
set_option maxHeartbeats 2000000 in
set_option maxRecDepth 100000 in
theorem lower_any (s : ByteArray) (w : World) (hs : s.size ≤ 1000000000) :
    Calls Tryz.prog 45 #[.string s] w fun e w' => e = .returned (.string (strB (lowS s.data.toList))) ∧ Below w.heap.size w w' := by
  have hcb := fun W : World => run_bytes_of_string (P := Tryz.prog) W 9 27 5 s Tryz.underlying9 Tryz.underlying27 Tryz.underlying5
  go_enter Tryz.func45, Tryz.ntmps45
  go_wp2
  have HCB := Lib.hid hcb
  clear hcb
  go_loopw [10] (fun i wr => LowC s w i wr) (fun i _ => s.size - (intOf i).toNat)
  case atStart => exact LowC0 s w _
  case round =>
    obtain ⟨k, rfl, hk, hc, hB⟩ := hrel
    have HC := Lib.hid hc
    clear hc
    have hsz := hB.size
    by_cases hlt : k < s.size
    · have hcell : wr.cell? ⟨w.heap.size, k, none⟩ = some (.int .u8 (s[k].toNat : Int)) := by rw [(HC.out k hlt).1, lowTo_at hlt]
      have hfz := (HC.out k hlt).2
      by_cases h1 : 65 ≤ s[k].toNat
      · by_cases h2 : s[k].toNat ≤ 90
        · go_wp2
          go_roundw
          case rel => exact ⟨k + 1, by go_num, by omega, LowC_up hlt h1 h2 HC.out hcell, hB.setCell (p := ⟨w.heap.size, k, none⟩) (Nat.le_refl _) _⟩
          case measure => simp [intOf]; omega
        · go_wp2
          go_roundw
          case rel => exact ⟨k + 1, by go_num, by omega, LowC_not hlt (by omega) HC.out, hB⟩
          case measure => simp [intOf]; omega
      · go_wp2
        go_roundw
        case rel => exact ⟨k + 1, by go_num, by omega, LowC_not hlt (by omega) HC.out, hB⟩
        case measure => simp [intOf]; omega
    · obtain rfl : k = s.size := by omega
      have hcv := low_conv s w wr (grownCap w s.size 0 5) HC.out
      go_wp2
      go_ret
      exact ⟨rfl, hB⟩
end Go.Proofs.YtgbcpheccaldlaaGreatDoor

/- Slices of two-string structs in memory: those that a call makes, and those that it reads. -/
namespace Go.Proofs.YtgbcpheccaldlaaGreatDoor
open Go.RowKit

def flatP (ps : List (List UInt8 × List UInt8)) : List Value := ps.flatMap fun p => [strV p.1, strV p.2]
theorem flatP_len (ps : List (List UInt8 × List UInt8)) : (flatP ps).length = ps.length * 2 := by
  induction ps with
  | nil => rfl
  | cons p r ih =>
    have e : flatP (p :: r) = strV p.1 :: strV p.2 :: flatP r := rfl
    rw [e, List.length_cons, List.length_cons, ih, List.length_cons]; omega
/-- The value v is a slice of the call's own, of parameters of type T, that holds ps. -/
def OwnsP (T : TypeId) (B : Nat) (w : World) (v : Value) (ps : List (List UInt8 × List UInt8)) : Prop := w.ownsRow B T 2 v ps.length (flatP ps)
theorem OwnsP.nil (T : TypeId) (B : Nat) (w : World) : OwnsP T B w (.slice none 0 0) [] := World.ownsRow_nil _ _ _ _
theorem OwnsP.below {T : TypeId} {B : Nat} {w w' : World} {v : Value} {ps : List (List UInt8 × List UInt8)} (h : OwnsP T B w v ps) (hb : Below w.heap.size w w') : OwnsP T B w' v ps :=
  World.ownsRow.kept h (grown_of_below hb none) (by cases hv : v.ownBlock <;> simp)
theorem OwnsP.mono {T : TypeId} {B C : Nat} {w : World} {v : Value} {ps : List (List UInt8 × List UInt8)} (hBC : B ≤ C) (h : OwnsP T C w v ps) : OwnsP T B w v ps := by
  rcases h with ⟨hl, hv | ⟨g, cap, cur, hv, hb, hg, hn, hm, hs, ht⟩⟩
  · exact ⟨hl, .inl hv⟩
  · exact ⟨hl, .inr ⟨g, cap, cur, hv, Nat.le_trans hBC hb, hg, hn, hm, hs, ht⟩⟩
theorem OwnsP.snoc {T : TypeId} {B : Nat} {w : World} {v : Value} {ps : List (List UInt8 × List UInt8)} {p : List UInt8 × List UInt8} (h : w.ownsRow B T 2 v (ps.length + 1) (flatP ps ++ [strV p.1, strV p.2])) : OwnsP T B w v (ps ++ [p]) := by
  unfold OwnsP
  have e : flatP (ps ++ [p]) = flatP ps ++ [strV p.1, strV p.2] := by simp [flatP]
  rw [e, List.length_append]; exact h
theorem below_appendP {T : TypeId} {B : Nat} {a w w1 w2 : World} {v : Value} {ps : List (List UInt8 × List UInt8)} {o : Obj} (hB : Below B a w) (hBs : B ≤ w.heap.size) (hb1 : Below w.heap.size w w1) (hown : OwnsP T B w v ps)
    (hgrow : (w1.alloc o).grownBy w2 v.ownBlock) : Below B a w2 :=
  ((hB.trans (hb1.mono hBs)).alloc (by have := hb1.size; omega) o).grown hgrow (by have := hb1.size; simp; omega) (fun q hq => (World.ownsRow.lt hown q hq).1)
theorem flatP_at : ∀ (ps : List (List UInt8 × List UInt8)) (j : Nat) (p : List UInt8 × List UInt8), ps[j]? = some p → (flatP ps)[j * 2]? = some (strV p.1) ∧ (flatP ps)[j * 2 + 1]? = some (strV p.2) := by
  intro ps
  induction ps with
  | nil => intro j p h; simp at h
  | cons q r ih =>
    intro j p h
    cases j with
    | zero => simp at h; subst h; exact ⟨rfl, rfl⟩
    | succ j =>
      have := ih j p (by simpa using h)
      have e : flatP (q :: r) = strV q.1 :: strV q.2 :: flatP r := rfl
      rw [e, show (j + 1) * 2 = j * 2 + 1 + 1 by omega]
      exact ⟨by simpa using this.1, by simpa using this.2⟩
/-- The value v is a slice of parameters that reads as ps in the world w. -/
def ReadsP (w : World) (v : Value) (ps : List (List UInt8 × List UInt8)) : Prop :=
  ∃ ao cap, v = .slice ao ps.length cap ∧ ∀ j p, ps[j]? = some p → ∃ g, ao = some ⟨g, 0, none⟩ ∧ g < w.heap.size ∧ w.cell? ⟨g, j * 2, none⟩ = some (.string (strB p.1)) ∧ w.cell? ⟨g, j * 2 + 1, none⟩ = some (.string (strB p.2))
theorem OwnsP.reads {T : TypeId} {B : Nat} {w : World} {v : Value} {ps : List (List UInt8 × List UInt8)} (h : OwnsP T B w v ps) : ReadsP w v ps := by
  have h0 := h
  rcases h with ⟨hl, ⟨hv, hn⟩ | ⟨g, cap, cur, hv, hb, hg, hn, hm, hs, ht⟩⟩
  · have : ps = [] := List.eq_nil_of_length_eq_zero hn
    subst this
    exact ⟨none, 0, hv, fun j p h => by simp at h⟩
  · refine ⟨_, cap, hv, fun j p hj => ⟨g, rfl, ?_, ?_, ?_⟩⟩
    · exact (World.ownsRow.lt h0 g (by rw [hv]; rfl)).2
    all_goals
      subst hv
      have hj' : j < ps.length := (List.getElem?_eq_some_iff.mp hj).1
      have hf := flatP_at ps j p hj
    · rw [World.ownsRow.cellAt h0 (j * 2) (by omega), hf.1]
    · rw [World.ownsRow.cellAt h0 (j * 2 + 1) (by omega), hf.2]
theorem ReadsP.below {w w' : World} {v : Value} {ps : List (List UInt8 × List UInt8)} (h : ReadsP w v ps) (hb : Below w.heap.size w w') : ReadsP w' v ps := by
  obtain ⟨ao, cap, rfl, hc⟩ := h
  refine ⟨ao, cap, rfl, fun j p hj => ?_⟩
  obtain ⟨g, h1, h2, h3, h4⟩ := hc j p hj
  exact ⟨g, h1, Nat.lt_of_lt_of_le h2 hb.size, (hb.cell (p := ⟨g, j * 2, none⟩) h2).trans h3, (hb.cell (p := ⟨g, j * 2 + 1, none⟩) h2).trans h4⟩
/-- The value v, an argument, is a slice of parameters that reads as ps in the world w. -/
def ReadsQ (w : World) (v : Value) (ps : List (List UInt8 × List UInt8)) : Prop :=
  ∃ ao cap, v = .slice ao ps.length cap ∧ ∀ j p, ps[j]? = some p → ∃ g off, ao = some ⟨g, off, none⟩ ∧ g < w.heap.size ∧ w.cell? ⟨g, off + j * 2, none⟩ = some (.string (strB p.1)) ∧ w.cell? ⟨g, off + j * 2 + 1, none⟩ = some (.string (strB p.2))
theorem ReadsQ.below {w w' : World} {v : Value} {ps : List (List UInt8 × List UInt8)} (h : ReadsQ w v ps) (hb : Below w.heap.size w w') : ReadsQ w' v ps := by
  obtain ⟨ao, cap, rfl, hc⟩ := h
  refine ⟨ao, cap, rfl, fun j p hj => ?_⟩
  obtain ⟨g, off, h1, h2, h3, h4⟩ := hc j p hj
  exact ⟨g, off, h1, Nat.lt_of_lt_of_le h2 hb.size, (hb.cell (p := ⟨g, off + j * 2, none⟩) h2).trans h3, (hb.cell (p := ⟨g, off + j * 2 + 1, none⟩) h2).trans h4⟩
end Go.Proofs.YtgbcpheccaldlaaGreatDoor

/- Plain mathematics: lists of fields (names and values as lists of bytes), the values of a name, and lists with a name set, added, removed; nothing of the program. -/
namespace Go.Proofs.YtgbcpheccaldlaaGreatDoor
open Go.RowKit

abbrev Flds := List (List UInt8 × List UInt8)
theorem lowB_low (c : UInt8) : lowB (lowB c) = lowB c := by
  by_cases h : 65 ≤ c.toNat ∧ c.toNat ≤ 90
  · have e := lowB_up h.1 h.2
    exact lowB_not (by omega)
  · rw [lowB_not h, lowB_not h]
theorem lowS_low (l : List UInt8) : lowS (lowS l) = lowS l := by
  unfold lowS
  rw [List.map_map]
  exact List.map_congr_left fun c _ => lowB_low c
/-- A field is one of a name. -/
def ofN (n : List UInt8) (p : List UInt8 × List UInt8) : Bool := decide (lowS p.1 = lowS n)
theorem ofN_low (n : List UInt8) (p : List UInt8 × List UInt8) : ofN (lowS n) p = ofN n p := by unfold ofN; rw [lowS_low]
def allL (ps : Flds) (n : List UInt8) : List (List UInt8) := (ps.filter (ofN n)).map (·.2)
def remL (ps : Flds) (n : List UInt8) : Flds := ps.filter fun p => !ofN n p
def addL (ps : Flds) (n v : List UInt8) : Flds := ps ++ [(lowS n, v)]
def setL : Flds → List UInt8 → List UInt8 → Flds
  | [], n, v => [(lowS n, v)]
  | p :: r, n, v => if ofN n p = true then (lowS n, v) :: remL r n else p :: setL r n v
def sizL (ps : Flds) : Nat := ps.foldr (fun p n => p.1.length + p.2.length + 4 + n) 0
/-- The texts of a list, with a comma and a blank between them. -/
def getL : List (List UInt8) → List UInt8
  | [] => []
  | [t] => t
  | t :: r => t ++ 44 :: 32 :: getL r

theorem take_more {α : Type} {ps : List α} {k : Nat} {p : α} (h : ps[k]? = some p) : ps.take (k + 1) = ps.take k ++ [p] := by
  rw [List.take_add_one, h]; rfl
theorem all_yes {ps : Flds} {n : List UInt8} {k : Nat} {p : List UInt8 × List UInt8} (h : ps[k]? = some p) (ho : ofN n p = true) : allL (ps.take (k + 1)) n = allL (ps.take k) n ++ [p.2] := by
  unfold allL; rw [take_more h, List.filter_append, List.map_append]; simp [ho]
theorem all_no {ps : Flds} {n : List UInt8} {k : Nat} {p : List UInt8 × List UInt8} (h : ps[k]? = some p) (ho : ofN n p = false) : allL (ps.take (k + 1)) n = allL (ps.take k) n := by
  unfold allL; rw [take_more h, List.filter_append, List.map_append]; simp [ho]
theorem all_le (ps : Flds) (n : List UInt8) (k : Nat) : (allL (ps.take k) n).length ≤ k := by
  unfold allL; rw [List.length_map]
  exact Nat.le_trans (List.length_filter_le _ _) (List.length_take_le _ _)
theorem all_len (ps : Flds) (n : List UInt8) : (allL ps n).length ≤ ps.length := by
  unfold allL; rw [List.length_map]; exact List.length_filter_le _ _
theorem rem_yes {ps : Flds} {n : List UInt8} {k : Nat} {p : List UInt8 × List UInt8} (h : ps[k]? = some p) (ho : ofN n p = true) : remL (ps.take (k + 1)) n = remL (ps.take k) n := by
  unfold remL; rw [take_more h, List.filter_append]; simp [ho]
theorem rem_no {ps : Flds} {n : List UInt8} {k : Nat} {p : List UInt8 × List UInt8} (h : ps[k]? = some p) (ho : ofN n p = false) : remL (ps.take (k + 1)) n = remL (ps.take k) n ++ [p] := by
  unfold remL; rw [take_more h, List.filter_append]; simp [ho]
theorem rem_le (ps : Flds) (n : List UInt8) (k : Nat) : (remL (ps.take k) n).length ≤ k :=
  Nat.le_trans (List.length_filter_le _ _) (List.length_take_le _ _)
theorem rem_len (ps : Flds) (n : List UInt8) : (remL ps n).length ≤ ps.length := List.length_filter_le _ _
theorem any_more {ps : Flds} {n : List UInt8} {k : Nat} {p : List UInt8 × List UInt8} (h : ps[k]? = some p) : (ps.take (k + 1)).any (ofN n) = ((ps.take k).any (ofN n) || ofN n p) := by
  rw [take_more h, List.any_append]; simp

theorem set_none {ps : Flds} {n v : List UInt8} (h : ps.any (ofN n) = false) : setL ps n v = ps ++ [(lowS n, v)] := by
  induction ps with
  | nil => rfl
  | cons p r ih =>
    simp only [List.any_cons, Bool.or_eq_false_iff] at h
    rw [setL, if_neg (by rw [h.1]; simp), ih h.2]; rfl
theorem set_app {ps : Flds} {n v : List UInt8} (h : ps.any (ofN n) = true) (qs : Flds) : setL (ps ++ qs) n v = setL ps n v ++ remL qs n := by
  induction ps with
  | nil => simp at h
  | cons p r ih =>
    rw [List.cons_append, setL, setL]
    cases hp : ofN n p with
    | true =>
      rw [if_pos rfl, if_pos rfl]
      unfold remL
      rw [List.filter_append]; rfl
    | false =>
      rw [if_neg (by simp), if_neg (by simp)]
      simp only [List.any_cons, hp, Bool.false_or] at h
      rw [ih h]; rfl
/-- What a list with a name set is after k of its fields: the fields so far, until one is of the name. -/
def setK (ps : Flds) (n v : List UInt8) (k : Nat) : Flds := if (ps.take k).any (ofN n) = true then setL (ps.take k) n v else ps.take k
theorem setK0 (ps : Flds) (n v : List UInt8) : setK ps n v 0 = [] := by simp [setK]
theorem setK_other {ps : Flds} {n v : List UInt8} {k : Nat} {p : List UInt8 × List UInt8} (h : ps[k]? = some p) (ho : ofN n p = false) : setK ps n v (k + 1) = setK ps n v k ++ [p] := by
  unfold setK
  rw [any_more h, ho, Bool.or_false]
  cases ha : (ps.take k).any (ofN n) with
  | true =>
    rw [if_pos rfl, if_pos rfl, take_more h, set_app ha]
    unfold remL; simp [ho]
  | false =>
    rw [if_neg (by simp), if_neg (by simp), take_more h]
theorem setK_first {ps : Flds} {n v : List UInt8} {k : Nat} {p : List UInt8 × List UInt8} (h : ps[k]? = some p) (ho : ofN n p = true) (hf : (ps.take k).any (ofN n) = false) : setK ps n v (k + 1) = setK ps n v k ++ [(lowS n, v)] := by
  unfold setK
  rw [any_more h, ho, Bool.or_true, if_pos rfl, hf, if_neg (by simp), take_more h]
  have : ∀ (l : Flds), l.any (ofN n) = false → setL (l ++ [p]) n v = l ++ [(lowS n, v)] := by
    intro l
    induction l with
    | nil => intro _; rw [List.nil_append, setL, if_pos ho]; rfl
    | cons q r ih =>
      intro hl
      simp only [List.any_cons, Bool.or_eq_false_iff] at hl
      rw [List.cons_append, setL, if_neg (by rw [hl.1]; simp), ih hl.2]; rfl
  exact this _ hf
theorem setK_again {ps : Flds} {n v : List UInt8} {k : Nat} {p : List UInt8 × List UInt8} (h : ps[k]? = some p) (ho : ofN n p = true) (hf : (ps.take k).any (ofN n) = true) : setK ps n v (k + 1) = setK ps n v k := by
  unfold setK
  rw [any_more h, hf, Bool.true_or, if_pos rfl, if_pos rfl, take_more h, set_app hf]
  unfold remL; simp [ho]
theorem set_len (ps : Flds) (n v : List UInt8) : (setL ps n v).length ≤ ps.length + 1 := by
  induction ps with
  | nil => simp [setL]
  | cons p r ih =>
    rw [setL]
    split
    · have := rem_len r n; simp; omega
    · simp; omega
theorem setK_len (ps : Flds) (n v : List UInt8) (k : Nat) : (setK ps n v k).length ≤ k + 1 := by
  unfold setK
  have h : (ps.take k).length ≤ k := List.length_take_le _ _
  split
  · have := set_len (ps.take k) n v; omega
  · omega
theorem setK_end {ps : Flds} {n v : List UInt8} {k : Nat} (hk : ps.length ≤ k) (hf : (ps.take k).any (ofN n) = true) : setK ps n v k = setL ps n v := by
  unfold setK; rw [if_pos hf, List.take_of_length_le hk]
theorem setK_end' {ps : Flds} {n v : List UInt8} {k : Nat} (hk : ps.length ≤ k) (hf : (ps.take k).any (ofN n) = false) : setK ps n v k ++ [(lowS n, v)] = setL ps n v := by
  unfold setK
  rw [hf, if_neg (by simp)]
  rw [List.take_of_length_le hk] at hf ⊢
  exact (set_none hf).symm
/-- The reference's way: what stands before the first field of the name, the new field, the others of the rest. -/
theorem set_at {ps : Flds} {n v : List UInt8} {k : Nat} {p : List UInt8 × List UInt8} (h : ps[k]? = some p) (ho : ofN n p = true) (hf : (ps.take k).any (ofN n) = false) :
    setL ps n v = addL (ps.take k) n v ++ remL (ps.drop (k + 1)) n := by
  have e := setK_first (v := v) h ho hf
  have hd : ps = ps.take (k + 1) ++ ps.drop (k + 1) := (List.take_append_drop _ _).symm
  have ha : (ps.take (k + 1)).any (ofN n) = true := by rw [any_more h, ho, Bool.or_true]
  have e1 : setL ps n v = setL (ps.take (k + 1)) n v ++ remL (ps.drop (k + 1)) n := by
    conv => lhs; rw [hd]
    exact set_app ha _
  rw [e1]
  have e2 : setK ps n v (k + 1) = setL (ps.take (k + 1)) n v := by unfold setK; rw [if_pos ha]
  have e3 : setK ps n v k = ps.take k := by unfold setK; rw [hf, if_neg (by simp)]
  rw [← e2, e, e3]; rfl

theorem all_app (ps qs : Flds) (n : List UInt8) : allL (ps ++ qs) n = allL ps n ++ allL qs n := by unfold allL; rw [List.filter_append, List.map_append]
theorem all_rem_same {ps : Flds} {n m : List UInt8} (h : lowS n = lowS m) : allL (remL ps n) m = [] := by
  unfold allL remL
  rw [List.filter_filter]
  have : (ps.filter fun p => ofN m p && !ofN n p) = [] := by
    rw [List.filter_eq_nil_iff]
    intro p _
    unfold ofN; rw [h]; simp
  rw [this]; rfl
theorem all_rem_other {ps : Flds} {n m : List UInt8} (h : lowS n ≠ lowS m) : allL (remL ps n) m = allL ps m := by
  unfold allL remL
  rw [List.filter_filter]
  congr 1
  refine List.filter_congr fun p _ => ?_
  unfold ofN
  by_cases hp : lowS p.1 = lowS m
  · simp only [hp, decide_true, Bool.true_and]
    rw [decide_eq_false (fun e => h e.symm)]; rfl
  · simp [hp]
theorem ofN_new_same {n m v : List UInt8} (h : lowS n = lowS m) : ofN m (lowS n, v) = true := by unfold ofN; rw [lowS_low, h]; simp
theorem ofN_new_other {n m v : List UInt8} (h : lowS n ≠ lowS m) : ofN m (lowS n, v) = false := by unfold ofN; rw [lowS_low]; simp [h]
theorem all_add_same {ps : Flds} {n m v : List UInt8} (h : lowS n = lowS m) : allL (addL ps n v) m = allL ps m ++ [v] := by
  unfold addL; rw [all_app]; congr 1; unfold allL; simp [ofN_new_same h]
theorem all_add_other {ps : Flds} {n m v : List UInt8} (h : lowS n ≠ lowS m) : allL (addL ps n v) m = allL ps m := by
  unfold addL; rw [all_app]; unfold allL; simp [ofN_new_other h]
theorem all_set_same {ps : Flds} {n m v : List UInt8} (h : lowS n = lowS m) : allL (setL ps n v) m = [v] := by
  induction ps with
  | nil => unfold setL allL; simp [ofN_new_same h]
  | cons p r ih =>
    rw [setL]
    split
    · have e : (lowS n, v) :: remL r n = [(lowS n, v)] ++ remL r n := rfl
      rw [e, all_app, all_rem_same h]; unfold allL; simp [ofN_new_same h]
    · rename_i hp
      have e : p :: setL r n v = [p] ++ setL r n v := rfl
      have hp' : ofN m p = false := by unfold ofN at hp ⊢; rw [← h]; simpa using hp
      rw [e, all_app, ih]; unfold allL; simp [hp']
theorem all_set_other {ps : Flds} {n m v : List UInt8} (h : lowS n ≠ lowS m) : allL (setL ps n v) m = allL ps m := by
  induction ps with
  | nil => unfold setL allL; simp [ofN_new_other h]
  | cons p r ih =>
    have e0 : p :: r = [p] ++ r := rfl
    rw [setL]
    split
    · rename_i hp
      have e : (lowS n, v) :: remL r n = [(lowS n, v)] ++ remL r n := rfl
      have hp' : ofN m p = false := by
        unfold ofN at hp ⊢
        have := of_decide_eq_true hp
        rw [this]; simp [h]
      rw [e, all_app, all_rem_other h, e0, all_app]; unfold allL; simp [ofN_new_other h, hp']
    · have e : p :: setL r n v = [p] ++ setL r n v := rfl
      rw [e, all_app, ih, e0, all_app]
theorem all_congr {ps : Flds} {n m : List UInt8} (h : lowS n = lowS m) : allL ps n = allL ps m := by
  unfold allL ofN; rw [h]
theorem siz_app (ps qs : Flds) : sizL (ps ++ qs) = sizL ps + sizL qs := by
  induction ps with
  | nil => simp [sizL]
  | cons p r ih => unfold sizL at *; rw [List.cons_append, List.foldr_cons, List.foldr_cons, ih]; omega
theorem siz_more {ps : Flds} {k : Nat} {p : List UInt8 × List UInt8} (h : ps[k]? = some p) : sizL (ps.take (k + 1)) = sizL (ps.take k) + (p.1.length + p.2.length + 4) := by
  rw [take_more h, siz_app]; simp [sizL]
theorem getL_cons (t : List UInt8) (r : List (List UInt8)) (h : r ≠ []) : getL (t :: r) = t ++ 44 :: 32 :: getL r := by
  cases r with
  | nil => exact absurd rfl h
  | cons a b => rfl
theorem getL_snoc (ls : List (List UInt8)) (t : List UInt8) (h : ls ≠ []) : getL (ls ++ [t]) = getL ls ++ 44 :: 32 :: t := by
  induction ls with
  | nil => exact absurd rfl h
  | cons a r ih =>
    cases r with
    | nil => rfl
    | cons b c =>
      rw [List.cons_append, getL_cons a _ (by simp), ih (by simp), getL_cons a (b :: c) (by simp)]
      simp
end Go.Proofs.YtgbcpheccaldlaaGreatDoor
