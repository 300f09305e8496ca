import Derived.Test.YtfmgfcddnnggeaaGreatDoorProg
import Derived.WalkKit
import Derived.WalkSpells
import Derived.WalkLawsBesides
import Derived.Lib.Hide
import Derived.Lib.SlTrimSet
import Derived.OwnWalk
import Derived.Below
import Derived.Maps.AppendAt
import Derived.Lib.Builder
/- What all texts of a seat share: strings as lists of bytes, slices of strings that a call makes or reads, worlds that leave old blocks as they were. -/
namespace Go.Proofs.YtfmgfcddnnggeaaGreatDoor
open Go.RowKit

theorem ret_bool {a b : Bool} (h : a = b) : Ending.returned (.bool a) = .returned (.bool b) := by rw [h]

theorem take_snoc (s : ByteArray) (k : Nat) (h : k < s.size) : s.data.toList.take (k + 1) = s.data.toList.take k ++ [s[k]] := by
  rw [List.take_succ_eq_append_getElem (by simpa using h)]; rfl
theorem get_mem (s : ByteArray) (k : Nat) (h : k < s.size) : s[k] ∈ s.data.toList := by
  have : s[k] = s.data.toList[k]'(by simpa using h) := rfl
  rw [this]; exact List.getElem_mem _
theorem take_all (s : ByteArray) (k : Nat) (h : s.size ≤ k) : s.data.toList.take k = s.data.toList := List.take_of_length_le (by simpa using h)
theorem Tryz.infoS : (Tryz.prog.info? 9).map (fun i => (i.zero, i.size, i.bytes)) = some (some (.string ByteArray.empty), 1, 16) := by kernel_rfl

def strB (l : List UInt8) : ByteArray := ⟨l.toArray⟩
abbrev strV (l : List UInt8) : Value := .string (strB l)
/-- The value v is a slice of the call's own (its cells lie in blocks from B on) that holds these strings. -/
def OwnsS (B : Nat) (w : World) (v : Value) (ls : List (List UInt8)) : Prop :=
  w.ownsRow B 9 1 v ls.length (ls.map strV)

theorem seg_list (s : ByteArray) (x k : Nat) : (s.extract x k).data.toList = (s.data.toList.drop x).take (k - x) := by
  exact Lib.extract_data s x k
theorem below_drewN {B : Nat} {a w : World} (h : Below B a w) (n : Nat) : Below B a (w.drewN n) := ⟨h.os, h.tape, h.output, h.size, h.block⟩
theorem grown_of_below {a w : World} (h : Below a.heap.size a w) (row : Option Nat) : a.grownBy w row := ⟨h.os, h.tape, h.output, h.size, fun i hi _ => h.block i hi⟩
theorem OwnsS.below {B : Nat} {w w' : World} {v : Value} {ls : List (List UInt8)} (h : OwnsS B w v ls) (hb : Below w.heap.size w w') : OwnsS B w' v ls :=
  World.ownsRow.kept h (grown_of_below hb none) (by cases hv : v.ownBlock <;> simp)

theorem OwnsS.snoc {B : Nat} {w : World} {v : Value} {ls : List (List UInt8)} {l : List UInt8} (h : w.ownsRow B 9 1 v (ls.length + 1) (ls.map strV ++ [strV l])) : OwnsS B w v (ls ++ [l]) := by
  unfold OwnsS; rw [List.length_append, List.map_append]; exact h
theorem below_append {B : Nat} {a w w1 w2 : World} {v : Value} {ls : List (List UInt8)} {o : Obj} (hB : Below B a w) (hBs : B ≤ w.heap.size) (hb1 : Below w.heap.size w w1) (hown : OwnsS B w v ls)
    (hgrow : (w1.alloc o).grownBy w2 v.ownBlock) : Below B a w2 :=
  ((hB.trans (hb1.mono hBs)).alloc (by have := hb1.size; omega) o).grown hgrow (by have := hb1.size; simp; omega) (fun q hq => (World.ownsRow.lt hown q hq).1)

theorem below_new (w : World) (o : Obj) : Below w.heap.size w (w.alloc o) := (Below.refl _ _).alloc (Nat.le_refl _) o
theorem nat_of_u8 {a b : UInt8} (h : a.toNat = b.toNat) : a = b := UInt8.toNat_inj.mp h

theorem strB_size (l : List UInt8) : (strB l).size = l.length := by show l.toArray.size = _; simp
theorem strB_list (l : List UInt8) : (strB l).data.toList = l := by simp [strB]
theorem strB_of (s : ByteArray) : strB s.data.toList = s := by apply ByteArray.ext; simp [strB]
theorem strB_ext {s : ByteArray} {l : List UInt8} (h : s.data.toList = l) : s = strB l := by rw [← h, strB_of]
theorem strB_snoc (l : List UInt8) (c : UInt8) : strB l ++ ⟨#[c]⟩ = strB (l ++ [c]) := by apply ByteArray.ext; simp [strB]
theorem strB_app (l : List UInt8) (s : ByteArray) : strB l ++ s = strB (l ++ s.data.toList) := by apply ByteArray.ext; simp [strB]
theorem one_byte (s : ByteArray) (k : Nat) (h : k < s.size) : (s.extract k (k + 1)).data.toList = [s[k]] := by
  rw [seg_list, show k + 1 - k = 1 by omega, List.drop_eq_getElem_cons (by simpa using h)]; rfl
/-- A slice of the call's own, opened: nil and empty, or a block with its cells. -/
theorem OwnsS.open' {B : Nat} {w : World} {v : Value} {ls : List (List UInt8)} (h : OwnsS B w v ls) :
    (v = .slice none 0 0 ∧ ls = []) ∨ ∃ g cap, v = .slice (some ⟨g, 0, none⟩) ls.length cap ∧ B ≤ g ∧ g < w.heap.size ∧ (∀ j l, ls[j]? = some l → w.cell? ⟨g, j, none⟩ = some (.string (strB l))) := by
  have h0 := h
  rcases h with ⟨hl, ⟨hv, hn⟩ | ⟨g, cap, cur, hv, hb, hg, hn, hm, hs, ht⟩⟩
  · exact .inl ⟨hv, List.eq_nil_of_length_eq_zero hn⟩
  · refine .inr ⟨g, cap, hv, hb, ?_, ?_⟩
    · have := World.ownsRow.lt h0 g (by rw [hv]; rfl)
      exact this.2
    · intro j l hj
      subst hv
      have hj' : j < ls.length := (List.getElem?_eq_some_iff.mp hj).1
      have := World.ownsRow.cellAt h0 j (by omega)
      rw [this, List.getElem?_map, hj]; rfl

theorem OwnsS.mono {B C : Nat} {w : World} {v : Value} {ls : List (List UInt8)} (hBC : B ≤ C) (h : OwnsS C w v ls) : OwnsS B w v ls := by
  rcases h with ⟨hl, hv | ⟨g, cap, cur, hv, hb, hg, hn, hm, hs, ht⟩⟩
  · exact ⟨hl, .inl hv⟩
  · exact ⟨hl, .inr ⟨g, cap, cur, hv, Nat.le_trans hBC hb, hg, hn, hm, hs, ht⟩⟩
theorem empty_yes {l : List UInt8} (h : l = []) : (strB l).toList.isEmpty = true := by subst h; rw [ByteArray.toList_eq]; rfl
theorem empty_no {l : List UInt8} (h : l ≠ []) : (strB l).toList.isEmpty = false := by
  rw [ByteArray.toList_eq]
  cases l with
  | nil => exact absurd rfl h
  | cons a t => rfl

/-- The value v is a slice of strings that reads as ls in the world w. -/
def ReadsS (w : World) (v : Value) (ls : List (List UInt8)) : Prop :=
  ∃ ao cap, v = .slice ao ls.length cap ∧ ∀ j l, ls[j]? = some l → ∃ g off, ao = some ⟨g, off, none⟩ ∧ g < w.heap.size ∧ w.cell? ⟨g, off + j, none⟩ = some (.string (strB l))
theorem OwnsS.reads {B : Nat} {w : World} {v : Value} {ls : List (List UInt8)} (h : OwnsS B w v ls) : ReadsS w v ls := by
  rcases h.open' with ⟨rfl, rfl⟩ | ⟨g, cap, rfl, _, hg, hc⟩
  · exact ⟨none, 0, rfl, fun j l h => by simp at h⟩
  · exact ⟨_, cap, rfl, fun j l hj => ⟨g, 0, rfl, hg, by rw [Nat.zero_add]; exact hc j l hj⟩⟩
theorem ReadsS.below {w w' : World} {v : Value} {ls : List (List UInt8)} (h : ReadsS w v ls) (hb : Below w.heap.size w w') : ReadsS w' v ls := by
  obtain ⟨ao, cap, rfl, hc⟩ := h
  refine ⟨ao, cap, rfl, fun j l hj => ?_⟩
  obtain ⟨g, off, h1, h2, h3⟩ := hc j l hj
  exact ⟨g, off, h1, Nat.lt_of_lt_of_le h2 hb.size, (hb.cell (p := ⟨g, off + j, none⟩) h2).trans h3⟩
theorem strB_inj {a b : List UInt8} (h : strB a = strB b) : a = b := by
  have := congrArg (fun s : ByteArray => s.data.toList) h
  simpa [strB] using this

end Go.Proofs.YtfmgfcddnnggeaaGreatDoor

/- Worlds in which only the blocks of a set have changed. -/
namespace Go.Proofs.YtfmgfcddnnggeaaGreatDoor
open Go.RowKit

/-- Of what was there in w only the blocks of X may have changed in w'. -/
structure Only (X : Nat → Prop) (w w' : World) : Prop where
  os : w'.os = w.os
  tape : w'.tape = w.tape
  output : w'.output = w.output
  size : w.heap.size ≤ w'.heap.size
  block : ∀ k, k < w.heap.size → ¬ X k → w'.heap[k]? = w.heap[k]?
theorem Only.refl (X : Nat → Prop) (w : World) : Only X w w := ⟨rfl, rfl, rfl, Nat.le_refl _, fun _ _ _ => rfl⟩
theorem Only.trans {X Y : Nat → Prop} {a b c : World} (h : Only X a b) (k : Only Y b c) (hY : ∀ i, Y i → X i ∨ a.heap.size ≤ i) : Only X a c :=
  ⟨k.os.trans h.os, k.tape.trans h.tape, k.output.trans h.output, Nat.le_trans h.size k.size, fun i hi hx =>
    (k.block i (Nat.lt_of_lt_of_le hi h.size) (fun hy => by rcases hY i hy with h' | h'; exact hx h'; omega)).trans (h.block i hi hx)⟩
theorem Only.trans' {X : Nat → Prop} {a b c : World} (h : Only X a b) (k : Only X b c) : Only X a c := h.trans k fun _ h => .inl h
theorem Only.set {X : Nat → Prop} {b : Nat} (hb : X b) (w : World) (j : Nat) (u : Value) : Only X w (w.setCell ⟨b, j, none⟩ u) :=
  ⟨rfl, rfl, rfl, by simp, fun k _ hk => Below.heap_setCell _ _ _ _ (fun e => hk (by rw [e]; exact hb))⟩
theorem Only.below {X : Nat → Prop} {w w' : World} (h : Below w.heap.size w w') : Only X w w' := ⟨h.os, h.tape, h.output, h.size, fun k hk _ => h.block k hk⟩
theorem Only.alloc (X : Nat → Prop) (w : World) (o : Obj) : Only X w (w.alloc o) := Only.below (below_new w o)
theorem Only.drew (X : Nat → Prop) (w : World) : Only X w w.drew := Only.below (Below.refl _ _).drew
theorem Only.drewN (X : Nat → Prop) (w : World) (n : Nat) : Only X w (w.drewN n) := Only.below (below_drewN (Below.refl _ _) n)
theorem Only.grown {X : Nat → Prop} {w w' : World} {row : Option Nat} (h : w.grownBy w' row) (hr : ∀ k, row = some k → X k ∨ w.heap.size ≤ k) : Only X w w' :=
  ⟨h.os, h.tape, h.output, h.size, fun k hk hx => h.block k hk (fun e => by rcases hr k e.symm with h' | h'; exact hx h'; omega)⟩
theorem Only.to {X : Nat → Prop} {w w' : World} {B : Nat} (h : Only X w w') (hX : ∀ k, X k → B ≤ k) (hB : B ≤ w.heap.size) : Below B w w' :=
  ⟨h.os, h.tape, h.output, h.size, fun k hk => h.block k (Nat.lt_of_lt_of_le hk hB) (fun hx => by have := hX k hx; omega)⟩
theorem Only.mono {X Y : Nat → Prop} {w w' : World} (h : Only X w w') (hY : ∀ k, X k → Y k) : Only Y w w' :=
  ⟨h.os, h.tape, h.output, h.size, fun k hk hy => h.block k hk (fun hx => hy (hY k hx))⟩
theorem Only.cell {X : Nat → Prop} {w w' : World} (h : Only X w w') {p : Addr} (hp : p.block < w.heap.size) (hx : ¬ X p.block) : w'.cell? p = w.cell? p := World.cell?_of_block (h.block _ hp hx)
theorem Only.frozen {X : Nat → Prop} {w w' : World} (h : Only X w w') {p : Addr} (hp : p.block < w.heap.size) (hx : ¬ X p.block) : w'.frozen? p = w.frozen? p := World.frozen?_of_block (h.block _ hp hx)
theorem Only.owns {X : Nat → Prop} {w w' : World} (h : Only X w w') {B : Nat} {e : TypeId} {size : Nat} {v : Value} {n : Nat} {xs : List Value} (ho : w.ownsRow B e size v n xs) (hv : ∀ k, v.ownBlock = some k → ¬ X k) : w'.ownsRow B e size v n xs := by
  obtain ⟨hl, hv' | ⟨g, cap, cur, rfl, hb, hg, rest⟩⟩ := ho
  · exact ⟨hl, .inl hv'⟩
  · refine ⟨hl, .inr ⟨g, cap, cur, rfl, hb, ?_, rest⟩⟩
    rw [h.block g (Array.getElem?_eq_some_iff.1 hg).1 (hv g rfl)]; exact hg
theorem ownsRow_base {B C : Nat} {w : World} {e : TypeId} {size : Nat} {v : Value} {n : Nat} {xs : List Value} (h : w.ownsRow B e size v n xs) (hC : ∀ k, v.ownBlock = some k → C ≤ k) : w.ownsRow C e size v n xs := by
  obtain ⟨hl, hv' | ⟨g, cap, cur, rfl, hb, rest⟩⟩ := h
  · exact ⟨hl, .inl hv'⟩
  · exact ⟨hl, .inr ⟨g, cap, cur, rfl, hC g rfl, rest⟩⟩
/-- The block of a row is no block of another type. -/
theorem ownBlock_other {w : World} {B : Nat} {e T : TypeId} {size : Nat} {v : Value} {n : Nat} {xs : List Value} {b : Nat} {cs : Array Value} {fr : Nat × Nat} (hown : w.ownsRow B e size v n xs) (hb : w.heap[b]? = some (.cells cs T fr)) (hTe : T ≠ e) : v.ownBlock ≠ some b := by
  rcases hown.2 with ⟨rfl, _⟩ | ⟨g, cap, cur, rfl, _, hg, _⟩
  · simp [Value.ownBlock]
  · intro h
    simp only [Value.ownBlock, Option.some.injEq] at h
    subst h
    rw [hg] at hb
    simp only [Option.some.injEq, Obj.cells.injEq] at hb
    exact hTe hb.2.1.symm
end Go.Proofs.YtfmgfcddnnggeaaGreatDoor

/- Lower case; what the code's lower returns. -/
namespace Go.Proofs.YtfmgfcddnnggeaaGreatDoor
open Go.RowKit

def lowB (c : UInt8) : UInt8 := if 65 ≤ c.toNat ∧ c.toNat ≤ 90 then c + 32 else c
def lowS (l : List UInt8) : List UInt8 := l.map lowB
theorem lowB_up {c : UInt8} (h1 : 65 ≤ c.toNat) (h2 : c.toNat ≤ 90) : (lowB c).toNat = c.toNat + 32 := by
  unfold lowB; rw [if_pos ⟨h1, h2⟩, UInt8.toNat_add]; simp; omega
theorem lowB_not {c : UInt8} (h : ¬ (65 ≤ c.toNat ∧ c.toNat ≤ 90)) : lowB c = c := by unfold lowB; rw [if_neg h]
theorem lowS_take (s : ByteArray) (k : Nat) (h : k < s.size) : lowS (s.data.toList.take (k + 1)) = lowS (s.data.toList.take k) ++ [lowB s[k]] := by
  rw [take_snoc s k h]; simp [lowS]
theorem lowS_len (l : List UInt8) : (lowS l).length = l.length := by simp [lowS]
theorem conv_one (z : Int) (c : UInt8) (hz : z = (c.toNat : Int)) (W : World) :
    (convert 30 9 (.slice (some ⟨W.heap.size, 0, none⟩) 1 1)).run Tryz.prog (W.alloc (.cells #[.int .u8 z] 5)) = .ok (.string ⟨#[c]⟩) (W.alloc (.cells #[.int .u8 z] 5)) :=
  run_convert_bytes_back _ _ _ 5 ⟨W.heap.size, 0, none⟩ 1 [c] Tryz.underlying30 Tryz.underlying5 Tryz.underlying9 (fun j hj => by
    have : j = 0 := by simp at hj; omega
    subst this
    subst hz
    simp [Addr.add])
/-- The bytes after k rounds: those before k in lower case. -/
def lowTo (l : List UInt8) (k j : Nat) : Int := if j < k then ((lowB (l.getD j 0)).toNat : Int) else ((l.getD j 0).toNat : Int)
def LowC (s : ByteArray) (w : World) (i : Value) (wr : World) : Prop :=
  ∃ k : Nat, i = .int .i64 k ∧ k ≤ s.size ∧ (∀ j, j < s.size → wr.cell? ⟨w.heap.size, j, none⟩ = some (.int .u8 (lowTo s.data.toList k j)) ∧ wr.frozen? ⟨w.heap.size, j, none⟩ = false) ∧ Below w.heap.size w wr
theorem getD_list (s : ByteArray) (j : Nat) (h : j < s.size) : s.data.toList.getD j 0 = s[j] := by
  have h' : j < s.data.toList.length := by simpa using h
  rw [List.getD, List.getElem?_eq_getElem h']; rfl
theorem lowTo_at {s : ByteArray} {k : Nat} (h : k < s.size) : lowTo s.data.toList k k = (s[k].toNat : Int) := by
  unfold lowTo; rw [if_neg (by omega), getD_list s k h]
theorem row_at (s : ByteArray) (cap j : Nat) (h : j < s.size) : (bytesRow s cap)[j]? = some (.int .u8 (s[j].toNat : Int)) := by
  have h' : j < s.data.size := h
  unfold bytesRow
  rw [Array.getElem?_append_left (by simpa using h')]
  rw [Array.getElem?_map, Array.getElem?_eq_getElem h']; rfl
theorem LowC0 (s : ByteArray) (w : World) (cap : Nat) : LowC s w (.int .i64 0) (w.alloc (.cells (bytesRow s cap) 5 ((bytesRow s cap).size, (bytesRow s cap).size + 1))).drew := by
  refine ⟨0, rfl, Nat.zero_le _, fun j hj => ⟨?_, ?_⟩, ((Below.refl _ _).alloc (Nat.le_refl _) _).drew⟩
  · show (w.alloc _).cell? _ = _
    rw [World.cell?_alloc_mark, row_at s cap j hj]
    unfold lowTo; rw [if_neg (by omega), getD_list s j hj]
  · have hz : s.size ≤ (bytesRow s cap).size := by unfold bytesRow; simp
    have e : (w.alloc (.cells (bytesRow s cap) 5 ((bytesRow s cap).size, (bytesRow s cap).size + 1))).drew.heap[w.heap.size]? = some (.cells (bytesRow s cap) 5 ((bytesRow s cap).size, (bytesRow s cap).size + 1)) := by
      show (w.heap.push _)[w.heap.size]? = _
      simp
    unfold World.frozen?
    rw [e]
    simp
    omega
theorem LowC_up {s : ByteArray} {w wr : World} {k : Nat} (h : k < s.size) (h1 : 65 ≤ s[k].toNat) (h2 : s[k].toNat ≤ 90)
    (hc : ∀ j, j < s.size → wr.cell? ⟨w.heap.size, j, none⟩ = some (.int .u8 (lowTo s.data.toList k j)) ∧ wr.frozen? ⟨w.heap.size, j, none⟩ = false)
    (hk : wr.cell? ⟨w.heap.size, k, none⟩ = some (.int .u8 (s[k].toNat : Int))) :
    ∀ j, j < s.size → (wr.setCell ⟨w.heap.size, k, none⟩ (.int .u8 ((s[k].toNat : Int) - 65 + 97))).cell? ⟨w.heap.size, j, none⟩ = some (.int .u8 (lowTo s.data.toList (k + 1) j)) ∧
      (wr.setCell ⟨w.heap.size, k, none⟩ (.int .u8 ((s[k].toNat : Int) - 65 + 97))).frozen? ⟨w.heap.size, j, none⟩ = false := by
  intro j hj
  refine ⟨?_, (World.frozen?_setCell _ _ _ _).trans (hc j hj).2⟩
  by_cases e : j = k
  · subst e
    rw [World.cell?_setCell_same _ _ _ hk]
    unfold lowTo
    rw [if_pos (by omega), getD_list s j hj, lowB_up h1 h2]
    congr 2; omega
  · rw [World.cell?_setCell_other _ _ _ _ (by first | (simp; done) | (simp; exact fun h => e h.symm)), (hc j hj).1]
    unfold lowTo
    by_cases hjk : j < k
    · rw [if_pos hjk, if_pos (by omega)]
    · rw [if_neg hjk, if_neg (by omega)]
theorem LowC_not {s : ByteArray} {w wr : World} {k : Nat} (h : k < s.size) (hn : ¬ (65 ≤ s[k].toNat ∧ s[k].toNat ≤ 90))
    (hc : ∀ j, j < s.size → wr.cell? ⟨w.heap.size, j, none⟩ = some (.int .u8 (lowTo s.data.toList k j)) ∧ wr.frozen? ⟨w.heap.size, j, none⟩ = false) :
    ∀ j, j < s.size → wr.cell? ⟨w.heap.size, j, none⟩ = some (.int .u8 (lowTo s.data.toList (k + 1) j)) ∧ wr.frozen? ⟨w.heap.size, j, none⟩ = false := by
  intro j hj
  refine ⟨?_, (hc j hj).2⟩
  rw [(hc j hj).1]
  unfold lowTo
  by_cases hjk : j < k
  · rw [if_pos hjk, if_pos (by omega)]
  · rw [if_neg hjk]
    by_cases e : j = k
    · subst e; rw [if_pos (by omega), getD_list s j hj, lowB_not hn]
    · rw [if_neg (by omega)]
theorem low_conv (s : ByteArray) (w wr : World) (cap : Nat)
    (hc : ∀ j, j < s.size → wr.cell? ⟨w.heap.size, j, none⟩ = some (.int .u8 (lowTo s.data.toList s.size j)) ∧ wr.frozen? ⟨w.heap.size, j, none⟩ = false) :
    (convert 30 9 (.slice (some ⟨w.heap.size, 0, none⟩) s.size cap)).run Tryz.prog wr = .ok (.string (strB (lowS s.data.toList))) wr := by
  have hl : (lowS s.data.toList).length = s.size := by rw [lowS_len]; simp
  have := run_convert_bytes_back wr 30 9 5 ⟨w.heap.size, 0, none⟩ cap (lowS s.data.toList) Tryz.underlying30 Tryz.underlying5 Tryz.underlying9 (fun j hj => by
    rw [Addr.add_lit, Nat.zero_add, (hc j (by omega)).1]
    unfold lowTo
    rw [if_pos (by omega)]
    have hj' : j < s.data.toList.length := by rw [lowS_len] at hj; exact hj
    rw [List.getD, List.getElem?_eq_getElem hj']
    simp [lowS])
  rw [hl] at this
  exact this
set_option maxHeartbeats 2000000 in
set_option maxRecDepth 100000 in
theorem lower_any (s : ByteArray) (w : World) (hs : s.size ≤ 1000000000) :
    Calls Tryz.prog 85 #[.string s] w fun e w' => e = .returned (.string (strB (lowS s.data.toList))) ∧ Below w.heap.size w w' := by
  have hcb := fun W : World => run_bytes_of_string (P := Tryz.prog) W 9 30 5 s Tryz.underlying9 Tryz.underlying30 Tryz.underlying5
  go_enter Tryz.func85, Tryz.ntmps85
  go_wp2
  have HCB := Lib.hid hcb
  clear hcb
  go_loopw [10] (fun i wr => LowC s w i wr) (fun i _ => s.size - (intOf i).toNat)
  case atStart => exact LowC0 s w _
  case round =>
    obtain ⟨k, rfl, hk, hc, hB⟩ := hrel
    have HC := Lib.hid hc
    clear hc
    have hsz := hB.size
    by_cases hlt : k < s.size
    · have hcell : wr.cell? ⟨w.heap.size, k, none⟩ = some (.int .u8 (s[k].toNat : Int)) := by rw [(HC.out k hlt).1, lowTo_at hlt]
      have hfz := (HC.out k hlt).2
      by_cases h1 : 65 ≤ s[k].toNat
      · by_cases h2 : s[k].toNat ≤ 90
        · go_wp2
          go_roundw
          case rel => exact ⟨k + 1, by go_num, by omega, LowC_up hlt h1 h2 HC.out hcell, hB.setCell (p := ⟨w.heap.size, k, none⟩) (Nat.le_refl _) _⟩
          case measure => simp [intOf]; omega
        · go_wp2
          go_roundw
          case rel => exact ⟨k + 1, by go_num, by omega, LowC_not hlt (by omega) HC.out, hB⟩
          case measure => simp [intOf]; omega
      · go_wp2
        go_roundw
        case rel => exact ⟨k + 1, by go_num, by omega, LowC_not hlt (by omega) HC.out, hB⟩
        case measure => simp [intOf]; omega
    · obtain rfl : k = s.size := by omega
      have hcv := low_conv s w wr (grownCap w s.size 0 5) HC.out
      go_wp2
      go_ret
      exact ⟨rfl, hB⟩
end Go.Proofs.YtfmgfcddnnggeaaGreatDoor
