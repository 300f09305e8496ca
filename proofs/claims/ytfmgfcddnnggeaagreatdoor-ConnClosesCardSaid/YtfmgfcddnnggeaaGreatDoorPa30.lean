import Derived.Test.YtfmgfcddnnggeaaGreatDoorPa29
import Derived.IntWalk
import Derived.Lib.SlBytesConst
import Derived.Laws.IdiomStrings
import Derived.Test.YtfmgfcddnnggeaaGreatDoorPa17
import Derived.Test.YtfmgfcddnnggeaaGreatDoorPa1
/- What formatBits returns in base 16. -/
namespace Go.Proofs.YtfmgfcddnnggeaaGreatDoor
open Go.RowKit

/-- A buffer of n bytes, whatever they are. -/
def Buf (g n : Nat) (w : World) : Prop := ∀ j, j < n → (∃ c : Int, w.cell? ⟨g, j, none⟩ = some (.int .u8 c)) ∧ w.frozen? ⟨g, j, none⟩ = false
theorem Buf.set {g n m : Nat} {w : World} (h : Buf g n w) (hm : m < n) (z : Int) : Buf g n (w.setCell ⟨g, m, none⟩ (.int .u8 z)) := by
  intro j hj
  obtain ⟨⟨c, hc⟩, hf⟩ := h j hj
  obtain ⟨⟨d, hd⟩, _⟩ := h m hm
  refine ⟨?_, by simpa using hf⟩
  by_cases e : j = m
  · subst e; exact ⟨z, by rw [World.cell?_setCell_same (h := hd)]⟩
  · exact ⟨c, by rw [World.cell?_setCell_other (h := fun h => e (by simpa using congrArg Addr.off h.symm))]; exact hc⟩
/-- The bytes from k to the end. -/
def Tail (g k : Nat) (s : List UInt8) (w : World) : Prop := ∀ j c, s[j]? = some c → w.cell? ⟨g, k + j, none⟩ = some (.int .u8 (c.toNat : Int))
theorem Tail.push {g n k : Nat} {s : List UInt8} {w : World} (h : Tail g (k + 1) s w) (hb : Buf g n w) (hk : k < n) (c : UInt8) : Tail g k (c :: s) (w.setCell ⟨g, k, none⟩ (.int .u8 (c.toNat : Int))) := by
  intro j d hj
  obtain ⟨⟨e, he⟩, _⟩ := hb k hk
  cases j with
  | zero => simp at hj; subst hj; rw [Nat.add_zero, World.cell?_setCell_same (h := he)]
  | succ j =>
    rw [World.cell?_setCell_other (h := fun h => by have := congrArg Addr.off h; simp at this)]
    have := h j d (by simpa using hj)
    rw [show k + (j + 1) = k + 1 + j by omega]; exact this
theorem digitG {d : Nat} (h : d < 16) (h2 : d < (⟨#[48, 49, 50, 51, 52, 53, 54, 55, 56, 57, 97, 98, 99, 100, 101, 102, 103, 104, 105, 106, 107, 108, 109, 110, 111, 112, 113, 114, 115, 116, 117, 118, 119, 120, 121, 122]⟩ : ByteArray).size) : (⟨#[48, 49, 50, 51, 52, 53, 54, 55, 56, 57, 97, 98, 99, 100, 101, 102, 103, 104, 105, 106, 107, 108, 109, 110, 111, 112, 113, 114, 115, 116, 117, 118, 119, 120, 121, 122]⟩ : ByteArray)[d]'h2 = hxD d := by
  have : ∀ d : Fin 16, (⟨#[48, 49, 50, 51, 52, 53, 54, 55, 56, 57, 97, 98, 99, 100, 101, 102, 103, 104, 105, 106, 107, 108, 109, 110, 111, 112, 113, 114, 115, 116, 117, 118, 119, 120, 121, 122]⟩ : ByteArray).data[d.val]? = some (hxD d.val) := by decide +kernel
  have h3 := this ⟨d, h⟩
  rw [Array.getElem?_eq_some_iff] at h3
  obtain ⟨_, h4⟩ := h3
  exact h4
def FbRel (n N : Nat) (w : World) (u i : Value) (wr : World) : Prop :=
  ∃ (m k : Nat) (s : List UInt8), u = .int .u64 (m : Int) ∧ i = .int .i64 (k : Int) ∧ k ≤ 65 ∧ 56 ≤ k ∧ m < 16 ^ (k - 55) ∧ s.length = 65 - k ∧ hexT n = hexT m ++ s ∧ Tail N k s wr ∧ Buf N 65 wr ∧ N < wr.heap.size ∧ Below w.heap.size w wr
def uOf : Value → Nat
  | .int _ z => z.toNat
  | _ => 0
end Go.Proofs.YtfmgfcddnnggeaaGreatDoor

/- What the program's Chunk returns. -/
namespace Go.Proofs.YtfmgfcddnnggeaaGreatDoor
open Go.RowKit

theorem addS_run {P : Program} {a b c : ByteArray} (h : a ++ b = c) (ha : a.size ≤ 1000000000) (hb : b.size ≤ 1000000000) (w : World) : (Op.stringOp .add a b).run P w = .ok (.string c) w := by rw [run_string_add_sum w a b (by omega), h]
theorem conv_lit (W : World) (g : Nat) (hg : g = W.heap.size) (C : Array Value) (n c : Nat) : (convert 30 30 (.slice (some ⟨g, 0, none⟩) n c)).run Tryz.prog (W.alloc (.cells C 5)).drew = .ok (.slice (some ⟨g, 0, none⟩) n c) (W.alloc (.cells C 5 (C.size, C.size + 1))).drew := by
  subst hg
  exact Lib.run_convert_bytes_const (P := Tryz.prog) W.drew 30 5 C n c Tryz.underlying30 Tryz.underlying5
theorem reads_str (s : ByteArray) (w : World) (fr : Nat × Nat) (hs : s.size ≤ 1000000000) :
    ReadsD (w.alloc (.cells (bytesRow s (grownCap w s.size 0 5)) 5 fr)) (.slice (some ⟨w.heap.size, 0, none⟩) s.size (grownCap w s.size 0 5)) s.data.toList := by
  have hsl : s.data.toList.length = s.size := by rw [Array.length_toList]; rfl
  refine ⟨_, _, by rw [hsl], by rw [hsl]; exact grownCap_ge w s.size 0 _, grownCap_le_maxLen w s.size 0 _ (by unfold maxLen; omega), fun h => (by cases h), fun j c hj => ⟨w.heap.size, 0, rfl, by simp, ?_⟩⟩
  rw [Nat.zero_add, World.cell?_alloc_mark]
  have hj2 : j < s.data.size := by
    have := (List.getElem?_eq_some_iff.1 hj).1
    simpa using this
  unfold bytesRow
  rw [Array.getElem?_append_left (by simpa using hj2)]
  have hj3 : s.data[j]? = some c := by rw [← Array.getElem?_toList]; exact hj
  simp [hj3]
theorem readsK_lit (w : World) (l : List UInt8) (fr : Nat × Nat) (hl : l.length ≤ 1000) : ReadsD (w.alloc (.cells (Lib.byteCells l).toArray 5 fr)) (.slice (some ⟨w.heap.size, 0, none⟩) l.length l.length) l := by
  refine ⟨_, _, rfl, Nat.le_refl _, by unfold maxLen; omega, fun h => (by cases h), fun j c hj => ⟨w.heap.size, 0, rfl, by simp, ?_⟩⟩
  rw [Nat.zero_add, World.cell?_alloc_mark]
  simpa using cellB_get hj
theorem reads_three (W : World) (va vb vc : Value) {la lb lc : List UInt8} (T : TypeId) (ha : ReadsD W va la) (hb : ReadsD W vb lb) (hc : ReadsD W vc lc) :
    ReadsL (W.alloc (.cells #[va, vb, vc] T)).drew (.slice (some ⟨W.heap.size, 0, none⟩) 3 3) [la, lb, lc] := by
  have hB : Below W.heap.size W (W.alloc (.cells #[va, vb, vc] T)).drew := (below_new _ _).drew
  have hcell : ∀ j, (W.alloc (.cells #[va, vb, vc] T)).drew.cell? ⟨W.heap.size, 0 + j, none⟩ = (#[va, vb, vc] : Array Value)[j]? := fun j => by
    rw [Nat.zero_add]
    show (W.alloc _).cell? _ = _
    rw [World.cell?_alloc_at _ _ _ _ rfl]
  have hs : W.heap.size < (W.alloc (.cells #[va, vb, vc] T)).drew.heap.size := by
    show _ < (W.alloc _).heap.size
    simp
  refine ⟨_, _, rfl, fun j l h => ?_⟩
  match j, h with
  | 0, h => simp at h; subst h; exact ⟨_, 0, va, rfl, hs, (hcell 0).trans rfl, ha.below hB⟩
  | 1, h => simp at h; subst h; exact ⟨_, 0, vb, rfl, hs, (hcell 1).trans rfl, hb.below hB⟩
  | 2, h => simp at h; subst h; exact ⟨_, 0, vc, rfl, hs, (hcell 2).trans rfl, hc.below hB⟩
  | j + 3, h => simp at h
end Go.Proofs.YtfmgfcddnnggeaaGreatDoor

/- What Is and Clip return where the statements call them. -/
namespace Go.Proofs.YtfmgfcddnnggeaaGreatDoor
open Go.RowKit

set_option maxHeartbeats 400000 in
set_option maxRecDepth 100000 in
theorem is_errno (a : Int) (ha : (a != 0) = true) (w : World) : Calls Tryz.prog 9 #[.iface 32 (.int .i64 a), .int .i64 a] w fun e w' => e = .returned (.bool true) ∧ w = w' := by
  go_enter Tryz.func9, Tryz.ntmps9
  go_wp2_with (go_at_call 15; refine (num_errno _ _).mono ?_; rintro e w' ⟨rfl, rfl⟩)
  go_ret
  exact ⟨rfl, rfl⟩
set_option maxHeartbeats 400000 in
set_option maxRecDepth 100000 in
theorem is_nil (b : Int) (hb : ((0 : Int) == b) = false) (w : World) : Calls Tryz.prog 9 #[.nilIface, .int .i64 b] w fun e w' => e = .returned (.bool false) ∧ w = w' := by
  go_enter Tryz.func9, Tryz.ntmps9
  go_wp2_with (go_at_call 15; refine (num_nil _).mono ?_; rintro e w' ⟨rfl, rfl⟩)
  go_ret
  exact ⟨rfl, rfl⟩
end Go.Proofs.YtfmgfcddnnggeaaGreatDoor
