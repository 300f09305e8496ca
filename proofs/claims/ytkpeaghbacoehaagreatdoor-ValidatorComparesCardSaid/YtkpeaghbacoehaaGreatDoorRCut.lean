/- The library's Cut and CutPrefix in plain words, in a world in which MaxLen is an int. -/
import Derived.Test.YtkpeaghbacoehaaGreatDoorShelf
import Derived.Test.YtkpeaghbacoehaaGreatDoorRSpec
namespace Go.Proofs.YtkpeaghbacoehaaGreatDoor
open Go.RowKit

/-- MaxLen is an int. -/
def MaxIs (w : World) : Prop := ∃ m, w.cell? ⟨2, 0, none⟩ = some (.int .i64 m)
theorem MaxIs.below {w w' : World} (h : MaxIs w) (hb : Below w.heap.size w w') : MaxIs w' := by
  obtain ⟨m, hm⟩ := h
  exact ⟨m, (hb.cell (p := ⟨2, 0, none⟩) (World.block_lt_of_cell? _ _ hm)).trans hm⟩
theorem MaxIs.alloc {w : World} (h : MaxIs w) (o : Obj) : MaxIs (w.alloc o) := h.below (below_new w o)
theorem MaxIs.drewN {w : World} (h : MaxIs w) (n : Nat) : MaxIs (w.drewN n) := h.below (below_drewN (Below.refl _ _) n)
theorem cutR_any (c : UInt8) (s : ByteArray) (w : World) (hM : MaxIs w) (hs : s.size ≤ 100000000) {a b : List UInt8} {f : Bool} (h : cut9 c s.data.toList = (a, b, f)) :
    Calls Tryz.prog 56 #[.string s, .string ⟨#[c]⟩] w fun e w' => e = .returned (.tuple #[.string (strB a), .string (strB b), .bool f]) ∧ ∃ n, w' = w.drewN n := by
  obtain ⟨m, hm⟩ := hM
  refine (Tryz.strings_Cut s ⟨#[c]⟩ m w (by omega) hm).mono ?_
  rintro e w' ⟨he, hn⟩
  have hc : Lib.cut s.data.toList (⟨#[c]⟩ : ByteArray).data.toList = cut9 c s.data.toList := cut_cut9 c _
  rw [hc, h] at he
  exact ⟨he, hn⟩
theorem cut9_sizes {c : UInt8} {s : ByteArray} {a b : List UInt8} {f : Bool} (h : cut9 c s.data.toList = (a, b, f)) : (strB a).size ≤ s.size ∧ (strB b).size ≤ s.size := by
  have := cut9_len c s.data.toList
  rw [h] at this
  rw [strB_size, strB_size]
  have hl : s.data.toList.length = s.size := by simp
  simp only at this
  omega
theorem cutPre_any (s p : ByteArray) (w : World) {b : Bool} (h : p.data.toList.isPrefixOf s.data.toList = b) :
    Calls Tryz.prog 55 #[.string s, .string p] w fun e w' => e = .returned (.tuple #[.string (strB (if b then s.data.toList.drop p.size else s.data.toList)), .bool b]) ∧ w = w' := by
  refine (Tryz.strings_CutPrefix s p w).mono ?_
  rintro e w' ⟨rfl, rfl⟩
  refine ⟨?_, rfl⟩
  have e1 : Lib.hasPrefix s.data.toList p.data.toList = b := h
  unfold Lib.trimPrefix
  rw [e1]
  have hl : p.data.toList.length = p.size := by simp
  rw [hl]; rfl
end Go.Proofs.YtkpeaghbacoehaaGreatDoor
