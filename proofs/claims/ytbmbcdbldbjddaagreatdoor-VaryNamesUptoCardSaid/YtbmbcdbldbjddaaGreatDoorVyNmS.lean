/- slices.Sort and Compact of strings that the call made, in plain words. -/
import Derived.Test.YtbmbcdbldbjddaaGreatDoorVyNmP
import Derived.Test.YtbmbcdbldbjddaaGreatDoorFAll
import Derived.Test.YtbmbcdbldbjddaaGreatDoorShelf
import Derived.Shelf.Slices.In.SortNone
namespace Go.Proofs.YtbmbcdbldbjddaaGreatDoor
open Go.RowKit Go.Shelf Go.Lib Go.Sort

/-- Strings in a block of the call's own, whose cells may be written. -/
def HoldsT (B : Nat) (w : World) (v : Value) (ls : List (List UInt8)) : Prop :=
  (v = .slice none 0 0 ∧ ls = []) ∨ ∃ g cap, v = .slice (some ⟨g, 0, none⟩) ls.length cap ∧ B ≤ g ∧ g < w.heap.size ∧ ls.length ≤ cap ∧ Holds encStr w g 0 ls.toArray
theorem arr_get (ls : List (List UInt8)) (j : Nat) (l : List UInt8) (h : ls[j]? = some l) : ls.toArray[j]! = l := arr_at h
theorem OwnsS.holds {B : Nat} {w : World} {v : Value} {ls : List (List UInt8)} (h : OwnsS B w v ls) : HoldsT B w v ls := by
  have h0 := h
  rcases h with ⟨hl, ⟨hv, hn⟩ | ⟨g, cap, cur, hv, hb, hg, hn, hm, hs, ht⟩⟩
  · exact .inl ⟨hv, List.eq_nil_of_length_eq_zero hn⟩
  · refine .inr ⟨g, cap, hv, hb, (Array.getElem?_eq_some_iff.1 hg).1, hn, fun j hj => ?_⟩
    subst hv
    have hj' : j < ls.length := by simpa using hj
    refine ⟨?_, by simp [World.frozen?, hg]⟩
    rw [Nat.zero_add, World.ownsRow.cellAt h0 j (by omega), List.getElem?_map, List.getElem?_eq_getElem hj', arr_get ls j ls[j] (by simp [hj'])]
    rfl
theorem below_put {B g n : Nat} {w : World} (hB : B ≤ g) (hBw : B ≤ w.heap.size) (d : Array (List UInt8)) (os : Array Obj) : Below B w (grow (putRow encStr (Sort.ahead w n) g 0 d) os) := by
  have hs : (putRow encStr (Sort.ahead w n) g 0 d).heap.size = w.heap.size := by simp [putRow, mapBlock, Sort.ahead]
  refine ⟨rfl, rfl, rfl, ?_, fun k hk => ?_⟩
  · show w.heap.size ≤ ((putRow encStr (Sort.ahead w n) g 0 d).heap ++ os).size
    rw [Array.size_append, hs]; omega
  · rw [heap_grow_old _ _ (by rw [hs]; omega)]
    have hne : g ≠ k := by omega
    simp [putRow, mapBlock, Sort.ahead, Array.getElem?_modify, hne]
theorem holds_put {g n : Nat} {w : World} {d0 d : Array (List UInt8)} (os : Array Obj) (h0 : Holds encStr w g 0 d0) (hs : d.size = d0.size) (hg : g < w.heap.size) : Holds encStr (grow (putRow encStr (Sort.ahead w n) g 0 d) os) g 0 d := by
  have h1 := holds_putRow encStr (Sort.ahead w n) g 0 d0 d (holds_ahead encStr w n g 0 d0 h0) hs
  have hsz : (putRow encStr (Sort.ahead w n) g 0 d).heap.size = w.heap.size := by simp [putRow, mapBlock, Sort.ahead]
  intro j hj
  obtain ⟨a, b⟩ := h1 j hj
  exact ⟨by rw [cell?_grow _ _ _ (by rw [hsz]; exact hg)]; exact a, by rw [frozen?_grow _ _ _ (by rw [hsz]; exact hg)]; exact b⟩
theorem sortT_any (v : Value) (ls : List (List UInt8)) (B : Nat) (w : World) (hB : B ≤ w.heap.size) (hO : HoldsT B w v ls) (hl : ls.length ≤ 1000000) :
    Calls Tryz.prog 18 #[v] w fun e w' => e = .returned (.tuple #[]) ∧ HoldsT B w' v (ls.mergeSort fun x y => decide (x ≤ y)) ∧ Below B w w' := by
  rcases hO with ⟨rfl, rfl⟩ | ⟨g, cap, rfl, hb, hg, hn, hH⟩
  · refine (Any.slices_Sort_string_none Tryz.lays190 none 0 w).mono ?_
    rintro e w' ⟨rfl, rfl⟩
    exact ⟨rfl, .inl ⟨rfl, by simp⟩, Below.refl _ _⟩
  · refine (Tryz.slices_Sort_string g 0 cap ls w hH hg (by omega)).mono ?_
    rintro e w' ⟨rfl, n, os, rfl⟩
    have hml : (ls.mergeSort fun x y => decide (x ≤ y)).length = ls.length := List.length_mergeSort ..
    have hsz : (grow (putRow encStr (Sort.ahead w n) g 0 (ls.mergeSort fun x y => decide (x ≤ y)).toArray) os).heap.size ≥ w.heap.size := (below_put (n := n) hb hB _ os).size
    exact ⟨rfl, .inr ⟨g, cap, by rw [hml], hb, Nat.lt_of_lt_of_le hg hsz, by rw [hml]; exact hn, holds_put os hH (by simp [hml]) hg⟩, below_put hb hB _ _⟩
theorem compact_len (zs : List (List UInt8)) : (Lib.compact zs).length ≤ zs.length := by
  unfold Lib.compact Lib.compactUpTo
  rw [List.length_map]
  exact Nat.le_trans (List.length_filter_le ..) (by simp)
theorem compactT_any (v : Value) (zs : List (List UInt8)) (B : Nat) (w : World) (hB : B ≤ w.heap.size) (hO : HoldsT B w v zs) (hl : zs.length ≤ 1000000) :
    Calls Tryz.prog 19 #[v] w fun e w' => ∃ v', e = .returned v' ∧ ReadsS w' v' (Lib.compact zs) ∧ Below B w w' := by
  rcases hO with ⟨rfl, rfl⟩ | ⟨g, cap, rfl, hb, hg, hn, hH⟩
  · refine (Tryz.slices_Compact_string_empty none 0 w).mono ?_
    rintro e w' ⟨rfl, rfl⟩
    exact ⟨_, rfl, ⟨none, 0, rfl, fun j l h => by simp [Lib.compact, Lib.compactUpTo] at h⟩, Below.refl _ _⟩
  · refine (Tryz.slices_Compact_string g 0 cap zs w hH (by omega) hn).mono ?_
    rintro e w' ⟨rfl, n, rfl⟩
    have hcl := compact_len zs
    have hG : Holds encStr (grow (putRow encStr (Sort.ahead w n) g 0 (Lib.compact zs ++ List.replicate (zs.length - (Lib.compact zs).length) []).toArray) #[]) g 0 (Lib.compact zs ++ List.replicate (zs.length - (Lib.compact zs).length) []).toArray := holds_put #[] hH (by simp; omega) hg
    have eg : ∀ W : World, grow W #[] = W := fun W => by simp [grow]
    rw [eg] at hG
    have hB2 := below_put (n := n) hb hB (Lib.compact zs ++ List.replicate (zs.length - (Lib.compact zs).length) []).toArray #[]
    rw [eg] at hB2
    refine ⟨_, rfl, ⟨_, cap, rfl, fun j l hj => ⟨g, 0, rfl, Nat.lt_of_lt_of_le hg hB2.size, ?_⟩⟩, hB2⟩
    have hjl := (List.getElem?_eq_some_iff.mp hj).1
    have h1 := (hG j (by simp; omega)).1
    rw [arr_get _ j l (by rw [List.getElem?_append_left hjl]; exact hj)] at h1
    exact h1
end Go.Proofs.YtbmbcdbldbjddaaGreatDoor
