/- The library's Split and Cut at one byte, in plain words, in a world in which MaxLen is an int. -/
import Derived.Test.YthjkneifffdglaaDoorShelf
import Derived.Test.YthjkneifffdglaaDoorALabel
import Derived.Shelf.Strings.Split
namespace Go.Proofs.YthjkneifffdglaaDoor
open Go.RowKit

/-- MaxLen is an int. -/
def HasMax (w : World) : Prop := ∃ m, w.cell? ⟨0, 0, none⟩ = some (.int .i64 m)
theorem HasMax.below {w w' : World} (h : HasMax w) (hb : Below w.heap.size w w') : HasMax w' := by
  obtain ⟨m, hm⟩ := h
  exact ⟨m, (hb.cell (p := ⟨0, 0, none⟩) (World.block_lt_of_cell? _ _ hm)).trans hm⟩

theorem idx_sep (c : UInt8) (t : List UInt8) : Lib.index (c :: t) [c] = 0 := by unfold Lib.index; simp [List.isPrefixOf]
theorem idx_ne {c x : UInt8} (h : x ≠ c) (t : List UInt8) : Lib.index (x :: t) [c] = if Lib.index t [c] == -1 then -1 else Lib.index t [c] + 1 := by
  rw [Lib.index, if_neg (by simp [List.isPrefixOf]; exact fun e => h e.symm)]
theorem split_cutL (c : UInt8) : ∀ l : List UInt8, Lib.splitK [c] 0 (Lib.count l [c]) l = cutL c l := by
  intro l
  induction l with
  | nil => rfl
  | cons x t ih =>
    by_cases hx : x = c
    · subst hx
      rw [Lib.count_cons_eq, Nat.add_comm, Lib.splitK, idx_sep, cutL_sep, ← ih]
      simp
    · rw [Lib.count_cons_ne x c t hx]
      cases hk : Lib.count t [c] with
      | zero =>
        rw [hk] at ih
        rw [cutL_cons (p := t) (r := []) hx ih.symm]; rfl
      | succ k =>
        rw [hk] at ih
        have hi : ¬ Lib.index t [c] = -1 := fun e => by rw [Lib.count_miss e] at hk; cases hk
        have hge := Lib.index_ge t [c]
        obtain ⟨i, hi'⟩ : ∃ i : Nat, Lib.index t [c] = i := ⟨(Lib.index t [c]).toNat, by omega⟩
        have e1 : (Lib.index t [c] == -1) = false := by simpa using hi
        have e2 : Lib.index (x :: t) [c] = ((i + 1 : Nat) : Int) := by rw [idx_ne hx, e1, hi']; simp
        have e3 : (((i + 1 : Nat) : Int) == -1) = false := by simp; omega
        rw [Lib.splitK, e1] at ih
        rw [Lib.splitK, e2, e3]
        rw [hi'] at ih
        simp only [Bool.false_eq_true, if_false, Int.toNat_natCast, Nat.add_zero, List.length_singleton, List.take_succ_cons, List.drop_succ_cons] at ih ⊢
        rw [cutL_cons hx ih.symm]
theorem cut_cutC (c : UInt8) : ∀ l : List UInt8, Lib.cut l [c] = cutC c l := by
  intro l
  induction l with
  | nil => rfl
  | cons x t ih =>
    by_cases hx : x = c
    · subst hx
      unfold Lib.cut; rw [idx_sep]; simp [cutC]
    · rw [cutC, if_neg hx, ← ih]
      have hge := Lib.index_ge t [c]
      by_cases hi : Lib.index t [c] = -1
      · unfold Lib.cut
        rw [idx_ne hx, hi]; rfl
      · obtain ⟨i, hi'⟩ : ∃ i : Nat, Lib.index t [c] = i := ⟨(Lib.index t [c]).toNat, by omega⟩
        have e1 : (Lib.index t [c] == -1) = false := by simpa using hi
        have e2 : Lib.index (x :: t) [c] = ((i + 1 : Nat) : Int) := by rw [idx_ne hx, e1, hi']; simp
        unfold Lib.cut
        rw [e2, hi', if_pos (by omega), if_pos (by omega)]
        simp only [Int.toNat_natCast, List.length_singleton, List.take_succ_cons, List.drop_succ_cons]
theorem splitM_any (c : UInt8) (s : ByteArray) (w : World) (hM : HasMax w) (hs : s.size ≤ 100000000) :
    Calls Tryd.prog 48 #[.string s, .string ⟨#[c]⟩] w fun e w' => ∃ v, e = .returned v ∧ OwnsS w.heap.size w' v (cutL c s.data.toList) ∧ Below w.heap.size w w' := by
  obtain ⟨m, hm⟩ := hM
  refine (Tryd.strings_Split s ⟨#[c]⟩ m w (by omega) hm (Nat.le_refl 1)).mono ?_
  rintro e w' ⟨rfl, rfl⟩
  have hd := Lib.splitB_data ⟨#[c]⟩ 0 (Lib.countB s ⟨#[c]⟩) s
  have hc : Lib.countB s ⟨#[c]⟩ = Lib.count s.data.toList [c] := rfl
  have hcut : (Lib.splitB ⟨#[c]⟩ 0 (Lib.countB s ⟨#[c]⟩) s).map (·.data.toList) = cutL c s.data.toList := by
    rw [hd, hc]; exact split_cutL c _
  have hv : (Lib.splitB ⟨#[c]⟩ 0 (Lib.countB s ⟨#[c]⟩) s).map Value.string = (cutL c s.data.toList).map strV := by
    rw [← hcut, List.map_map]
    exact List.map_congr_left fun x _ => by show Value.string x = Value.string (strB x.data.toList); rw [strB_of]
  have hlen : Lib.countB s ⟨#[c]⟩ + 1 = (cutL c s.data.toList).length := by
    rw [← hcut, List.length_map]
    exact (Lib.splitB_all ⟨#[c]⟩ (Nat.le_refl 1) 0 _ s rfl).symm
  have hle := cutL_len c s.data.toList
  have hsz : s.data.toList.length = s.size := by rw [Array.length_toList]; rfl
  refine ⟨_, rfl, ?_, below_new _ _⟩
  rw [hv, hlen]
  have := World.ownsRow_lit (base := w.heap.size) (e := 9) (size := 1) w ((cutL c s.data.toList).map strV).toArray (cutL c s.data.toList).length (Nat.le_refl _) (by unfold maxLen; omega) (by simp)
  exact this
theorem cutM_any (c : UInt8) (s : ByteArray) (w : World) (hM : HasMax w) (hs : s.size ≤ 100000000) :
    Calls Tryd.prog 43 #[.string s, .string ⟨#[c]⟩] w fun e w' => e = .returned (.tuple #[.string (strB (cutC c s.data.toList).1), .string (strB (cutC c s.data.toList).2.1), .bool (cutC c s.data.toList).2.2]) ∧ ∃ n, w' = w.drewN n := by
  obtain ⟨m, hm⟩ := hM
  refine (Tryd.strings_Cut s ⟨#[c]⟩ m w (by omega) hm).mono ?_
  rintro e w' ⟨he, hn⟩
  have hc : Lib.cut s.data.toList (⟨#[c]⟩ : ByteArray).data.toList = cutC c s.data.toList := cut_cutC c _
  rw [hc] at he
  exact ⟨he, hn⟩
end Go.Proofs.YthjkneifffdglaaDoor
