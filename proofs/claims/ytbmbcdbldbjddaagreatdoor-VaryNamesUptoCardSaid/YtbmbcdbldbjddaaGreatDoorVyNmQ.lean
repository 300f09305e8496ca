/- A name put in its place: where the place is. A part of a slice that the call made. -/
import Derived.Test.YtbmbcdbldbjddaaGreatDoorVyNm
import Derived.Test.YtbmbcdbldbjddaaGreatDoorRefAll
import Derived.Test.YtbmbcdbldbjddaaGreatDoorRefList
import Derived.Deep.RegionHeld3
import Derived.Maps.AppendAt
namespace Go.Proofs.YtbmbcdbldbjddaaGreatDoor
open Go.RowKit

theorem insU_at (x : List UInt8) : ∀ (l : List (List UInt8)) (k : Nat), k ≤ l.length → (∀ i y, i < k → l[i]? = some y → ltK y x = true) → (∀ y, l[k]? = some y → ltK y x = false ∧ y ≠ x) → insU x l = l.take k ++ x :: l.drop k := by
  intro l
  induction l with
  | nil => intro k hk _ _; obtain rfl : k = 0 := Nat.le_zero.mp hk; rfl
  | cons a r ih =>
    intro k hk h1 h2
    cases k with
    | zero =>
      obtain ⟨e1, e2⟩ := h2 a rfl
      unfold insU
      rw [if_neg (by rw [e1]; decide), if_neg e2]; rfl
    | succ k =>
      have e := h1 0 a (Nat.succ_pos _) rfl
      unfold insU
      rw [if_pos e, ih k (Nat.le_of_succ_le_succ hk) (fun i y hi hy => h1 (i + 1) y (Nat.succ_lt_succ hi) hy) (fun y hy => h2 y hy)]; rfl
theorem insU_same (x : List UInt8) : ∀ (l : List (List UInt8)) (k : Nat), (∀ i y, i < k → l[i]? = some y → ltK y x = true) → l[k]? = some x → insU x l = l := by
  intro l
  induction l with
  | nil => intro k _ h; cases h
  | cons a r ih =>
    intro k h1 h2
    cases k with
    | zero =>
      obtain rfl : a = x := Option.some.inj h2
      unfold insU
      have e : ltK a a = false := by
        cases h : ltK a a with
        | false => rfl
        | true => exact absurd ((lt_iff a a).mpr h) (List.lt_irrefl a)
      rw [if_neg (by rw [e]; decide), if_pos rfl]
    | succ k =>
      have e := h1 0 a (Nat.succ_pos _) rfl
      unfold insU
      rw [if_pos e, ih k (fun i y hi hy => h1 (i + 1) y (Nat.succ_lt_succ hi) hy) h2]
theorem insU_len (x : List UInt8) (l : List (List UInt8)) : (insU x l).length ≤ l.length + 1 := by
  induction l with
  | nil => exact Nat.le_refl _
  | cons a r ih =>
    unfold insU
    split
    · simp only [List.length_cons]; omega
    · split
      · simp only [List.length_cons]; omega
      · simp only [List.length_cons]; omega
theorem insL_len (xs : List (List UInt8)) : (insL xs).length ≤ xs.length := by
  have h : ∀ (ys o : List (List UInt8)), (ys.foldl (fun o x => insU x o) o).length ≤ o.length + ys.length := by
    intro ys
    induction ys with
    | nil => intro o; exact Nat.le_refl _
    | cons y r ih =>
      intro o
      have h1 := ih (insU y o)
      have h2 := insU_len y o
      rw [List.foldl_cons, List.length_cons]; omega
  have := h xs []
  rw [List.length_nil, Nat.zero_add] at this; exact this
theorem low_next {x : List UInt8} {l : List (List UInt8)} {k : Nat} {z : List UInt8} (hz : l[k]? = some z) (h : ∀ i y, i < k → l[i]? = some y → ltK y x = true) (hl : ltK z x = true) : ∀ i y, i < k + 1 → l[i]? = some y → ltK y x = true := fun i y hi hy => by
  by_cases e : i = k
  · subst e; rw [hz] at hy; rw [← Option.some.inj hy]; exact hl
  · exact h i y (by omega) hy
theorem OwnsS.part {B : Nat} {w : World} {a : Option Addr} {c : Nat} {ls : List (List UInt8)} (h : OwnsS B w (.slice a ls.length c) ls) (k : Nat) (hk : k ≤ ls.length) : OwnsS B w (.slice a k c) (ls.take k) := by
  rcases h with ⟨hl, ⟨hv, hn⟩ | ⟨g, cap, cur, hv, hb, hg, hn, hm, hs, ht⟩⟩
  · obtain ⟨rfl, h2, rfl⟩ := Value.slice.inj hv
    have hls : ls = [] := List.eq_nil_of_length_eq_zero hn
    subst hls
    obtain rfl : k = 0 := Nat.le_zero.mp hk
    exact World.ownsRow_nil _ _ _ _
  · obtain ⟨rfl, _, rfl⟩ := Value.slice.inj hv
    have e : (ls.take k).length = k := by rw [List.length_take]; omega
    refine ⟨by simp, .inr ⟨g, c, cur, by rw [e], hb, hg, by rw [e]; omega, hm, hs, ?_⟩⟩
    rw [e, List.map_take, ← ht, List.take_take, Nat.min_eq_left (by omega), Nat.mul_one]
/-- The rest of a slice that is read. -/
theorem reads_rest {w : World} {g off c : Nat} {ls : List (List UInt8)} (h : ReadsS w (.slice (some ⟨g, off, none⟩) ls.length c) ls) (k : Nat) (hk : k < ls.length) : ReadsS w (.slice (some ⟨g, off + k, none⟩) (ls.length - k) (c - k)) (ls.drop k) := by
  obtain ⟨ao, cap, he, hc⟩ := h
  obtain ⟨rfl, _, rfl⟩ := Value.slice.inj he
  refine ⟨_, _, by rw [List.length_drop], fun j l hj => ?_⟩
  obtain ⟨g', off', e, hg, h1⟩ := hc (k + j) l (by rw [List.getElem?_drop] at hj; exact hj)
  obtain ⟨rfl, rfl, _⟩ := Addr.mk.inj (Option.some.inj e)
  exact ⟨_, _, rfl, hg, by rw [Nat.add_assoc]; exact h1⟩
end Go.Proofs.YtbmbcdbldbjddaaGreatDoor
