/- A parameter, read: strings.Cut at the first equals sign; plain part and contract. -/
import Derived.Test.YtjcekkgoohkomaaDoorShelf
import Derived.Test.YtjcekkgoohkomaaDoorLower
import Derived.Test.YtjcekkgoohkomaaDoorQuoSpec
namespace Go.Proofs.YtjcekkgoohkomaaDoor
open Go.RowKit

def cutE : List UInt8 → Option (List UInt8 × List UInt8)
  | [] => none
  | c :: r => if c = 61 then some ([], r) else (cutE r).map fun p => (c :: p.1, p.2)
theorem cutE_eq : ∀ {l a b : List UInt8}, cutE l = some (a, b) → l = a ++ 61 :: b ∧ 61 ∉ a := by
  intro l
  induction l with
  | nil => intro a b h; cases h
  | cons c r ih =>
    intro a b h
    unfold cutE at h
    split at h
    · rename_i hc
      simp only [Option.some.injEq, Prod.mk.injEq] at h
      obtain ⟨rfl, rfl⟩ := h
      exact ⟨by rw [hc]; rfl, by simp⟩
    · rename_i hc
      cases hr : cutE r with
      | none => rw [hr] at h; cases h
      | some p =>
        rw [hr] at h
        simp only [Option.map_some, Option.some.injEq, Prod.mk.injEq] at h
        obtain ⟨rfl, rfl⟩ := h
        obtain ⟨h1, h2⟩ := ih (a := p.1) (b := p.2) (by rw [hr])
        refine ⟨by rw [h1]; rfl, ?_⟩
        intro hm
        rcases List.mem_cons.mp hm with e | e
        · exact hc e.symm
        · exact h2 e
theorem index_none : ∀ {l : List UInt8}, cutE l = none → Lib.index l [61] = -1 := by
  intro l
  induction l with
  | nil => intro _; rfl
  | cons c r ih =>
    intro h
    unfold cutE at h
    split at h
    · cases h
    · rename_i hc
      have hr : cutE r = none := by cases hr : cutE r with
        | none => rfl
        | some p => rw [hr] at h; cases h
      have hp : ([61] : List UInt8).isPrefixOf (c :: r) = false := by simp [List.isPrefixOf]; exact fun e => hc e.symm
      unfold Lib.index
      rw [hp, ih hr]; rfl
theorem index_some : ∀ {l a b : List UInt8}, cutE l = some (a, b) → Lib.index l [61] = a.length := by
  intro l
  induction l with
  | nil => intro a b h; cases h
  | cons c r ih =>
    intro a b h
    unfold cutE at h
    split at h
    · rename_i hc
      simp only [Option.some.injEq, Prod.mk.injEq] at h
      obtain ⟨rfl, rfl⟩ := h
      subst hc
      unfold Lib.index
      simp [List.isPrefixOf]
    · rename_i hc
      cases hr : cutE r with
      | none => rw [hr] at h; cases h
      | some p =>
        rw [hr] at h
        simp only [Option.map_some, Option.some.injEq, Prod.mk.injEq] at h
        obtain ⟨rfl, rfl⟩ := h
        have hi := ih (a := p.1) (b := p.2) (by rw [hr])
        have hp : ([61] : List UInt8).isPrefixOf (c :: r) = false := by simp [List.isPrefixOf]; exact fun e => hc e.symm
        unfold Lib.index
        rw [hp, hi]
        have : ((p.1.length : Int) == -1) = false := by simp
        simp [this]
theorem cut_none {l : List UInt8} (h : cutE l = none) : Lib.cut l [61] = (l, [], false) := by
  unfold Lib.cut; rw [index_none h]; try rfl
theorem cut_some {l a b : List UInt8} (h : cutE l = some (a, b)) : Lib.cut l [61] = (a, b, true) := by
  unfold Lib.cut; rw [index_some h, if_pos (by omega)]
  have e := (cutE_eq h).1
  rw [e]; simp
theorem cutNone_any (s : ByteArray) (m : Int) (w : World) (hs : s.size ≤ 1000000) (hm : w.cell? ⟨0, 0, none⟩ = some (.int .i64 m)) (h : cutE s.data.toList = none) :
    Calls Tryd.prog 74 #[.string s, .string ⟨#[61]⟩] w fun e w' => e = .returned (.tuple #[.string s, .string (strB []), .bool false]) ∧ ∃ n, w' = w.drewN n := by
  refine (Tryd.strings_Cut s ⟨#[61]⟩ m w (by omega) hm).mono ?_
  rintro e w' ⟨he, hn⟩
  rw [cut_none h] at he
  have es : strB s.data.toList = s := strB_of s
  refine ⟨?_, hn⟩
  rw [he]
  show Ending.returned (.tuple #[.string (strB s.data.toList), .string (strB []), .bool false]) = _
  rw [es]
theorem cutSome_any (s : ByteArray) (m : Int) (w : World) (hs : s.size ≤ 1000000) (hm : w.cell? ⟨0, 0, none⟩ = some (.int .i64 m)) {a b : List UInt8} (h : cutE s.data.toList = some (a, b)) :
    Calls Tryd.prog 74 #[.string s, .string ⟨#[61]⟩] w fun e w' => e = .returned (.tuple #[.string (strB a), .string (strB b), .bool true]) ∧ ∃ n, w' = w.drewN n := by
  refine (Tryd.strings_Cut s ⟨#[61]⟩ m w (by omega) hm).mono ?_
  rintro e w' ⟨he, hn⟩
  rw [cut_some h] at he
  exact ⟨he, hn⟩

def paramO (l : List UInt8) : Option (List UInt8 × List UInt8) :=
  match cutE l with
  | none => none
  | some (n, v) => if tokS n = true then (if tokS v = true then some (lowS n, v) else (unqO v).map fun t => (lowS n, t)) else none
theorem cutE_len {l a b : List UInt8} (h : cutE l = some (a, b)) : a.length + b.length + 1 = l.length := by
  have := (cutE_eq h).1; rw [this]; simp; omega
end Go.Proofs.YtjcekkgoohkomaaDoor
