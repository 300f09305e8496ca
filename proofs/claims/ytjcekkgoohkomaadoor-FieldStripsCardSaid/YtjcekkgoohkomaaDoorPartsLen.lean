/- Plain mathematics: how many parts there are, and how long they are. -/
import Derived.Test.YtjcekkgoohkomaaDoorTrim
import Derived.Test.YtjcekkgoohkomaaDoorDiv
namespace Go.Proofs.YtjcekkgoohkomaaDoor
open Go.RowKit

theorem scan_ne (b : UInt8) : ∀ (l : List UInt8) (st : St) (cur : List UInt8) (ps : List (List UInt8)), scan b st cur l = some ps → ps ≠ [] := by
  intro l
  induction l with
  | nil =>
    intro st cur ps h
    cases st <;> simp [scan] at h
    rw [← h]; simp
  | cons c r ih =>
    intro st cur ps h
    cases st
    · unfold scan at h
      split at h
      · exact ih _ _ _ h
      · split at h
        · cases hr : scan b .out [] r with
          | none => rw [hr] at h; cases h
          | some qs => rw [hr] at h; simp at h; rw [← h]; simp
        · exact ih _ _ _ h
    · unfold scan at h
      split at h
      · exact ih _ _ _ h
      · split at h
        · exact ih _ _ _ h
        · exact ih _ _ _ h
    · unfold scan at h; exact ih _ _ _ h
theorem scan_len (b : UInt8) : ∀ (l : List UInt8) (st : St) (cur : List UInt8) (ps : List (List UInt8)), scan b st cur l = some ps → ∀ p ∈ ps, p.length ≤ cur.length + l.length := by
  intro l
  induction l with
  | nil =>
    intro st cur ps h p hp
    cases st <;> simp [scan] at h
    subst h; simp at hp; subst hp; simp
  | cons c r ih =>
    intro st cur ps h p hp
    cases st
    · unfold scan at h
      split at h
      · have := ih _ _ _ h p hp; simp at this ⊢; omega
      · split at h
        · cases hr : scan b .out [] r with
          | none => rw [hr] at h; cases h
          | some qs =>
            rw [hr] at h; simp at h; subst h
            rcases List.mem_cons.mp hp with e | e
            · subst e; simp
            · have := ih _ _ _ hr p e; simp at this ⊢; omega
        · have := ih _ _ _ h p hp; simp at this ⊢; omega
    · unfold scan at h
      split at h
      · have := ih _ _ _ h p hp; simp at this ⊢; omega
      · split at h
        · have := ih _ _ _ h p hp; simp at this ⊢; omega
        · have := ih _ _ _ h p hp; simp at this ⊢; omega
    · unfold scan at h; have := ih _ _ _ h p hp; simp at this ⊢; omega
theorem trimB_len (l : List UInt8) : (trimB l).length ≤ l.length := by
  rw [trimB_eq]
  have h1 : (tL l).length ≤ l.length := (List.dropWhile_sublist _).length_le
  have h2 : (tR (tL l)).length ≤ (tL l).length := by
    unfold tR; rw [List.length_reverse]
    have := (List.dropWhile_sublist (p := blank) (l := (tL l).reverse)).length_le
    simpa using this
  omega
theorem partsO_ne {b : UInt8} {l : List UInt8} {ls : List (List UInt8)} (h : partsO b l = some ls) : ls ≠ [] := by
  unfold partsO at h
  split at h
  · cases h
  · cases hs : scan b .out [] l with
    | none => rw [hs] at h; cases h
    | some ps =>
      rw [hs] at h; simp at h; subst h
      have := scan_ne b l _ _ _ hs
      simpa using this
theorem partsO_len {b : UInt8} {l : List UInt8} {ls : List (List UInt8)} (h : partsO b l = some ls) : ∀ p ∈ ls, p.length ≤ l.length := by
  unfold partsO at h
  split at h
  · cases h
  · cases hs : scan b .out [] l with
    | none => rw [hs] at h; cases h
    | some ps =>
      rw [hs] at h; simp at h; subst h
      intro p hp
      obtain ⟨q, hq, rfl⟩ := List.mem_map.mp hp
      have h1 := scan_len b l _ _ _ hs q hq
      have h2 := trimB_len q
      simp at h1; omega
end Go.Proofs.YtjcekkgoohkomaaDoor
