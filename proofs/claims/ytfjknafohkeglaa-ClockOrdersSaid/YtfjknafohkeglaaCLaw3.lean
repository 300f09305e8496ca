/- ClockContains: for every input the statement's function returns true: the walk. -/
import Derived.Test.YtfjknafohkeglaaCLaw2
namespace Go.Proofs.Ytfjknafohkeglaa
open Go.RowKit

/-- The rates of a statement: a bound for the drift, two parts of 255, two signs. -/
abbrev rtV (q p0 p1 : Int) (s0 s1 : Bool) : Value := .agg #[.int .i64 q, .int .u8 p0, .int .u8 p1, .bool s0, .bool s1]
def Five (N : Nat) (w : World) (q p0 p1 : Int) (s0 s1 : Bool) : Prop :=
  w.cell? ⟨N, 0, none⟩ = some (.int .i64 q) ∧ w.cell? ⟨N, 1, none⟩ = some (.int .u8 p0) ∧ w.cell? ⟨N, 2, none⟩ = some (.int .u8 p1) ∧ w.cell? ⟨N, 3, none⟩ = some (.bool s0) ∧ w.cell? ⟨N, 4, none⟩ = some (.bool s1) ∧ N < w.heap.size
theorem Five.below {N : Nat} {w w' : World} {q p0 p1 : Int} {s0 s1 : Bool} (h : Five N w q p0 p1 s0 s1) (hb : Below w.heap.size w w') : Five N w' q p0 p1 s0 s1 := by
  obtain ⟨h1, h2, h3, h4, h5, h6⟩ := h
  exact ⟨(hb.cell (p := ⟨N, 0, none⟩) h6).trans h1, (hb.cell (p := ⟨N, 1, none⟩) h6).trans h2, (hb.cell (p := ⟨N, 2, none⟩) h6).trans h3, (hb.cell (p := ⟨N, 3, none⟩) h6).trans h4, (hb.cell (p := ⟨N, 4, none⟩) h6).trans h5, Nat.lt_of_lt_of_le h6 hb.size⟩
theorem five_new (w : World) (q p0 p1 : Int) (s0 s1 : Bool) (T : TypeId) : Five w.heap.size (w.alloc (.cells #[.int .i64 q, .int .u8 p0, .int .u8 p1, .bool s0, .bool s1] T)) q p0 p1 s0 s1 := by
  refine ⟨?_, ?_, ?_, ?_, ?_, by simp⟩
  all_goals (rw [World.cell?_alloc_at _ _ _ _ rfl]; rfl)
theorem near_within (q part : Int) (slow : Bool) (q0 : 0 ≤ part) (q1 : part ≤ 255) :
    rateB (nearN (pm q) part slow) 1024 = true ∧ withinB (nearN (pm q) part slow) 1024 (pm q) = true := by
  have b := pm_bd q
  have nb := near_bd (pm q) part slow b.1 b.2 q0 q1
  have r : rateB (nearN (pm q) part slow) 1024 = true := by
    unfold rateB
    rw [decide_eq_true (by omega), decide_eq_true (by omega)]; rfl
  refine ⟨r, ?_⟩
  unfold withinB
  rw [r, decide_eq_true (by omega)]; rfl
theorem read_yes {o n t : Int} (ho : 0 ≤ o ∧ o ≤ 1099511627776) (hr : rateB n 1024 = true) (ht : 0 ≤ t ∧ t ≤ 1099511627776) (w : World) :
    Calls Try.prog 7 #[ckV o n 1024, .int .i64 t] w fun e w' => e = .returned (.tuple #[.int .i64 (o + t * n / 1024), .nilIface]) ∧ Below w.heap.size w w' := by
  have := read_any o n 1024 t w
  rw [readV_yes (by unfold okB; rw [decide_eq_true ho, hr, decide_eq_true ht]; rfl)] at this
  exact this
namespace clcontains
end clcontains
end Go.Proofs.Ytfjknafohkeglaa
