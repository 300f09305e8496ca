/- What the reference's functions return: hex, bad, Done, Forbidden. -/
import Derived.Test.YtikkaakgehaenaaDoorKRefS
import Derived.Test.YtikkaakgehaenaaDoorKStep
import Derived.Test.YtikkaakgehaenaaDoorFOwn
namespace Go.Proofs.YtikkaakgehaenaaDoor
open Go.RowKit

/-- A state of the reference as a value; fv: its fields. -/
abbrev stV (r : Rs) (fv : Value) : Value := .agg #[.int .i64 (r.p : Int), .int .i64 (r.d : Int), .int .i64 (r.n : Int), .int .i64 (r.ln : Int), .int .i64 (r.tt : Int), .int .i64 (r.lf : Int), .int .i64 (r.se : Int), .string (strB r.tx), fv, .int .i64 (r.bad : Int)]
/-- What a hexadecimal digit is worth; -1 if it is none. -/
def hexZ (c : UInt8) : Int := match hexV c with | some v => (v : Int) | none => -1
set_option maxHeartbeats 1000000 in
set_option maxRecDepth 100000 in
theorem refHex_any (c : UInt8) (w : World) :
    Calls Tryd.prog 87 #[.int .u8 (c.toNat : Int)] w fun e w' => e = .returned (.int .i64 (hexZ c)) ∧ w = w' := by
  by_cases h1 : 48 ≤ c.toNat ∧ c.toNat ≤ 57
  · have e1 : hexZ c = (c.toNat : Int) - 48 := by unfold hexZ hexV; rw [if_pos h1]; simp only; omega
    rw [e1]
    obtain ⟨h1, h2⟩ := h1
    clear e1
    go_enter Tryd.func87, Tryd.ntmps87
    go_wp2_with fail
    go_ret
    exact ⟨rfl, rfl⟩
  · by_cases h2 : 97 ≤ c.toNat ∧ c.toNat ≤ 102
    · have e1 : hexZ c = (c.toNat : Int) - 97 + 10 := by unfold hexZ hexV; rw [if_neg h1, if_pos h2]; simp only; omega
      rw [e1]
      obtain ⟨h3, h4⟩ := h2
      have h5 : ¬ (c.toNat : Int) ≤ 57 := by omega
      clear e1 h1
      go_enter Tryd.func87, Tryd.ntmps87
      go_wp2_with fail
      go_ret
      exact ⟨rfl, rfl⟩
    · by_cases h3 : 65 ≤ c.toNat ∧ c.toNat ≤ 70
      · have e1 : hexZ c = (c.toNat : Int) - 65 + 10 := by unfold hexZ hexV; rw [if_neg h1, if_neg h2, if_pos h3]; simp only; omega
        rw [e1]
        obtain ⟨h4, h5⟩ := h3
        have h6 : ¬ (c.toNat : Int) ≤ 57 := by omega
        have h7 : ¬ (97 : Int) ≤ (c.toNat : Int) := by omega
        clear e1 h1 h2
        go_enter Tryd.func87, Tryd.ntmps87
        go_wp2_with fail
        go_ret
        exact ⟨rfl, rfl⟩
      · have e1 : hexZ c = -1 := by unfold hexZ hexV; rw [if_neg h1, if_neg h2, if_neg h3]
        rw [e1]
        clear e1
        go_enter Tryd.func87, Tryd.ntmps87
        go_wp2_with fail
        all_goals first
          | (exfalso; omega)
          | (go_ret; exact ⟨rfl, rfl⟩)
set_option maxHeartbeats 4000000 in
set_option maxRecDepth 100000 in
theorem badK_any (r : Rs) (fa : Option Addr) (fn fc : Nat) (n : Nat) (w : World) :
    Calls Tryd.prog 69 #[stV r (.slice fa fn fc), .int .i64 (n : Int)] w fun e w' => e = .returned (stV (badR r n) (.slice fa fn fc)) ∧ Below w.heap.size w w' := by
  go_enter Tryd.func69, Tryd.ntmps69
  go_wp2_with fail
  refine bodyPost_ret (v := stV (badR r n) (.slice fa fn fc)) (by simp [results, Tryd.results69, go_sem, badR]) rfl ?_
  exact ⟨rfl, ((Below.refl _ _).alloc (Nat.le_refl _) _).alloc (by simp) _⟩
set_option maxHeartbeats 1000000 in
set_option maxRecDepth 100000 in
theorem refDone_any (r : Rs) (fa : Option Addr) (fn fc : Nat) (w : World) :
    Calls Tryd.prog 24 #[stV r (.slice fa fn fc)] w fun e w' => e = .returned (.bool (decide (r.p = 8))) ∧ Below w.heap.size w w' := by
  by_cases h : r.p = 8
  · rw [decide_eq_true h]
    have hq : ((r.p : Int) == 8) = true := by simp [h] <;> rfl
    clear h
    go_enter Tryd.func24, Tryd.ntmps24
    go_wp2_with fail
    go_ret
    exact ⟨rfl, below_new _ _⟩
  · rw [decide_eq_false h]
    have hq : ((r.p : Int) == 8) = false := by rw [beq_eq_false_iff_ne]; omega
    clear h
    go_enter Tryd.func24, Tryd.ntmps24
    go_wp2_with fail
    go_ret
    exact ⟨rfl, below_new _ _⟩
theorem hexZ_some {c : UInt8} {v : Nat} (h : hexV c = some v) : hexZ c = (v : Int) := by unfold hexZ; rw [h]
theorem hexZ_none {c : UInt8} (h : hexV c = none) : hexZ c = -1 := by unfold hexZ; rw [h]
theorem intK_eq {a b : Nat} (h : a = b) : ((a : Int) == (b : Int)) = true := by rw [h]; exact beq_self_eq_true _
theorem intK_ne {a b : Nat} (h : a ≠ b) : ((a : Int) == (b : Int)) = false := by rw [beq_eq_false_iff_ne]; omega
theorem below_ten {w w1 : World} (h : Below w.heap.size w w1) (a0 a1 a2 a3 a4 a5 a6 a7 a8 a9 : Value) : Below w.heap.size w ((((((((((w1.setCell ⟨w.heap.size + 1, 0, none⟩ a0).setCell ⟨w.heap.size + 1, 1, none⟩ a1).setCell ⟨w.heap.size + 1, 2, none⟩ a2).setCell ⟨w.heap.size + 1, 3, none⟩ a3).setCell ⟨w.heap.size + 1, 4, none⟩ a4).setCell ⟨w.heap.size + 1, 5, none⟩ a5).setCell ⟨w.heap.size + 1, 6, none⟩ a6).setCell ⟨w.heap.size + 1, 7, none⟩ a7).setCell ⟨w.heap.size + 1, 8, none⟩ a8).setCell ⟨w.heap.size + 1, 9, none⟩ a9) :=
  ((((((((((h.setCell (p := ⟨w.heap.size + 1, 0, none⟩) (by simp) a0).setCell (p := ⟨w.heap.size + 1, 1, none⟩) (by simp) a1).setCell (p := ⟨w.heap.size + 1, 2, none⟩) (by simp) a2).setCell (p := ⟨w.heap.size + 1, 3, none⟩) (by simp) a3).setCell (p := ⟨w.heap.size + 1, 4, none⟩) (by simp) a4).setCell (p := ⟨w.heap.size + 1, 5, none⟩) (by simp) a5).setCell (p := ⟨w.heap.size + 1, 6, none⟩) (by simp) a6).setCell (p := ⟨w.heap.size + 1, 7, none⟩) (by simp) a7).setCell (p := ⟨w.heap.size + 1, 8, none⟩) (by simp) a8).setCell (p := ⟨w.heap.size + 1, 9, none⟩) (by simp) a9)
/-- A new state of the reference is as it was behind a call that leaves what was there. -/
theorem ten_kept (w : World) {o : Obj} {t : TypeId} {w1 : World} (h : Below ((w.alloc o).alloc (.cells #[.int .i64 0, .int .i64 0, .int .i64 0, .int .i64 0, .int .i64 0, .int .i64 0, .int .i64 0, .string ⟨#[]⟩, .slice none 0 0, .int .i64 0] t)).heap.size ((w.alloc o).alloc (.cells #[.int .i64 0, .int .i64 0, .int .i64 0, .int .i64 0, .int .i64 0, .int .i64 0, .int .i64 0, .string ⟨#[]⟩, .slice none 0 0, .int .i64 0] t)) w1) :
    w1.cell? ⟨w.heap.size + 1, 0, none⟩ = some (.int .i64 0) ∧ w1.frozen? ⟨w.heap.size + 1, 0, none⟩ = false ∧ w1.cell? ⟨w.heap.size + 1, 1, none⟩ = some (.int .i64 0) ∧ w1.frozen? ⟨w.heap.size + 1, 1, none⟩ = false ∧ w1.cell? ⟨w.heap.size + 1, 2, none⟩ = some (.int .i64 0) ∧ w1.frozen? ⟨w.heap.size + 1, 2, none⟩ = false ∧ w1.cell? ⟨w.heap.size + 1, 3, none⟩ = some (.int .i64 0) ∧ w1.frozen? ⟨w.heap.size + 1, 3, none⟩ = false ∧ w1.cell? ⟨w.heap.size + 1, 4, none⟩ = some (.int .i64 0) ∧ w1.frozen? ⟨w.heap.size + 1, 4, none⟩ = false ∧ w1.cell? ⟨w.heap.size + 1, 5, none⟩ = some (.int .i64 0) ∧ w1.frozen? ⟨w.heap.size + 1, 5, none⟩ = false ∧ w1.cell? ⟨w.heap.size + 1, 6, none⟩ = some (.int .i64 0) ∧ w1.frozen? ⟨w.heap.size + 1, 6, none⟩ = false ∧ w1.cell? ⟨w.heap.size + 1, 7, none⟩ = some (.string ⟨#[]⟩) ∧ w1.frozen? ⟨w.heap.size + 1, 7, none⟩ = false ∧ w1.cell? ⟨w.heap.size + 1, 8, none⟩ = some (.slice none 0 0) ∧ w1.frozen? ⟨w.heap.size + 1, 8, none⟩ = false ∧ w1.cell? ⟨w.heap.size + 1, 9, none⟩ = some (.int .i64 0) ∧ w1.frozen? ⟨w.heap.size + 1, 9, none⟩ = false := by
  have hs : w.heap.size + 1 < ((w.alloc o).alloc (.cells #[.int .i64 0, .int .i64 0, .int .i64 0, .int .i64 0, .int .i64 0, .int .i64 0, .int .i64 0, .string ⟨#[]⟩, .slice none 0 0, .int .i64 0] t)).heap.size := by simp
  have hc : ∀ j, ((w.alloc o).alloc (.cells #[.int .i64 0, .int .i64 0, .int .i64 0, .int .i64 0, .int .i64 0, .int .i64 0, .int .i64 0, .string ⟨#[]⟩, .slice none 0 0, .int .i64 0] t)).cell? ⟨w.heap.size + 1, j, none⟩ = (#[.int .i64 0, .int .i64 0, .int .i64 0, .int .i64 0, .int .i64 0, .int .i64 0, .int .i64 0, .string ⟨#[]⟩, .slice none 0 0, .int .i64 0] : Array Value)[j]? := fun j => by rw [World.cell?_alloc_at _ _ _ _ (by simp)]
  have hf : ∀ j, ((w.alloc o).alloc (.cells #[.int .i64 0, .int .i64 0, .int .i64 0, .int .i64 0, .int .i64 0, .int .i64 0, .int .i64 0, .string ⟨#[]⟩, .slice none 0 0, .int .i64 0] t)).frozen? ⟨w.heap.size + 1, j, none⟩ = false := fun j => World.frozen?_alloc_at _ _ _ _ (by simp)
  have key : ∀ j, w1.cell? ⟨w.heap.size + 1, j, none⟩ = (#[.int .i64 0, .int .i64 0, .int .i64 0, .int .i64 0, .int .i64 0, .int .i64 0, .int .i64 0, .string ⟨#[]⟩, .slice none 0 0, .int .i64 0] : Array Value)[j]? ∧ w1.frozen? ⟨w.heap.size + 1, j, none⟩ = false := fun j => ⟨(h.cell (p := ⟨w.heap.size + 1, j, none⟩) hs).trans (hc j), (h.frozen (p := ⟨w.heap.size + 1, j, none⟩) hs).trans (hf j)⟩
  exact ⟨(key 0).1, (key 0).2, (key 1).1, (key 1).2, (key 2).1, (key 2).2, (key 3).1, (key 3).2, (key 4).1, (key 4).2, (key 5).1, (key 5).2, (key 6).1, (key 6).2, (key 7).1, (key 7).2, (key 8).1, (key 8).2, (key 9).1, (key 9).2⟩
set_option maxHeartbeats 8000000 in
set_option maxRecDepth 100000 in
theorem sized_any (r : Rs) (fa : Option Addr) (fn fc : Nat) (c : UInt8) (w : World) (h : RsOk r) :
    Calls Tryd.prog 68 #[stV r (.slice fa fn fc), .int .u8 (c.toNat : Int)] w fun e w' => e = .returned (stV (sizedR r c) (.slice fa fn fc)) ∧ Below w.heap.size w w' := by
  have b2 := h.d
  have b3 := h.n
  have b4 := h.ln
  have b5 := h.tt
  clear h
  have BAD := fun r n W => badK_any r fa fn fc n W
  by_cases q1 : c.toNat = 13 ∧ 0 < r.d
  · have e1 : sizedR r c = { r with p := 2 } := by unfold sizedR; rw [if_pos q1]
    rw [e1]
    have z1 : ((c.toNat : Int) == 13) = true := by rw [q1.1]; rfl
    have z2 : (0 : Int) < (r.d : Int) := by omega
    clear e1 q1
    go_enter Tryd.func68, Tryd.ntmps68
    go_wp2_with fail
    refine (refHex_any c _).mono ?_
    rintro e w' ⟨rfl, rfl⟩
    go_wp2_with fail
    refine bodyPost_ret (v := stV { r with p := 2 } (.slice fa fn fc)) (by simp [results, Tryd.results68, go_sem]) rfl ?_
    exact ⟨rfl, ((Below.refl _ _).alloc (Nat.le_refl _) _).alloc (by simp) _⟩
  · have Z : (((c.toNat : Int) == 13) = false) ∨ (((c.toNat : Int) == 13) = true ∧ ¬ (0 : Int) < (r.d : Int)) := by
      by_cases h : c.toNat = 13
      · exact .inr ⟨by rw [h]; rfl, fun hd => q1 ⟨h, by omega⟩⟩
      · exact .inl (intK_ne (b := 13) h)
    unfold sizedR
    rw [if_neg q1]
    by_cases q2 : r.ln = 256
    · rw [if_pos q2]
      have z3 : ((r.ln : Int) == 256) = true := intK_eq (b := 256) q2
      clear q1 q2
      rcases Z with z1 | ⟨z1, z2⟩
      all_goals
        go_enter Tryd.func68, Tryd.ntmps68
        go_wp2_with fail
        refine (refHex_any c _).mono ?_
        rintro e w' ⟨rfl, rfl⟩
        go_wp2_with fail
        refine (BAD r 33 _).mono ?_
        rintro e w1 ⟨rfl, hB1⟩
        obtain ⟨c0, f0, c1, f1, c2, f2, c3, f3, c4, f4, c5, f5, c6, f6, c7, f7, c8, f8, c9, f9⟩ := ten_kept w hB1
        have hBB := (((Below.refl _ w).alloc (Nat.le_refl _) _).alloc (by simp) _).trans (hB1.mono (by simp; omega))
        go_wp2_with fail
        refine bodyPost_ret (v := stV (badR r 33) (.slice fa fn fc)) (by simp [results, Tryd.results68, go_sem, badR, c0, c1, c2, c3, c4, c5, c6, c7, c8, c9]) rfl ?_
        exact ⟨rfl, below_ten hBB _ _ _ _ _ _ _ _ _ _⟩
    · rw [if_neg q2]
      have z3 : ((r.ln : Int) == 256) = false := intK_ne (b := 256) q2
      by_cases q3 : r.p = 1
      · rw [if_pos q3]
        have z4 : ((r.p : Int) == 1) = true := intK_eq (b := 1) q3
        by_cases q4 : ctlB c = true
        · rw [if_pos q4]
          have hc : (c.toNat < 32 ∧ c.toNat ≠ 9) ∨ (¬ (c.toNat < 32 ∧ c.toNat ≠ 9) ∧ c.toNat = 127) := by
            simp [ctlB] at q4; omega
          clear q1 q2 q3 q4
          rcases Z with z1 | ⟨z1, z2⟩
          all_goals
            rcases hc with ⟨y1, y2⟩ | ⟨y1, y2⟩
            · have y3 : ((c.toNat : Int) == 9) = false := intK_ne (b := 9) y2
              have y4 : ((c.toNat : Int) != 9) = true := by simp only [bne, y3]; rfl
              clear y2
              go_enter Tryd.func68, Tryd.ntmps68
              go_wp2_with fail
              refine (refHex_any c _).mono ?_
              rintro e w' ⟨rfl, rfl⟩
              go_wp2_with fail
              refine (BAD r 33 _).mono ?_
              rintro e w1 ⟨rfl, hB1⟩
              obtain ⟨c0, f0, c1, f1, c2, f2, c3, f3, c4, f4, c5, f5, c6, f6, c7, f7, c8, f8, c9, f9⟩ := ten_kept w hB1
              have hBB := (((Below.refl _ w).alloc (Nat.le_refl _) _).alloc (by simp) _).trans (hB1.mono (by simp; omega))
              go_wp2_with fail
              refine bodyPost_ret (v := stV (badR r 33) (.slice fa fn fc)) (by simp [results, Tryd.results68, go_sem, badR, c0, c1, c2, c3, c4, c5, c6, c7, c8, c9]) rfl ?_
              exact ⟨rfl, below_ten hBB _ _ _ _ _ _ _ _ _ _⟩
            · have y3 : ¬ (c.toNat : Int) < 32 := by omega
              have y4 : ((c.toNat : Int) == 127) = true := intK_eq (b := 127) y2
              clear y1 y2
              go_enter Tryd.func68, Tryd.ntmps68
              go_wp2_with fail
              refine (refHex_any c _).mono ?_
              rintro e w' ⟨rfl, rfl⟩
              go_wp2_with fail
              refine (BAD r 33 _).mono ?_
              rintro e w1 ⟨rfl, hB1⟩
              obtain ⟨c0, f0, c1, f1, c2, f2, c3, f3, c4, f4, c5, f5, c6, f6, c7, f7, c8, f8, c9, f9⟩ := ten_kept w hB1
              have hBB := (((Below.refl _ w).alloc (Nat.le_refl _) _).alloc (by simp) _).trans (hB1.mono (by simp; omega))
              go_wp2_with fail
              refine bodyPost_ret (v := stV (badR r 33) (.slice fa fn fc)) (by simp [results, Tryd.results68, go_sem, badR, c0, c1, c2, c3, c4, c5, c6, c7, c8, c9]) rfl ?_
              exact ⟨rfl, below_ten hBB _ _ _ _ _ _ _ _ _ _⟩
        · rw [if_neg q4]
          have hc : ((c.toNat : Int) == 127) = false ∧ ((32 : Int) ≤ (c.toNat : Int) ∨ (c.toNat = 9)) := by
            refine ⟨intK_ne (b := 127) ?_, ?_⟩ <;> (simp [ctlB] at q4; omega)
          obtain ⟨y1, y2⟩ := hc
          clear q1 q2 q3 q4
          rcases Z with z1 | ⟨z1, z2⟩
          all_goals
            rcases y2 with y2 | y2
            · have y3 : ¬ (c.toNat : Int) < 32 := by omega
              go_enter Tryd.func68, Tryd.ntmps68
              go_wp2_with fail
              refine (refHex_any c _).mono ?_
              rintro e w' ⟨rfl, rfl⟩
              go_wp2_with fail
              refine bodyPost_ret (v := stV { r with ln := r.ln + 1 } (.slice fa fn fc)) (by simp [results, Tryd.results68, go_sem]) rfl ?_
              exact ⟨rfl, ((Below.refl _ _).alloc (Nat.le_refl _) _).alloc (by simp) _⟩
            · have y3 : ((c.toNat : Int) != 9) = false := by rw [y2]; rfl
              have y4 : (c.toNat : Int) < 32 := by omega
              clear y2
              go_enter Tryd.func68, Tryd.ntmps68
              go_wp2_with fail
              refine (refHex_any c _).mono ?_
              rintro e w' ⟨rfl, rfl⟩
              go_wp2_with fail
              refine bodyPost_ret (v := stV { r with ln := r.ln + 1 } (.slice fa fn fc)) (by simp [results, Tryd.results68, go_sem]) rfl ?_
              exact ⟨rfl, ((Below.refl _ _).alloc (Nat.le_refl _) _).alloc (by simp) _⟩
      · rw [if_neg q3]
        have z4 : ((r.p : Int) == 1) = false := intK_ne (b := 1) q3
        by_cases q5 : c.toNat = 59 ∧ 0 < r.d
        · rw [if_pos q5]
          have z5 : ((c.toNat : Int) == 59) = true := intK_eq (b := 59) q5.1
          have z6 : (0 : Int) < (r.d : Int) := by omega
          have z7 : ((c.toNat : Int) == 13) = false := intK_ne (b := 13) (by omega)
          clear q1 q2 q3 q5 Z
          go_enter Tryd.func68, Tryd.ntmps68
          go_wp2_with fail
          refine (refHex_any c _).mono ?_
          rintro e w' ⟨rfl, rfl⟩
          go_wp2_with fail
          refine bodyPost_ret (v := stV { r with p := 1, ln := r.ln + 1 } (.slice fa fn fc)) (by simp [results, Tryd.results68, go_sem]) rfl ?_
          exact ⟨rfl, ((Below.refl _ _).alloc (Nat.le_refl _) _).alloc (by simp) _⟩
        · rw [if_neg q5]
          have Z5 : (((c.toNat : Int) == 59) = false) ∨ (((c.toNat : Int) == 59) = true ∧ ¬ (0 : Int) < (r.d : Int)) := by
            by_cases h : c.toNat = 59
            · exact .inr ⟨by rw [h]; rfl, fun hd => q5 ⟨h, by omega⟩⟩
            · exact .inl (intK_ne (b := 59) h)
          cases hv : hexV c with
          | none =>
            simp only
            have hz := hexZ_none hv
            have HZ := Lib.hid hz
            clear q1 q2 q3 q5 hv hz
            rcases Z with z1 | ⟨z1, z2⟩
            all_goals
              rcases Z5 with y1 | ⟨y1, y2⟩
              all_goals
                go_enter Tryd.func68, Tryd.ntmps68
                go_wp2_with fail
                refine (refHex_any c _).mono ?_
                rintro e w' ⟨rfl, rfl⟩
                rw [HZ.out]
                go_wp2_with fail
                refine (BAD r 33 _).mono ?_
                rintro e w1 ⟨rfl, hB1⟩
                obtain ⟨c0, f0, c1, f1, c2, f2, c3, f3, c4, f4, c5, f5, c6, f6, c7, f7, c8, f8, c9, f9⟩ := ten_kept w hB1
                have hBB := (((Below.refl _ w).alloc (Nat.le_refl _) _).alloc (by simp) _).trans (hB1.mono (by simp; omega))
                go_wp2_with fail
                refine bodyPost_ret (v := stV (badR r 33) (.slice fa fn fc)) (by simp [results, Tryd.results68, go_sem, badR, c0, c1, c2, c3, c4, c5, c6, c7, c8, c9]) rfl ?_
                exact ⟨rfl, below_ten hBB _ _ _ _ _ _ _ _ _ _⟩
          | some v =>
            simp only
            obtain ⟨n1, n2⟩ := hex_not hv
            have hvl := hexV_lt hv
            have HZ := Lib.hid (hexZ_some hv)
            have z1 : ((c.toNat : Int) == 13) = false := intK_ne (b := 13) n1
            have y1 : ((c.toNat : Int) == 59) = false := intK_ne (b := 59) n2
            clear q1 q2 q3 q5 hv n1 n2 Z Z5
            by_cases q6 : r.d = 8
            · rw [if_pos q6]
              have z8 : ((r.d : Int) == 8) = true := intK_eq (b := 8) q6
              clear q6
              go_enter Tryd.func68, Tryd.ntmps68
              go_wp2_with fail
              refine (refHex_any c _).mono ?_
              rintro e w' ⟨rfl, rfl⟩
              rw [HZ.out]
              go_wp2_with fail
              refine (BAD r 33 _).mono ?_
              rintro e w1 ⟨rfl, hB1⟩
              obtain ⟨c0, f0, c1, f1, c2, f2, c3, f3, c4, f4, c5, f5, c6, f6, c7, f7, c8, f8, c9, f9⟩ := ten_kept w hB1
              have hBB := (((Below.refl _ w).alloc (Nat.le_refl _) _).alloc (by simp) _).trans (hB1.mono (by simp; omega))
              go_wp2_with fail
              refine bodyPost_ret (v := stV (badR r 33) (.slice fa fn fc)) (by simp [results, Tryd.results68, go_sem, badR, c0, c1, c2, c3, c4, c5, c6, c7, c8, c9]) rfl ?_
              exact ⟨rfl, below_ten hBB _ _ _ _ _ _ _ _ _ _⟩
            · rw [if_neg q6]
              have z8 : ((r.d : Int) == 8) = false := intK_ne (b := 8) q6
              clear q6
              by_cases q7 : 65536 < r.tt + (16 * r.n + v)
              · rw [if_pos q7]
                have z9 : (65536 : Int) < (r.tt : Int) + (16 * (r.n : Int) + (v : Int)) := by omega
                have BAD2 := fun W => badK_any { r with d := r.d + 1, n := 16 * r.n + v } fa fn fc 5 W
                unfold stV at BAD2
                simp only [Int.natCast_add, Int.natCast_mul] at BAD2
                clear q7
                go_enter Tryd.func68, Tryd.ntmps68
                go_wp2_with fail
                refine (refHex_any c _).mono ?_
                rintro e w' ⟨rfl, rfl⟩
                rw [HZ.out]
                go_wp2_with fail
                refine (BAD2 _).mono ?_
                rintro e w1 ⟨rfl, hB1⟩
                obtain ⟨c0, f0, c1, f1, c2, f2, c3, f3, c4, f4, c5, f5, c6, f6, c7, f7, c8, f8, c9, f9⟩ := ten_kept w hB1
                have hBB := (((Below.refl _ w).alloc (Nat.le_refl _) _).alloc (by simp) _).trans (hB1.mono (by simp; omega))
                go_wp2_with fail
                refine bodyPost_ret (v := stV { r with d := r.d + 1, n := 16 * r.n + v, bad := 5 } (.slice fa fn fc)) (by simp [results, Tryd.results68, go_sem, badR, c0, c1, c2, c3, c4, c5, c6, c7, c8, c9]) rfl ?_
                exact ⟨rfl, below_ten hBB _ _ _ _ _ _ _ _ _ _⟩
              · rw [if_neg q7]
                have z9 : ¬ (65536 : Int) < (r.tt : Int) + (16 * (r.n : Int) + (v : Int)) := by omega
                clear q7
                go_enter Tryd.func68, Tryd.ntmps68
                go_wp2_with fail
                refine (refHex_any c _).mono ?_
                rintro e w' ⟨rfl, rfl⟩
                rw [HZ.out]
                go_wp2_with fail
                refine bodyPost_ret (v := stV { r with d := r.d + 1, n := 16 * r.n + v, ln := r.ln + 1 } (.slice fa fn fc)) (by simp [results, Tryd.results68, go_sem]) rfl ?_
                exact ⟨rfl, ((Below.refl _ _).alloc (Nat.le_refl _) _).alloc (by simp) _⟩
end Go.Proofs.YtikkaakgehaenaaDoor
