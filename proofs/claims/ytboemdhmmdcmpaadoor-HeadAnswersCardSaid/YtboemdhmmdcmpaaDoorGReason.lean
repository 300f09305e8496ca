/- What the program's Reason, isStatus, checkSize and canonicalFields return. -/
import Derived.Test.YtboemdhmmdcmpaaDoorGWith
import Derived.Test.YtboemdhmmdcmpaaDoorFSize
import Derived.Test.YtboemdhmmdcmpaaDoorFOwn
import Derived.Test.YtboemdhmmdcmpaaDoorFName
namespace Go.Proofs.YtboemdhmmdcmpaaDoor
open Go.RowKit

def phZ (l : List (Nat × List UInt8)) (z : Int) : List UInt8 := ((l.find? fun p => decide ((p.1 : Int) = z)).map (·.2)).getD []
theorem phZ_nat (l : List (Nat × List UInt8)) (n : Nat) : phZ l (n : Int) = ((l.find? fun p => decide (p.1 = n)).map (·.2)).getD [] := by
  unfold phZ
  have : (fun p : Nat × List UInt8 => decide ((p.1 : Int) = (n : Int))) = fun p => decide (p.1 = n) := by
    funext p; rw [decide_eq_decide]; omega
  rw [this]
theorem phZ_skip {k : Nat} {t : List UInt8} {l : List (Nat × List UInt8)} {z : Int} (h : ¬ z = (k : Int)) : phZ ((k, t) :: l) z = phZ l z := by
  unfold phZ; rw [List.find?_cons_of_neg (by simp; omega)]
theorem phZ_hit {k : Nat} {t : List UInt8} {l : List (Nat × List UInt8)} {z : Int} (h : z = (k : Int)) : phZ ((k, t) :: l) z = t := by
  unfold phZ; rw [List.find?_cons_of_pos (by simp; omega)]; rfl
def reasonZ (z : Int) : List UInt8 := phZ phrases z
theorem reasonZ_nat (n : Nat) : reasonZ (n : Int) = reasonL n := by unfold reasonZ; rw [phZ_nat]; rfl
theorem reasonZ_neg {z : Int} (h : z < 100 ∨ 599 < z) : reasonZ z = [] := by
  unfold reasonZ phZ
  have : phrases.find? (fun p => decide ((p.1 : Int) = z)) = none := by
    rw [List.find?_eq_none]
    intro p hp
    have hb : (phrases.all fun p => decide (100 ≤ p.1) && decide (p.1 ≤ 599)) = true := by decide +kernel
    have := List.all_eq_true.1 hb p hp
    simp at this
    simp; omega
  rw [this]; rfl
theorem reason_len_tab : (phrases.all fun p => decide (p.2.length ≤ 31)) = true := by decide +kernel
theorem reasonZ_len (z : Int) : (reasonZ z).length ≤ 31 := by
  unfold reasonZ phZ
  cases h : phrases.find? fun p => decide ((p.1 : Int) = z) with
  | none => simp
  | some p =>
    have := List.all_eq_true.1 reason_len_tab p (List.mem_of_find?_eq_some h)
    simpa using this
theorem str_lit {l : List UInt8} (s : ByteArray) (h : s = strB l) : Ending.returned (.string s) = .returned (.string (strB l)) := by rw [h]
set_option maxHeartbeats 8000000 in
set_option maxRecDepth 100000 in
theorem errorReason_any (z : Int) (w : World) :
    Calls Tryd.prog 39 #[.int .i64 z] w fun e w' => e = .returned (.string (strB (phZ (phrases.drop 15) z))) ∧ w = w' := by
  go_enter Tryd.func39, Tryd.ntmps39
  go_wp2
  all_goals
    go_ret
    refine ⟨str_lit _ ?_, rfl⟩
    unfold phrases
    simp only [List.drop_succ_cons, List.drop_zero]
    simp only [beq_iff_eq, beq_eq_false_iff_ne, ne_eq] at *
    repeat (first | (rw [phZ_hit (by omega)]; rfl) | rw [phZ_skip (by omega)])
    try rfl
set_option maxHeartbeats 8000000 in
set_option maxRecDepth 100000 in
theorem reason_any (z : Int) (w : World) :
    Calls Tryd.prog 14 #[.int .i64 z] w fun e w' => e = .returned (.string (strB (reasonZ z))) ∧ w = w' := by
  go_enter Tryd.func14, Tryd.ntmps14
  go_wp2_with (go_at_call 39; refine (errorReason_any _ _).mono ?_; rintro e w' ⟨rfl, rfl⟩)
  all_goals
    go_ret
    refine ⟨str_lit _ ?_, rfl⟩
    simp only [beq_iff_eq, beq_eq_false_iff_ne, ne_eq] at *
    unfold reasonZ
    first
    | (unfold phrases
       repeat (first | (rw [phZ_hit (by omega)]; rfl) | rw [phZ_skip (by omega)])
       done)
    | (congr 1
       unfold phrases
       simp only [List.drop_succ_cons, List.drop_zero]
       symm
       iterate 15 (rw [phZ_skip (by omega)]))
def stB (z : Int) : Bool := decide (100 ≤ z) && decide (z ≤ 599)
set_option maxHeartbeats 400000 in
theorem isStatus_any (z : Int) (w : World) :
    Calls Tryd.prog 33 #[.int .i64 z] w fun e w' => e = .returned (.bool (stB z)) ∧ w = w' := by
  go_enter Tryd.func33, Tryd.ntmps33
  by_cases h : 100 ≤ z
  all_goals
    go_wp2
    go_ret
    refine ⟨ret_bool ?_, rfl⟩
    rw [Bool.eq_iff_iff]
    simp [stB]
    try omega
/-- The number of the error of a head's size. -/
def sizeC (n : Nat) (fs : Fs) : Nat := if 64 < fs.length ∨ 8192 < n + 4 + sizL fs then 5 else 0
theorem sizL_le {fs : Fs} {M : Nat} (hb : ∀ p ∈ fs, p.1.length + p.2.length ≤ M) : sizL fs ≤ fs.length * (M + 4) := by
  induction fs with
  | nil => simp [sizL]
  | cons p r ih =>
    have h1 := hb p (by simp)
    have h2 := ih fun q hq => hb q (by simp [hq])
    have e : sizL (p :: r) = p.1.length + p.2.length + 4 + sizL r := rfl
    rw [e, List.length_cons, Nat.succ_mul]; omega
set_option maxHeartbeats 1000000 in
set_option maxRecDepth 100000 in
theorem checkSize_any (n : Nat) (fv : Value) (fs : Fs) (w : World) (hr : ReadsQ w fv fs) (hn : n ≤ 1000000000) (hl : fs.length ≤ 1000) (hb : ∀ p ∈ fs, p.1.length + p.2.length ≤ 1000000) :
    Calls Tryd.prog 32 #[.int .i64 (n : Int), fv] w fun e w' => e = .returned (errV (sizeC n fs)) ∧ Below w.heap.size w w' := by
  have S := size_any fv fs w hr hl hb
  have hsl : sizL fs ≤ 2000000000 := by
    have := sizL_le hb
    have h2 : fs.length * (1000000 + 4) ≤ 1000 * (1000000 + 4) := Nat.mul_le_mul_right _ hl
    omega
  have HB := Lib.hid hb
  obtain ⟨ao, cap, rfl, hc⟩ := hr
  clear hc hb
  by_cases h1 : 64 < fs.length
  · have HE := Lib.hid (show sizeC n fs = 5 by unfold sizeC; rw [if_pos (.inl h1)])
    go_enter Tryd.func32, Tryd.ntmps32
    go_wp2_with fail
    go_ret
    exact ⟨by rw [HE.out]; rfl, Below.refl _ _⟩
  · have h1' : fs.length ≤ 64 := by omega
    by_cases h2 : 8192 < n + 4 + sizL fs
    · have HE := Lib.hid (show sizeC n fs = 5 by unfold sizeC; rw [if_pos (.inr h2)])
      generalize sizL fs = z at *
      go_enter Tryd.func32, Tryd.ntmps32
      go_wp2_with fail
      refine S.mono ?_
      rintro e w1 ⟨rfl, hB⟩
      go_wp2_with fail
      all_goals first | omega | (go_ret; exact ⟨by rw [HE.out]; rfl, hB⟩)
    · have HE := Lib.hid (show sizeC n fs = 0 by unfold sizeC; rw [if_neg (by omega)])
      generalize sizL fs = z at *
      go_enter Tryd.func32, Tryd.ntmps32
      go_wp2_with fail
      refine S.mono ?_
      rintro e w1 ⟨rfl, hB⟩
      go_wp2_with fail
      all_goals first | omega | (go_ret; exact ⟨by rw [HE.out]; rfl, hB⟩)
end Go.Proofs.YtboemdhmmdcmpaaDoor
