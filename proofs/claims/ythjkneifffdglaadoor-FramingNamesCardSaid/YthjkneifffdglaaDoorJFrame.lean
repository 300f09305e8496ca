/- The frame of the values of content-length and of transfer-encoding, step by step. -/
import Derived.Test.YthjkneifffdglaaDoorJPure
namespace Go.Proofs.YthjkneifffdglaaDoor

def lensS (ls : List (List UInt8)) : Nat × Nat × Nat := match elemsF ls with
  | some (e :: r) => match numO e with
    | none => (30, 0, 0)
    | some n => if r.all (fun x => decide (x = e)) = true then (if 65536 < n then (5, 0, 0) else (0, 2, n)) else (30, 0, 0)
  | _ => (30, 0, 0)
def codS (cs : List (List UInt8)) : Nat × Nat × Nat := match elemsF cs with
  | some [c] => if lowS c = chunkedL then (0, 3, 0) else (32, 0, 0)
  | _ => (32, 0, 0)
/-- The frame; o: the kind where there are neither lengths nor codings. -/
def ofO (o : Nat) (ls cs : List (List UInt8)) : Nat × Nat × Nat :=
  if ls ≠ [] ∧ cs ≠ [] then (31, 0, 0) else if cs ≠ [] then codS cs else if ls = [] then (0, o, 0) else lensS ls
theorem ofS_ofO (ls cs : List (List UInt8)) : ofS ls cs = ofO 1 ls cs := rfl
theorem ofO_both {o : Nat} {ls cs : List (List UInt8)} (h1 : ls ≠ []) (h2 : cs ≠ []) : ofO o ls cs = (31, 0, 0) := by unfold ofO; rw [if_pos ⟨h1, h2⟩]
theorem ofO_cod {o : Nat} {ls cs : List (List UInt8)} (h1 : ls = []) (h2 : cs ≠ []) : ofO o ls cs = codS cs := by unfold ofO; rw [if_neg (fun h => h.1 h1), if_pos h2]
theorem ofO_len {o : Nat} {ls cs : List (List UInt8)} (h1 : ls ≠ []) (h2 : cs = []) : ofO o ls cs = lensS ls := by unfold ofO; rw [if_neg (fun h => h.2 h2), if_neg (fun h => h h2), if_neg h1]
theorem ofO_none {o : Nat} {ls cs : List (List UInt8)} (h1 : ls = []) (h2 : cs = []) : ofO o ls cs = (0, o, 0) := by unfold ofO; rw [if_neg (fun h => h.2 h2), if_neg (fun h => h h2), if_pos h1]
theorem cod_none {cs : List (List UInt8)} (h : elemsF cs = none) : codS cs = (32, 0, 0) := by unfold codS; rw [h]
theorem cod_len {cs es : List (List UInt8)} (h : elemsF cs = some es) (h1 : es.length ≠ 1) : codS cs = (32, 0, 0) := by
  unfold codS; rw [h]
  match es, h1 with
  | [], _ => rfl
  | [_], h1 => exact absurd rfl h1
  | _ :: _ :: _, _ => rfl
theorem cod_yes {cs : List (List UInt8)} {c : List UInt8} (h : elemsF cs = some [c]) (h1 : lowS c = chunkedL) : codS cs = (0, 3, 0) := by unfold codS; rw [h]; simp only [if_pos h1]
theorem cod_no {cs : List (List UInt8)} {c : List UInt8} (h : elemsF cs = some [c]) (h1 : lowS c ≠ chunkedL) : codS cs = (32, 0, 0) := by unfold codS; rw [h]; simp only [if_neg h1]
theorem len_none {ls : List (List UInt8)} (h : elemsF ls = none) : lensS ls = (30, 0, 0) := by unfold lensS; rw [h]
theorem len_nil {ls : List (List UInt8)} (h : elemsF ls = some []) : lensS ls = (30, 0, 0) := by unfold lensS; rw [h]
theorem len_mix {ls r : List (List UInt8)} {e x : List UInt8} (h : elemsF ls = some (e :: r)) (hx : x ∈ e :: r) (hn : x ≠ e) : lensS ls = (30, 0, 0) := by
  unfold lensS; rw [h]
  have hr : r.all (fun x => decide (x = e)) = false := by
    rw [Bool.eq_false_iff]
    intro ha
    rcases List.mem_cons.1 hx with hx | hx
    · exact hn hx
    · exact hn (of_decide_eq_true (List.all_eq_true.1 ha x hx))
  simp only [hr]
  split <;> rfl
theorem len_nonum {ls r : List (List UInt8)} {e : List UInt8} (h : elemsF ls = some (e :: r)) (hn : numO e = none) : lensS ls = (30, 0, 0) := by unfold lensS; rw [h]; simp only [hn]
theorem len_large {ls r : List (List UInt8)} {e : List UInt8} {n : Nat} (h : elemsF ls = some (e :: r)) (ha : ∀ x ∈ e :: r, x = e) (hn : numO e = some n) (hl : 65536 < n) : lensS ls = (5, 0, 0) := by
  unfold lensS; rw [h]; simp only [hn]
  rw [if_pos (List.all_eq_true.2 fun x hx => decide_eq_true (ha x (by simp [hx]))), if_pos hl]
theorem len_good {ls r : List (List UInt8)} {e : List UInt8} {n : Nat} (h : elemsF ls = some (e :: r)) (ha : ∀ x ∈ e :: r, x = e) (hn : numO e = some n) (hl : ¬ 65536 < n) : lensS ls = (0, 2, n) := by
  unfold lensS; rw [h]; simp only [hn]
  rw [if_pos (List.all_eq_true.2 fun x hx => decide_eq_true (ha x (by simp [hx]))), if_neg hl]
theorem cod_err (cs : List (List UInt8)) (h : (codS cs).1 ≠ 0) : codS cs = ((codS cs).1, 0, 0) := by
  unfold codS at h ⊢
  repeat' split
  all_goals first | rfl | simp_all
theorem len_err (ls : List (List UInt8)) (h : (lensS ls).1 ≠ 0) : lensS ls = ((lensS ls).1, 0, 0) := by
  unfold lensS at h ⊢
  repeat' split
  all_goals first | rfl | simp_all
theorem ofO_err {o : Nat} {ls cs : List (List UInt8)} (h : (ofO o ls cs).1 ≠ 0) : ofO o ls cs = ((ofO o ls cs).1, 0, 0) := by
  by_cases h1 : ls = []
  · by_cases h2 : cs = []
    · rw [ofO_none h1 h2] at h; exact absurd rfl h
    · rw [ofO_cod h1 h2] at h ⊢; exact cod_err cs h
  · by_cases h2 : cs = []
    · rw [ofO_len h1 h2] at h ⊢; exact len_err ls h
    · rw [ofO_both h1 h2]
/-- The frame of a response; hd: it has no body whatever its fields say. -/
def ofR (hd : Bool) (ls cs : List (List UInt8)) : Nat × Nat × Nat := if (ofO 4 ls cs).1 = 0 ∧ hd = true then (0, 1, 0) else ofO 4 ls cs
theorem ofR_err {hd : Bool} {ls cs : List (List UInt8)} (h : (ofO 4 ls cs).1 ≠ 0) : ofR hd ls cs = ((ofO 4 ls cs).1, 0, 0) := by unfold ofR; rw [if_neg (fun e => h e.1)]; exact ofO_err h
theorem ofR_hd {ls cs : List (List UInt8)} (h : (ofO 4 ls cs).1 = 0) : ofR true ls cs = (0, 1, 0) := by unfold ofR; rw [if_pos ⟨h, rfl⟩]
theorem ofR_body {ls cs : List (List UInt8)} : ofR false ls cs = ofO 4 ls cs := by unfold ofR; rw [if_neg (by simp)]
def bodB (z : Int) : Bool := (decide (100 ≤ z) && decide (z ≤ 199)) || decide (z = 204) || decide (z = 304)
def headL : List UInt8 := [72, 69, 65, 68]
def clN : List UInt8 := [99, 111, 110, 116, 101, 110, 116, 45, 108, 101, 110, 103, 116, 104]
def teN : List UInt8 := [116, 114, 97, 110, 115, 102, 101, 114, 45, 101, 110, 99, 111, 100, 105, 110, 103]
/-- The values of the two fields. -/
abbrev lsF (ps : Flds) := allL ps clN
abbrev csF (ps : Flds) := allL ps teN
/-- A frame as a value. -/
abbrev frV (k n : Nat) : Value := .agg #[.int .i64 (k : Int), .int .i64 (n : Int)]
end Go.Proofs.YthjkneifffdglaaDoor
