/- Plain mathematics of chapter 11: values joined by commas, values in upper case, values that are no list, and the text of directives read again. -/
import Derived.Test.YtnjjjfbklgdgpaaDoorDPure
import Derived.Test.YtnjjjfbklgdgpaaDoorTrim
namespace Go.Proofs.YtnjjjfbklgdgpaaDoor

/-! ### Lists -/
theorem scan_comma {b : UInt8} (hb : b ≠ 34) : ∀ (l : List UInt8) (st : St) (cur : List UInt8) (ps : List (List UInt8)) (r : List UInt8), scan b st cur l = some ps → scan b st cur (l ++ b :: r) = (scan b .out [] r).map (ps ++ ·) := by
  intro l
  induction l with
  | nil =>
    intro st cur ps r h
    cases st
    · simp only [scan, Option.some.injEq] at h
      subst h
      simp [scan, hb]
    · simp [scan] at h
    · simp [scan] at h
  | cons c t ih =>
    intro st cur ps r h
    cases st
    · rw [List.cons_append, scan]
      rw [scan] at h
      by_cases h34 : c = 34
      · rw [if_pos h34] at h ⊢; exact ih _ _ _ _ h
      · rw [if_neg h34] at h ⊢
        by_cases hc : c = b
        · rw [if_pos hc] at h ⊢
          cases hr : scan b .out [] t with
          | none => rw [hr] at h; cases h
          | some qs =>
            rw [hr] at h
            simp only [Option.map_some, Option.some.injEq] at h
            subst h
            rw [ih _ _ _ r hr, Option.map_map]; rfl
        · rw [if_neg hc] at h ⊢; exact ih _ _ _ _ h
    · rw [List.cons_append, scan]
      rw [scan] at h
      by_cases h34 : c = 34
      · rw [if_pos h34] at h ⊢; exact ih _ _ _ _ h
      · rw [if_neg h34] at h ⊢
        by_cases h92 : c = 92
        · rw [if_pos h92] at h ⊢; exact ih _ _ _ _ h
        · rw [if_neg h92] at h ⊢; exact ih _ _ _ _ h
    · rw [List.cons_append, scan]
      rw [scan] at h
      exact ih _ _ _ _ h
theorem list_some {l : List UInt8} {ls : List (List UInt8)} (h : listO l = some ls) : ctlS l = false ∧ ∃ ps, scan 44 .out [] l = some ps ∧ ls = (ps.map trimB).filter (!·.isEmpty) := by
  unfold listO partsO at h
  cases hc : ctlS l with
  | true => rw [hc] at h; cases h
  | false =>
    rw [hc] at h
    cases hs : scan 44 .out [] l with
    | none => rw [hs] at h; cases h
    | some ps =>
      rw [hs] at h
      simp only [Bool.false_eq_true, if_false, Option.map_some, Option.some.injEq] at h
      exact ⟨rfl, ps, rfl, h.symm⟩
theorem list_of {l : List UInt8} {ps : List (List UInt8)} (hc : ctlS l = false) (hs : scan 44 .out [] l = some ps) : listO l = some ((ps.map trimB).filter (!·.isEmpty)) := by
  unfold listO partsO; rw [hc, hs]; rfl
theorem ctl_app (l r : List UInt8) : ctlS (l ++ r) = (ctlS l || ctlS r) := by unfold ctlS; rw [List.any_append]
theorem ctl_cons (c : UInt8) (r : List UInt8) : ctlS (c :: r) = (ctlB c || ctlS r) := rfl
theorem list_join {v r : List UInt8} {ls : List (List UInt8)} (h : listO v = some ls) : listO (v ++ 44 :: r) = (listO r).map (ls ++ ·) := by
  obtain ⟨hc, ps, hs, rfl⟩ := list_some h
  have e := scan_comma (b := 44) (by decide) _ _ _ _ r hs
  have ec : ctlS (v ++ 44 :: r) = ctlS r := by rw [ctl_app, hc, ctl_cons]; rfl
  unfold listO partsO
  rw [ec, e]
  cases ctlS r
  · cases scan 44 .out [] r with
    | none => rfl
    | some qs => simp
  · rfl
/-- The values, with a comma between them. -/
def joinC : List (List UInt8) → List UInt8
  | [] => []
  | [v] => v
  | v :: u :: r => v ++ 44 :: joinC (u :: r)
theorem joinC_snoc : ∀ (vs : List (List UInt8)) (v : List UInt8), vs ≠ [] → joinC (vs ++ [v]) = joinC vs ++ 44 :: v := by
  intro vs
  induction vs with
  | nil => intro v h; exact absurd rfl h
  | cons u r ih =>
    intro v _
    cases r with
    | nil => rfl
    | cons t q =>
      show u ++ 44 :: joinC (t :: (q ++ [v])) = (u ++ 44 :: joinC (t :: q)) ++ 44 :: v
      have := ih v (by simp)
      rw [List.cons_append] at this
      rw [this]; simp
theorem vals_flat : ∀ (vs : List (List UInt8)) (d : Dv), (∀ v ∈ vs, listO v ≠ none) → vs.foldl valD d = (vs.flatMap fun v => (listO v).getD []).foldl elemD d := by
  intro vs
  induction vs with
  | nil => intro d _; rfl
  | cons v r ih =>
    intro d h
    rw [List.foldl_cons, List.flatMap_cons, List.foldl_append, ih _ fun u hu => h u (by simp [hu])]
    congr 1
    unfold valD
    cases hv : listO v with
    | none => exact absurd hv (h v (by simp))
    | some ls => rfl
theorem list_joinC : ∀ vs : List (List UInt8), (∀ v ∈ vs, listO v ≠ none) → listO (joinC vs) = some (vs.flatMap fun v => (listO v).getD []) := by
  intro vs
  induction vs with
  | nil => intro _; decide +kernel
  | cons v r ih =>
    intro h
    cases hv : listO v with
    | none => exact absurd hv (h v (by simp))
    | some ls =>
      cases r with
      | nil => show listO v = _; rw [hv]; simp [hv]
      | cons u q =>
        show listO (v ++ 44 :: joinC (u :: q)) = _
        rw [list_join hv, ih fun x hx => h x (by simp [hx])]
        simp [hv]
theorem parse_joinC {vs : List (List UInt8)} (h : ∀ v ∈ vs, listO v ≠ none) : parseD [joinC vs] = parseD vs := by
  unfold parseD
  rw [vals_flat vs _ h, vals_flat [joinC vs] _ (fun v hv => by
    obtain rfl := List.mem_singleton.1 hv
    rw [list_joinC vs h]; simp)]
  simp [list_joinC vs h]

/-! ### Upper case -/
def upB (c : UInt8) : UInt8 := if 97 ≤ c.toNat ∧ c.toNat ≤ 122 then c - 32 else c
def upS (l : List UInt8) : List UInt8 := l.map upB
theorem all_u8 {p : UInt8 → Bool} (h : (List.range 256).all (fun n => p (UInt8.ofNat n)) = true) (c : UInt8) : p c = true := by
  have := List.all_eq_true.1 h c.toNat (List.mem_range.2 (UInt8.toNat_lt c))
  simp at this; exact this
theorem up_eq (c : UInt8) : (upB c = 34 ↔ c = 34) ∧ (upB c = 92 ↔ c = 92) ∧ (upB c = 44 ↔ c = 44) ∧ (upB c = 61 ↔ c = 61) := by
  have h := all_u8 (p := fun c => (decide (upB c = 34) == decide (c = 34)) && (decide (upB c = 92) == decide (c = 92)) && (decide (upB c = 44) == decide (c = 44)) && (decide (upB c = 61) == decide (c = 61))) (by decide +kernel) c
  simp only [Bool.and_eq_true, beq_iff_eq, decide_eq_decide] at h
  exact ⟨h.1.1.1, h.1.1.2, h.1.2, h.2⟩
theorem up_ctl (c : UInt8) : ctlB (upB c) = ctlB c := by
  have h := all_u8 (p := fun c => ctlB (upB c) == ctlB c) (by decide +kernel) c
  simpa using h
theorem up_blank (c : UInt8) : blank (upB c) = blank c := by
  have h := all_u8 (p := fun c => blank (upB c) == blank c) (by decide +kernel) c
  simpa using h
theorem up_low (c : UInt8) : lowB (upB c) = lowB c := by
  have h := all_u8 (p := fun c => lowB (upB c) == lowB c) (by decide +kernel) c
  simpa using h
theorem up_dig (c : UInt8) : (48 ≤ c.toNat ∧ c.toNat ≤ 57 → upB c = c) ∧ ((48 ≤ (upB c).toNat ∧ (upB c).toNat ≤ 57) ↔ (48 ≤ c.toNat ∧ c.toNat ≤ 57)) := by
  have h := all_u8 (p := fun c => (!(decide (48 ≤ c.toNat ∧ c.toNat ≤ 57)) || decide (upB c = c)) && (decide (48 ≤ (upB c).toNat ∧ (upB c).toNat ≤ 57) == decide (48 ≤ c.toNat ∧ c.toNat ≤ 57))) (by decide +kernel) c
  simp only [Bool.and_eq_true, Bool.or_eq_true, Bool.not_eq_true', decide_eq_false_iff_not, decide_eq_true_eq, beq_iff_eq, decide_eq_decide] at h
  refine ⟨fun hd => ?_, h.2⟩
  rcases h.1 with h1 | h1
  · exact absurd hd h1
  · exact h1
theorem upS_app (l r : List UInt8) : upS (l ++ r) = upS l ++ upS r := by simp [upS]
theorem upS_cons (c : UInt8) (r : List UInt8) : upS (c :: r) = upB c :: upS r := rfl
theorem upS_nil (l : List UInt8) : upS l = [] ↔ l = [] := by simp [upS]
theorem up_ctlS (l : List UInt8) : ctlS (upS l) = ctlS l := by
  unfold ctlS upS; rw [List.any_map]
  congr 1; funext c; exact up_ctl c
theorem up_lowS (l : List UInt8) : lowS (upS l) = lowS l := by
  unfold lowS upS; rw [List.map_map]
  exact List.map_congr_left fun c _ => up_low c
theorem up_scan : ∀ (l : List UInt8) (st : St) (cur : List UInt8), scan 44 st (upS cur) (upS l) = (scan 44 st cur l).map (·.map upS) := by
  intro l
  induction l with
  | nil => intro st cur; cases st <;> simp [scan, upS]
  | cons c r ih =>
    intro st cur
    have h := up_eq c
    have e : upS cur ++ [upB c] = upS (cur ++ [c]) := by simp [upS]
    rw [upS_cons]
    cases st
    · rw [scan, scan, e]
      by_cases h34 : c = 34
      · rw [if_pos h34, if_pos (h.1.2 h34)]; exact ih _ _
      · rw [if_neg h34, if_neg (fun x => h34 (h.1.1 x))]
        by_cases h44 : c = 44
        · rw [if_pos h44, if_pos (h.2.2.1.2 h44)]
          have := ih .out []
          rw [show upS [] = [] from rfl] at this
          rw [this, Option.map_map, Option.map_map]; rfl
        · rw [if_neg h44, if_neg (fun x => h44 (h.2.2.1.1 x))]; exact ih _ _
    · rw [scan, scan, e]
      by_cases h34 : c = 34
      · rw [if_pos h34, if_pos (h.1.2 h34)]; exact ih _ _
      · rw [if_neg h34, if_neg (fun x => h34 (h.1.1 x))]
        by_cases h92 : c = 92
        · rw [if_pos h92, if_pos (h.2.1.2 h92)]; exact ih _ _
        · rw [if_neg h92, if_neg (fun x => h92 (h.2.1.1 x))]; exact ih _ _
    · rw [scan, scan, e]; exact ih _ _
theorem up_drop : ∀ l : List UInt8, (upS l).dropWhile blank = upS (l.dropWhile blank) := by
  intro l
  induction l with
  | nil => rfl
  | cons c r ih =>
    rw [upS_cons, List.dropWhile_cons, List.dropWhile_cons, up_blank]
    split
    · exact ih
    · rfl
theorem up_rev (l : List UInt8) : (upS l).reverse = upS l.reverse := by simp [upS]
theorem up_trim (l : List UInt8) : trimB (upS l) = upS (trimB l) := by
  rw [trimB_eq, trimB_eq]
  unfold tR tL
  rw [up_drop, up_rev, up_drop, up_rev]
theorem up_list (l : List UInt8) : listO (upS l) = (listO l).map (·.map upS) := by
  unfold listO partsO
  rw [up_ctlS]
  cases ctlS l
  · have := up_scan l .out []
    rw [show upS [] = [] from rfl] at this
    rw [this]
    cases scan 44 .out [] l with
    | none => rfl
    | some ps =>
      simp only [Bool.false_eq_true, if_false, Option.map_some, List.map_map, Option.some.injEq]
      have e1 : trimB ∘ upS = upS ∘ trimB := by funext x; exact up_trim x
      rw [e1, ← List.map_map, List.filter_map]
      congr 2
      funext x
      show (!(upS x).isEmpty) = !x.isEmpty
      cases x <;> rfl
  · rfl
theorem up_cut : ∀ l : List UInt8, cutE (upS l) = (cutE l).map fun p => (upS p.1, upS p.2) := by
  intro l
  induction l with
  | nil => rfl
  | cons c r ih =>
    have h := (up_eq c).2.2.2
    rw [upS_cons, cutE, cutE]
    by_cases h61 : c = 61
    · rw [if_pos h61, if_pos (h.2 h61)]; rfl
    · rw [if_neg h61, if_neg (fun x => h61 (h.1 x)), ih, Option.map_map, Option.map_map]; rfl
theorem up_rq : ∀ (l : List UInt8) (e : Bool), rq e (upS l) = (rq e l).map upS := by
  intro l
  induction l with
  | nil => intro e; cases e <;> rfl
  | cons c r ih =>
    intro e
    have h := up_eq c
    rw [upS_cons]
    cases e
    · rw [rq, rq]
      by_cases h34 : c = 34
      · rw [if_pos h34, if_pos (h.1.2 h34)]
        by_cases hr : r = []
        · subst hr; rfl
        · rw [if_neg hr, if_neg (fun x => hr ((upS_nil r).1 x))]; rfl
      · rw [if_neg h34, if_neg (fun x => h34 (h.1.1 x))]
        by_cases h92 : c = 92
        · rw [if_pos h92, if_pos (h.2.1.2 h92)]; exact ih _
        · rw [if_neg h92, if_neg (fun x => h92 (h.2.1.1 x)), ih, Option.map_map, Option.map_map]; rfl
    · rw [rq, rq, ih, Option.map_map, Option.map_map]; rfl
theorem up_head (l : List UInt8) : (upS l).headD 0 = 34 ↔ l.headD 0 = 34 := by
  cases l with
  | nil => rfl
  | cons c r => exact (up_eq c).1
theorem up_unq (l : List UInt8) : unqO (upS l) = (unqO l).map upS := by
  have hl : (upS l).length = l.length := by simp [upS]
  have hd : (upS l).drop 1 = upS (l.drop 1) := by simp [upS]
  unfold unqO
  by_cases h : ctlS l = true ∨ l.length < 2 ∨ l.headD 0 ≠ 34
  · rw [if_pos h, if_pos]
    · rfl
    · rw [up_ctlS, hl]
      rcases h with h | h | h
      · exact .inl h
      · exact .inr (.inl h)
      · exact .inr (.inr fun x => h ((up_head l).1 x))
  · rw [if_neg h, if_neg, hd, up_rq]
    rw [up_ctlS, hl]
    rintro (x | x | x)
    · exact h (.inl x)
    · exact h (.inr (.inl x))
    · exact h (.inr (.inr fun y => x ((up_head l).2 y)))
theorem up_arg (a : List UInt8) : argL (upS a) = upS (argL a) := by
  unfold argL
  by_cases h : a.headD 0 = 34
  · rw [if_pos h, if_pos ((up_head a).2 h), up_unq]
    cases unqO a <;> rfl
  · rw [if_neg h, if_neg (fun x => h ((up_head a).1 x))]
theorem up_num : ∀ (l : List UInt8) (n : Int), numA (upS l) n = numA l n := by
  intro l
  induction l with
  | nil => intro n; rfl
  | cons c r ih =>
    intro n
    have h := up_dig c
    rw [upS_cons, numA, numA]
    by_cases hd : 48 ≤ c.toNat ∧ c.toNat ≤ 57
    · rw [if_pos hd, if_pos (h.2.2 hd), h.1 hd]; exact ih _
    · rw [if_neg hd, if_neg (fun x => hd (h.2.1 x))]
theorem up_sec (a : List UInt8) : secL (upS a) = secL a := by
  unfold secL
  rw [up_arg, up_num]
  by_cases h : argL a = []
  · rw [if_pos h, if_pos ((upS_nil _).2 h)]
  · rw [if_neg h, if_neg (fun x => h ((upS_nil _).1 x))]
theorem up_elem (d : Dv) (e : List UInt8) : elemD d (upS e) = elemD d e := by
  unfold elemD
  rw [up_cut]
  cases cutE e with
  | none => show putD d (lowS (upS e)) none = _; rw [up_lowS]
  | some p =>
    show putD d (lowS (upS p.1)) (some (upS p.2)) = putD d (lowS p.1) (some p.2)
    rw [up_lowS]
    unfold putD argX argY argZ
    simp only [Option.bind_some, up_sec]
theorem up_elems : ∀ (ls : List (List UInt8)) (d : Dv), (ls.map upS).foldl elemD d = ls.foldl elemD d := by
  intro ls
  induction ls with
  | nil => intro d; rfl
  | cons e r ih => intro d; rw [List.map_cons, List.foldl_cons, List.foldl_cons, up_elem, ih]
theorem up_val (d : Dv) (v : List UInt8) : valD d (upS v) = valD d v := by
  unfold valD
  rw [up_list]
  cases listO v with
  | none => rfl
  | some ls => exact up_elems ls d
theorem up_parse (vs : List (List UInt8)) : parseD (vs.map upS) = parseD vs := by
  have : ∀ (vs : List (List UInt8)) (d : Dv), (vs.map upS).foldl valD d = vs.foldl valD d := by
    intro vs
    induction vs with
    | nil => intro d; rfl
    | cons v r ih => intro d; rw [List.map_cons, List.foldl_cons, List.foldl_cons, up_val, ih]
  exact this vs noneD

/-! ### An unknown directive -/
def more0 : List UInt8 := [120, 45, 109, 111, 114, 101, 61, 34, 97, 44, 32, 110, 111, 45, 115, 116, 111, 114, 101, 34, 32]
def immL : List UInt8 := [105, 109, 109, 117, 116, 97, 98, 108, 101]
theorem list_more0 : listO more0 = some [[120, 45, 109, 111, 114, 101, 61, 34, 97, 44, 32, 110, 111, 45, 115, 116, 111, 114, 101, 34]] := by decide +kernel
theorem list_imm : listO immL = some [immL] := by decide +kernel
theorem elem_more0 (d : Dv) : elemD d [120, 45, 109, 111, 114, 101, 61, 34, 97, 44, 32, 110, 111, 45, 115, 116, 111, 114, 101, 34] = d := by
  have h : cutE [120, 45, 109, 111, 114, 101, 61, 34, 97, 44, 32, 110, 111, 45, 115, 116, 111, 114, 101, 34] = some ([120, 45, 109, 111, 114, 101], [34, 97, 44, 32, 110, 111, 45, 115, 116, 111, 114, 101, 34]) := by decide +kernel
  have hk : kindL (lowS [120, 45, 109, 111, 114, 101]) = 12 := by decide +kernel
  unfold elemD; rw [h]
  show putD d _ _ = d
  unfold putD; rw [hk]; rfl
theorem elem_imm (d : Dv) : elemD d immL = d := by
  have h : cutE immL = none := by decide +kernel
  have hk : kindL (lowS immL) = 12 := by decide +kernel
  unfold elemD; rw [h]
  show putD d _ _ = d
  unfold putD; rw [hk]; rfl
theorem val_more (d : Dv) (v : List UInt8) : valD d (more0 ++ 44 :: v) = valD d v := by
  unfold valD
  rw [list_join list_more0]
  cases listO v with
  | none => rfl
  | some ls => show List.foldl elemD d (_ :: ls) = _; rw [List.foldl_cons, elem_more0]
theorem val_imm (d : Dv) : valD d immL = d := by
  unfold valD; rw [list_imm]
  show elemD d immL = d
  exact elem_imm d
def moreV (vs : List (List UInt8)) : List (List UInt8) := vs.flatMap fun v => [more0 ++ 44 :: v, immL]
theorem parse_more (vs : List (List UInt8)) : parseD (moreV vs) = parseD vs := by
  have : ∀ (vs : List (List UInt8)) (d : Dv), (moreV vs).foldl valD d = vs.foldl valD d := by
    intro vs
    induction vs with
    | nil => intro d; rfl
    | cons v r ih =>
      intro d
      show (moreV r).foldl valD (valD (valD d (more0 ++ 44 :: v)) immL) = _
      rw [val_more, val_imm, ih]; rfl
  exact this vs noneD

/-! ### A value with a quoted string that does not end -/
theorem scan_open (b : UInt8) : ∀ (t cur : List UInt8), (∀ c ∈ t, c ≠ 34 ∧ c ≠ 92) → scan b .inn cur t = none := by
  intro t
  induction t with
  | nil => intro cur _; rfl
  | cons c r ih =>
    intro cur h
    have hc := h c (by simp)
    rw [scan, if_neg hc.1, if_neg hc.2]
    exact ih _ fun x hx => h x (by simp [hx])
theorem scan_none (b : UInt8) (t : List UInt8) (ht : ∀ c ∈ t, c ≠ 34 ∧ c ≠ 92) : ∀ (p cur : List UInt8), 34 ∉ p → scan b .out cur (p ++ 34 :: t) = none := by
  intro p
  induction p with
  | nil => intro cur _; rw [List.nil_append, scan, if_pos rfl]; exact scan_open b t _ ht
  | cons c r ih =>
    intro cur h
    have hc : c ≠ 34 := fun e => h (by rw [e]; simp)
    have hr : 34 ∉ r := fun e => h (by simp [e])
    rw [List.cons_append, scan, if_neg hc]
    split
    · rw [ih _ hr]; rfl
    · exact ih _ hr
def brokP : List UInt8 := [112, 117, 98, 108, 105, 99, 44, 32, 109, 97, 120, 45, 97, 103, 101, 61]
theorem val_broken (d : Dv) (t : List UInt8) (ht : ∀ c ∈ t, c ≠ 34 ∧ c ≠ 92) : valD d (brokP ++ 34 :: 49 :: t) = { d with ns := true } := by
  have hs : scan 44 .out [] (brokP ++ 34 :: 49 :: t) = none := scan_none 44 (49 :: t) (fun c hc => by
    rcases List.mem_cons.1 hc with e | e
    · subst e; decide
    · exact ht c e) brokP [] (by decide)
  have h : listO (brokP ++ 34 :: 49 :: t) = none := by
    unfold listO partsO; rw [hs]; split <;> rfl
  unfold valD; rw [h]
end Go.Proofs.YtnjjjfbklgdgpaaDoor
