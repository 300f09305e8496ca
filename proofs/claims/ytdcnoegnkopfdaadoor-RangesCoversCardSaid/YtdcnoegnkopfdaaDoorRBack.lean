/- Plain mathematics of chapter 9: what Format and ContentRange write is read back. -/
import Derived.Test.YtdcnoegnkopfdaaDoorRSpec
import Derived.Test.YtdcnoegnkopfdaaDoorElemSpec
namespace Go.Proofs.YtdcnoegnkopfdaaDoor

theorem text_tok (r : Rg) : textR r ≠ [] ∧ (textR r).all tokB = true := by
  refine ⟨by simp [textR], ?_⟩
  have h : ∀ n, (decT n).all tokB = true := fun n => by
    rw [List.all_eq_true]; intro c hc
    have := List.all_eq_true.mp (dec_digs n.toNat).1 c hc
    unfold tokB; rw [this]; rfl
  unfold textR
  rw [List.all_append, h, List.all_cons, h]; decide
theorem text_Elem (r : Rg) : Elem (textR r) := .inl (text_tok r)
theorem elems_last {q : List UInt8} (h : Elem q) : elems q = some [q] := by
  have h1 := h.scan [] []
  rw [List.append_nil, List.nil_append] at h1
  have t0 := h.trim [] [] (by simp) (by simp)
  rw [List.append_nil, List.nil_append] at t0
  unfold elems
  rw [h1]
  show some (fil [trimB q]) = some [q]
  rw [t0, fil_one h.ne]
theorem form_elems : ∀ l : List Rg, l ≠ [] → elems (formR l) = some (l.map textR) ∧ ctlS (formR l) = false := by
  intro l
  induction l with
  | nil => intro h; exact absurd rfl h
  | cons r t ih =>
    intro _
    cases t with
    | nil => exact ⟨elems_last (text_Elem r), (text_Elem r).ctl⟩
    | cons q u =>
      have h1 := ih (by simp)
      have h2 := elems_one (text_Elem r) 0 0 (formR (q :: u))
      have e : preL 0 ++ textR r ++ postL 0 ++ formR (q :: u) = formR (r :: q :: u) := by
        show [] ++ textR r ++ [44] ++ formR (q :: u) = textR r ++ 44 :: formR (q :: u)
        simp
      rw [e, h1.1] at h2
      refine ⟨h2, ?_⟩
      show ctlS (textR r ++ 44 :: formR (q :: u)) = false
      have h3 := (text_Elem r).ctl
      have h4 := h1.2
      have h5 : ctlB 44 = false := by decide
      unfold ctlS at *
      rw [List.any_append, h3, List.any_cons, h4, h5]; rfl
theorem form_list (l : List Rg) (h : l ≠ []) : listO (formR l) = some (l.map textR) := by
  rw [listO_elems _ (form_elems l h).2, (form_elems l h).1]
theorem elemsR_form (n : Int) : ∀ l : List Rg, (∀ r ∈ l, properR r ∧ r.2 ≤ n) → elemsR n (l.map textR) = some l := by
  intro l
  induction l with
  | nil => intro _; rfl
  | cons r t ih =>
    intro h
    obtain ⟨h1, h2⟩ := h r (by simp)
    have e : withinR r n = r := by
      unfold withinR; unfold properR at h1
      exact Prod.ext (by simp; omega) (by simp; omega)
    rw [List.map_cons, elemsR, text_elem h1 n, ih (fun q hq => h q (by simp [hq]))]
    simp only [Option.map_some, e]
    rw [if_pos h1.2.1]
theorem pre_app (l : List UInt8) : preB.isPrefixOf (preB ++ l) = true ∧ (preB ++ l).drop 6 = l := ⟨by simp [preB, List.isPrefixOf], rfl⟩
/-- Format's text, read for a body that is long enough. -/
theorem parse_form (l : List Rg) (n : Int) (hl : l ≠ []) (h : ∀ r ∈ l, properR r ∧ r.2 ≤ n) : parseR (preB ++ formR l) n = if 8 < l.length then .err 5 else .ok l := by
  have h0 : 0 ≤ n := by
    cases l with
    | nil => exact absurd rfl hl
    | cons r t => have := h r (by simp); unfold properR at this; omega
  unfold parseR
  rw [(pre_app _).1, if_pos rfl, (pre_app _).2, form_list l hl, Int.max_eq_left h0]
  cases l with
  | nil => exact absurd rfl hl
  | cons r t =>
    have := elemsR_form n (r :: t) h
    rw [List.map_cons] at this ⊢
    simp only
    rw [this]
    simp

/-! ### Content-Range -/
def preC : List UInt8 := [98, 121, 116, 101, 115, 32]
/-- What the program makes of a text. -/
def progRead (s : List UInt8) : Option (Rg × Int) :=
  match cut9 47 (if preC.isPrefixOf s then s.drop 6 else s) with
  | (span, size, _) => match cut9 45 span with
    | (a, b, _) => match num9 a, num9 b, num9 size with
      | some x, some y, some n => if y < x then none else if crR ((x : Int), (y : Int) + 1) n = some s then some (((x : Int), (y : Int) + 1), (n : Int)) else none
      | _, _, _ => none
/-- What the reference makes of a text. -/
def refRead (s : List UInt8) : Option (Rg × Int) :=
  if preC.isPrefixOf s then
    match cut9 45 (s.drop 6) with
    | (a, rest, f) => match cut9 47 rest with
      | (b, size, g) => if f = true ∧ g = true then
        match num9 a, num9 b, num9 size with
        | some x, some y, some n => if crR ((x : Int), (y : Int) + 1) n = some s then some (((x : Int), (y : Int) + 1), (n : Int)) else none
        | _, _, _ => none
        else none
  else none
theorem cr_some {r : Rg} {n : Int} {s : List UInt8} (h : crR r n = some s) : properR r ∧ r.2 ≤ n ∧ n ≤ 999999999999999 ∧ s = preC ++ (decT r.1 ++ 45 :: (decT (r.2 - 1) ++ 47 :: decT n)) := by
  unfold crR at h
  split at h
  · rename_i hc
    refine ⟨hc.1, hc.2.1, hc.2.2, ?_⟩
    simp only [Option.some.injEq] at h
    rw [← h]; simp [preC, textR]
  · cases h
theorem progRead_iff (s : List UInt8) (r : Rg) (n : Int) : progRead s = some (r, n) ↔ crR r n = some s := by
  constructor
  · intro h
    unfold progRead at h
    simp only at h
    split at h
    · split at h
      · cases h
      · split at h
        · rename_i hc
          simp only [Option.some.injEq, Prod.mk.injEq] at h
          obtain ⟨rfl, rfl⟩ := h
          exact hc
        · cases h
    · cases h
  · intro h
    have h0 := h
    obtain ⟨⟨h1, h2, h3⟩, h4, h5, rfl⟩ := cr_some h
    have e1 : preC.isPrefixOf (preC ++ (decT r.1 ++ 45 :: (decT (r.2 - 1) ++ 47 :: decT n))) = true := by simp [preC, List.isPrefixOf]
    have e2 : (preC ++ (decT r.1 ++ 45 :: (decT (r.2 - 1) ++ 47 :: decT n))).drop 6 = (decT r.1 ++ 45 :: decT (r.2 - 1)) ++ 47 :: decT n := by simp [preC]
    have e3 := cut9_app 47 (decT r.1 ++ 45 :: decT (r.2 - 1)) (decT n) (by
      rw [List.mem_append, List.mem_cons]
      rintro (h | h | h)
      · exact dec_not _ (by decide) h
      · cases h
      · exact dec_not _ (by decide) h)
    have e4 := cut9_app 45 (decT r.1) (decT (r.2 - 1)) (dec_not _ (by decide))
    have n1 : num9 (decT r.1) = some r.1.toNat := num9_dec _ (by omega)
    have n2 : num9 (decT (r.2 - 1)) = some (r.2 - 1).toNat := num9_dec _ (by omega)
    have n3 : num9 (decT n) = some n.toNat := num9_dec _ (by omega)
    unfold progRead
    rw [if_pos e1, e2, e3]
    simp only
    rw [e4]
    simp only
    rw [n1, n2, n3]
    simp only
    have er : (((r.1.toNat : Nat) : Int), (((r.2 - 1).toNat : Nat) : Int) + 1) = r := Prod.ext (by simp; omega) (by simp; omega)
    have en : ((n.toNat : Nat) : Int) = n := by omega
    rw [if_neg (by omega), er, en, if_pos h0]
theorem refRead_iff (s : List UInt8) (r : Rg) (n : Int) : refRead s = some (r, n) ↔ crR r n = some s := by
  constructor
  · intro h
    unfold refRead at h
    simp only at h
    split at h
    · split at h
      · split at h
        · split at h
          · rename_i hc
            simp only [Option.some.injEq, Prod.mk.injEq] at h
            obtain ⟨rfl, rfl⟩ := h
            exact hc
          · cases h
        · cases h
      · cases h
    · cases h
  · intro h
    have h0 := h
    obtain ⟨⟨h1, h2, h3⟩, h4, h5, rfl⟩ := cr_some h
    have e1 : preC.isPrefixOf (preC ++ (decT r.1 ++ 45 :: (decT (r.2 - 1) ++ 47 :: decT n))) = true := by simp [preC, List.isPrefixOf]
    have e2 : (preC ++ (decT r.1 ++ 45 :: (decT (r.2 - 1) ++ 47 :: decT n))).drop 6 = decT r.1 ++ 45 :: (decT (r.2 - 1) ++ 47 :: decT n) := by simp [preC]
    have e3 := cut9_app 45 (decT r.1) (decT (r.2 - 1) ++ 47 :: decT n) (dec_not _ (by decide))
    have e4 := cut9_app 47 (decT (r.2 - 1)) (decT n) (dec_not _ (by decide))
    have n1 : num9 (decT r.1) = some r.1.toNat := num9_dec _ (by omega)
    have n2 : num9 (decT (r.2 - 1)) = some (r.2 - 1).toNat := num9_dec _ (by omega)
    have n3 : num9 (decT n) = some n.toNat := num9_dec _ (by omega)
    unfold refRead
    rw [if_pos e1, e2, e3]
    simp only
    rw [e4]
    simp only [and_self, if_true]
    rw [n1, n2, n3]
    simp only
    have er : (((r.1.toNat : Nat) : Int), (((r.2 - 1).toNat : Nat) : Int) + 1) = r := Prod.ext (by simp; omega) (by simp; omega)
    have en : ((n.toNat : Nat) : Int) = n := by omega
    rw [er, en, if_pos h0]
theorem read_eq (s : List UInt8) : progRead s = refRead s := by
  cases hp : progRead s with
  | none =>
    cases hr : refRead s with
    | none => rfl
    | some p => rw [(progRead_iff s p.1 p.2).mpr ((refRead_iff s p.1 p.2).mp hr)] at hp; cases hp
  | some p => exact ((refRead_iff s p.1 p.2).mpr ((progRead_iff s p.1 p.2).mp hp)).symm
end Go.Proofs.YtdcnoegnkopfdaaDoor
