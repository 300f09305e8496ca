/- Dot segments as the program goes over them: without the last one's mark, which it takes from the path's end. -/
import Derived.Test.YtfggckdakmnfbaaDoorASpec
import Derived.Lib.Strings
import Derived.Lib.Join
namespace Go.Proofs.YtfggckdakmnfbaaDoor

def dotsG : List (List UInt8) → List (List UInt8) → Option (List (List UInt8))
  | [], out => some out
  | s :: r, out =>
    if s = [46] then dotsG r out
    else if s = [46, 46] then (if out = [] then none else dotsG r out.dropLast)
    else dotsG r (out ++ [s])
def lastS (l : List (List UInt8)) : List UInt8 := l.getLast?.getD []
theorem lastS_cons (s : List UInt8) {r : List (List UInt8)} (h : r ≠ []) : lastS (s :: r) = lastS r := by
  unfold lastS
  cases r with
  | nil => exact absurd rfl h
  | cons a t => rfl
theorem dotsF_G : ∀ (l out : List (List UInt8)), l ≠ [] → dotsF l out = (dotsG l out).map fun o => if dotB (lastS l) then o ++ [[]] else o := by
  intro l
  induction l with
  | nil => intro out h; exact absurd rfl h
  | cons s r ih =>
    intro out _
    rw [dotsF, dotsG]
    by_cases hr : r = []
    · subst hr
      by_cases h1 : s = [46]
      · subst h1; simp [dotsF, dotsG, lastS, dotB]
      · by_cases h2 : s = [46, 46]
        · subst h2
          by_cases h3 : out = []
          · subst h3; simp [lastS]
          · simp [dotsF, dotsG, lastS, dotB, h3]
        · have hd : dotB s = false := by simp [dotB, h1, h2]
          simp [h1, h2, dotsF, dotsG, lastS, hd]
    · rw [lastS_cons s hr]
      split
      · exact ih _ hr
      · split
        · split
          · rfl
          · exact ih _ hr
        · exact ih _ hr
def DotTo (l : List (List UInt8)) (k : Nat) (out : List (List UInt8)) : Prop := dotsG l [] = dotsG (l.drop k) out ∧ out.length ≤ k
theorem dotTo0 (l : List (List UInt8)) : DotTo l 0 [] := ⟨rfl, Nat.le_refl _⟩
theorem dropL {l : List (List UInt8)} {k : Nat} {s : List UInt8} (h : l[k]? = some s) : l.drop k = s :: l.drop (k + 1) := by
  obtain ⟨hk, e⟩ := List.getElem?_eq_some_iff.mp h
  rw [List.drop_eq_getElem_cons hk, e]
theorem dotTo_dot {l out : List (List UInt8)} {k : Nat} (h : DotTo l k out) (hs : l[k]? = some [46]) : DotTo l (k + 1) out := by
  obtain ⟨h1, h2⟩ := h
  exact ⟨by rw [h1, dropL hs, dotsG, if_pos rfl], by omega⟩
theorem dotTo_back {l out : List (List UInt8)} {k : Nat} (h : DotTo l k out) (hs : l[k]? = some [46, 46]) (ho : out ≠ []) : DotTo l (k + 1) out.dropLast := by
  obtain ⟨h1, h2⟩ := h
  exact ⟨by rw [h1, dropL hs, dotsG, if_neg (by decide), if_pos rfl, if_neg ho], by rw [List.length_dropLast]; omega⟩
theorem dotTo_none {l out : List (List UInt8)} {k : Nat} (h : DotTo l k out) (hs : l[k]? = some [46, 46]) (ho : out = []) : dotsG l [] = none := by
  rw [h.1, dropL hs, dotsG, if_neg (by decide), if_pos rfl, if_pos ho]
theorem dotTo_seg {l out : List (List UInt8)} {k : Nat} {s : List UInt8} (h : DotTo l k out) (hs : l[k]? = some s) (h1 : s ≠ [46]) (h2 : s ≠ [46, 46]) : DotTo l (k + 1) (out ++ [s]) := by
  obtain ⟨h3, h4⟩ := h
  exact ⟨by rw [h3, dropL hs, dotsG, if_neg h1, if_neg h2], by simp; omega⟩
theorem dotTo_end {l out : List (List UInt8)} {k : Nat} (h : DotTo l k out) (hk : l.length ≤ k) : dotsG l [] = some out := by
  rw [h.1, List.drop_eq_nil_of_le hk]; rfl
theorem tail_same {A B u v : List UInt8} (h : A ++ 47 :: u = B ++ 47 :: v) (hu : 47 ∉ u) (hv : 47 ∉ v) : u = v := by
  rcases List.append_eq_append_iff.mp h with ⟨c, h1, h2⟩ | ⟨c, h1, h2⟩
  · cases c with
    | nil => exact (List.cons.inj h2).2
    | cons x t =>
      have := (List.cons.inj h2).2
      exact absurd (by rw [this]; simp) hu
  · cases c with
    | nil => exact ((List.cons.inj h2).2).symm
    | cons x t =>
      have := (List.cons.inj h2).2
      exact absurd (by rw [this]; simp) hv
theorem last_slashed (t : List UInt8) : ∃ A, 47 :: t = A ++ 47 :: lastS (cutL 47 t) := by
  have hne := cutL_ne 47 t
  have hs := slashed_cutL t
  have e : cutL 47 t = (cutL 47 t).dropLast ++ [lastS (cutL 47 t)] := by
    unfold lastS
    rw [List.getLast?_eq_some_getLast hne]
    exact (List.dropLast_concat_getLast hne).symm
  refine ⟨slashed (cutL 47 t).dropLast, ?_⟩
  rw [← hs]
  conv => lhs; rw [e]
  rw [slashed_app]
  simp [slashed]
theorem lastS_no (t : List UInt8) : 47 ∉ lastS (cutL 47 t) := by
  have hne := cutL_ne 47 t
  unfold lastS
  rw [List.getLast?_eq_some_getLast hne]
  exact cutL_noc 47 t _ (List.getLast_mem hne)
theorem suffix_last (t x : List UInt8) (hx : 47 ∉ x) : Lib.hasSuffix (47 :: t) (47 :: x) = decide (lastS (cutL 47 t) = x) := by
  obtain ⟨A, hA⟩ := last_slashed t
  unfold Lib.hasSuffix
  rw [Bool.eq_iff_iff, List.isSuffixOf_iff_suffix, decide_eq_true_iff]
  constructor
  · rintro ⟨B, hB⟩
    exact (tail_same (hB.trans hA) hx (lastS_no t)).symm
  · intro e
    exact ⟨A, by rw [hA, e]⟩
theorem join_slashed {ls : List (List UInt8)} (h : ls ≠ []) : 47 :: Lib.join ls [47] = slashed ls := by
  cases ls with
  | nil => exact absurd rfl h
  | cons a r =>
    rw [Lib.join_cons, slashed_cons]
    unfold Lib.joinTail slashed
    rw [List.flatMap_def]; rfl
theorem slashed_len (ls : List (List UInt8)) (M : Nat) (h : ∀ l ∈ ls, l.length ≤ M) : (slashed ls).length ≤ ls.length * (M + 1) := by
  induction ls with
  | nil => simp [slashed]
  | cons a r ih =>
    have h1 := ih fun l hl => h l (List.mem_cons_of_mem _ hl)
    have h2 := h a (List.mem_cons_self ..)
    rw [List.length_cons, Nat.succ_mul, slashed_cons, List.length_cons, List.length_append]
    omega
theorem dotsF_len : ∀ (l out x : List (List UInt8)), dotsF l out = some x → x.length ≤ out.length + l.length + 1 := by
  intro l
  induction l with
  | nil => intro out x hx; simp [dotsF] at hx; subst hx; simp
  | cons s r ih =>
    intro out x hx
    rw [dotsF] at hx
    split at hx
    · split at hx
      · rename_i hr; subst hr; simp [dotsF] at hx; subst hx; simp
      · have := ih _ _ hx; simp; omega
    · split at hx
      · split at hx
        · cases hx
        · split at hx
          · rename_i hr; subst hr; simp [dotsF] at hx; subst hx; simp; try omega
          · have := ih _ _ hx; simp at this ⊢; omega
      · have := ih _ _ hx; simp at this ⊢; omega
end Go.Proofs.YtfggckdakmnfbaaDoor
