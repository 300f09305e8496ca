/- The host of a request as the program puts it in; header lines and fields one after the other; plain mathematics. -/
import Derived.Test.YtboemdhmmdcmpaaDoorFSpec
import Derived.Test.YtboemdhmmdcmpaaDoorGFlk
namespace Go.Proofs.YtboemdhmmdcmpaaDoor
open Go.RowKit

theorem hostN_low : lowS hostN = hostN := by decide
theorem ofN_host (p : List UInt8 × List UInt8) : ofN hostN p = decide (lowS p.1 = hostN) := by unfold ofN; rw [hostN_low]
section
variable (hs : List UInt8 → Option (List UInt8))
/-- The program's way: all values of the name; the only one is read, and set. -/
def withH (fs : Fs) : Option Fs :=
  match allL fs hostN with
  | [v] => (hs v).map fun h => setL fs hostN h
  | _ => none
/-- A field with its host read. -/
def updH (f : List UInt8 × List UInt8) : List UInt8 × List UInt8 := if lowS f.1 = hostN then (f.1, (hs f.2).getD []) else f
end
section
variable {hs : List UInt8 → Option (List UInt8)}
theorem allL_yes {f : List UInt8 × List UInt8} (h : lowS f.1 = hostN) (r : Fs) : allL (f :: r) hostN = f.2 :: allL r hostN := by
  unfold allL; rw [List.filter_cons, ofN_host, if_pos (by simpa using h)]; rfl
theorem allL_no {f : List UInt8 × List UInt8} (h : lowS f.1 ≠ hostN) (r : Fs) : allL (f :: r) hostN = allL r hostN := by
  unfold allL; rw [List.filter_cons, ofN_host, if_neg (by simpa using h)]
theorem hostF_all : ∀ (fs : Fs), (∀ v ∈ allL fs hostN, (hs v).isSome = true) → hostF hs lowS fs = some (fs.map (updH hs), (allL fs hostN).length) := by
  intro fs
  induction fs with
  | nil => intro _; rfl
  | cons f r ih =>
    intro h
    rw [hostF]
    by_cases hf : lowS f.1 = hostN
    · rw [allL_yes hf] at h ⊢
      obtain ⟨y, hy⟩ := Option.isSome_iff_exists.1 (h f.2 (by simp))
      rw [if_pos hf, hy, ih fun v hv => h v (by simp [hv])]
      simp [updH, hf, hy]
    · rw [allL_no hf] at h ⊢
      rw [if_neg hf, ih h]
      simp [updH, hf]
theorem hostF_none : ∀ (fs : Fs), (∃ v ∈ allL fs hostN, hs v = none) → hostF hs lowS fs = none := by
  intro fs
  induction fs with
  | nil => rintro ⟨v, hv, _⟩; simp [allL] at hv
  | cons f r ih =>
    rintro ⟨v, hv, hn⟩
    rw [hostF]
    by_cases hf : lowS f.1 = hostN
    · rw [allL_yes hf] at hv
      rw [if_pos hf]
      rcases List.mem_cons.1 hv with rfl | hv
      · rw [hn]; rfl
      · rw [ih ⟨v, hv, hn⟩]; cases hs f.2 <;> rfl
    · rw [allL_no hf] at hv
      rw [if_neg hf, ih ⟨v, hv, hn⟩]; rfl
theorem upd_none : ∀ (fs : Fs), allL fs hostN = [] → fs.map (updH hs) = fs ∧ remL fs hostN = fs := by
  intro fs
  induction fs with
  | nil => intro _; exact ⟨rfl, rfl⟩
  | cons f r ih =>
    intro h
    by_cases hf : lowS f.1 = hostN
    · rw [allL_yes hf] at h; cases h
    · rw [allL_no hf] at h
      obtain ⟨h1, h2⟩ := ih h
      refine ⟨by rw [List.map_cons, h1]; unfold updH; rw [if_neg hf], ?_⟩
      unfold remL at h2 ⊢
      rw [List.filter_cons, ofN_host, if_pos (by simpa using hf), h2]
theorem upd_set : ∀ (fs : Fs), (∀ f ∈ fs, lowS f.1 = f.1) → ∀ v h, allL fs hostN = [v] → hs v = some h → fs.map (updH hs) = setL fs hostN h := by
  intro fs
  induction fs with
  | nil => intro _ v h e; cases e
  | cons f r ih =>
    intro hl v h e hv
    rw [setL]
    by_cases hf : lowS f.1 = hostN
    · rw [allL_yes hf] at e
      injection e with e1 e2
      obtain ⟨h1, h2⟩ := upd_none (hs := hs) r e2
      rw [if_pos (by rw [ofN_host]; simpa using hf), List.map_cons, h1, h2]
      unfold updH
      rw [if_pos hf, e1, hv, hostN_low, ← hf, hl f (by simp)]; rfl
    · rw [allL_no hf] at e
      rw [if_neg (by rw [ofN_host]; simpa using hf), List.map_cons, ih (fun g hg => hl g (by simp [hg])) v h e hv]
      unfold updH; rw [if_neg hf]
/-- The reference's way and the program's. -/
theorem hosted_with {fs : Fs} (hl : ∀ f ∈ fs, lowS f.1 = f.1) : hosted hs lowS fs = withH hs fs := by
  unfold hosted withH
  by_cases h : ∃ v ∈ allL fs hostN, hs v = none
  · rw [hostF_none fs h]
    obtain ⟨v, hv, hn⟩ := h
    split
    · rename_i u e
      rw [e, List.mem_singleton] at hv
      rw [← hv, hn]; rfl
    · rfl
  · have h' : ∀ v ∈ allL fs hostN, (hs v).isSome = true := fun v hv => by
      cases e : hs v with
      | none => exact absurd ⟨v, hv, e⟩ h
      | some y => rfl
    rw [hostF_all fs h']
    split
    · rename_i u e
      obtain ⟨y, hy⟩ := Option.isSome_iff_exists.1 (h' u (by rw [e]; simp))
      rw [e, hy]
      simp [upd_set fs hl u y e hy]
    · rename_i hne
      simp only [Option.bind_some]
      rw [if_neg]
      intro e1
      obtain ⟨u, hu⟩ := List.length_eq_one_iff.1 e1
      exact hne u hu
/-- With the names in lower case. -/
def low1 (f : List UInt8 × List UInt8) : List UInt8 × List UInt8 := (lowS f.1, f.2)
theorem hostF_low : ∀ (fs : Fs), hostF hs lowS (fs.map low1) = (hostF hs lowS fs).map fun q => (q.1.map low1, q.2) := by
  intro fs
  induction fs with
  | nil => rfl
  | cons f r ih =>
    rw [List.map_cons, hostF, hostF, ih]
    have e : lowS (low1 f).1 = lowS f.1 := lowS_low _
    rw [e]
    by_cases hf : lowS f.1 = hostN
    · rw [if_pos hf, if_pos hf]
      show (hs f.2).bind _ = _
      cases hs f.2 <;> cases hostF hs lowS r <;> rfl
    · rw [if_neg hf, if_neg hf]
      cases hostF hs lowS r <;> rfl
theorem withH_low (fs : Fs) : withH hs (fs.map low1) = (hosted hs lowS fs).map fun q => q.map low1 := by
  rw [← hosted_with (by intro f hf; obtain ⟨g, _, rfl⟩ := List.mem_map.1 hf; exact lowS_low _)]
  unfold hosted
  rw [hostF_low]
  cases hostF hs lowS fs with
  | none => rfl
  | some q =>
    show (if q.2 = 1 then some (q.1.map low1) else none) = Option.map _ (if q.2 = 1 then some q.1 else none)
    split <;> rfl
end
/-- A header line of a field. -/
def wline (f : List UInt8 × List UInt8) : List UInt8 := f.1 ++ 58 :: 32 :: f.2
theorem wline_low {f : List UInt8 × List UInt8} (h : (nmO f.1).isSome = true) : wline (low1 f) = lineW nmO f := by
  obtain ⟨y, hy⟩ := Option.isSome_iff_exists.1 h
  unfold wline lineW
  rw [hy, (nmO_some hy).1]; rfl
section
variable {nm vl : List UInt8 → Option (List UInt8)}
/-- All of the first k lines are header lines. -/
def goodTo (nm vl : List UInt8 → Option (List UInt8)) (ls : List (List UInt8)) (k : Nat) : Prop := ∀ l ∈ ls.take k, (readF nm vl l).1 = 0
def fsTo (nm vl : List UInt8 → Option (List UInt8)) (ls : List (List UInt8)) (k : Nat) : Fs := (ls.take k).map fun l => (readF nm vl l).2
theorem goodTo0 (ls : List (List UInt8)) : goodTo nm vl ls 0 := fun l h => by simp at h
theorem goodTo_step {ls : List (List UInt8)} {k : Nat} {l : List UInt8} (h : goodTo nm vl ls k) (hl : ls[k]? = some l) (h0 : (readF nm vl l).1 = 0) : goodTo nm vl ls (k + 1) := by
  intro x hx
  rw [take_more hl] at hx
  rcases List.mem_append.1 hx with hx | hx
  · exact h x hx
  · rw [List.mem_singleton] at hx; rw [hx]; exact h0
theorem fsTo_step {ls : List (List UInt8)} {k : Nat} {l : List UInt8} (hl : ls[k]? = some l) : fsTo nm vl ls (k + 1) = fsTo nm vl ls k ++ [(readF nm vl l).2] := by
  unfold fsTo; rw [take_more hl, List.map_append]; rfl
theorem fsTo_len (ls : List (List UInt8)) (k : Nat) : (fsTo nm vl ls k).length ≤ k := by unfold fsTo; rw [List.length_map]; exact List.length_take_le _ _
theorem readFs_app {a : List (List UInt8)} (h : ∀ l ∈ a, (readF nm vl l).1 = 0) (b : List (List UInt8)) :
    readFs nm vl (a ++ b) = if (readFs nm vl b).1 ≠ 0 then ((readFs nm vl b).1, []) else (0, (a.map fun l => (readF nm vl l).2) ++ (readFs nm vl b).2) := by
  induction a with
  | nil =>
    rw [List.nil_append]
    by_cases hb : (readFs nm vl b).1 ≠ 0
    · rw [if_pos hb]
      cases b with
      | nil => exact absurd rfl hb
      | cons x t =>
        rw [readFs] at hb ⊢
        by_cases h1 : (readF nm vl x).1 ≠ 0
        · rw [if_pos h1]
        · rw [if_neg h1] at hb ⊢
          by_cases h2 : (readFs nm vl t).1 ≠ 0
          · rw [if_pos h2]
          · rw [if_neg h2] at hb; exact absurd rfl hb
    · rw [if_neg hb]
      simp only [ne_eq, Decidable.not_not] at hb
      exact Prod.ext hb rfl
  | cons x t ih =>
    have hx := h x (by simp)
    rw [List.cons_append, readFs, if_neg (by rw [hx]; simp), ih fun l hl => h l (by simp [hl])]
    by_cases hb : (readFs nm vl b).1 ≠ 0
    · simp only [if_pos hb]
    · simp only [if_neg hb]; simp
theorem readFs_bad {ls : List (List UInt8)} {k : Nat} {l : List UInt8} (h : goodTo nm vl ls k) (hl : ls[k]? = some l) (h0 : (readF nm vl l).1 ≠ 0) : readFs nm vl ls = ((readF nm vl l).1, []) := by
  have hd : ls = ls.take k ++ (l :: ls.drop (k + 1)) := by
    conv => lhs; rw [← List.take_append_drop k ls]
    obtain ⟨hk, e⟩ := List.getElem?_eq_some_iff.mp hl
    rw [List.drop_eq_getElem_cons hk, e]
  have e : readFs nm vl (l :: ls.drop (k + 1)) = ((readF nm vl l).1, []) := by rw [readFs, if_pos h0]
  rw [hd, readFs_app h, e, if_pos h0]
theorem readFs_end {ls : List (List UInt8)} {k : Nat} (h : goodTo nm vl ls k) (hk : ls.length ≤ k) : readFs nm vl ls = (0, fsTo nm vl ls k) := by
  unfold goodTo at h
  unfold fsTo
  rw [List.take_of_length_le hk] at h ⊢
  have := readFs_app (nm := nm) (vl := vl) h []
  rw [List.append_nil] at this
  rw [this]; simp [readFs]
/-- The names that are read are in lower case. -/
theorem readF_low (hf : ∀ {x y}, nm x = some y → y = lowS x) (l : List UInt8) (h : (readF nm vl l).1 = 0) : lowS (readF nm vl l).2.1 = (readF nm vl l).2.1 := by
  unfold readF at h ⊢
  by_cases h1 : l.head?.any wsB = true
  · rw [if_pos h1] at h; cases h
  · rw [if_neg h1] at h ⊢
    cases e : cut1 58 l with
    | none => rw [e] at h; cases h
    | some p =>
      obtain ⟨b, a⟩ := p
      rw [e] at h
      simp only at h ⊢
      by_cases h2 : b = []
      · rw [if_pos h2] at h; cases h
      · rw [if_neg h2] at h ⊢
        by_cases h3 : b.any wsB = true
        · rw [if_pos h3] at h; cases h
        · rw [if_neg h3] at h ⊢
          cases e1 : nm b with
          | none => rw [e1] at h; cases h
          | some y =>
            cases e2 : vl a with
            | none => rw [e1, e2] at h; cases h
            | some v => simp only; rw [hf e1]; exact lowS_low _
theorem fsTo_low (hf : ∀ {x y}, nm x = some y → y = lowS x) (ls : List (List UInt8)) (k : Nat) (h : goodTo nm vl ls k) : ∀ f ∈ fsTo nm vl ls k, lowS f.1 = f.1 := by
  intro f hf'
  obtain ⟨l, hl, rfl⟩ := List.mem_map.1 hf'
  exact readF_low hf l (h l hl)
end
end Go.Proofs.YtboemdhmmdcmpaaDoor
