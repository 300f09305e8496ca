import Derived.Test.YtacfkljpjjnlfaaGreatDoorPa0
import Derived.Test.YtacfkljpjjnlfaaGreatDoorPa8
import Derived.Test.YtacfkljpjjnlfaaGreatDoorPa3
/- Plain mathematics: lists of fields (names and values as lists of bytes), the values of a name, and lists with a name set, added, removed; nothing of the program. -/
namespace Go.Proofs.YtacfkljpjjnlfaaGreatDoor
open Go.RowKit

abbrev Flds := List (List UInt8 × List UInt8)
theorem lowB_low (c : UInt8) : lowB (lowB c) = lowB c := by
  by_cases h : 65 ≤ c.toNat ∧ c.toNat ≤ 90
  · have e := lowB_up h.1 h.2
    exact lowB_not (by omega)
  · rw [lowB_not h, lowB_not h]
theorem lowS_low (l : List UInt8) : lowS (lowS l) = lowS l := by
  unfold lowS
  rw [List.map_map]
  exact List.map_congr_left fun c _ => lowB_low c
/-- A field is one of a name. -/
def ofN (n : List UInt8) (p : List UInt8 × List UInt8) : Bool := decide (lowS p.1 = lowS n)
theorem ofN_low (n : List UInt8) (p : List UInt8 × List UInt8) : ofN (lowS n) p = ofN n p := by unfold ofN; rw [lowS_low]
def allL (ps : Flds) (n : List UInt8) : List (List UInt8) := (ps.filter (ofN n)).map (·.2)
def remL (ps : Flds) (n : List UInt8) : Flds := ps.filter fun p => !ofN n p
def addL (ps : Flds) (n v : List UInt8) : Flds := ps ++ [(lowS n, v)]
def setL : Flds → List UInt8 → List UInt8 → Flds
  | [], n, v => [(lowS n, v)]
  | p :: r, n, v => if ofN n p = true then (lowS n, v) :: remL r n else p :: setL r n v
def sizL (ps : Flds) : Nat := ps.foldr (fun p n => p.1.length + p.2.length + 4 + n) 0
/-- The texts of a list, with a comma and a blank between them. -/
def getL : List (List UInt8) → List UInt8
  | [] => []
  | [t] => t
  | t :: r => t ++ 44 :: 32 :: getL r

theorem take_more {α : Type} {ps : List α} {k : Nat} {p : α} (h : ps[k]? = some p) : ps.take (k + 1) = ps.take k ++ [p] := by
  rw [List.take_add_one, h]; rfl
theorem all_yes {ps : Flds} {n : List UInt8} {k : Nat} {p : List UInt8 × List UInt8} (h : ps[k]? = some p) (ho : ofN n p = true) : allL (ps.take (k + 1)) n = allL (ps.take k) n ++ [p.2] := by
  unfold allL; rw [take_more h, List.filter_append, List.map_append]; simp [ho]
theorem all_no {ps : Flds} {n : List UInt8} {k : Nat} {p : List UInt8 × List UInt8} (h : ps[k]? = some p) (ho : ofN n p = false) : allL (ps.take (k + 1)) n = allL (ps.take k) n := by
  unfold allL; rw [take_more h, List.filter_append, List.map_append]; simp [ho]
theorem all_le (ps : Flds) (n : List UInt8) (k : Nat) : (allL (ps.take k) n).length ≤ k := by
  unfold allL; rw [List.length_map]
  exact Nat.le_trans (List.length_filter_le _ _) (List.length_take_le _ _)
theorem all_len (ps : Flds) (n : List UInt8) : (allL ps n).length ≤ ps.length := by
  unfold allL; rw [List.length_map]; exact List.length_filter_le _ _
theorem rem_yes {ps : Flds} {n : List UInt8} {k : Nat} {p : List UInt8 × List UInt8} (h : ps[k]? = some p) (ho : ofN n p = true) : remL (ps.take (k + 1)) n = remL (ps.take k) n := by
  unfold remL; rw [take_more h, List.filter_append]; simp [ho]
theorem rem_no {ps : Flds} {n : List UInt8} {k : Nat} {p : List UInt8 × List UInt8} (h : ps[k]? = some p) (ho : ofN n p = false) : remL (ps.take (k + 1)) n = remL (ps.take k) n ++ [p] := by
  unfold remL; rw [take_more h, List.filter_append]; simp [ho]
theorem rem_le (ps : Flds) (n : List UInt8) (k : Nat) : (remL (ps.take k) n).length ≤ k :=
  Nat.le_trans (List.length_filter_le _ _) (List.length_take_le _ _)
theorem rem_len (ps : Flds) (n : List UInt8) : (remL ps n).length ≤ ps.length := List.length_filter_le _ _
theorem any_more {ps : Flds} {n : List UInt8} {k : Nat} {p : List UInt8 × List UInt8} (h : ps[k]? = some p) : (ps.take (k + 1)).any (ofN n) = ((ps.take k).any (ofN n) || ofN n p) := by
  rw [take_more h, List.any_append]; simp

theorem set_none {ps : Flds} {n v : List UInt8} (h : ps.any (ofN n) = false) : setL ps n v = ps ++ [(lowS n, v)] := by
  induction ps with
  | nil => rfl
  | cons p r ih =>
    simp only [List.any_cons, Bool.or_eq_false_iff] at h
    rw [setL, if_neg (by rw [h.1]; simp), ih h.2]; rfl
theorem set_app {ps : Flds} {n v : List UInt8} (h : ps.any (ofN n) = true) (qs : Flds) : setL (ps ++ qs) n v = setL ps n v ++ remL qs n := by
  induction ps with
  | nil => simp at h
  | cons p r ih =>
    rw [List.cons_append, setL, setL]
    cases hp : ofN n p with
    | true =>
      rw [if_pos rfl, if_pos rfl]
      unfold remL
      rw [List.filter_append]; rfl
    | false =>
      rw [if_neg (by simp), if_neg (by simp)]
      simp only [List.any_cons, hp, Bool.false_or] at h
      rw [ih h]; rfl
/-- What a list with a name set is after k of its fields: the fields so far, until one is of the name. -/
def setK (ps : Flds) (n v : List UInt8) (k : Nat) : Flds := if (ps.take k).any (ofN n) = true then setL (ps.take k) n v else ps.take k
theorem setK0 (ps : Flds) (n v : List UInt8) : setK ps n v 0 = [] := by simp [setK]
theorem setK_other {ps : Flds} {n v : List UInt8} {k : Nat} {p : List UInt8 × List UInt8} (h : ps[k]? = some p) (ho : ofN n p = false) : setK ps n v (k + 1) = setK ps n v k ++ [p] := by
  unfold setK
  rw [any_more h, ho, Bool.or_false]
  cases ha : (ps.take k).any (ofN n) with
  | true =>
    rw [if_pos rfl, if_pos rfl, take_more h, set_app ha]
    unfold remL; simp [ho]
  | false =>
    rw [if_neg (by simp), if_neg (by simp), take_more h]
theorem setK_first {ps : Flds} {n v : List UInt8} {k : Nat} {p : List UInt8 × List UInt8} (h : ps[k]? = some p) (ho : ofN n p = true) (hf : (ps.take k).any (ofN n) = false) : setK ps n v (k + 1) = setK ps n v k ++ [(lowS n, v)] := by
  unfold setK
  rw [any_more h, ho, Bool.or_true, if_pos rfl, hf, if_neg (by simp), take_more h]
  have : ∀ (l : Flds), l.any (ofN n) = false → setL (l ++ [p]) n v = l ++ [(lowS n, v)] := by
    intro l
    induction l with
    | nil => intro _; rw [List.nil_append, setL, if_pos ho]; rfl
    | cons q r ih =>
      intro hl
      simp only [List.any_cons, Bool.or_eq_false_iff] at hl
      rw [List.cons_append, setL, if_neg (by rw [hl.1]; simp), ih hl.2]; rfl
  exact this _ hf
theorem setK_again {ps : Flds} {n v : List UInt8} {k : Nat} {p : List UInt8 × List UInt8} (h : ps[k]? = some p) (ho : ofN n p = true) (hf : (ps.take k).any (ofN n) = true) : setK ps n v (k + 1) = setK ps n v k := by
  unfold setK
  rw [any_more h, hf, Bool.true_or, if_pos rfl, if_pos rfl, take_more h, set_app hf]
  unfold remL; simp [ho]
theorem set_len (ps : Flds) (n v : List UInt8) : (setL ps n v).length ≤ ps.length + 1 := by
  induction ps with
  | nil => simp [setL]
  | cons p r ih =>
    rw [setL]
    split
    · have := rem_len r n; simp; omega
    · simp; omega
theorem setK_len (ps : Flds) (n v : List UInt8) (k : Nat) : (setK ps n v k).length ≤ k + 1 := by
  unfold setK
  have h : (ps.take k).length ≤ k := List.length_take_le _ _
  split
  · have := set_len (ps.take k) n v; omega
  · omega
theorem setK_end {ps : Flds} {n v : List UInt8} {k : Nat} (hk : ps.length ≤ k) (hf : (ps.take k).any (ofN n) = true) : setK ps n v k = setL ps n v := by
  unfold setK; rw [if_pos hf, List.take_of_length_le hk]
theorem setK_end' {ps : Flds} {n v : List UInt8} {k : Nat} (hk : ps.length ≤ k) (hf : (ps.take k).any (ofN n) = false) : setK ps n v k ++ [(lowS n, v)] = setL ps n v := by
  unfold setK
  rw [hf, if_neg (by simp)]
  rw [List.take_of_length_le hk] at hf ⊢
  exact (set_none hf).symm
/-- The reference's way: what stands before the first field of the name, the new field, the others of the rest. -/
theorem set_at {ps : Flds} {n v : List UInt8} {k : Nat} {p : List UInt8 × List UInt8} (h : ps[k]? = some p) (ho : ofN n p = true) (hf : (ps.take k).any (ofN n) = false) :
    setL ps n v = addL (ps.take k) n v ++ remL (ps.drop (k + 1)) n := by
  have e := setK_first (v := v) h ho hf
  have hd : ps = ps.take (k + 1) ++ ps.drop (k + 1) := (List.take_append_drop _ _).symm
  have ha : (ps.take (k + 1)).any (ofN n) = true := by rw [any_more h, ho, Bool.or_true]
  have e1 : setL ps n v = setL (ps.take (k + 1)) n v ++ remL (ps.drop (k + 1)) n := by
    conv => lhs; rw [hd]
    exact set_app ha _
  rw [e1]
  have e2 : setK ps n v (k + 1) = setL (ps.take (k + 1)) n v := by unfold setK; rw [if_pos ha]
  have e3 : setK ps n v k = ps.take k := by unfold setK; rw [hf, if_neg (by simp)]
  rw [← e2, e, e3]; rfl

theorem all_app (ps qs : Flds) (n : List UInt8) : allL (ps ++ qs) n = allL ps n ++ allL qs n := by unfold allL; rw [List.filter_append, List.map_append]
theorem all_rem_same {ps : Flds} {n m : List UInt8} (h : lowS n = lowS m) : allL (remL ps n) m = [] := by
  unfold allL remL
  rw [List.filter_filter]
  have : (ps.filter fun p => ofN m p && !ofN n p) = [] := by
    rw [List.filter_eq_nil_iff]
    intro p _
    unfold ofN; rw [h]; simp
  rw [this]; rfl
theorem all_rem_other {ps : Flds} {n m : List UInt8} (h : lowS n ≠ lowS m) : allL (remL ps n) m = allL ps m := by
  unfold allL remL
  rw [List.filter_filter]
  congr 1
  refine List.filter_congr fun p _ => ?_
  unfold ofN
  by_cases hp : lowS p.1 = lowS m
  · simp only [hp, decide_true, Bool.true_and]
    rw [decide_eq_false (fun e => h e.symm)]; rfl
  · simp [hp]
theorem ofN_new_same {n m v : List UInt8} (h : lowS n = lowS m) : ofN m (lowS n, v) = true := by unfold ofN; rw [lowS_low, h]; simp
theorem ofN_new_other {n m v : List UInt8} (h : lowS n ≠ lowS m) : ofN m (lowS n, v) = false := by unfold ofN; rw [lowS_low]; simp [h]
theorem all_add_same {ps : Flds} {n m v : List UInt8} (h : lowS n = lowS m) : allL (addL ps n v) m = allL ps m ++ [v] := by
  unfold addL; rw [all_app]; congr 1; unfold allL; simp [ofN_new_same h]
theorem all_add_other {ps : Flds} {n m v : List UInt8} (h : lowS n ≠ lowS m) : allL (addL ps n v) m = allL ps m := by
  unfold addL; rw [all_app]; unfold allL; simp [ofN_new_other h]
theorem all_set_same {ps : Flds} {n m v : List UInt8} (h : lowS n = lowS m) : allL (setL ps n v) m = [v] := by
  induction ps with
  | nil => unfold setL allL; simp [ofN_new_same h]
  | cons p r ih =>
    rw [setL]
    split
    · have e : (lowS n, v) :: remL r n = [(lowS n, v)] ++ remL r n := rfl
      rw [e, all_app, all_rem_same h]; unfold allL; simp [ofN_new_same h]
    · rename_i hp
      have e : p :: setL r n v = [p] ++ setL r n v := rfl
      have hp' : ofN m p = false := by unfold ofN at hp ⊢; rw [← h]; simpa using hp
      rw [e, all_app, ih]; unfold allL; simp [hp']
theorem all_set_other {ps : Flds} {n m v : List UInt8} (h : lowS n ≠ lowS m) : allL (setL ps n v) m = allL ps m := by
  induction ps with
  | nil => unfold setL allL; simp [ofN_new_other h]
  | cons p r ih =>
    have e0 : p :: r = [p] ++ r := rfl
    rw [setL]
    split
    · rename_i hp
      have e : (lowS n, v) :: remL r n = [(lowS n, v)] ++ remL r n := rfl
      have hp' : ofN m p = false := by
        unfold ofN at hp ⊢
        have := of_decide_eq_true hp
        rw [this]; simp [h]
      rw [e, all_app, all_rem_other h, e0, all_app]; unfold allL; simp [ofN_new_other h, hp']
    · have e : p :: setL r n v = [p] ++ setL r n v := rfl
      rw [e, all_app, ih, e0, all_app]
theorem all_congr {ps : Flds} {n m : List UInt8} (h : lowS n = lowS m) : allL ps n = allL ps m := by
  unfold allL ofN; rw [h]
theorem siz_app (ps qs : Flds) : sizL (ps ++ qs) = sizL ps + sizL qs := by
  induction ps with
  | nil => simp [sizL]
  | cons p r ih => unfold sizL at *; rw [List.cons_append, List.foldr_cons, List.foldr_cons, ih]; omega
theorem siz_more {ps : Flds} {k : Nat} {p : List UInt8 × List UInt8} (h : ps[k]? = some p) : sizL (ps.take (k + 1)) = sizL (ps.take k) + (p.1.length + p.2.length + 4) := by
  rw [take_more h, siz_app]; simp [sizL]
theorem getL_cons (t : List UInt8) (r : List (List UInt8)) (h : r ≠ []) : getL (t :: r) = t ++ 44 :: 32 :: getL r := by
  cases r with
  | nil => exact absurd rfl h
  | cons a b => rfl
theorem getL_snoc (ls : List (List UInt8)) (t : List UInt8) (h : ls ≠ []) : getL (ls ++ [t]) = getL ls ++ 44 :: 32 :: t := by
  induction ls with
  | nil => exact absurd rfl h
  | cons a r ih =>
    cases r with
    | nil => rfl
    | cons b c =>
      rw [List.cons_append, getL_cons a _ (by simp), ih (by simp), getL_cons a (b :: c) (by simp)]
      simp
end Go.Proofs.YtacfkljpjjnlfaaGreatDoor

/- Slices of fields that a call made, as slices that are read; appending one field. -/
namespace Go.Proofs.YtacfkljpjjnlfaaGreatDoor
open Go.RowKit

theorem ReadsP.q {w : World} {v : Value} {ps : Flds} (h : ReadsP w v ps) : ReadsQ w v ps := by
  obtain ⟨ao, cap, rfl, hc⟩ := h
  refine ⟨ao, cap, rfl, fun j p hj => ?_⟩
  obtain ⟨g, h1, h2, h3, h4⟩ := hc j p hj
  exact ⟨g, 0, h1, h2, by rw [Nat.zero_add]; exact h3, by rw [Nat.zero_add]; exact h4⟩
theorem OwnsP.q {T : TypeId} {B : Nat} {w : World} {v : Value} {ps : Flds} (h : OwnsP T B w v ps) : ReadsQ w v ps := h.reads.q
/-- A slice's length is within its room; a slice that is nil has none. -/
def Sane (v : Value) : Prop := ∀ a n c, v = .slice a n c → n ≤ c ∧ (a = none → c = 0)
theorem OwnsP.sane {T : TypeId} {B : Nat} {w : World} {v : Value} {ps : Flds} (h : OwnsP T B w v ps) : Sane v := by
  rcases h with ⟨hl, ⟨hv, hn⟩ | ⟨g, cap, cur, hv, hb, hg, hn, _⟩⟩
  · intro a n c e; rw [hv] at e; cases e; exact ⟨Nat.le_refl _, fun _ => rfl⟩
  · intro a n c e; rw [hv] at e; cases e; exact ⟨hn, fun h => by cases h⟩
theorem Tryz.infoF : (Tryz.prog.info? 91).map (fun i => (i.zero, i.size, i.bytes)) = some (some (.agg #[.string ByteArray.empty, .string ByteArray.empty]), 2, 32) := by kernel_rfl
theorem own_more {T : TypeId} {B : Nat} {w : World} {v : Value} {ps : Flds} {k : Nat} {p : List UInt8 × List UInt8} (hp : ps[k]? = some p)
    (h : w.ownsRow B T 2 v ((ps.take k).length + 1) (flatP (ps.take k) ++ [strV p.1, strV p.2])) : OwnsP T B w v (ps.take (k + 1)) := by
  have := OwnsP.snoc h
  rw [take_more hp]; exact this
theorem two_new (W : World) (a b : List UInt8) (T : TypeId) : ∀ (j : Nat) (u : Value), [strV a, strV b][j]? = some u →
    (W.alloc (.cells #[.string (strB a), .string (strB b)] T)).cell? ((⟨W.heap.size, 0, none⟩ : Addr).add j) = some u := by
  intro j u h
  rw [Addr.add_lit, Nat.zero_add, World.cell?_alloc_at _ _ _ _ rfl]
  match j, h with
  | 0, h => simpa using h
  | 1, h => simpa using h
  | j + 2, h => simp at h
theorem two_new' (W : World) (a b : List UInt8) (T T' : TypeId) : ∀ (j : Nat) (u : Value), [strV a, strV b][j]? = some u →
    ((W.alloc (.cells #[.string (strB a), .string (strB b)] T)).alloc (.cells #[.string (strB a), .string (strB b)] T')).cell? ((⟨W.heap.size + 1, 0, none⟩ : Addr).add j) = some u := by
  intro j u h
  have := two_new (W.alloc (.cells #[.string (strB a), .string (strB b)] T)) a b T' j u h
  simpa using this

end Go.Proofs.YtacfkljpjjnlfaaGreatDoor

/- Requests: what is written is read again, what is read can be written; prefixes and inserted bytes. -/
namespace Go.Proofs.YtacfkljpjjnlfaaGreatDoor

section
variable {nm vl hs : List UInt8 → Option (List UInt8)} {lw : List UInt8 → List UInt8}
theorem method_chars {m : List UInt8} (h : methodB m = true) : m ≠ [] ∧ Clean m ∧ 32 ∉ m := by
  unfold methodB at h
  simp only [Bool.and_eq_true, decide_eq_true_eq, List.all_eq_true] at h
  obtain ⟨⟨h1, h2⟩, _⟩ := h
  refine ⟨by rintro rfl; simp at h2, fun c hc => ?_, fun hc => ?_⟩
  · have := h1 c hc
    refine ⟨?_, ?_, ?_⟩ <;> (rintro rfl; simp at this)
  · have := h1 32 hc; simp at this
theorem target_chars {m t : List UInt8} (h : targetB m t = true) : Clean t ∧ 32 ∉ t ∧ t ≠ [] := by
  unfold targetB at h
  simp only [Bool.and_eq_true, decide_eq_true_eq, List.all_eq_true] at h
  obtain ⟨⟨⟨h1, h2⟩, _⟩, _⟩ := h
  refine ⟨fun c hc => ?_, fun hc => ?_, by rintro rfl; simp at h2⟩
  · have := h1 c hc
    refine ⟨?_, ?_, ?_⟩ <;> (rintro rfl; simp at this)
  · have := h1 32 hc; simp at this
theorem ver_clean : Clean verL := by intro c hc; simp [verL] at hc; rcases hc with rfl | rfl | rfl | rfl | rfl | rfl | rfl <;> decide
theorem start_clean {m t : List UInt8} (hm : methodB m = true) (ht : targetB m t = true) : Clean (startQ m t) ∧ startQ m t ≠ [] := by
  unfold startQ
  refine ⟨clean_app.2 ⟨(method_chars hm).2.1, clean_cons.2 ⟨by decide, clean_app.2 ⟨(target_chars ht).1, clean_cons.2 ⟨by decide, ver_clean⟩⟩⟩⟩, by simp⟩
theorem cutG_at {c : UInt8} {a : List UInt8} (h : c ∉ a) (b : List UInt8) : cutG c (a ++ c :: b) = (a, b) := by unfold cutG; rw [cut1_at h]; rfl
theorem cutG_or (c : UInt8) (l : List UInt8) : (l = (cutG c l).1 ++ c :: (cutG c l).2) ∨ ((cutG c l).2 = [] ∧ (cutG c l).1 = l) := by
  unfold cutG
  cases h : cut1 c l with
  | none => exact .inr ⟨rfl, rfl⟩
  | some p => obtain ⟨a, b⟩ := p; exact .inl (cut1_some h).1
/-- The lines of a request, read. -/
theorem reqL_of {m t : List UInt8} {ls : List (List UInt8)} {fs0 fs : Fs} (hm : methodB m = true) (ht : targetB m t = true) (hf : readFs nm vl ls = (0, fs0)) (hh : hosted hs lw fs0 = some fs) : reqL nm vl hs lw (startQ m t :: ls) = (0, m, t, fs) := by
  have e1 : cutG 32 (startQ m t) = (m, t ++ 32 :: verL) := cutG_at (method_chars hm).2.2 _
  have e2 : cutG 32 (t ++ 32 :: verL) = (t, verL) := cutG_at (target_chars ht).2.1 _
  unfold reqL
  simp only [List.headD_cons, List.tail_cons, e1, e2, hm, ht, hf, hh]
  simp
theorem reqL_some {l : List (List UInt8)} {m t : List UInt8} {fs : Fs} (h : reqL nm vl hs lw l = (0, m, t, fs)) : methodB m = true ∧ targetB m t = true ∧ l.headD [] = startQ m t ∧ ∃ fs0, readFs nm vl l.tail = (0, fs0) ∧ hosted hs lw fs0 = some fs := by
  unfold reqL at h
  simp only at h
  by_cases h1 : methodB (cutG 32 (l.headD [])).1 = false
  · rw [if_pos h1] at h; exact absurd (congrArg Prod.fst h) (by simp)
  rw [if_neg h1] at h
  by_cases h2 : targetB (cutG 32 (l.headD [])).1 (cutG 32 (cutG 32 (l.headD [])).2).1 = false
  · rw [if_pos h2] at h; exact absurd (congrArg Prod.fst h) (by simp)
  rw [if_neg h2] at h
  by_cases h3 : (cutG 32 (cutG 32 (l.headD [])).2).2 ≠ verL
  · rw [if_pos h3] at h; exact absurd (congrArg Prod.fst h) (by simp)
  rw [if_neg h3] at h
  by_cases h4 : (readFs nm vl l.tail).1 ≠ 0
  · rw [if_pos h4] at h; exact absurd (congrArg Prod.fst h) h4
  rw [if_neg h4] at h
  cases h5 : hosted hs lw (readFs nm vl l.tail).2 with
  | none => rw [h5] at h; exact absurd (congrArg Prod.fst h) (by simp)
  | some f =>
    rw [h5] at h
    simp only [Prod.mk.injEq, true_and] at h
    obtain ⟨e1, e2, e3⟩ := h
    simp only [ne_eq, Decidable.not_not, Bool.not_eq_false] at h1 h2 h3 h4
    rw [e1] at h1 h2
    rw [e2] at h2
    refine ⟨h1, h2, ?_, (readFs nm vl l.tail).2, Prod.ext h4 rfl, by rw [h5, e3]⟩
    have hv : (cutG 32 (l.headD [])).2 = t ++ 32 :: verL := by
      rcases cutG_or 32 (cutG 32 (l.headD [])).2 with h | ⟨h, _⟩
      · rw [h, e2, h3]
      · rw [h3] at h; exact absurd h (by decide)
    rcases cutG_or 32 (l.headD []) with h | ⟨h, _⟩
    · rw [h, e1, hv]; rfl
    · rw [hv] at h; exact absurd h (by simp)
theorem readQ_of {m t : List UInt8} {ls : List (List UInt8)} {fs0 fs : Fs} (hm : methodB m = true) (ht : targetB m t = true) (hf : readFs nm vl ls = (0, fs0)) (hh : hosted hs lw fs0 = some fs) (hc : ∀ x ∈ ls, Clean x ∧ x ≠ [])
    (hn : (enc (startQ m t :: ls)).length ≤ 8192) (hl : ls.length ≤ 64) (r : List UInt8) : readQ nm vl hs lw (enc (startQ m t :: ls) ++ r) = (0, (m, t, fs), (enc (startQ m t :: ls)).length) := by
  have hs' : splitG (enc (startQ m t :: ls) ++ r) = (0, startQ m t :: ls, (enc (startQ m t :: ls)).length) :=
    splitG_enc (by simp) (fun x hx => by rcases List.mem_cons.1 hx with rfl | hx; exact start_clean hm ht; exact hc x hx) hn (by simp; omega) r
  unfold readQ
  rw [hs']
  simp only [reqL_of hm ht hf hh]
  simp
theorem readQ_some {s m t : List UInt8} {fs : Fs} {n : Nat} (h : readQ nm vl hs lw s = (0, (m, t, fs), n)) :
    methodB m = true ∧ targetB m t = true ∧ ∃ ls fs0, readFs nm vl ls = (0, fs0) ∧ hosted hs lw fs0 = some fs ∧ (∀ x ∈ ls, Clean x ∧ x ≠ []) ∧ s.take n = enc (startQ m t :: ls) ∧ n = (enc (startQ m t :: ls)).length ∧ n ≤ s.length ∧ n ≤ 8192 ∧ ls.length ≤ 64 := by
  unfold readQ at h
  by_cases h1 : (splitG s).1 ≠ 0
  · rw [if_pos h1] at h; exact absurd (congrArg Prod.fst h) h1
  rw [if_neg h1] at h
  by_cases h2 : (reqL nm vl hs lw (splitG s).2.1).1 ≠ 0
  · rw [if_pos h2] at h; exact absurd (congrArg Prod.fst h) h2
  rw [if_neg h2] at h
  simp only [ne_eq, Decidable.not_not] at h1 h2
  simp only [Prod.mk.injEq, true_and] at h
  obtain ⟨e1, e2⟩ := h
  obtain ⟨g1, g2, g3, g4, g5, g6, g7⟩ := splitG_some (s := s) (l := (splitG s).2.1) (n := (splitG s).2.2) (Prod.ext h1 rfl)
  obtain ⟨r1, r2, r3, fs0, r4, r5⟩ := reqL_some (l := (splitG s).2.1) (m := m) (t := t) (fs := fs) (Prod.ext h2 e1)
  have hl : (splitG s).2.1 = startQ m t :: (splitG s).2.1.tail := by
    rw [← r3]
    cases hh : (splitG s).2.1 with
    | nil => exact absurd hh g1
    | cons a b => rfl
  rw [e2] at g3 g4 g5 g6
  rw [hl] at g3 g4 g7
  refine ⟨r1, r2, _, fs0, r4, r5, fun x hx => g2 x (by rw [hl]; simp [hx]), g3, g4, g5, g6, by rw [List.length_cons] at g7; omega⟩
/-- An error leaves nothing. -/
theorem readQ_err {s : List UInt8} (h : (readQ nm vl hs lw s).1 ≠ 0) : (readQ nm vl hs lw s).2 = (([], [], []), 0) := by
  unfold readQ at h ⊢
  by_cases h1 : (splitG s).1 ≠ 0
  · rw [if_pos h1]
  · rw [if_neg h1] at h ⊢
    by_cases h2 : (reqL nm vl hs lw (splitG s).2.1).1 ≠ 0
    · rw [if_pos h2]
    · rw [if_neg h2] at h; exact absurd rfl h
/-- A request does not depend on what follows it. -/
theorem readQ_again {s m t : List UInt8} {fs : Fs} {n : Nat} (h : readQ nm vl hs lw s = (0, (m, t, fs), n)) (r : List UInt8) : readQ nm vl hs lw (s.take n ++ r) = (0, (m, t, fs), n) := by
  obtain ⟨h1, h2, ls, fs0, h3, h4, h5, h6, h7, _, h9, h10⟩ := readQ_some h
  rw [h6, readQ_of h1 h2 h3 h4 h5 (by rw [← h7]; exact h9) h10 r, ← h7]
/-- Each proper prefix of a request ends too early. -/
theorem readQ_prefix {s m t : List UInt8} {fs : Fs} {n i : Nat} (h : readQ nm vl hs lw s = (0, (m, t, fs), n)) (hi : i < n) : readQ nm vl hs lw (s.take i) = (21, ([], [], []), 0) := by
  obtain ⟨h1, h2, ls, fs0, h3, h4, h5, h6, h7, h8, h9, h10⟩ := readQ_some h
  have hc : ∀ x ∈ startQ m t :: ls, Clean x ∧ x ≠ [] := fun x hx => by rcases List.mem_cons.1 hx with rfl | hx; exact start_clean h1 h2; exact h5 x hx
  have e4 := end4_enc (startQ m t :: ls) (by simp) hc []
  rw [List.append_nil, ← h6] at e4
  have e5 : s.take i = (s.take n).take i := by rw [List.take_take, Nat.min_eq_left (by omega)]
  have e6 : end4 (s.take i) = none := by rw [e5]; exact end4_short e4 (by rw [h6, ← h7]; exact hi)
  have e7 : endO (s.take i) = none := by
    unfold endO
    rw [if_neg, e6]
    intro e
    have h2 := take2_line (hc _ (List.mem_cons_self ..)).1 (hc _ (List.mem_cons_self ..)).2 (13 :: 10 :: enc ls)
    apply h2
    rw [← enc_cons, ← h6]
    have : (s.take i).take 2 = [13, 10] := e
    have hl := congrArg List.length this
    simp [List.length_take] at hl
    rw [List.take_take] at this ⊢
    rw [Nat.min_eq_left (by omega)] at this ⊢
    exact this
  unfold readQ splitG
  rw [e7]
  simp only [List.length_take]
  rw [if_pos (show min i s.length < 8192 by omega)]
  simp
/-- With a CR, an LF (but directly before its last byte) or a byte 0 inserted a request is refused. -/
theorem readQ_insert {s m t : List UInt8} {fs : Fs} {n i : Nat} {c : UInt8} (h : readQ nm vl hs lw s = (0, (m, t, fs), n)) (hi : i < n) (hc : c = 0 ∨ c = 13 ∨ c = 10) (hx : ¬ (c = 10 ∧ i + 1 = n)) :
    (readQ nm vl hs lw (s.take i ++ c :: (s.take n).drop i)).1 ≠ 0 := by
  obtain ⟨h1, h2, ls, fs0, h3, h4, h5, h6, h7, h8, h9, h10⟩ := readQ_some h
  have hcl : ∀ x ∈ startQ m t :: ls, Clean x ∧ x ≠ [] := fun x hx => by rcases List.mem_cons.1 hx with rfl | hx; exact start_clean h1 h2; exact h5 x hx
  have e4 := end4_enc (startQ m t :: ls) (by simp) hcl []
  rw [List.append_nil] at e4
  have eb := bare_enc (startQ m t :: ls) (fun x hx => (hcl x hx).1) 0
  rw [← h6] at e4 eb
  have hlen : (s.take n).length = n := by rw [h6, ← h7]
  have e5 : s.take i = (s.take n).take i := by rw [List.take_take, Nat.min_eq_left (by omega)]
  rw [e5]
  intro h0
  obtain ⟨m', t', fs', n', hr⟩ : ∃ m' t' fs' n', readQ nm vl hs lw ((s.take n).take i ++ c :: (s.take n).drop i) = (0, (m', t', fs'), n') := ⟨_, _, _, _, Prod.ext h0 rfl⟩
  obtain ⟨g1, g2, ks, _, _, _, g5, g6, g7, g8, _, _⟩ := readQ_some hr
  have gcl : ∀ x ∈ startQ m' t' :: ks, Clean x ∧ x ≠ [] := fun x hx => by rcases List.mem_cons.1 hx with rfl | hx; exact start_clean g1 g2; exact g5 x hx
  have q4 := end4_enc (startQ m' t' :: ks) (by simp) gcl (((s.take n).take i ++ c :: (s.take n).drop i).drop n')
  rw [← g7, ← g6, List.take_append_drop] at q4
  have qb := bare_enc (startQ m' t' :: ks) (fun x hx => (gcl x hx).1) 0
  rw [← g6] at qb
  have := insert_bare e4 eb (by rw [hlen]; exact hi) hc (by rw [hlen]; exact hx) q4
  rw [qb] at this
  cases this
end
end Go.Proofs.YtacfkljpjjnlfaaGreatDoor
