/- Plain mathematics: the normalized values of layer 16, the text of the selected fields, and when two of them are equal. -/
import Derived.Test.YtbmbcdbldbjddaaGreatDoorFSpec
import Derived.Test.YtbmbcdbldbjddaaGreatDoorQuoSpec
import Derived.Test.YtbmbcdbldbjddaaGreatDoorTrim
namespace Go.Proofs.YtbmbcdbldbjddaaGreatDoor

def normC (c : UInt8) : UInt8 := if c = 9 then 32 else if c.toNat < 32 ∨ c = 127 then 63 else c
/-- Nothing yet, or a blank behind. -/
def Blk (o : List UInt8) : Prop := o = [] ∨ o.getLast? = some 32
instance (o : List UInt8) : Decidable (Blk o) := by unfold Blk; infer_instance
def normA (o : List UInt8) (c : UInt8) : List UInt8 := if normC c = 32 ∧ Blk o then o else o ++ [normC c]
def normF (l : List UInt8) : List UInt8 := l.foldl normA []
def normV (l : List UInt8) : List UInt8 := trimB (normF l)
theorem normF_snoc (l : List UInt8) (c : UInt8) : normF (l ++ [c]) = normA (normF l) c := by unfold normF; rw [List.foldl_append]; rfl
theorem normA_same {o : List UInt8} {c : UInt8} (hc : normC c = 32) (h : Blk o) : normA o c = o := by unfold normA; rw [if_pos ⟨hc, h⟩]
theorem normA_blk {o : List UInt8} {c : UInt8} (hc : normC c = 32) : Blk (normA o c) := by
  unfold normA
  by_cases h : Blk o
  · rw [if_pos ⟨hc, h⟩]; exact h
  · rw [if_neg (fun e => h e.2), hc]; exact .inr (by simp)
/-- A value with more blanks where there are some. -/
def spcC (c : UInt8) : List UInt8 := if c = 32 then [32, 9, 32] else [c]
def spcL (l : List UInt8) : List UInt8 := 32 :: l.flatMap spcC ++ [9]
theorem fold_spc (l : List UInt8) : ∀ o : List UInt8, (l.flatMap spcC).foldl normA o = l.foldl normA o := by
  induction l with
  | nil => intro o; rfl
  | cons c t ih =>
    intro o
    rw [List.flatMap_cons, List.foldl_append, ih, List.foldl_cons]
    congr 1
    unfold spcC
    by_cases h : c = 32
    · rw [if_pos h, h]
      have e : normC 32 = 32 := by decide
      have e9 : normC 9 = 32 := by decide
      show normA (normA (normA o 32) 9) 32 = normA o 32
      rw [normA_same e9 (normA_blk e), normA_same e (normA_blk e)]
    · rw [if_neg h]; rfl
theorem trim_blank (l : List UInt8) : trimB (l ++ [32]) = trimB l := by
  have e : ∀ x, trimB x = tL (tR x) := fun x => by rw [trimB_eq, tR_tL]
  rw [e, e, tR_snoc, if_pos (by decide)]
theorem norm_spc (l : List UInt8) : normV (spcL l) = normV l := by
  have e9 : normC 9 = 32 := by decide
  have e : normC 32 = 32 := by decide
  have h1 : normF (spcL l) = normA (normF l) 9 := by
    unfold spcL
    rw [normF_snoc]
    congr 1
    unfold normF
    rw [List.foldl_cons, normA_same e (.inl rfl), fold_spc]
  unfold normV
  rw [h1]
  unfold normA
  by_cases h : Blk (normF l)
  · rw [if_pos ⟨e9, h⟩]
  · rw [if_neg (fun x => h x.2), e9, trim_blank]

theorem normC_ok (c : UInt8) : 32 ≤ (normC c).toNat ∧ normC c ≠ 127 := by
  unfold normC
  by_cases h : c = 9
  · rw [if_pos h]; decide
  · rw [if_neg h]
    by_cases h2 : c.toNat < 32 ∨ c = 127
    · rw [if_pos h2]; decide
    · rw [if_neg h2]; exact ⟨Nat.le_of_not_lt fun e => h2 (.inl e), fun e => h2 (.inr e)⟩
theorem foldA_ok (l : List UInt8) : ∀ o : List UInt8, (∀ c ∈ o, 32 ≤ c.toNat ∧ c ≠ 127) → ∀ c ∈ l.foldl normA o, 32 ≤ c.toNat ∧ c ≠ 127 := by
  induction l with
  | nil => intro o h; exact h
  | cons c t ih =>
    intro o h
    rw [List.foldl_cons]
    refine ih _ fun d hd => ?_
    unfold normA at hd
    split at hd
    · exact h d hd
    · rcases List.mem_append.mp hd with x | x
      · exact h d x
      · rw [List.mem_singleton] at x; rw [x]; exact normC_ok c
theorem tL_mem {l : List UInt8} {c : UInt8} (h : c ∈ tL l) : c ∈ l := (List.dropWhile_sublist _).subset h
theorem tR_mem {l : List UInt8} {c : UInt8} (h : c ∈ tR l) : c ∈ l := by
  unfold tR at h
  exact List.mem_reverse.mp ((List.dropWhile_sublist _).subset (List.mem_reverse.mp h))
/-- A normalized value has no control bytes. -/
theorem norm_ok (l : List UInt8) : ∀ c ∈ normV l, 32 ≤ c.toNat ∧ c ≠ 127 := fun c hc => by
  unfold normV at hc
  rw [trimB_eq] at hc
  exact foldA_ok l [] (fun d hd => by cases hd) c (tL_mem (tR_mem hc))
theorem foldA_len (l : List UInt8) : ∀ o : List UInt8, (l.foldl normA o).length ≤ o.length + l.length := by
  induction l with
  | nil => intro o; simp
  | cons c t ih =>
    intro o
    rw [List.foldl_cons, List.length_cons]
    have h1 := ih (normA o c)
    have h2 : (normA o c).length ≤ o.length + 1 := by
      unfold normA
      split
      · omega
      · simp
    omega

/-- Values joined by commas. -/
def joinV : List (List UInt8) → List UInt8
  | [] => []
  | a :: r => a ++ r.flatMap fun v => 44 :: v
theorem joinV_snoc (l : List (List UInt8)) (v : List UInt8) : joinV (l ++ [v]) = if l = [] then v else joinV l ++ 44 :: v := by
  cases l with
  | nil => simp [joinV]
  | cons a r => simp [joinV]
theorem joinV_ok {l : List (List UInt8)} (h : ∀ v ∈ l, ∀ c ∈ v, 32 ≤ c.toNat ∧ c ≠ 127) : ∀ c ∈ joinV l, 32 ≤ c.toNat ∧ c ≠ 127 := by
  intro c hc
  cases l with
  | nil => cases hc
  | cons a r =>
    rcases List.mem_append.mp hc with x | x
    · exact h a (List.mem_cons_self ..) c x
    · obtain ⟨v, hv, hx⟩ := List.mem_flatMap.mp x
      rcases List.mem_cons.mp hx with e | e
      · rw [e]; decide
      · exact h v (List.mem_cons_of_mem _ hv) c e
/-- The normalized value of a name, if there is a field of it. -/
def valV (ps : Flds) (n : List UInt8) : Option (List UInt8) := if allL ps n = [] then none else some (joinV ((allL ps n).map normV))
theorem valV_ok {ps : Flds} {n v : List UInt8} (h : valV ps n = some v) : ∀ c ∈ v, 32 ≤ c.toNat ∧ c ≠ 127 := by
  unfold valV at h
  split at h
  · cases h
  · rw [← Option.some.inj h]
    exact joinV_ok fun v hv => by obtain ⟨x, _, rfl⟩ := List.mem_map.mp hv; exact norm_ok x
/-- What stands behind a name in the text. -/
def optK : Option (List UInt8) → List UInt8
  | none => []
  | some v => 61 :: quoS v
def restK (ns : List (List UInt8)) (ps : Flds) : List UInt8 := ns.flatMap fun m => 38 :: (m ++ optK (valV ps m))
/-- The text of the fields with these names. -/
def keyL : List (List UInt8) → Flds → List UInt8
  | [], _ => []
  | n :: r, ps => (n ++ optK (valV ps n)) ++ restK r ps
theorem keyL_snoc (ns : List (List UInt8)) (n : List UInt8) (ps : Flds) : keyL (ns ++ [n]) ps = if ns = [] then n ++ optK (valV ps n) else keyL ns ps ++ 38 :: (n ++ optK (valV ps n)) := by
  cases ns with
  | nil => simp [keyL, restK]
  | cons a r => simp [keyL, restK]
theorem esc_cut (u : List UInt8) : ∀ v x y : List UInt8, escS u ++ 34 :: x = escS v ++ 34 :: y → u = v ∧ x = y := by
  have hd : ∀ c : UInt8, ∃ d r, esc c = d :: r ∧ d ≠ 34 := fun c => by
    unfold esc
    by_cases h : c = 34 ∨ c = 92
    · exact ⟨92, [c], by rw [if_pos h], by decide⟩
    · exact ⟨c, [], by rw [if_neg h], fun e => h (.inl e)⟩
  have hc : ∀ (c : UInt8) (t : List UInt8), escS (c :: t) = esc c ++ escS t := fun c t => rfl
  induction u with
  | nil =>
    intro v x y h
    cases v with
    | nil => exact ⟨rfl, by simpa [escS] using h⟩
    | cons d s =>
      obtain ⟨e, r, he, hne⟩ := hd d
      rw [hc, he] at h
      simp only [escS, List.flatMap_nil, List.nil_append, List.cons_append, List.cons.injEq] at h
      exact absurd h.1.symm hne
  | cons c t ih =>
    intro v x y h
    cases v with
    | nil =>
      obtain ⟨e, r, he, hne⟩ := hd c
      rw [hc, he] at h
      simp only [escS, List.flatMap_nil, List.nil_append, List.cons_append, List.cons.injEq] at h
      exact absurd h.1 hne
    | cons d s =>
      rw [hc, hc, List.append_assoc, List.append_assoc] at h
      have key : c = d ∧ escS t ++ 34 :: x = escS s ++ 34 :: y := by
        unfold esc at h
        by_cases h1 : c = 34 ∨ c = 92
        · by_cases h2 : d = 34 ∨ d = 92
          · rw [if_pos h1, if_pos h2] at h
            simp only [List.cons_append, List.nil_append, List.cons.injEq, true_and] at h
            exact h
          · rw [if_pos h1, if_neg h2] at h
            simp only [List.cons_append, List.nil_append, List.cons.injEq] at h
            exact absurd (.inr h.1.symm) h2
        · by_cases h2 : d = 34 ∨ d = 92
          · rw [if_neg h1, if_pos h2] at h
            simp only [List.cons_append, List.nil_append, List.cons.injEq] at h
            exact absurd (.inr h.1) h1
          · rw [if_neg h1, if_neg h2] at h
            simp only [List.cons_append, List.nil_append, List.cons.injEq] at h
            exact h
      obtain ⟨e1, e2⟩ := ih s x y key.2
      exact ⟨by rw [key.1, e1], e2⟩
/-- Nothing, or an ampersand first. -/
def Amp (x : List UInt8) : Prop := x = [] ∨ ∃ r, x = 38 :: r
theorem restK_amp (ns : List (List UInt8)) (ps : Flds) : Amp (restK ns ps) := by
  cases ns with
  | nil => exact .inl rfl
  | cons a r => exact .inr ⟨_, rfl⟩
theorem opt_cut {a b : Option (List UInt8)} {x y : List UInt8} (hx : Amp x) (hy : Amp y) (h : optK a ++ x = optK b ++ y) : a = b ∧ x = y := by
  have no : ∀ {z : List UInt8} {u r : List UInt8}, Amp z → z ≠ 61 :: (u ++ r) := fun hz e => by
    rcases hz with e2 | ⟨q, e2⟩
    · rw [e2] at e; cases e
    · rw [e2] at e; simp at e
  cases a with
  | none =>
    cases b with
    | none => exact ⟨rfl, h⟩
    | some v => exact absurd h (no hx)
  | some u =>
    cases b with
    | none => exact absurd h.symm (no hy)
    | some v =>
      simp only [optK, quoS, List.cons_append, List.append_assoc, List.nil_append, List.cons.injEq, true_and] at h
      obtain ⟨e1, e2⟩ := esc_cut u v x y h
      exact ⟨by rw [e1], e2⟩
theorem rest_inj (ns : List (List UInt8)) {f g : Flds} (h : restK ns f = restK ns g) : ∀ n ∈ ns, valV f n = valV g n := by
  induction ns with
  | nil => intro n hn; cases hn
  | cons a r ih =>
    have e : ∀ ps : Flds, restK (a :: r) ps = 38 :: (a ++ (optK (valV ps a) ++ restK r ps)) := fun ps => by simp [restK]
    rw [e, e, List.cons.injEq, List.append_right_inj] at h
    obtain ⟨e1, e2⟩ := opt_cut (restK_amp r f) (restK_amp r g) h.2
    intro n hn
    rcases List.mem_cons.mp hn with x | x
    · rw [x]; exact e1
    · exact ih e2 n x
theorem rest_same {ns : List (List UInt8)} {f g : Flds} (h : ∀ n ∈ ns, valV f n = valV g n) : restK ns f = restK ns g := by
  induction ns with
  | nil => rfl
  | cons a r ih =>
    have e : ∀ ps : Flds, restK (a :: r) ps = 38 :: (a ++ (optK (valV ps a) ++ restK r ps)) := fun ps => by simp [restK]
    rw [e, e, ih fun n hn => h n (List.mem_cons_of_mem _ hn), h a (List.mem_cons_self ..)]
/-- Two requests have the same text exactly if each selected field has the same value in both, or is in neither. -/
theorem key_inj (ns : List (List UInt8)) (f g : Flds) : keyL ns f = keyL ns g ↔ ∀ n ∈ ns, valV f n = valV g n := by
  constructor
  · intro h
    cases ns with
    | nil => intro n hn; cases hn
    | cons a r =>
      have e : ∀ ps : Flds, keyL (a :: r) ps = a ++ (optK (valV ps a) ++ restK r ps) := fun ps => by simp [keyL]
      rw [e, e, List.append_right_inj] at h
      obtain ⟨e1, e2⟩ := opt_cut (restK_amp r f) (restK_amp r g) h
      intro n hn
      rcases List.mem_cons.mp hn with x | x
      · rw [x]; exact e1
      · exact rest_inj r e2 n x
  · intro h
    cases ns with
    | nil => rfl
    | cons a r =>
      have e2 : restK r f = restK r g := by
        exact rest_same fun m hm => h m (List.mem_cons_of_mem _ hm)
      show (a ++ optK (valV f a)) ++ restK r f = (a ++ optK (valV g a)) ++ restK r g
      rw [e2, h a (List.mem_cons_self ..)]
/-- More blanks change no text. -/
theorem key_spc (ns : List (List UInt8)) (f : Flds) : keyL ns (f.map fun p => (p.1, spcL p.2)) = keyL ns f := by
  rw [key_inj]
  intro n _
  have ha : allL (f.map fun p => (p.1, spcL p.2)) n = (allL f n).map spcL := by
    unfold allL
    rw [List.filter_map, List.map_map, List.map_map]
    rfl
  unfold valV
  rw [ha, List.map_map]
  have hm : (allL f n).map (normV ∘ spcL) = (allL f n).map normV := List.map_congr_left fun x _ => norm_spc x
  rw [hm]
  by_cases h : allL f n = []
  · rw [if_pos h, if_pos (by rw [h]; rfl)]
  · rw [if_neg h, if_neg (by simpa using h)]
/-- Fields of other names change no text. -/
theorem key_other (ns : List (List UInt8)) (f : Flds) (m v : List UInt8) (h : ∀ n ∈ ns, lowS m ≠ lowS n) : keyL ns (addL f m v) = keyL ns f := by
  rw [key_inj]
  intro n hn
  unfold valV
  rw [all_add_other (h n hn)]
/-- One more field of a selected name changes the text. -/
theorem key_more (ns : List (List UInt8)) (f : Flds) (n v : List UInt8) (hn : n ∈ ns) : keyL ns (addL f n v) ≠ keyL ns f := by
  intro h
  have hv := (key_inj ns _ _).mp h n hn
  unfold valV at hv
  rw [all_add_same rfl] at hv
  rw [if_neg (by simp)] at hv
  by_cases ha : allL f n = []
  · rw [if_pos ha] at hv; cases hv
  · rw [if_neg ha, List.map_append] at hv
    have hj := Option.some.inj hv
    rw [List.map_cons, List.map_nil, joinV_snoc, if_neg (by simpa using ha)] at hj
    have hl := congrArg List.length hj
    rw [List.length_append, List.length_cons] at hl
    omega
end Go.Proofs.YtbmbcdbldbjddaaGreatDoor
