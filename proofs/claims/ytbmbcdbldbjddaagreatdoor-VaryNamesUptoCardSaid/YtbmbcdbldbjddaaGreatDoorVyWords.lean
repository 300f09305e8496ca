/- Plain mathematics: a value cut at blanks and tabs into words, the words joined by single blanks: the normalized value. -/
import Derived.Test.YtbmbcdbldbjddaaGreatDoorVyPure
import Derived.Lib.FieldsP
import Derived.Lib.SpaceUEq
import Derived.Lib.MapLaws
import Derived.Lib.QuoteLoop
namespace Go.Proofs.YtbmbcdbldbjddaaGreatDoor

theorem all_u8 (p : UInt8 → Prop) (h : ∀ n : Fin 256, p (UInt8.ofNat n.val)) (c : UInt8) : p c := by
  have := h ⟨c.toNat, c.toNat_lt⟩
  simpa using this
def isB (c : UInt8) : Bool := decide (c = 32 ∨ c = 9)
def isBr (r : Nat) : Bool := decide (r = 32 ∨ r = 9)
/-- The words so far, and the one that is open. -/
def stW (x : List (List UInt8) × List UInt8) (c : UInt8) : List (List UInt8) × List UInt8 :=
  if isB c then (if x.2 = [] then x else (x.1 ++ [x.2], [])) else (x.1, x.2 ++ [c])
def runW (l : List UInt8) : List (List UInt8) × List UInt8 := l.foldl stW ([], [])
def wdL (l : List UInt8) : List (List UInt8) := if (runW l).2 = [] then (runW l).1 else (runW l).1 ++ [(runW l).2]
def jnB : List (List UInt8) → List UInt8
  | [] => []
  | a :: r => a ++ r.flatMap fun w => 32 :: w
theorem runW_snoc (l : List UInt8) (c : UInt8) : runW (l ++ [c]) = stW (runW l) c := by unfold runW; rw [List.foldl_append]; rfl
/-- The words have no blanks, and none is empty. -/
def WdOk (x : List (List UInt8) × List UInt8) : Prop := (∀ w ∈ x.1, w ≠ [] ∧ ∀ c ∈ w, isB c = false) ∧ ∀ c ∈ x.2, isB c = false
theorem stW_ok {x : List (List UInt8) × List UInt8} {c : UInt8} (h : WdOk x) : WdOk (stW x c) := by
  unfold stW
  by_cases hb : isB c = true
  · rw [if_pos hb]
    by_cases he : x.2 = []
    · rw [if_pos he]; exact h
    · rw [if_neg he]
      refine ⟨fun w hw => ?_, fun c hc => by cases hc⟩
      rcases List.mem_append.mp hw with a | a
      · exact h.1 w a
      · rw [List.mem_singleton] at a; rw [a]; exact ⟨he, h.2⟩
  · rw [if_neg hb]
    refine ⟨h.1, fun d hd => ?_⟩
    rcases List.mem_append.mp hd with a | a
    · exact h.2 d a
    · rw [List.mem_singleton] at a; rw [a]; simpa using hb
theorem fold_ok (l : List UInt8) : ∀ x, WdOk x → WdOk (l.foldl stW x) := by
  induction l with
  | nil => intro x h; exact h
  | cons c t ih => intro x h; exact ih _ (stW_ok h)
theorem runW_ok (l : List UInt8) : WdOk (runW l) := fold_ok l _ (show WdOk ([], []) from ⟨fun w hw => (by cases hw), fun c hc => (by cases hc)⟩)
/-- What normA has made of it. -/
def outW (x : List (List UInt8) × List UInt8) : List UInt8 := ((x.1.flatMap fun w => w ++ [32]) ++ x.2).map normC
theorem isB_norm (c : UInt8) : (normC c = 32) ↔ isB c = true := by
  unfold normC isB
  by_cases h : c = 9
  · rw [if_pos h]; simp [h]
  · rw [if_neg h]
    by_cases h2 : c.toNat < 32 ∨ c = 127
    · rw [if_pos h2]
      have hc : c ≠ 32 := fun e => by subst e; revert h2; decide
      simp [h, hc]
    · rw [if_neg h2]; simp [h]
theorem blk_out {x : List (List UInt8) × List UInt8} (h : WdOk x) : Blk (outW x) ↔ x.2 = [] := by
  obtain ⟨a, b⟩ := x
  rcases List.eq_nil_or_concat b with rfl | ⟨t, c, rfl⟩
  · refine ⟨fun _ => rfl, fun _ => ?_⟩
    rcases List.eq_nil_or_concat a with rfl | ⟨s, w, rfl⟩
    · exact .inl rfl
    · refine .inr ?_
      have e32 : normC 32 = 32 := by decide
      simp [outW, e32]
  · rw [List.concat_eq_append] at *
    refine ⟨fun hb => ?_, fun e => by simp at e⟩
    exfalso
    rcases hb with hb | hb
    · simp [outW] at hb
    · have hc := h.2 c (by simp)
      simp only [outW, List.map_append, List.map_cons, List.map_nil, ← List.append_assoc, List.getLast?_concat, Option.some.injEq] at hb
      rw [(isB_norm c).mp hb] at hc
      cases hc
theorem norm_step {x : List (List UInt8) × List UInt8} (hk : WdOk x) (c : UInt8) : normA (outW x) c = outW (stW x c) := by
  unfold normA stW
  by_cases hb : isB c = true
  · rw [if_pos hb]
    have hn := (isB_norm c).mpr hb
    by_cases he : x.2 = []
    · rw [if_pos he, if_pos ⟨hn, (blk_out hk).mpr he⟩]
    · rw [if_neg he, if_neg (fun z => he ((blk_out hk).mp z.2)), hn]
      have e32 : normC 32 = 32 := by decide
      simp [outW, e32]
  · rw [if_neg hb, if_neg (fun z => hb ((isB_norm c).mp z.1))]
    simp [outW]
theorem norm_fold (l : List UInt8) : ∀ x, WdOk x → l.foldl normA (outW x) = outW (l.foldl stW x) := by
  induction l with
  | nil => intro x _; rfl
  | cons c t ih => intro x h; rw [List.foldl_cons, List.foldl_cons, norm_step h, ih _ (stW_ok h)]
theorem normF_run (l : List UInt8) : normF l = outW (runW l) :=
  norm_fold l ([], []) (show WdOk ([], []) from ⟨fun w hw => (by cases hw), fun c hc => (by cases hc)⟩)
theorem jnB_open (a : List (List UInt8)) (b : List UInt8) : jnB (a ++ [b]) = (a.flatMap fun w => w ++ [32]) ++ b := by
  induction a with
  | nil => simp [jnB]
  | cons w r ih =>
    cases r with
    | nil => simp [jnB]
    | cons v s =>
      simp only [jnB, List.cons_append, List.flatMap_append, List.flatMap_cons, List.append_assoc, List.flatMap_nil, List.append_nil, List.nil_append] at ih ⊢
      rw [ih]
theorem tL_head {c : UInt8} {t : List UInt8} (h : blank c = false) : tL (c :: t) = c :: t := by rw [tL_cons, if_neg (by simp [h])]
theorem blank_isB (c : UInt8) : blank c = isB c := all_u8 (fun c => blank c = isB c) (by decide +kernel) c
theorem nb_norm : ∀ {c : UInt8} (_ : isB c = false), blank (normC c) = false := by
  have h := all_u8 (fun c => isB c = false → blank (normC c) = false) (by decide +kernel)
  exact fun {c} hc => h c hc
theorem trim_nb {l : List UInt8} (h1 : ∀ c, l.head? = some c → blank c = false) (h2 : ∀ c, l.getLast? = some c → blank c = false) : trimB l = l := by
  rw [trimB_eq]
  cases l with
  | nil => rfl
  | cons a t =>
    rw [tL_head (h1 a rfl)]
    rcases List.eq_nil_or_concat (a :: t) with e | ⟨s, c, e⟩
    · cases e
    · rw [e, List.concat_eq_append] at h2 ⊢
      rw [tR_snoc, if_neg (by rw [h2 c (by simp)]; simp)]
theorem jn_head (ws : List (List UInt8)) (h : ∀ w ∈ ws, w ≠ [] ∧ ∀ c ∈ w, isB c = false) : ∀ c, ((jnB ws).map normC).head? = some c → blank c = false := by
  intro c hc
  cases ws with
  | nil => cases hc
  | cons w r =>
    obtain ⟨hn, hw⟩ := h w (List.mem_cons_self ..)
    cases w with
    | nil => exact absurd rfl hn
    | cons d t =>
      simp only [jnB, List.cons_append, List.map_cons, List.head?_cons, Option.some.injEq] at hc
      rw [← hc]
      exact nb_norm (hw d (List.mem_cons_self ..))
theorem jn_last (ws : List (List UInt8)) (h : ∀ w ∈ ws, w ≠ [] ∧ ∀ c ∈ w, isB c = false) : ∀ c, ((jnB ws).map normC).getLast? = some c → blank c = false := by
  intro c hc
  rcases List.eq_nil_or_concat ws with rfl | ⟨s, w, rfl⟩
  · cases hc
  · rw [List.concat_eq_append] at h hc
    obtain ⟨hn, hw⟩ := h w (by simp)
    rcases List.eq_nil_or_concat w with rfl | ⟨t, d, rfl⟩
    · exact absurd rfl hn
    · rw [jnB_open, List.concat_eq_append] at hc
      simp only [List.map_append, List.map_cons, List.map_nil, ← List.append_assoc, List.getLast?_concat, Option.some.injEq] at hc
      rw [← hc]
      exact nb_norm (hw d (by simp))
theorem wdL_ok (l : List UInt8) : ∀ w ∈ wdL l, w ≠ [] ∧ ∀ c ∈ w, isB c = false := by
  intro w hw
  have h := runW_ok l
  unfold wdL at hw
  by_cases he : (runW l).2 = []
  · rw [if_pos he] at hw; exact h.1 w hw
  · rw [if_neg he] at hw
    rcases List.mem_append.mp hw with a | a
    · exact h.1 w a
    · rw [List.mem_singleton] at a; rw [a]; exact ⟨he, h.2⟩
/-- The normalized value: the words joined by single blanks, without control bytes. -/
theorem norm_words (l : List UInt8) : normV l = (jnB (wdL l)).map normC := by
  have hk := wdL_ok l
  have ht : trimB ((jnB (wdL l)).map normC) = (jnB (wdL l)).map normC := trim_nb (jn_head _ hk) (jn_last _ hk)
  unfold normV
  rw [normF_run, ← ht]
  unfold wdL
  by_cases he : (runW l).2 = []
  · rw [if_pos he]
    unfold outW
    rw [he, List.append_nil]
    rcases List.eq_nil_or_concat (runW l).1 with e | ⟨s, w, e⟩
    · rw [e]; rfl
    · rw [e, List.concat_eq_append, jnB_open]
      have e32 : normC 32 = 32 := by decide
      have e2 : ((s ++ [w]).flatMap fun w => w ++ [32]) = ((s.flatMap fun w => w ++ [32]) ++ w) ++ [32] := by simp
      rw [e2, List.map_append, List.map_cons, List.map_nil, e32, trim_blank]
  · rw [if_neg he]
    unfold outW
    rw [jnB_open]
def ctlC (c : UInt8) : UInt8 := if (c.toNat < 32 ∧ c.toNat ≠ 9) ∨ c.toNat = 127 then 63 else c
theorem ctl_norm : ∀ {c : UInt8} (_ : c ≠ 9), ctlC c = normC c := by
  have h := all_u8 (fun c => c ≠ 9 → ctlC c = normC c) (by decide +kernel)
  exact fun {c} hc => h c hc
theorem norm_ctl (l : List UInt8) : normV l = (jnB (wdL l)).map ctlC := by
  rw [norm_words]
  refine List.map_congr_left fun c hc => (ctl_norm fun e => ?_).symm
  have hk := wdL_ok l
  generalize wdL l = ws at *
  subst e
  cases ws with
  | nil => cases hc
  | cons a r =>
    have no : ∀ w ∈ a :: r, (9 : UInt8) ∉ w := fun w hw e => by have := (hk w hw).2 9 e; revert this; decide
    rcases List.mem_append.mp hc with x | x
    · exact no a (List.mem_cons_self ..) x
    · obtain ⟨v, hv, hx⟩ := List.mem_flatMap.mp x
      rcases List.mem_cons.mp hx with e | e
      · revert e; decide
      · exact no v (List.mem_cons_of_mem _ hv) e
theorem fold_len (l : List UInt8) : ∀ x : List (List UInt8) × List UInt8, ((l.foldl stW x).1.flatMap fun w => w ++ [32]).length + (l.foldl stW x).2.length ≤ (x.1.flatMap fun w => w ++ [32]).length + x.2.length + l.length := by
  induction l with
  | nil => intro x; simp
  | cons c t ih =>
    intro x
    rw [List.foldl_cons, List.length_cons]
    have h1 := ih (stW x c)
    have h2 : ((stW x c).1.flatMap fun w => w ++ [32]).length + (stW x c).2.length ≤ (x.1.flatMap fun w => w ++ [32]).length + x.2.length + 1 := by
      unfold stW
      split
      · split
        · omega
        · simp [List.flatMap_append]; omega
      · simp; omega
    omega
theorem norm_len (l : List UInt8) : (normV l).length ≤ l.length := by
  have h1 := foldA_len l []
  have h2 : (normV l).length ≤ (normF l).length := by
    unfold normV
    rw [trimB_eq]
    unfold tR tL
    simp only [List.length_reverse]
    refine Nat.le_trans (List.dropWhile_sublist _).length_le ?_
    rw [List.length_reverse]
    exact (List.dropWhile_sublist _).length_le
  unfold normF at h2
  simp only [List.length_nil, Nat.zero_add] at h1
  exact Nat.le_trans h2 h1

/-- A byte of 128 or more: it and its continuations are no blank. -/
theorem wide_at (s : ByteArray) (i : Nat) (hi : i < s.size) (hb : 128 ≤ (s.data.toList.getD i 0).toNat) :
    i + (Utf8.decode s i).2 ≤ s.size ∧ 1 ≤ (Utf8.decode s i).2 ∧ 128 ≤ (Utf8.decode s i).1 ∧ ∀ j, i ≤ j → j < i + (Utf8.decode s i).2 → ∀ b, s.data.toList[j]? = some b → 128 ≤ b.toNat := by
  have hsz : s.data.toList.length = s.size := by simp
  have hn : s.data.toList.length - i ≥ 1 := by omega
  have hd := Lib.decode_N s i
  have hlt : (s.data.toList.getD i 0).toNat < 256 := UInt8.toNat_lt _
  have hs := Lib.decodeN_shape (s.data.toList.length - i) (s.data.toList.getD i 0).toNat (s.data.toList.getD (i + 1) 0).toNat (s.data.toList.getD (i + 2) 0).toNat (s.data.toList.getD (i + 3) 0).toNat
  have hge := Lib.decodeN_ge1 (s.data.toList.length - i) (s.data.toList.getD i 0).toNat (s.data.toList.getD (i + 1) 0).toNat (s.data.toList.getD (i + 2) 0).toNat (s.data.toList.getD (i + 3) 0).toNat
  rw [← hd] at hs hge
  have at' : ∀ j b, s.data.toList[j]? = some b → s.data.toList.getD j 0 = b := fun j b h => by rw [List.getD, h]; rfl
  refine ⟨?_, hge, ?_, ?_⟩
  · rcases hs with ⟨h, e⟩ | ⟨_, h1, _, _, e⟩ | ⟨_, h1, _, _, _, _, e⟩ | ⟨_, h1, _, _, _, _, _, e⟩ | e
    · omega
    all_goals (rw [e]; simp only; omega)
  · rcases hs with ⟨h, e⟩ | ⟨_, h1, _, h2, e⟩ | ⟨_, h1, _, _, h2, _, e⟩ | ⟨_, h1, _, _, _, h2, _, e⟩ | e
    · omega
    all_goals (rw [e]; simp only; omega)
  · intro j hj1 hj2 b hjb
    have hg := at' j b hjb
    have hcase : j = i ∨ j = i + 1 ∨ j = i + 2 ∨ j = i + 3 ∨ i + 4 ≤ j := by omega
    rcases hs with ⟨h, e⟩ | ⟨_, h1, c1, h2, e⟩ | ⟨_, h1, c1, c2, h2, _, e⟩ | ⟨_, h1, c1, c2, c3, h2, _, e⟩ | e
    · omega
    all_goals
      rw [e] at hj2
      simp only at hj2
      rcases hcase with rfl | rfl | rfl | rfl | h4
      all_goals first
        | (rw [hg] at hb; exact hb)
        | (rw [hg] at c1; omega)
        | (rw [hg] at c2; omega)
        | (rw [hg] at c3; omega)
        | omega
theorem fold_wide (m : List UInt8) : ∀ (x : List (List UInt8) × List UInt8), (∀ b ∈ m, 128 ≤ b.toNat) → m.foldl stW x = (x.1, x.2 ++ m) := by
  induction m with
  | nil => intro x _; simp
  | cons c t ih =>
    intro x h
    have hc := h c (List.mem_cons_self ..)
    have hb : isB c = false := by
      unfold isB
      refine decide_eq_false fun e => ?_
      rcases e with e | e <;> (subst e; revert hc; decide)
    rw [List.foldl_cons, ih _ (fun b hm => h b (List.mem_cons_of_mem _ hm))]
    unfold stW
    rw [hb]
    simp
/-- A piece of the text. -/
def pcW (L : List UInt8) (a b : Nat) : List UInt8 := (L.drop a).take (b - a)
def opW (L : List UInt8) (pos : Nat) : Option Nat → List UInt8
  | none => []
  | some a => pcW L a pos
theorem pc_grow (L : List UInt8) (a p n : Nat) (h : a ≤ p) : pcW L a (p + n) = pcW L a p ++ pcW L p (p + n) := by
  unfold pcW
  rw [show p + n - a = (p - a) + n by omega, List.take_add, List.drop_drop, show a + (p - a) = p by omega, show p + n - p = n by omega]
theorem pc_self (L : List UInt8) (p n : Nat) : pcW L p (p + n) = (L.drop p).take n := by unfold pcW; rw [show p + n - p = n by omega]
theorem pc_ne (L : List UInt8) (a p : Nat) (h : a < p) (hp : p ≤ L.length) : pcW L a p ≠ [] := fun e => by
  have := congrArg List.length e
  unfold pcW at this
  rw [List.length_take, List.length_drop, List.length_nil] at this
  omega
theorem take_more' (L : List UInt8) (p n : Nat) : L.take (p + n) = L.take p ++ (L.drop p).take n := List.take_add ..
theorem isBr_isB : ∀ c : UInt8, isBr c.toNat = isB c := all_u8 (fun c => isBr c.toNat = isB c) (by decide +kernel)
theorem spans_run (s : ByteArray) : ∀ (f pos : Nat) (st : Option Nat) (acc : List (Nat × Nat)), s.size ≤ pos + f → pos ≤ s.size → (∀ a, st = some a → a < pos) →
    runW (s.data.toList.take pos) = (acc.map fun x => pcW s.data.toList x.1 x.2, opW s.data.toList pos st) →
    wdL s.data.toList = (Lib.closeSpans s (Lib.spansFromP isBr s f pos st acc)).map fun x => pcW s.data.toList x.1 x.2 := by
  have hsz : s.data.toList.length = s.size := by simp
  have hend : ∀ (st : Option Nat) (acc : List (Nat × Nat)), (∀ a, st = some a → a < s.size) → runW (s.data.toList.take s.size) = (acc.map fun x => pcW s.data.toList x.1 x.2, opW s.data.toList s.size st) → wdL s.data.toList = (Lib.closeSpans s (acc, st)).map fun x => pcW s.data.toList x.1 x.2 := by
    intro st acc hst h
    rw [← hsz, List.take_length, hsz] at h
    unfold wdL
    rw [h]
    cases st with
    | none => simp [opW, Lib.closeSpans]
    | some a =>
      have := pc_ne s.data.toList a s.size (hst a rfl) (by omega)
      simp [opW, Lib.closeSpans, this]
  intro f
  induction f with
  | zero =>
    intro pos st acc h hp hst hr
    obtain rfl : pos = s.size := by omega
    exact hend st acc hst hr
  | succ f ih =>
    intro pos st acc h hp hst hr
    by_cases hlt : pos < s.size
    · unfold Lib.spansFromP
      rw [if_pos hlt]
      obtain ⟨c, hc⟩ : ∃ c, s.data.toList[pos]? = some c := ⟨s.data.toList[pos]'(by omega), by simp⟩
      have hg : s.data.toList.getD pos 0 = c := by rw [List.getD, hc]; rfl
      by_cases hb : c.toNat < 128
      · have hd : Utf8.decode s pos = (c.toNat, 1) := by
          rw [Lib.decode_N, hg, Lib.decodeN_ascii _ _ _ _ _ hb]
        have hone : (s.data.toList.drop pos).take 1 = [c] := by
          have : s.data.toList.drop pos = c :: s.data.toList.drop (pos + 1) := by
            rw [List.drop_eq_getElem_cons (by omega)]
            congr 1
            have := hc
            rw [List.getElem?_eq_getElem (by omega)] at this
            exact Option.some.inj this
          rw [this]; rfl
        have hnext : runW (s.data.toList.take (pos + 1)) = stW (acc.map (fun x => pcW s.data.toList x.1 x.2), opW s.data.toList pos st) c := by
          rw [take_more', hone, runW_snoc, hr]
        rw [hd]
        simp only
        have hbr : isBr c.toNat = isB c := isBr_isB c
        cases hq : isB c with
        | true =>
          rw [hbr, hq]
          simp only [if_true]
          cases st with
          | none =>
            refine ih (pos + 1) none acc (by omega) (by omega) (fun a ha => by cases ha) ?_
            rw [hnext]; simp [stW, hq, opW]
          | some a =>
            have hne := pc_ne s.data.toList a pos (hst a rfl) (by omega)
            refine ih (pos + 1) none (acc ++ [(a, pos)]) (by omega) (by omega) (fun a ha => by cases ha) ?_
            rw [hnext]; simp [stW, hq, opW, hne]
        | false =>
          rw [hbr, hq]
          simp only [Bool.false_eq_true, if_false]
          cases st with
          | none =>
            refine ih (pos + 1) (some pos) acc (by omega) (by omega) (fun a ha => by cases ha; omega) ?_
            rw [hnext]
            simp only [stW, hq, opW, pc_self, hone]
            simp
          | some a =>
            refine ih (pos + 1) (some a) acc (by omega) (by omega) (fun b hb => by cases hb; have := hst a rfl; omega) ?_
            rw [hnext]
            have := hst a rfl
            simp only [stW, hq, opW, pc_grow s.data.toList a pos 1 (by omega), pc_self, hone]
            simp
      · obtain ⟨h1, h2, h3, h4⟩ := wide_at s pos hlt (by rw [hg]; omega)
        generalize hD : Utf8.decode s pos = D at *
        obtain ⟨r, n⟩ := D
        simp only at h1 h2 h3 h4 ⊢
        have hbr : isBr r = false := by unfold isBr; exact decide_eq_false (by omega)
        rw [hbr]
        simp only [Bool.false_eq_true, if_false]
        have hw : ∀ b ∈ (s.data.toList.drop pos).take n, 128 ≤ b.toNat := by
          intro b hb
          obtain ⟨j, hj⟩ := List.getElem?_of_mem hb
          have hjl := (List.getElem?_eq_some_iff.mp hj).1
          rw [List.length_take] at hjl
          rw [List.getElem?_take, if_pos (by omega), List.getElem?_drop] at hj
          exact h4 (pos + j) (by omega) (by omega) b hj
        have hnext : runW (s.data.toList.take (pos + n)) = (acc.map (fun x => pcW s.data.toList x.1 x.2), opW s.data.toList pos st ++ (s.data.toList.drop pos).take n) := by
          have e : runW (s.data.toList.take (pos + n)) = ((s.data.toList.drop pos).take n).foldl stW (runW (s.data.toList.take pos)) := by
            unfold runW
            rw [take_more', List.foldl_append]
          rw [e, hr, fold_wide _ _ hw]
        cases st with
        | none =>
          refine ih (pos + n) (some pos) acc (by omega) (by omega) (fun a ha => by cases ha; omega) ?_
          rw [hnext]
          simp only [opW, pc_self]
          simp
        | some a =>
          have := hst a rfl
          refine ih (pos + n) (some a) acc (by omega) (by omega) (fun b hb => by cases hb; omega) ?_
          rw [hnext]
          simp only [opW, pc_grow s.data.toList a pos n (by omega), pc_self]
    · obtain rfl : pos = s.size := by omega
      rw [Lib.spansFromP_end _ _ _ _ _ _ hlt]
      exact hend st acc hst hr
/-- The fields of the text are its words. -/
theorem fields_words (s : ByteArray) : (Lib.goFieldsP isBr s).map (·.data.toList) = wdL s.data.toList := by
  rw [spans_run s s.size 0 none [] (by omega) (by omega) (fun a h => by cases h) rfl]
  unfold Lib.goFieldsP Lib.spansOfP
  rw [List.map_map]
  refine List.map_congr_left fun x _ => ?_
  simp [pcW, List.take_drop]
end Go.Proofs.YtbmbcdbldbjddaaGreatDoor
