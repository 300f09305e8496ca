import Derived.Test.YtacfkljpjjnlfaaGreatDoorPa0
import Derived.Test.YtacfkljpjjnlfaaGreatDoorPa1
import Derived.Shelf.Strings.Split
/- The library's Split and Cut at one byte, in plain words, in a world in which MaxLen is an int. -/
namespace Go.Proofs.YtacfkljpjjnlfaaGreatDoor
open Go.RowKit

/-- MaxLen is an int. -/
def HasMax (w : World) : Prop := ∃ m, w.cell? ⟨0, 0, none⟩ = some (.int .i64 m)
theorem HasMax.below {w w' : World} (h : HasMax w) (hb : Below w.heap.size w w') : HasMax w' := by
  obtain ⟨m, hm⟩ := h
  exact ⟨m, (hb.cell (p := ⟨0, 0, none⟩) (World.block_lt_of_cell? _ _ hm)).trans hm⟩

theorem idx_sep (c : UInt8) (t : List UInt8) : Lib.index (c :: t) [c] = 0 := by unfold Lib.index; simp [List.isPrefixOf]
theorem idx_ne {c x : UInt8} (h : x ≠ c) (t : List UInt8) : Lib.index (x :: t) [c] = if Lib.index t [c] == -1 then -1 else Lib.index t [c] + 1 := by
  rw [Lib.index, if_neg (by simp [List.isPrefixOf]; exact fun e => h e.symm)]
theorem split_cutL (c : UInt8) : ∀ l : List UInt8, Lib.splitK [c] 0 (Lib.count l [c]) l = cutL c l := by
  intro l
  induction l with
  | nil => rfl
  | cons x t ih =>
    by_cases hx : x = c
    · subst hx
      rw [Lib.count_cons_eq, Nat.add_comm, Lib.splitK, idx_sep, cutL_sep, ← ih]
      simp
    · rw [Lib.count_cons_ne x c t hx]
      cases hk : Lib.count t [c] with
      | zero =>
        rw [hk] at ih
        rw [cutL_cons (p := t) (r := []) hx ih.symm]; rfl
      | succ k =>
        rw [hk] at ih
        have hi : ¬ Lib.index t [c] = -1 := fun e => by rw [Lib.count_miss e] at hk; cases hk
        have hge := Lib.index_ge t [c]
        obtain ⟨i, hi'⟩ : ∃ i : Nat, Lib.index t [c] = i := ⟨(Lib.index t [c]).toNat, by omega⟩
        have e1 : (Lib.index t [c] == -1) = false := by simpa using hi
        have e2 : Lib.index (x :: t) [c] = ((i + 1 : Nat) : Int) := by rw [idx_ne hx, e1, hi']; simp
        have e3 : (((i + 1 : Nat) : Int) == -1) = false := by simp; omega
        rw [Lib.splitK, e1] at ih
        rw [Lib.splitK, e2, e3]
        rw [hi'] at ih
        simp only [Bool.false_eq_true, if_false, Int.toNat_natCast, Nat.add_zero, List.length_singleton, List.take_succ_cons, List.drop_succ_cons] at ih ⊢
        rw [cutL_cons hx ih.symm]
theorem cut_cutC (c : UInt8) : ∀ l : List UInt8, Lib.cut l [c] = cutC c l := by
  intro l
  induction l with
  | nil => rfl
  | cons x t ih =>
    by_cases hx : x = c
    · subst hx
      unfold Lib.cut; rw [idx_sep]; simp [cutC]
    · rw [cutC, if_neg hx, ← ih]
      have hge := Lib.index_ge t [c]
      by_cases hi : Lib.index t [c] = -1
      · unfold Lib.cut
        rw [idx_ne hx, hi]; rfl
      · obtain ⟨i, hi'⟩ : ∃ i : Nat, Lib.index t [c] = i := ⟨(Lib.index t [c]).toNat, by omega⟩
        have e1 : (Lib.index t [c] == -1) = false := by simpa using hi
        have e2 : Lib.index (x :: t) [c] = ((i + 1 : Nat) : Int) := by rw [idx_ne hx, e1, hi']; simp
        unfold Lib.cut
        rw [e2, hi', if_pos (by omega), if_pos (by omega)]
        simp only [Int.toNat_natCast, List.length_singleton, List.take_succ_cons, List.drop_succ_cons]
theorem splitM_any (c : UInt8) (s : ByteArray) (w : World) (hM : HasMax w) (hs : s.size ≤ 100000000) :
    Calls Tryz.prog 48 #[.string s, .string ⟨#[c]⟩] w fun e w' => ∃ v, e = .returned v ∧ OwnsS w.heap.size w' v (cutL c s.data.toList) ∧ Below w.heap.size w w' := by
  obtain ⟨m, hm⟩ := hM
  refine (Tryz.strings_Split s ⟨#[c]⟩ m w (by omega) hm (Nat.le_refl 1)).mono ?_
  rintro e w' ⟨rfl, rfl⟩
  have hd := Lib.splitB_data ⟨#[c]⟩ 0 (Lib.countB s ⟨#[c]⟩) s
  have hc : Lib.countB s ⟨#[c]⟩ = Lib.count s.data.toList [c] := rfl
  have hcut : (Lib.splitB ⟨#[c]⟩ 0 (Lib.countB s ⟨#[c]⟩) s).map (·.data.toList) = cutL c s.data.toList := by
    rw [hd, hc]; exact split_cutL c _
  have hv : (Lib.splitB ⟨#[c]⟩ 0 (Lib.countB s ⟨#[c]⟩) s).map Value.string = (cutL c s.data.toList).map strV := by
    rw [← hcut, List.map_map]
    exact List.map_congr_left fun x _ => by show Value.string x = Value.string (strB x.data.toList); rw [strB_of]
  have hlen : Lib.countB s ⟨#[c]⟩ + 1 = (cutL c s.data.toList).length := by
    rw [← hcut, List.length_map]
    exact (Lib.splitB_all ⟨#[c]⟩ (Nat.le_refl 1) 0 _ s rfl).symm
  have hle := cutL_len c s.data.toList
  have hsz : s.data.toList.length = s.size := by rw [Array.length_toList]; rfl
  refine ⟨_, rfl, ?_, below_new _ _⟩
  rw [hv, hlen]
  have := World.ownsRow_lit (base := w.heap.size) (e := 9) (size := 1) w ((cutL c s.data.toList).map strV).toArray (cutL c s.data.toList).length (Nat.le_refl _) (by unfold maxLen; omega) (by simp)
  exact this
theorem cutM_any (c : UInt8) (s : ByteArray) (w : World) (hM : HasMax w) (hs : s.size ≤ 100000000) :
    Calls Tryz.prog 50 #[.string s, .string ⟨#[c]⟩] w fun e w' => e = .returned (.tuple #[.string (strB (cutC c s.data.toList).1), .string (strB (cutC c s.data.toList).2.1), .bool (cutC c s.data.toList).2.2]) ∧ ∃ n, w' = w.drewN n := by
  obtain ⟨m, hm⟩ := hM
  refine (Tryz.strings_Cut s ⟨#[c]⟩ m w (by omega) hm).mono ?_
  rintro e w' ⟨he, hn⟩
  have hc : Lib.cut s.data.toList (⟨#[c]⟩ : ByteArray).data.toList = cutC c s.data.toList := cut_cutC c _
  rw [hc] at he
  exact ⟨he, hn⟩
end Go.Proofs.YtacfkljpjjnlfaaGreatDoor

/- Heads of messages as lists of bytes: where a head ends, its lines, bare bytes; a head that is accepted is the text of its lines. -/
namespace Go.Proofs.YtacfkljpjjnlfaaGreatDoor

/-- The end of the first CR LF CR LF. -/
def end4 : List UInt8 → Option Nat
  | [] => none
  | c :: r => if c = 13 ∧ r.take 3 = [10, 13, 10] then some 4 else (end4 r).map (· + 1)
/-- The end of a head. -/
def endO (l : List UInt8) : Option Nat := if l.take 2 = [13, 10] then some 2 else end4 l
/-- Is there a CR without LF, an LF without CR, or a byte 0? p is the byte before. -/
def bareF (p : UInt8) : List UInt8 → Bool
  | [] => false
  | c :: r => decide (c = 0) || (decide (c = 13) && decide (r.head? ≠ some 10)) || (decide (c = 10) && decide (p ≠ 13)) || bareF c r
/-- The lines that end with CR LF; cur is what stands before. -/
def linesF (cur : List UInt8) : List UInt8 → List (List UInt8)
  | [] => []
  | c :: r => if c = 13 ∧ r.head? = some 10 then cur :: linesF [] r.tail else linesF (cur ++ [c]) r
termination_by l => l.length
decreasing_by all_goals simp_wf; all_goals (try have := List.length_tail (l := r)); all_goals (try omega)
/-- No CR, no LF, no byte 0. -/
def Clean (l : List UInt8) : Prop := ∀ c ∈ l, c ≠ 0 ∧ c ≠ 13 ∧ c ≠ 10
/-- Lines and what ends them. -/
def flat (ls : List (List UInt8)) : List UInt8 := ls.flatMap (· ++ [13, 10])
/-- The head that has these lines. -/
def enc (ls : List (List UInt8)) : List UInt8 := flat ls ++ [13, 10]
theorem flat_cons (x : List UInt8) (ls : List (List UInt8)) : flat (x :: ls) = x ++ 13 :: 10 :: flat ls := by simp [flat]
theorem enc_cons (x : List UInt8) (ls : List (List UInt8)) : enc (x :: ls) = x ++ 13 :: 10 :: enc ls := by simp [enc, flat_cons]
theorem clean_nil : Clean [] := by intro c h; cases h
theorem clean_cons {c : UInt8} {l : List UInt8} : Clean (c :: l) ↔ (c ≠ 0 ∧ c ≠ 13 ∧ c ≠ 10) ∧ Clean l := by
  constructor
  · intro h; exact ⟨h c (by simp), fun d hd => h d (by simp [hd])⟩
  · intro h d hd
    rcases List.mem_cons.1 hd with rfl | hd
    · exact h.1
    · exact h.2 d hd
theorem clean_app {a b : List UInt8} : Clean (a ++ b) ↔ Clean a ∧ Clean b := by
  constructor
  · intro h; exact ⟨fun c hc => h c (by simp [hc]), fun c hc => h c (by simp [hc])⟩
  · intro h c hc
    rcases List.mem_append.1 hc with hc | hc
    · exact h.1 c hc
    · exact h.2 c hc
theorem end4_clean {x : List UInt8} (h : Clean x) (r : List UInt8) : end4 (x ++ r) = (end4 r).map (· + x.length) := by
  induction x with
  | nil => simp
  | cons c t ih =>
    rw [clean_cons] at h
    rw [List.cons_append, end4, if_neg (by intro e; exact h.1.2.1 e.1), ih h.2]
    cases end4 r <;> simp; omega
theorem end4_hit (r : List UInt8) : end4 (13 :: 10 :: 13 :: 10 :: r) = some 4 := by rw [end4, if_pos ⟨rfl, rfl⟩]
theorem end4_crlf {r : List UInt8} (h : r.take 2 ≠ [13, 10]) : end4 (13 :: 10 :: r) = (end4 r).map (· + 2) := by
  rw [end4, if_neg (by rintro ⟨_, e⟩; apply h; rw [List.take_succ_cons] at e; injection e), end4, if_neg (by rintro ⟨e, _⟩; exact absurd e (by decide))]
  cases end4 r <;> simp
theorem take2_line {y : List UInt8} (h : Clean y) (hne : y ≠ []) (r : List UInt8) : (y ++ r).take 2 ≠ [13, 10] := by
  cases y with
  | nil => exact absurd rfl hne
  | cons c t =>
    rw [clean_cons] at h
    intro e
    rw [List.cons_append, List.take_succ_cons] at e
    injection e with e1 _
    exact h.1.2.1 e1
/-- The head of clean lines, none of them empty, ends where its text ends. -/
theorem end4_enc : ∀ (ls : List (List UInt8)), ls ≠ [] → (∀ x ∈ ls, Clean x ∧ x ≠ []) → ∀ r, end4 (enc ls ++ r) = some (enc ls).length := by
  intro ls
  induction ls with
  | nil => intro h; exact absurd rfl h
  | cons x xs ih =>
    intro _ hc r
    obtain ⟨hx, hxn⟩ := hc x (by simp)
    rw [enc_cons, List.append_assoc, end4_clean hx]
    cases xs with
    | nil =>
      show Option.map _ (end4 (13 :: 10 :: 13 :: 10 :: r)) = _
      rw [end4_hit]; simp [enc, flat]; omega
    | cons y ys =>
      obtain ⟨hy, hyn⟩ := hc y (by simp)
      have e : (13 :: 10 :: enc (y :: ys)) ++ r = 13 :: 10 :: (enc (y :: ys) ++ r) := rfl
      rw [e, end4_crlf (by rw [enc_cons, List.append_assoc]; exact take2_line hy hyn _), ih (by simp) (fun z hz => hc z (by simp [hz])) r]
      simp; omega
theorem endO_enc {ls : List (List UInt8)} (h : ls ≠ []) (hc : ∀ x ∈ ls, Clean x ∧ x ≠ []) (r : List UInt8) : endO (enc ls ++ r) = some (enc ls).length := by
  unfold endO
  rw [if_neg, end4_enc ls h hc]
  cases ls with
  | nil => exact absurd rfl h
  | cons x xs =>
    obtain ⟨hx, hxn⟩ := hc x (by simp)
    rw [enc_cons, List.append_assoc]; exact take2_line hx hxn _
/-- A text without bare bytes is divided into clean lines and a clean rest. -/
theorem bare_flat : ∀ (k : Nat) (l : List UInt8) (p : UInt8), l.length ≤ k → p ≠ 13 → bareF p l = false → ∃ ls t, (∀ x ∈ ls, Clean x) ∧ Clean t ∧ l = flat ls ++ t := by
  intro k
  induction k with
  | zero =>
    intro l p hk _ _
    obtain rfl : l = [] := List.eq_nil_of_length_eq_zero (by omega)
    exact ⟨[], [], by simp, clean_nil, rfl⟩
  | succ k ih =>
    intro l p hk hp hb
    cases l with
    | nil => exact ⟨[], [], by simp, clean_nil, rfl⟩
    | cons c r =>
      rw [bareF] at hb
      simp only [Bool.or_eq_false_iff, Bool.and_eq_false_iff, decide_eq_false_iff_not, Decidable.not_not] at hb
      obtain ⟨⟨⟨h0, h13⟩, h10⟩, hr⟩ := hb
      have h10' : c ≠ 10 := by
        rcases h10 with h | h
        · exact h
        · exact absurd h hp
      by_cases e : c = 13
      · subst e
        have hh : r.head? = some 10 := by
          rcases h13 with h | h
          · exact absurd rfl h
          · exact h
        cases r with
        | nil => cases hh
        | cons d r2 =>
          have : d = 10 := Option.some.inj hh
          subst this
          rw [bareF] at hr
          simp only [Bool.or_eq_false_iff] at hr
          obtain ⟨ls, t, h1, h2, rfl⟩ := ih r2 10 (by simp at hk; omega) (by decide) hr.2
          exact ⟨[] :: ls, t, by intro x hx; rcases List.mem_cons.1 hx with rfl | hx; exact clean_nil; exact h1 x hx, h2, by rw [flat_cons]; rfl⟩
      · obtain ⟨ls, t, h1, h2, rfl⟩ := ih r c (by simp at hk; omega) e hr
        cases ls with
        | nil => exact ⟨[], c :: t, by simp, clean_cons.2 ⟨⟨h0, e, h10'⟩, h2⟩, rfl⟩
        | cons y ys =>
          refine ⟨(c :: y) :: ys, t, ?_, h2, by rw [flat_cons, flat_cons]; rfl⟩
          intro x hx
          rcases List.mem_cons.1 hx with rfl | hx
          · exact clean_cons.2 ⟨⟨h0, e, h10'⟩, h1 y (by simp)⟩
          · exact h1 x (by simp [hx])
/-- A text in clean lines that ends where its first empty line ends is the head of lines that are not empty. -/
theorem enc_of : ∀ (ls : List (List UInt8)) (t : List UInt8), (∀ x ∈ ls, Clean x) → Clean t → (∀ x xs, ls = x :: xs → x ≠ []) → end4 (flat ls ++ t) = some (flat ls ++ t).length →
    ∃ ks, ks ≠ [] ∧ (∀ x ∈ ks, Clean x ∧ x ≠ []) ∧ flat ls ++ t = enc ks := by
  intro ls
  induction ls with
  | nil =>
    intro t _ ht _ he
    have := end4_clean ht []
    rw [List.append_nil] at this
    rw [show flat [] ++ t = t from rfl, this] at he
    cases he
  | cons x xs ih =>
    intro t hc ht hne he
    have hx := hc x (by simp)
    have hxn := hne x xs rfl
    rw [flat_cons, List.append_assoc, end4_clean hx] at he
    cases xs with
    | nil =>
      exfalso
      rw [show (13 :: 10 :: flat []) ++ t = 13 :: 10 :: t from rfl, end4_crlf (by
        cases t with
        | nil => simp
        | cons c t' => rw [clean_cons] at ht; intro e; injection e with e1 _; exact ht.1.2.1 e1)] at he
      have h2 := end4_clean ht []
      rw [List.append_nil] at h2
      rw [h2] at he
      cases he
    | cons y ys =>
      by_cases hy : y = []
      · subst hy
        have e : (13 :: 10 :: flat ([] :: ys)) ++ t = 13 :: 10 :: 13 :: 10 :: (flat ys ++ t) := by rw [flat_cons]; rfl
        rw [e, end4_hit] at he
        simp only [Option.map_some, Option.some.injEq, List.length_append, List.length_cons] at he
        have hz : flat ys ++ t = [] := List.eq_nil_of_length_eq_zero (by rw [List.length_append]; omega)
        refine ⟨[x], by simp, by intro z hz; rw [List.mem_singleton] at hz; rw [hz]; exact ⟨hx, hxn⟩, ?_⟩
        rw [flat_cons, List.append_assoc, e, hz]; simp [enc, flat]
      · have hyc := hc y (by simp)
        have e : (13 :: 10 :: flat (y :: ys)) ++ t = 13 :: 10 :: (flat (y :: ys) ++ t) := rfl
        rw [e, end4_crlf (by rw [flat_cons, List.append_assoc]; exact take2_line hyc hy _)] at he
        have he2 : end4 (flat (y :: ys) ++ t) = some (flat (y :: ys) ++ t).length := by
          cases h : end4 (flat (y :: ys) ++ t) with
          | none => rw [h] at he; cases he
          | some n =>
            rw [h] at he
            simp only [Option.map_some, Option.some.injEq, List.length_append, List.length_cons] at he
            rw [List.length_append]; congr 1; omega
        obtain ⟨ks, k1, k2, k3⟩ := ih t (fun z hz => hc z (by simp [hz])) ht (fun a az hh => by injection hh with h1 _; rw [← h1]; exact hy) he2
        refine ⟨x :: ks, by simp, ?_, ?_⟩
        · intro z hz
          rcases List.mem_cons.1 hz with rfl | hz
          · exact ⟨hx, hxn⟩
          · exact k2 z hz
        · rw [enc_cons, ← k3, flat_cons, List.append_assoc]; rfl
theorem linesF_line {x : List UInt8} (h : Clean x) : ∀ (cur r : List UInt8), linesF cur (x ++ 13 :: 10 :: r) = (cur ++ x) :: linesF [] r := by
  induction x with
  | nil => intro cur r; rw [List.nil_append, linesF, if_pos ⟨rfl, rfl⟩]; simp
  | cons c t ih =>
    rw [clean_cons] at h
    intro cur r
    rw [List.cons_append, linesF, if_neg (by rintro ⟨e, _⟩; exact h.1.2.1 e), ih h.2]; simp
theorem linesF_enc : ∀ (ls : List (List UInt8)), (∀ x ∈ ls, Clean x) → linesF [] (enc ls) = ls ++ [[]] := by
  intro ls
  induction ls with
  | nil =>
    intro _
    show linesF [] (13 :: 10 :: []) = _
    rw [linesF, if_pos ⟨rfl, rfl⟩]; simp [linesF]
  | cons x xs ih =>
    intro h
    rw [enc_cons, linesF_line (h x (by simp)), ih (fun z hz => h z (by simp [hz]))]; rfl
theorem bareF_clean {x : List UInt8} (h : Clean x) : ∀ (p : UInt8) (r : List UInt8), bareF p (x ++ r) = bareF ((x.getLast?).getD p) r ∨ x = [] := by
  induction x with
  | nil => intro p r; exact .inr rfl
  | cons c t ih =>
    rw [clean_cons] at h
    intro p r
    left
    rw [List.cons_append, bareF]
    have e : (decide (c = 0) || decide (c = 13) && decide ((t ++ r).head? ≠ some 10) || decide (c = 10) && decide (p ≠ 13)) = false := by
      simp [h.1.1, h.1.2.1, h.1.2.2]
    rw [e, Bool.false_or]
    rcases ih h.2 c r with h2 | h2
    · rw [h2]
      cases t with
      | nil => rfl
      | cons d t' => rw [List.getLast?_cons_cons]; simp [List.getLast?_cons]
    · subst h2; rfl
theorem bareF_crlf (p : UInt8) (r : List UInt8) : bareF p (13 :: 10 :: r) = bareF 10 r := by
  rw [bareF, bareF]
  simp
theorem bareF_line {x : List UInt8} (h : Clean x) (p : UInt8) (r : List UInt8) : bareF p (x ++ 13 :: 10 :: r) = bareF 10 r := by
  rcases bareF_clean h p (13 :: 10 :: r) with e | e
  · rw [e, bareF_crlf]
  · subst e; exact bareF_crlf p r
theorem bare_enc : ∀ (ls : List (List UInt8)), (∀ x ∈ ls, Clean x) → ∀ p, bareF p (enc ls) = false := by
  intro ls
  induction ls with
  | nil => intro _ p; show bareF p (13 :: 10 :: []) = false; rw [bareF_crlf]; rfl
  | cons x xs ih =>
    intro h p
    rw [enc_cons, bareF_line (h x (by simp)), ih (fun z hz => h z (by simp [hz]))]
end Go.Proofs.YtacfkljpjjnlfaaGreatDoor

/- Heads of messages as lists of bytes: prefixes, and a byte inserted. -/
namespace Go.Proofs.YtacfkljpjjnlfaaGreatDoor

theorem end4_some : ∀ {l : List UInt8} {n : Nat}, end4 l = some n → 4 ≤ n ∧ n ≤ l.length := by
  intro l
  induction l with
  | nil => intro n h; cases h
  | cons c r ih =>
    intro n h
    rw [end4] at h
    by_cases hc : c = 13 ∧ r.take 3 = [10, 13, 10]
    · rw [if_pos hc] at h
      obtain rfl := Option.some.inj h
      have := congrArg List.length hc.2
      simp at this ⊢
      omega
    · rw [if_neg hc] at h
      cases h2 : end4 r with
      | none => rw [h2] at h; cases h
      | some m =>
        rw [h2] at h
        obtain rfl := Option.some.inj h
        have := ih h2
        simp; omega
theorem end4_small {l : List UInt8} (h : l.length < 4) : end4 l = none := by
  cases h2 : end4 l with
  | none => rfl
  | some n => have := end4_some h2; omega
theorem end4_pre : ∀ {l : List UInt8} {n : Nat}, end4 l = some n → ∀ r, end4 (l.take n ++ r) = some n := by
  intro l
  induction l with
  | nil => intro n h; cases h
  | cons c t ih =>
    intro n h r
    rw [end4] at h
    by_cases hc : c = 13 ∧ t.take 3 = [10, 13, 10]
    · rw [if_pos hc] at h
      obtain rfl := Option.some.inj h
      obtain ⟨rfl, h3⟩ := hc
      rw [List.take_succ_cons, h3]
      exact end4_hit r
    · rw [if_neg hc] at h
      cases h2 : end4 t with
      | none => rw [h2] at h; cases h
      | some m =>
        rw [h2] at h
        obtain rfl := Option.some.inj h
        have hm := end4_some h2
        have e : (t.take m ++ r).take 3 = t.take 3 := by
          rw [List.take_append_of_le_length (by rw [List.length_take]; omega), List.take_take, Nat.min_eq_left (by omega)]
        show end4 ((c :: t).take (m + 1) ++ r) = _
        rw [List.take_succ_cons, List.cons_append, end4, if_neg (by rw [e]; exact hc), ih h2]; rfl
theorem end4_short : ∀ {l : List UInt8} {n i : Nat}, end4 l = some n → i < n → end4 (l.take i) = none := by
  intro l
  induction l with
  | nil => intro n i h; cases h
  | cons c t ih =>
    intro n i h hi
    rw [end4] at h
    cases i with
    | zero => rfl
    | succ i =>
      by_cases hc : c = 13 ∧ t.take 3 = [10, 13, 10]
      · rw [if_pos hc] at h
        obtain rfl := Option.some.inj h
        exact end4_small (by rw [List.length_take]; omega)
      · rw [if_neg hc] at h
        cases h2 : end4 t with
        | none => rw [h2] at h; cases h
        | some m =>
          rw [h2] at h
          obtain rfl := Option.some.inj h
          rw [List.take_succ_cons, end4, if_neg, ih h2 (by simp at hi; omega)]
          · rfl
          · rintro ⟨h13, h3⟩
            apply hc
            refine ⟨h13, ?_⟩
            rw [List.take_take] at h3
            by_cases hi3 : 3 ≤ i
            · rwa [Nat.min_eq_left hi3] at h3
            · have := congrArg List.length h3
              rw [List.length_take] at this
              simp at this; omega
/-- No bare byte, position by position. -/
theorem bareF_iff : ∀ (l : List UInt8) (p : UInt8), bareF p l = false ↔ ((∀ i : Nat, l[i]? ≠ some 0) ∧ (∀ i : Nat, l[i]? = some 13 → l[i + 1]? = some 10) ∧ (∀ i : Nat, l[i + 1]? = some 10 → l[i]? = some 13) ∧ (l[0]? = some 10 → p = 13)) := by
  intro l
  induction l with
  | nil => intro p; simp [bareF]
  | cons c r ih =>
    intro p
    rw [bareF]
    simp only [Bool.or_eq_false_iff, Bool.and_eq_false_iff, decide_eq_false_iff_not, Decidable.not_not, ih c]
    have hd : r.head? = r[0]? := List.head?_eq_getElem?
    constructor
    · rintro ⟨⟨⟨h0, h13⟩, h10⟩, a, b, d, e⟩
      refine ⟨?_, ?_, ?_, ?_⟩
      · intro i; cases i with
        | zero => simp only [List.getElem?_cons_zero]; intro h; exact h0 (Option.some.inj h)
        | succ i => simp only [List.getElem?_cons_succ]; exact a i
      · intro i; cases i with
        | zero =>
          simp only [List.getElem?_cons_zero, List.getElem?_cons_succ]
          intro h
          rcases h13 with h2 | h2
          · exact absurd (Option.some.inj h) h2
          · rw [← hd]; exact h2
        | succ i => simp only [List.getElem?_cons_succ]; exact b i
      · intro i; cases i with
        | zero => simp only [List.getElem?_cons_zero, List.getElem?_cons_succ]; intro h; rw [e h]
        | succ i => simp only [List.getElem?_cons_succ]; exact d i
      · simp only [List.getElem?_cons_zero]
        intro h
        rcases h10 with h2 | h2
        · exact absurd (Option.some.inj h) h2
        · exact h2
    · rintro ⟨a, b, d, e⟩
      refine ⟨⟨⟨?_, ?_⟩, ?_⟩, ?_, ?_, ?_, ?_⟩
      · intro h; exact a 0 (by simp [h])
      · by_cases h : c = 13
        · right; rw [hd]; have := b 0 (by simp [h]); simpa using this
        · exact .inl h
      · by_cases h : c = 10
        · right; exact e (by simp [h])
        · exact .inl h
      · intro i; have := a (i + 1); simpa using this
      · intro i h; have := b (i + 1) (by simpa using h); simpa using this
      · intro i h; have := d (i + 1) (by simpa using h); simpa using this
      · intro h; have := d 0 (by simpa using h); simpa using this
theorem endO_ne {h : List UInt8} (h2 : h.take 2 ≠ [13, 10]) (r : List UInt8) (hl : 2 ≤ h.length) : endO (h ++ r) = end4 (h ++ r) := by
  unfold endO; rw [if_neg]; rw [List.take_append_of_le_length hl]; exact h2
/-- Where the head of h ends, with a byte inserted: not before it; and then it is bare, unless it is the last LF again. -/
theorem insert_bare {h : List UInt8} {i n' : Nat} {c : UInt8} (he : end4 h = some h.length) (hb : bareF 0 h = false) (hi : i < h.length) (hc : c = 0 ∨ c = 13 ∨ c = 10) (hx : ¬ (c = 10 ∧ i + 1 = h.length))
    (hn : end4 (h.take i ++ c :: h.drop i) = some n') : bareF 0 ((h.take i ++ c :: h.drop i).take n') = true := by
  have hs := end4_some he
  have hti : (h.take i).length = i := by rw [List.length_take]; omega
  have hn' := end4_some hn
  have hin : i < n' := by
    apply Classical.byContradiction
    intro hh
    have e1 := end4_pre hn []
    rw [List.append_nil, List.take_append_of_le_length (by omega), List.take_take, Nat.min_eq_left (by omega)] at e1
    rw [end4_short he (show n' < h.length by omega)] at e1
    cases e1
  obtain ⟨z0, z13, z10, zf⟩ := (bareF_iff h 0).1 hb
  obtain ⟨s', hs'⟩ : ∃ s', s' = h.take i ++ c :: h.drop i := ⟨_, rfl⟩
  have gl : ∀ j, j < i → s'[j]? = h[j]? := fun j hj => by
    rw [hs', List.getElem?_append_left (by omega), List.getElem?_take_of_lt hj]
  have gi : s'[i]? = some c := by rw [hs', List.getElem?_append_right (by omega), hti, Nat.sub_self]; rfl
  have gr : ∀ j, s'[i + 1 + j]? = h[i + j]? := fun j => by
    rw [hs', List.getElem?_append_right (by omega), hti, show i + 1 + j - i = j + 1 by omega, List.getElem?_cons_succ, List.getElem?_drop]
  rw [← hs'] at hn ⊢
  rw [← hs'] at hn'
  have gt : ∀ j, j < n' → (s'.take n')[j]? = s'[j]? := fun j hj => List.getElem?_take_of_lt hj
  apply Classical.byContradiction
  intro hh
  have hf : bareF 0 (s'.take n') = false := by simpa using hh
  obtain ⟨y0, y13, y10, yf⟩ := (bareF_iff _ 0).1 hf
  have hci : (s'.take n')[i]? = some c := (gt i hin).trans gi
  rcases hc with rfl | rfl | rfl
  · exact y0 i hci
  · have e1 := y13 i hci
    have hlt : i + 1 < n' := by
      apply Classical.byContradiction
      intro hk
      rw [List.getElem?_eq_none (by rw [List.length_take]; omega)] at e1
      cases e1
    rw [gt _ hlt] at e1
    have e2 := gr 0
    rw [Nat.add_zero, Nat.add_zero] at e2
    rw [e2] at e1
    cases i with
    | zero => have := zf e1; exact absurd this (by decide)
    | succ i =>
      have e3 := z10 i e1
      have e4 := y13 i (by rw [gt i (by omega), gl i (by omega)]; exact e3)
      rw [hci] at e4
      exact absurd (Option.some.inj e4) (by decide)
  · cases i with
    | zero => have := yf hci; exact absurd this (by decide)
    | succ i =>
      have e1 := y10 i hci
      rw [gt i (by omega), gl i (by omega)] at e1
      have e2 := z13 i e1
      have e3 := gr 0
      rw [Nat.add_zero, Nat.add_zero, e2] at e3
      by_cases hlt : i + 1 + 1 < n'
      · have e4 := y10 (i + 1) (by rw [gt _ hlt]; exact e3)
        rw [hci] at e4
        exact absurd (Option.some.inj e4) (by decide)
      · have hne : n' = i + 2 := by omega
        subst hne
        have e5 : s'.take (i + 2) = h.take (i + 2) := by
          apply List.ext_getElem?
          intro j
          by_cases hj : j < i + 1
          · rw [gt j (by omega), gl j hj, List.getElem?_take_of_lt (by omega)]
          · by_cases hj2 : j = i + 1
            · subst hj2; rw [hci, List.getElem?_take_of_lt (by omega)]; exact e2.symm
            · rw [List.getElem?_eq_none (by rw [List.length_take]; omega), List.getElem?_eq_none (by rw [List.length_take]; omega)]
        have e6 := end4_pre hn []
        rw [List.append_nil, e5] at e6
        by_cases hl : i + 2 < h.length
        · rw [end4_short he hl] at e6; cases e6
        · exact hx ⟨rfl, by omega⟩
end Go.Proofs.YtacfkljpjjnlfaaGreatDoor
