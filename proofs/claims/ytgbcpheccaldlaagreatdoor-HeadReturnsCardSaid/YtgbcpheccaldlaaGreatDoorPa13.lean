import Derived.Test.YtgbcpheccaldlaaGreatDoorPa11
import Derived.Test.YtgbcpheccaldlaaGreatDoorPa1
import Derived.OneCell
import Derived.Test.YtgbcpheccaldlaaGreatDoorPa12
import Derived.Test.YtgbcpheccaldlaaGreatDoorPa2
import Derived.Lib.Hide
import Derived.Test.YtgbcpheccaldlaaGreatDoorPa9
import Derived.Test.YtgbcpheccaldlaaGreatDoorPa6
import Derived.Test.YtgbcpheccaldlaaGreatDoorPa7
/- The reference's lines and split. -/
namespace Go.Proofs.YtgbcpheccaldlaaGreatDoor
open Go.RowKit

/-- i bytes are looked at; the lines so far are out; the next one begins at x. -/
def LinesTo (l : List UInt8) (x i : Nat) (out : List (List UInt8)) : Prop :=
  out.length ≤ i ∧ ((x ≤ i ∧ linesF [] l = out ++ linesF ((l.drop x).take (i - x)) (l.drop i)) ∨ (x = i + 1 ∧ l[i]? = some 10 ∧ linesF [] l = out ++ linesF [] (l.drop (i + 1))))
theorem linesTo0 (l : List UInt8) : LinesTo l 0 0 [] := ⟨Nat.le_refl _, .inl ⟨Nat.le_refl _, by simp⟩⟩
theorem drop_consG {l : List UInt8} {i : Nat} (h : i < l.length) : l.drop i = (l[i]'h) :: l.drop (i + 1) := by rw [List.drop_eq_getElem_cons h]
theorem take_snoc' {l : List UInt8} {x i : Nat} (hx : x ≤ i) (hi : i < l.length) : (l.drop x).take (i + 1 - x) = (l.drop x).take (i - x) ++ [l[i]'hi] := by
  rw [show i + 1 - x = (i - x) + 1 by omega, List.take_succ_eq_append_getElem (by rw [List.length_drop]; omega), List.getElem_drop]
  congr 2
  simp only [show x + (i - x) = i by omega]
theorem linesTo_hit {l : List UInt8} {x i : Nat} {out : List (List UInt8)} (h : LinesTo l x i out) (hi : i + 2 ≤ l.length) (hm : (l.drop i).take 2 = crlf) : x ≤ i ∧ LinesTo l (i + 2) (i + 1) (out ++ [(l.drop x).take (i - x)]) := by
  have h1 := drop_consG (show i < l.length by omega)
  have h2 := drop_consG (show i + 1 < l.length by omega)
  rw [h1, h2] at hm
  unfold crlf at hm
  simp only [List.take_succ_cons, List.take_zero, List.cons.injEq, and_true] at hm
  obtain ⟨c1, c2⟩ := hm
  rcases h with ⟨ho, ⟨hx, h⟩ | ⟨_, h3, _⟩⟩
  · refine ⟨hx, by simp; omega, .inr ⟨rfl, ?_, ?_⟩⟩
    · rw [List.getElem?_eq_getElem (by omega), c2]
    · rw [h, h1, c1, linesF, h2, if_pos ⟨rfl, by rw [c2]; rfl⟩]; simp
  · rw [List.getElem?_eq_getElem (by omega), c1] at h3; exact absurd h3 (by decide)
theorem linesTo_step {l : List UInt8} {x i : Nat} {out : List (List UInt8)} (h : LinesTo l x i out) (hi : i + 2 ≤ l.length) (hm : (l.drop i).take 2 ≠ crlf) : LinesTo l x (i + 1) out := by
  have h1 := drop_consG (show i < l.length by omega)
  have h2 := drop_consG (show i + 1 < l.length by omega)
  rcases h with ⟨ho, ⟨hx, h⟩ | ⟨rfl, h3, h⟩⟩
  · refine ⟨by omega, .inl ⟨by omega, ?_⟩⟩
    rw [h, h1, linesF, if_neg, take_snoc' hx (by omega)]
    rintro ⟨a, b⟩
    apply hm
    rw [h2] at b
    rw [h1, h2, List.take_succ_cons, List.take_succ_cons, a, Option.some.inj b]; rfl
  · exact ⟨by omega, .inl ⟨Nat.le_refl _, by rw [h]; simp⟩⟩
theorem linesTo_end {l : List UInt8} {x i : Nat} {out : List (List UInt8)} (h : LinesTo l x i out) (hi : ¬ i + 2 ≤ l.length) : linesF [] l = out := by
  rcases h with ⟨_, ⟨hx, h⟩ | ⟨rfl, h3, h⟩⟩
  · rw [h]
    cases e : l.drop i with
    | nil => rw [linesF]; simp
    | cons c r =>
      have : r = [] := by
        have := congrArg List.length e
        rw [List.length_drop] at this
        exact List.eq_nil_of_length_eq_zero (by simp at this; omega)
      subst this
      rw [linesF, if_neg (by rintro ⟨_, b⟩; cases b), linesF]; simp
  · rw [h, List.drop_of_length_le (by omega), linesF]; simp
theorem crlf_yes {s : ByteArray} {k : Nat} (h : (s.data.toList.drop k).take 2 = crlf) : ((s.extract k (k + 2)).toList == ([13, 10] : List UInt8)) = true := by rw [ext_list, show k + 2 - k = 2 by omega, h]; rfl
theorem crlf_no {s : ByteArray} {k : Nat} (h : (s.data.toList.drop k).take 2 ≠ crlf) : ((s.extract k (k + 2)).toList == ([13, 10] : List UInt8)) = false := by
  rw [ext_list, show k + 2 - k = 2 by omega]
  have : ¬ (s.data.toList.drop k).take 2 = [13, 10] := h
  simpa using this
theorem seg_strV (s : ByteArray) (x k : Nat) : Value.string (s.extract x k) = strV ((s.data.toList.drop x).take (k - x)) := by
  show _ = Value.string (strB _); rw [← seg_list, strB_of]
theorem one_new (W : World) (v : Value) (T : TypeId) : ∀ (j : Nat) (u : Value), [v][j]? = some u → (W.alloc (.cells #[v] T)).cell? ((⟨W.heap.size, 0, none⟩ : Addr).add j) = some u := by
  intro j u h
  rw [Addr.add_lit, Nat.zero_add, World.cell?_alloc_at _ _ _ _ rfl]
  match j, h with
  | 0, h => simpa using h
  | j + 1, h => simp at h
theorem linesF_len : ∀ (k : Nat) (l cur : List UInt8), l.length ≤ k → (linesF cur l).length ≤ l.length := by
  intro k
  induction k with
  | zero =>
    intro l cur h
    obtain rfl : l = [] := List.eq_nil_of_length_eq_zero (by omega)
    rw [linesF]; simp
  | succ k ih =>
    intro l cur h
    cases l with
    | nil => rw [linesF]; simp
    | cons c r =>
      rw [linesF]
      split
      · have h2 := List.length_tail (l := r)
        have := ih r.tail [] (by simp at h; omega)
        simp only [List.length_cons]; omega
      · have := ih r (cur ++ [c]) (by simp at h; omega)
        simp only [List.length_cons]; omega
/-- The value v is empty and nil, or a slice with room for one more that lies at the head of a block and holds these strings. -/
def RowG (w : World) (v : Value) (ls : List (List UInt8)) : Prop :=
  (ls = [] ∧ v = .slice none 0 0) ∨ ∃ g cap, v = .slice (some ⟨g, 0, none⟩) ls.length cap ∧ ls.length + 1 ≤ cap ∧ g < w.heap.size ∧ ∀ j l, ls[j]? = some l → w.cell? ⟨g, j, none⟩ = some (.string (strB l))
def RefSplitPost (l : List UInt8) (w : World) (e : Ending) (w' : World) : Prop :=
  ∃ v, e = .returned (.tuple #[v, .int .i64 ((splitG l).2.2 : Int), .int .i64 ((splitG l).1 : Int)]) ∧ RowG w' v (splitG l).2.1 ∧ Below w.heap.size w w'
theorem refSplit_err {l : List UInt8} {w w' : World} {c : Nat} (h : splitG l = (c, [], 0)) (hB : Below w.heap.size w w') : RefSplitPost l w (.returned (.tuple #[.slice none 0 0, .int .i64 0, .int .i64 (c : Int)])) w' :=
  ⟨.slice none 0 0, by rw [h]; rfl, .inl ⟨by rw [h], rfl⟩, hB⟩
theorem endO_some {l : List UInt8} {n : Nat} (h : endO l = some n) : 2 ≤ n ∧ n ≤ l.length := by
  unfold endO at h
  by_cases h2 : l.take 2 = [13, 10]
  · rw [if_pos h2] at h
    have := congrArg List.length h2
    rw [List.length_take] at this
    simp at this
    have := Option.some.inj h
    omega
  · rw [if_neg h2] at h
    have := end4_some h; omega
theorem split_none {l : List UInt8} (h : endO l = none) : splitG l = (if l.length < 8192 then 21 else 5, [], 0) := by unfold splitG; rw [h]
theorem split_large {l : List UInt8} {n : Nat} (h : endO l = some n) (h1 : 8192 < n ∨ 66 < (linesF [] (l.take n)).length) : splitG l = (5, [], 0) := by unfold splitG; rw [h]; simp only; rw [if_pos h1]
theorem split_line {l : List UInt8} {n : Nat} (h : endO l = some n) (h1 : ¬ (8192 < n ∨ 66 < (linesF [] (l.take n)).length)) (h2 : n = 2 ∨ bareF 0 (l.take n) = true) : splitG l = (22, [], 0) := by
  unfold splitG; rw [h]; simp only; rw [if_neg h1, if_pos h2]
theorem split_good {l : List UInt8} {n : Nat} (h : endO l = some n) (h1 : ¬ (8192 < n ∨ 66 < (linesF [] (l.take n)).length)) (h2 : ¬ (n = 2 ∨ bareF 0 (l.take n) = true)) : splitG l = (0, (linesF [] (l.take n)).dropLast, n) := by
  unfold splitG; rw [h]; simp only; rw [if_neg h1, if_neg h2]
theorem OwnsS.rowG {B : Nat} {w : World} {v : Value} {ls : List (List UInt8)} (hO : OwnsS B w v ls) (hne : ls ≠ []) :
    ∃ g cap, v = .slice (some ⟨g, 0, none⟩) ls.length cap ∧ ls.length ≤ cap ∧ g < w.heap.size ∧ (∀ j l, ls[j]? = some l → w.cell? ⟨g, j, none⟩ = some (.string (strB l))) := by
  rcases hO.open' with ⟨_, h⟩ | ⟨g, cap, hv, hb, hg, hc⟩
  · exact absurd h hne
  · refine ⟨g, cap, hv, ?_, hg, hc⟩
    rcases hO with ⟨hl, ⟨hv', hn⟩ | ⟨g', cap', cur, hv', hb', hg', hn, _⟩⟩
    · rw [hv'] at hv; cases hv
    · rw [hv'] at hv
      simp only [Value.slice.injEq, Option.some.injEq, Addr.mk.injEq, and_true, true_and] at hv
      obtain ⟨_, rfl⟩ := hv
      exact hn
theorem drop_last_at {ls : List (List UInt8)} {j : Nat} {l : List UInt8} (h : ls.dropLast[j]? = some l) : ls[j]? = some l := by
  have hj := (List.getElem?_eq_some_iff.1 h).1
  rw [List.length_dropLast] at hj
  rw [List.dropLast_eq_take, List.getElem?_take_of_lt hj] at h
  exact h
end Go.Proofs.YtgbcpheccaldlaaGreatDoor

/- What the reference's ReadRequest returns. -/
namespace Go.Proofs.YtgbcpheccaldlaaGreatDoor
open Go.RowKit

theorem start26 {x : List UInt8} (h : methodB (cutG 32 x).1 = false) : startC x = 26 := by
  have e : reqC (cutG 32 x).1 (cutG 32 (cutG 32 x).2).1 = 26 := by unfold reqC; rw [if_pos h]
  unfold startC; rw [e, if_pos (by decide)]
theorem start27 {x : List UInt8} (h : methodB (cutG 32 x).1 = true) (h2 : targetB (cutG 32 x).1 (cutG 32 (cutG 32 x).2).1 = false) : startC x = 27 := by
  have e : reqC (cutG 32 x).1 (cutG 32 (cutG 32 x).2).1 = 27 := by unfold reqC; rw [if_neg (by rw [h]; simp), if_pos h2]
  unfold startC; rw [e, if_pos (by decide)]
theorem reqC_good {m t : List UInt8} (h : methodB m = true) (h2 : targetB m t = true) : reqC m t = 0 := by
  unfold reqC; rw [if_neg (by rw [h]; simp), if_neg (by rw [h2]; simp)]
theorem start28 {x : List UInt8} (h : methodB (cutG 32 x).1 = true) (h2 : targetB (cutG 32 x).1 (cutG 32 (cutG 32 x).2).1 = true) (h3 : (cutG 32 (cutG 32 x).2).2 ≠ verL) : startC x = 28 := by
  unfold startC; rw [reqC_good h h2, if_neg (by simp), if_pos h3]
theorem start0 {x : List UInt8} (h : methodB (cutG 32 x).1 = true) (h2 : targetB (cutG 32 x).1 (cutG 32 (cutG 32 x).2).1 = true) (h3 : (cutG 32 (cutG 32 x).2).2 = verL) : startC x = 0 := by
  unfold startC; rw [reqC_good h h2, if_neg (by simp), if_neg (by simp [h3])]
theorem rdQ_start {l x : List UInt8} {t : List (List UInt8)} {c : Nat} (h : (splitG l).1 = 0) (hx : (splitG l).2.1 = x :: t) (h1 : startC x = c) (hc : c ≠ 0) : rdQ l = (c, ([], [], []), 0) := by
  rw [rdQ_lines h, hx, reqL_start (by rw [h1]; exact hc), h1, if_pos hc]
theorem rdQ_hR {l x : List UInt8} {t : List (List UInt8)} (h : (splitG l).1 = 0) (hx : (splitG l).2.1 = x :: t) (h1 : startC x = 0) (h2 : (readFs nmO vlO t).1 = 0) (hh : hosted hostO lowS (readFs nmO vlO t).2 = none) : rdQ l = (29, ([], [], []), 0) :=
  rdQ_h h hx h1 h2 (by rw [← hosted_with (readFs_lower t)]; exact hh)
theorem rdQ_gR {l x : List UInt8} {t : List (List UInt8)} {fs : Fs} (h : (splitG l).1 = 0) (hx : (splitG l).2.1 = x :: t) (h1 : startC x = 0) (h2 : (readFs nmO vlO t).1 = 0) (hh : hosted hostO lowS (readFs nmO vlO t).2 = some fs) : rdQ l = (0, ((cutG 32 x).1, (cutG 32 (cutG 32 x).2).1, fs), (splitG l).2.2) :=
  rdQ_g h hx h1 h2 (by rw [← hosted_with (readFs_lower t)]; exact hh)
/-- What the reference's ReadRequest leaves. -/
def RefReqPost (l : List UInt8) (w : World) (e : Ending) (w' : World) : Prop :=
  ∃ v, e = .returned (.tuple #[.agg #[.string (strB (rdQ l).2.1.1), .string (strB (rdQ l).2.1.2.1), v], .int .i64 ((rdQ l).2.2 : Int), .int .i64 ((rdQ l).1 : Int)]) ∧ OwnsP 41 w.heap.size w' v (rdQ l).2.1.2.2 ∧ Below w.heap.size w w'
theorem refReq_err {l : List UInt8} {w w' : World} {c : Nat} (h : rdQ l = (c, ([], [], []), 0)) (hB : Below w.heap.size w w') :
    RefReqPost l w (.returned (.tuple #[.agg #[.string ⟨#[]⟩, .string ⟨#[]⟩, .slice none 0 0], .int .i64 0, .int .i64 (c : Int)])) w' :=
  ⟨.slice none 0 0, by rw [h]; rfl, by rw [h]; exact OwnsP.nil _ _ _, hB⟩
end Go.Proofs.YtgbcpheccaldlaaGreatDoor

/- What the code's Number returns, for every string. -/
namespace Go.Proofs.YtgbcpheccaldlaaGreatDoor
open Go.RowKit

def allDig (s : ByteArray) (k : Nat) : Prop := (s.data.toList.take k).all digB = true
theorem allDig0 (s : ByteArray) : allDig s 0 := by simp [allDig]
theorem allDig_step {s : ByteArray} {k : Nat} (h : k < s.size) (hn : allDig s k) (hb : digB s[k] = true) : allDig s (k + 1) := by
  unfold allDig at *; rw [take_snoc s k h, List.all_append, hn]; simp [hb]
def numV (l : List UInt8) : Nat := l.foldl (fun n c => 10 * n + (c.toNat - 48)) 0
theorem numV_snoc (l : List UInt8) (c : UInt8) : numV (l ++ [c]) = 10 * numV l + (c.toNat - 48) := by simp [numV]
theorem fold_lt : ∀ (l : List UInt8) (a : Nat), l.all digB = true → l.foldl (fun n c => 10 * n + (c.toNat - 48)) a < (a + 1) * 10 ^ l.length := by
  intro l
  induction l with
  | nil => intro a _; simp
  | cons c t ih =>
    intro a h
    simp only [List.all_cons, Bool.and_eq_true] at h
    have hc := h.1
    simp [digB] at hc
    have := ih (10 * a + (c.toNat - 48)) h.2
    rw [List.foldl_cons, List.length_cons, Nat.pow_succ]
    refine Nat.lt_of_lt_of_le this ?_
    have e : (a + 1) * (10 ^ t.length * 10) = (10 * (a + 1)) * 10 ^ t.length := by
      rw [← Nat.mul_assoc, Nat.mul_right_comm, Nat.mul_comm (a + 1) 10]
    rw [e]
    exact Nat.mul_le_mul_right _ (by omega)
theorem numV_lt (l : List UInt8) (h : l.all digB = true) : numV l < 10 ^ l.length := by
  have := fold_lt l 0 h
  simpa [numV] using this
theorem numV_le (l : List UInt8) (h : l.all digB = true) (hl : l.length ≤ 15) : numV l < 1000000000000000 := by
  have h1 := numV_lt l h
  have h2 : 10 ^ l.length ≤ 10 ^ 15 := Nat.pow_le_pow_right (by omega) hl
  have h3 : (10 : Nat) ^ 15 = 1000000000000000 := by decide
  omega
theorem int_eq {k : IntKind} {a b : Int} (h : a = b) : Value.int k a = Value.int k b := by rw [h]
abbrev errForm' : Value := .iface 63 (.int .i64 2)
abbrev errLarge' : Value := .iface 63 (.int .i64 5)
def numR (s : ByteArray) : Value := if s.size ≤ 15 then .tuple #[.int .i64 (numV s.data.toList), .nilIface] else .tuple #[.int .i64 0, errLarge']
theorem numR_large {s : ByteArray} (h : 15 < s.size) : Ending.returned (.tuple #[.int .i64 0, errLarge']) = .returned (numR s) := by unfold numR; rw [if_neg (by omega)]
theorem numR_small {s : ByteArray} {l : List UInt8} (h : ¬ 15 < s.size) (hl : l = s.data.toList) : Ending.returned (.tuple #[.int .i64 (numV l), .nilIface]) = .returned (numR s) := by unfold numR; rw [if_pos (by omega), hl]
def numGood (s : ByteArray) : Prop := s.data.toList ≠ [] ∧ s.data.toList.all digB = true

theorem digit_not {s : ByteArray} {k : Nat} (h : k < s.size) (hb : ¬ digB s[k] = true) (hg : s.data.toList.all digB = true) : False := by
  rw [List.all_eq_true] at hg
  exact hb (hg _ (get_mem s k h))
theorem digB_of {s : ByteArray} {k : Nat} (h : k < s.size) (hg : s.data.toList.all digB = true) : 48 ≤ s[k].toNat ∧ s[k].toNat ≤ 57 := by
  rw [List.all_eq_true] at hg
  have := hg _ (get_mem s k h)
  simpa [digB] using this

end Go.Proofs.YtgbcpheccaldlaaGreatDoor

/- The status line: what the program's readStatusLine and the reference's status return. -/
namespace Go.Proofs.YtgbcpheccaldlaaGreatDoor
open Go.RowKit

theorem statusN_eq (l : List UInt8) : statusN l = if 3 ≤ l.length ∧ (l.length = 3 ∨ l[3]? = some 32) ∧ (l.take 3).all digB = true ∧ (l.drop 3).any ctlB = false ∧ 100 ≤ numV (l.take 3) ∧ numV (l.take 3) ≤ 599 then numV (l.take 3) else 0 := by
  match l with
  | [] => rfl
  | [_] => rfl
  | [_, _] => rfl
  | a :: b :: c :: r =>
    have e1 : numV ((a :: b :: c :: r).take 3) = 100 * (a.toNat - 48) + 10 * (b.toNat - 48) + (c.toNat - 48) := by
      show 10 * (10 * (10 * 0 + (a.toNat - 48)) + (b.toNat - 48)) + (c.toNat - 48) = _
      omega
    have e2 : ((a :: b :: c :: r).take 3).all digB = (dgB a && (dgB b && (dgB c && true))) := rfl
    have e3 : ((a :: b :: c :: r).drop 3).any ctlB = r.any ctlG := rfl
    have e4 : 3 ≤ (a :: b :: c :: r).length := by simp
    have e5 : ((a :: b :: c :: r).length = 3 ∨ (a :: b :: c :: r)[3]? = some 32) ↔ (r = [] ∨ r.head? = some 32) := by
      cases r <;> simp
    simp only [statusN]
    rw [e1, e2, e3]
    generalize 100 * (a.toNat - 48) + 10 * (b.toNat - 48) + (c.toNat - 48) = n
    by_cases h1 : (r = [] ∨ r.head? = some 32) ∧ dgB a = true ∧ dgB b = true ∧ dgB c = true ∧ r.any ctlG = false
    · rw [if_pos h1]
      obtain ⟨x1, x2, x3, x4, x5⟩ := h1
      by_cases h2 : 100 ≤ n ∧ n ≤ 599
      · rw [if_pos h2, if_pos ⟨e4, e5.2 x1, by rw [x2, x3, x4]; rfl, x5, h2⟩]
      · rw [if_neg h2, if_neg (fun h => h2 h.2.2.2.2)]
    · rw [if_neg h1, if_neg]
      rintro ⟨_, x1, x2, x5, _⟩
      simp only [Bool.and_eq_true, and_true] at x2
      exact h1 ⟨e5.1 x1, x2.1, x2.2.1, x2.2.2, x5⟩
theorem cutG_no {c : UInt8} : ∀ {l : List UInt8}, c ∉ l → cutG c l = (l, []) := by
  intro l h
  unfold cutG
  have : cut1 c l = none := by
    induction l with
    | nil => rfl
    | cons x t ih =>
      simp only [List.mem_cons, not_or] at h
      rw [cut1, if_neg (fun e => h.1 e.symm), ih h.2]; rfl
  rw [this]; rfl
theorem dig_no32 {l : List UInt8} (h : l.all digB = true) : (32 : UInt8) ∉ l := fun hm => absurd (List.all_eq_true.1 h 32 hm) (by decide)
theorem status_cut (l : List UInt8) : statusN l = if (cutG 32 l).1.length = 3 ∧ (cutG 32 l).1.all digB = true ∧ (cutG 32 l).2.any ctlB = false ∧ 100 ≤ numV (cutG 32 l).1 ∧ numV (cutG 32 l).1 ≤ 599 then numV (cutG 32 l).1 else 0 := by
  rw [statusN_eq]
  by_cases h : 3 ≤ l.length ∧ (l.length = 3 ∨ l[3]? = some 32) ∧ (l.take 3).all digB = true
  · obtain ⟨h1, h2, h3⟩ := h
    have hl3 : (l.take 3).length = 3 := by rw [List.length_take]; omega
    have key : cutG 32 l = (l.take 3, (l.drop 3).tail) ∧ (l.drop 3).any ctlB = (l.drop 3).tail.any ctlB := by
      rcases h2 with h2 | h2
      · have e1 : l.take 3 = l := List.take_of_length_le (by omega)
        have e2 : l.drop 3 = [] := List.drop_of_length_le (by omega)
        rw [e1] at h3
        rw [e1, e2, cutG_no (dig_no32 h3)]
        exact ⟨rfl, rfl⟩
      · obtain ⟨hlt, he⟩ := List.getElem?_eq_some_iff.1 h2
        have e3 : l.drop 3 = 32 :: l.drop 4 := by rw [List.drop_eq_getElem_cons hlt, he]
        have e4 : l = l.take 3 ++ 32 :: l.drop 4 := by rw [← e3, List.take_append_drop]
        refine ⟨?_, ?_⟩
        · rw [e3]; conv => lhs; rw [e4]
          exact cutG_at (dig_no32 h3) _
        · rw [e3, List.any_cons]; rfl
    rw [key.1, key.2]
    simp only
    by_cases h5 : (l.drop 3).tail.any ctlB = false ∧ 100 ≤ numV (l.take 3) ∧ numV (l.take 3) ≤ 599
    · rw [if_pos ⟨h1, h2, h3, h5⟩, if_pos ⟨hl3, h3, h5⟩]
    · rw [if_neg (fun h => h5 h.2.2.2), if_neg (fun h => h5 h.2.2)]
  · rw [if_neg (fun h' => h ⟨h'.1, h'.2.1, h'.2.2.1⟩), if_neg]
    rintro ⟨h1, h2, _⟩
    apply h
    rcases cutG_or 32 l with e | ⟨_, e⟩
    · generalize cutG 32 l = p at *
      obtain ⟨a, b⟩ := p
      simp only at h1 h2 e
      subst e
      refine ⟨by simp; omega, .inr ?_, ?_⟩
      · rw [List.getElem?_append_right (by omega), h1]; rfl
      · rw [List.take_append_of_le_length (by omega), List.take_of_length_le (by omega)]; exact h2
    · rw [e] at h1 h2
      exact ⟨by omega, .inl h1, by rw [List.take_of_length_le (by omega)]; exact h2⟩
/-- The number of the error of a status line. -/
def statC (l : List UInt8) : Nat := if (cutG 32 l).1 ≠ verL then 28 else if statusN (cutG 32 l).2 = 0 then 2 else 0
def statV (l : List UInt8) : Value := if statC l = 0 then .tuple #[.int .i64 (statusN (cutG 32 l).2 : Int), .nilIface] else .tuple #[.int .i64 0, .iface 63 (.int .i64 (statC l))]
theorem statV_no {l : List UInt8} (h : statC l ≠ 0) : statV l = .tuple #[.int .i64 0, .iface 63 (.int .i64 (statC l))] := by unfold statV; rw [if_neg h]
theorem statV_yes {l : List UInt8} (h : statC l = 0) : statV l = .tuple #[.int .i64 (statusN (cutG 32 l).2 : Int), .nilIface] := by unfold statV; rw [if_pos h]
theorem statC_2 {l : List UInt8} (h : (cutG 32 l).1 = verL) (h2 : statusN (cutG 32 l).2 = 0) : statC l = 2 := by unfold statC; rw [if_neg (by simp [h]), if_pos h2]
theorem statC_28 {l : List UInt8} (h : (cutG 32 l).1 ≠ verL) : statC l = 28 := by unfold statC; rw [if_pos h]
theorem statC_0 {l : List UInt8} (h : (cutG 32 l).1 = verL) (h2 : statusN (cutG 32 l).2 ≠ 0) : statC l = 0 := by unfold statC; rw [if_neg (by simp [h]), if_neg h2]
theorem statV_2 {l : List UInt8} (h : (cutG 32 l).1 = verL) (h2 : statusN (cutG 32 l).2 = 0) : statV l = .tuple #[.int .i64 0, .iface 63 (.int .i64 2)] := by
  rw [statV_no (by rw [statC_2 h h2]; decide), statC_2 h h2]; rfl
end Go.Proofs.YtgbcpheccaldlaaGreatDoor
