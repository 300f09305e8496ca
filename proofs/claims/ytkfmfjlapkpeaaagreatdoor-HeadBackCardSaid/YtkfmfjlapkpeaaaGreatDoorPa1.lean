import Derived.Test.YtkfmfjlapkpeaaaGreatDoorPa0
import Derived.Shelf.Strings.Split
/- What the code says of a letter or a digit. -/
namespace Go.Proofs.YtkfmfjlapkpeaaaGreatDoor
open Go.RowKit

set_option maxHeartbeats 400000 in
theorem alnum_any (c : UInt8) (w : World) :
    Calls Tryz.prog 113 #[.int .u8 (c.toNat : Int)] w fun e w' => e = .returned (.bool (alnB c)) ∧ w = w' := by
  go_enter Tryz.func113, Tryz.ntmps113
  go_wp2
  all_goals
    go_ret
    refine ⟨ret_bool ?_, rfl⟩
    rw [Bool.eq_iff_iff]
    simp [alnB] at *
    try omega
end Go.Proofs.YtkfmfjlapkpeaaaGreatDoor

/- What isLabel says of a string: whether it is a label of a host. -/
namespace Go.Proofs.YtkfmfjlapkpeaaaGreatDoor
open Go.RowKit

def okTo (p : UInt8 → Bool) (s : ByteArray) (k : Nat) : Prop := (s.data.toList.take k).all p = true
theorem okTo0 (p : UInt8 → Bool) (s : ByteArray) : okTo p s 0 := by simp [okTo]
theorem okTo_step {p : UInt8 → Bool} {s : ByteArray} {k : Nat} (h : k < s.size) (hn : okTo p s k) (hb : p s[k] = true) : okTo p s (k + 1) := by
  unfold okTo at *; rw [take_snoc s k h, List.all_append, hn]; simp [hb]
theorem okTo_no {p : UInt8 → Bool} {s : ByteArray} {k : Nat} (h : k < s.size) (hb : p s[k] = false) : s.data.toList.all p = false := by
  rw [Bool.eq_false_iff]; intro ha
  rw [List.all_eq_true] at ha
  rw [ha _ (get_mem s k h)] at hb; cases hb
theorem okTo_end {p : UInt8 → Bool} {s : ByteArray} {k : Nat} (h : s.size ≤ k) (hn : okTo p s k) : s.data.toList.all p = true := by
  unfold okTo at hn; rw [take_all s k h] at hn; exact hn
theorem head_at (s : ByteArray) (h : 0 < s.size) : s.data.toList.head? = some s[0] := by
  rw [List.head?_eq_getElem?, List.getElem?_eq_getElem (by simpa using h)]; rfl
theorem last_at (s : ByteArray) (h : 0 < s.size) : s.data.toList.getLast? = some (s[s.size - 1]'(by omega)) := by
  rw [List.getLast?_eq_getElem?, List.getElem?_eq_getElem (by simp; omega)]
  have : s.data.toList.length - 1 = s.size - 1 := by simp
  congr 1
theorem lbl_nil {s : ByteArray} (h : s.size = 0) : lblB s.data.toList = false := by
  have : s.data.toList = [] := List.eq_nil_of_length_eq_zero (by simpa using h)
  rw [this]; rfl
theorem lbl_long {s : ByteArray} (h : 63 < s.size) : lblB s.data.toList = false := by
  have : decide (s.data.toList.length ≤ 63) = false := by simp; omega
  unfold lblB; rw [this]; simp
theorem lbl_head {s : ByteArray} (h : 0 < s.size) (hc : s[0].toNat = 45) : lblB s.data.toList = false := by
  have e : s[0] = 45 := nat_of_u8 hc
  unfold lblB; rw [head_at s h, e]; simp
theorem lbl_last {s : ByteArray} (h : 0 < s.size) (hc : (s[s.size - 1]'(by omega)).toNat = 45) : lblB s.data.toList = false := by
  have e : (s[s.size - 1]'(by omega)) = 45 := nat_of_u8 hc
  unfold lblB; rw [last_at s h, e]; simp
theorem lbl_rest {s : ByteArray} (h : 0 < s.size) (h63 : s.size ≤ 63) (h0 : s[0].toNat ≠ 45) (h1 : (s[s.size - 1]'(by omega)).toNat ≠ 45) : lblB s.data.toList = s.data.toList.all lblC := by
  have a1 : s.data.toList.isEmpty = false := by
    cases e : s.data.toList with
    | nil => have : s.data.toList.length = 0 := by rw [e]; rfl
             rw [Array.length_toList] at this; have h' : s.size = 0 := this; omega
    | cons => rfl
  have a2 : decide (s.data.toList.length ≤ 63) = true := decide_eq_true (by rw [Array.length_toList]; exact h63)
  have e0 : (some s[0] != some (45 : UInt8)) = true := by simp; intro e; exact h0 (by rw [e]; rfl)
  have e1 : (some (s[s.size - 1]'(by omega)) != some (45 : UInt8)) = true := by simp; intro e; exact h1 (by rw [e]; rfl)
  unfold lblB; rw [a1, a2, head_at s h, last_at s h, e0, e1]; simp
theorem lblC_of {c : UInt8} (h : alnB c = true ∨ c.toNat = 45) : lblC c = true := by
  unfold lblC; rcases h with h | h
  · rw [h]; rfl
  · rw [nat_of_u8 (a := c) (b := 45) h]; simp
theorem lblC_not {c : UInt8} (h : alnB c = false) (h' : c.toNat ≠ 45) : lblC c = false := by
  unfold lblC; rw [h]; simp; intro e; exact h' (by rw [e]; rfl)

set_option maxHeartbeats 4000000 in
set_option maxRecDepth 100000 in
theorem isLabel_any (s : ByteArray) (w : World) (hs : s.size ≤ 1000000000) :
    Calls Tryz.prog 89 #[.string s] w fun e w' => e = .returned (.bool (lblB s.data.toList)) ∧ w = w' := by
  by_cases hz : s.size = 0
  · have hr := lbl_nil hz
    have e0 : (s.toList == ([] : List UInt8)) = true := by
      rw [ByteArray.toList_eq, List.eq_nil_of_length_eq_zero (l := s.data.toList) (by simpa using hz)]; rfl
    have e1 : s.toList.isEmpty = true := by
      rw [ByteArray.toList_eq, List.eq_nil_of_length_eq_zero (l := s.data.toList) (by simpa using hz)]; rfl
    have HR := Lib.hid hr
    clear hz hr
    go_enter Tryz.func89, Tryz.ntmps89
    go_wp2
    go_ret
    exact ⟨ret_bool HR.out.symm, rfl⟩
  · have hz' : 0 < s.size := by omega
    have hne : s.data.toList ≠ [] := fun e => hz (by have : s.data.toList.length = 0 := by rw [e]; rfl
                                                     simpa using this)
    have e0 : (s.toList == ([] : List UInt8)) = false := by rw [ByteArray.toList_eq]; simpa using hne
    have e1 : s.toList.isEmpty = false := by rw [ByteArray.toList_eq]; simpa using hne
    clear hne hz
    by_cases h63 : 63 < s.size
    · have HR := Lib.hid (lbl_long h63)
      go_enter Tryz.func89, Tryz.ntmps89
      go_wp2
      go_ret
      exact ⟨ret_bool HR.out.symm, rfl⟩
    · by_cases h0 : s[0].toNat = 45
      · have HR := Lib.hid (lbl_head hz' h0)
        have h0' : ((s[0].toNat : Int) == 45) = true := by rw [h0]; rfl
        clear h0
        go_enter Tryz.func89, Tryz.ntmps89
        go_wp2
        go_ret
        exact ⟨ret_bool HR.out.symm, rfl⟩
      · have h0' : ((s[0].toNat : Int) == 45) = false := by simp; omega
        by_cases h1 : (s[s.size - 1]'(by omega)).toNat = 45
        · have HR := Lib.hid (lbl_last hz' h1)
          have h1' : (((s[s.size - 1]'(by omega)).toNat : Int) == 45) = true := by rw [h1]; rfl
          clear h1 h0
          go_enter Tryz.func89, Tryz.ntmps89
          go_wp2
          go_ret
          exact ⟨ret_bool HR.out.symm, rfl⟩
        · have HR := Lib.hid (lbl_rest hz' (by omega) h0 h1)
          have h1' : (((s[s.size - 1]'(by omega)).toNat : Int) == 45) = false := by simp; omega
          clear h1 h0
          go_enter Tryz.func89, Tryz.ntmps89
          go_wp2
          go_loop [3] (fun i => ∃ k : Nat, k ≤ s.size ∧ i = .int .i64 k ∧ okTo lblC s k) (fun i => s.size - (intOf i).toNat)
          case atStart => exact ⟨0, by omega, rfl, okTo0 _ s⟩
          case round =>
            obtain ⟨k, hk, rfl, hn⟩ := hrel
            by_cases hlt : k < s.size
            · by_cases ha : alnB s[k] = true
              · have hl := lblC_of (Or.inl ha)
                have HL := Lib.hid hl
                clear hl
                go_wp2_with (go_at_call 113; refine (alnum_any _ _).mono ?_; rintro e w' ⟨rfl, rfl⟩)
                go_round
                case rel => exact ⟨k + 1, by omega, by go_num, okTo_step hlt hn HL.out⟩
                case measure => simp [intOf]; omega
              · have ha' : alnB s[k] = false := by simpa using ha
                clear ha
                by_cases h45 : s[k].toNat = 45
                · have HL := Lib.hid (lblC_of (Or.inr h45))
                  have h45' : ((s[k].toNat : Int) != 45) = false := by rw [h45]; rfl
                  clear h45
                  go_wp2_with (go_at_call 113; refine (alnum_any _ _).mono ?_; rintro e w' ⟨rfl, rfl⟩)
                  go_round
                  case rel => exact ⟨k + 1, by omega, by go_num, okTo_step hlt hn HL.out⟩
                  case measure => simp [intOf]; omega
                · have HL := Lib.hid (okTo_no hlt (lblC_not ha' h45))
                  have h45' : ((s[k].toNat : Int) != 45) = true := by simp; omega
                  clear h45
                  go_wp2_with (go_at_call 113; refine (alnum_any _ _).mono ?_; rintro e w' ⟨rfl, rfl⟩)
                  go_ret
                  exact ⟨ret_bool (by rw [HR.out, HL.out]), rfl⟩
            · go_wp2
              go_ret
              exact ⟨ret_bool (by rw [HR.out, okTo_end (by omega) hn]), rfl⟩
end Go.Proofs.YtkfmfjlapkpeaaaGreatDoor

/- The library's Split and Cut at one byte, in plain words, in a world in which MaxLen is an int. -/
namespace Go.Proofs.YtkfmfjlapkpeaaaGreatDoor
open Go.RowKit

/-- MaxLen is an int. -/
def HasMax (w : World) : Prop := ∃ m, w.cell? ⟨0, 0, none⟩ = some (.int .i64 m)
theorem HasMax.below {w w' : World} (h : HasMax w) (hb : Below w.heap.size w w') : HasMax w' := by
  obtain ⟨m, hm⟩ := h
  exact ⟨m, (hb.cell (p := ⟨0, 0, none⟩) (World.block_lt_of_cell? _ _ hm)).trans hm⟩

theorem idx_sep (c : UInt8) (t : List UInt8) : Lib.index (c :: t) [c] = 0 := by unfold Lib.index; simp [List.isPrefixOf]
theorem idx_ne {c x : UInt8} (h : x ≠ c) (t : List UInt8) : Lib.index (x :: t) [c] = if Lib.index t [c] == -1 then -1 else Lib.index t [c] + 1 := by
  rw [Lib.index, if_neg (by simp [List.isPrefixOf]; exact fun e => h e.symm)]
theorem split_cutL (c : UInt8) : ∀ l : List UInt8, Lib.splitK [c] 0 (Lib.count l [c]) l = cutL c l := by
  intro l
  induction l with
  | nil => rfl
  | cons x t ih =>
    by_cases hx : x = c
    · subst hx
      rw [Lib.count_cons_eq, Nat.add_comm, Lib.splitK, idx_sep, cutL_sep, ← ih]
      simp
    · rw [Lib.count_cons_ne x c t hx]
      cases hk : Lib.count t [c] with
      | zero =>
        rw [hk] at ih
        rw [cutL_cons (p := t) (r := []) hx ih.symm]; rfl
      | succ k =>
        rw [hk] at ih
        have hi : ¬ Lib.index t [c] = -1 := fun e => by rw [Lib.count_miss e] at hk; cases hk
        have hge := Lib.index_ge t [c]
        obtain ⟨i, hi'⟩ : ∃ i : Nat, Lib.index t [c] = i := ⟨(Lib.index t [c]).toNat, by omega⟩
        have e1 : (Lib.index t [c] == -1) = false := by simpa using hi
        have e2 : Lib.index (x :: t) [c] = ((i + 1 : Nat) : Int) := by rw [idx_ne hx, e1, hi']; simp
        have e3 : (((i + 1 : Nat) : Int) == -1) = false := by simp; omega
        rw [Lib.splitK, e1] at ih
        rw [Lib.splitK, e2, e3]
        rw [hi'] at ih
        simp only [Bool.false_eq_true, if_false, Int.toNat_natCast, Nat.add_zero, List.length_singleton, List.take_succ_cons, List.drop_succ_cons] at ih ⊢
        rw [cutL_cons hx ih.symm]
theorem cut_cutC (c : UInt8) : ∀ l : List UInt8, Lib.cut l [c] = cutC c l := by
  intro l
  induction l with
  | nil => rfl
  | cons x t ih =>
    by_cases hx : x = c
    · subst hx
      unfold Lib.cut; rw [idx_sep]; simp [cutC]
    · rw [cutC, if_neg hx, ← ih]
      have hge := Lib.index_ge t [c]
      by_cases hi : Lib.index t [c] = -1
      · unfold Lib.cut
        rw [idx_ne hx, hi]; rfl
      · obtain ⟨i, hi'⟩ : ∃ i : Nat, Lib.index t [c] = i := ⟨(Lib.index t [c]).toNat, by omega⟩
        have e1 : (Lib.index t [c] == -1) = false := by simpa using hi
        have e2 : Lib.index (x :: t) [c] = ((i + 1 : Nat) : Int) := by rw [idx_ne hx, e1, hi']; simp
        unfold Lib.cut
        rw [e2, hi', if_pos (by omega), if_pos (by omega)]
        simp only [Int.toNat_natCast, List.length_singleton, List.take_succ_cons, List.drop_succ_cons]
theorem splitM_any (c : UInt8) (s : ByteArray) (w : World) (hM : HasMax w) (hs : s.size ≤ 100000000) :
    Calls Tryz.prog 52 #[.string s, .string ⟨#[c]⟩] w fun e w' => ∃ v, e = .returned v ∧ OwnsS w.heap.size w' v (cutL c s.data.toList) ∧ Below w.heap.size w w' := by
  obtain ⟨m, hm⟩ := hM
  refine (Tryz.strings_Split s ⟨#[c]⟩ m w (by omega) hm (Nat.le_refl 1)).mono ?_
  rintro e w' ⟨rfl, rfl⟩
  have hd := Lib.splitB_data ⟨#[c]⟩ 0 (Lib.countB s ⟨#[c]⟩) s
  have hc : Lib.countB s ⟨#[c]⟩ = Lib.count s.data.toList [c] := rfl
  have hcut : (Lib.splitB ⟨#[c]⟩ 0 (Lib.countB s ⟨#[c]⟩) s).map (·.data.toList) = cutL c s.data.toList := by
    rw [hd, hc]; exact split_cutL c _
  have hv : (Lib.splitB ⟨#[c]⟩ 0 (Lib.countB s ⟨#[c]⟩) s).map Value.string = (cutL c s.data.toList).map strV := by
    rw [← hcut, List.map_map]
    exact List.map_congr_left fun x _ => by show Value.string x = Value.string (strB x.data.toList); rw [strB_of]
  have hlen : Lib.countB s ⟨#[c]⟩ + 1 = (cutL c s.data.toList).length := by
    rw [← hcut, List.length_map]
    exact (Lib.splitB_all ⟨#[c]⟩ (Nat.le_refl 1) 0 _ s rfl).symm
  have hle := cutL_len c s.data.toList
  have hsz : s.data.toList.length = s.size := by rw [Array.length_toList]; rfl
  refine ⟨_, rfl, ?_, below_new _ _⟩
  rw [hv, hlen]
  have := World.ownsRow_lit (base := w.heap.size) (e := 9) (size := 1) w ((cutL c s.data.toList).map strV).toArray (cutL c s.data.toList).length (Nat.le_refl _) (by unfold maxLen; omega) (by simp)
  exact this
theorem cutM_any (c : UInt8) (s : ByteArray) (w : World) (hM : HasMax w) (hs : s.size ≤ 100000000) :
    Calls Tryz.prog 54 #[.string s, .string ⟨#[c]⟩] w fun e w' => e = .returned (.tuple #[.string (strB (cutC c s.data.toList).1), .string (strB (cutC c s.data.toList).2.1), .bool (cutC c s.data.toList).2.2]) ∧ ∃ n, w' = w.drewN n := by
  obtain ⟨m, hm⟩ := hM
  refine (Tryz.strings_Cut s ⟨#[c]⟩ m w (by omega) hm).mono ?_
  rintro e w' ⟨he, hn⟩
  have hc : Lib.cut s.data.toList (⟨#[c]⟩ : ByteArray).data.toList = cutC c s.data.toList := cut_cutC c _
  rw [hc] at he
  exact ⟨he, hn⟩
end Go.Proofs.YtkfmfjlapkpeaaaGreatDoor

/- Heads of messages as lists of bytes: where a head ends, its lines, bare bytes; a head that is accepted is the text of its lines. -/
namespace Go.Proofs.YtkfmfjlapkpeaaaGreatDoor

/-- The end of the first CR LF CR LF. -/
def end4 : List UInt8 → Option Nat
  | [] => none
  | c :: r => if c = 13 ∧ r.take 3 = [10, 13, 10] then some 4 else (end4 r).map (· + 1)
/-- The end of a head. -/
def endO (l : List UInt8) : Option Nat := if l.take 2 = [13, 10] then some 2 else end4 l
/-- Is there a CR without LF, an LF without CR, or a byte 0? p is the byte before. -/
def bareF (p : UInt8) : List UInt8 → Bool
  | [] => false
  | c :: r => decide (c = 0) || (decide (c = 13) && decide (r.head? ≠ some 10)) || (decide (c = 10) && decide (p ≠ 13)) || bareF c r
/-- The lines that end with CR LF; cur is what stands before. -/
def linesF (cur : List UInt8) : List UInt8 → List (List UInt8)
  | [] => []
  | c :: r => if c = 13 ∧ r.head? = some 10 then cur :: linesF [] r.tail else linesF (cur ++ [c]) r
termination_by l => l.length
decreasing_by all_goals simp_wf; all_goals (try have := List.length_tail (l := r)); all_goals (try omega)
/-- No CR, no LF, no byte 0. -/
def Clean (l : List UInt8) : Prop := ∀ c ∈ l, c ≠ 0 ∧ c ≠ 13 ∧ c ≠ 10
/-- Lines and what ends them. -/
def flat (ls : List (List UInt8)) : List UInt8 := ls.flatMap (· ++ [13, 10])
/-- The head that has these lines. -/
def enc (ls : List (List UInt8)) : List UInt8 := flat ls ++ [13, 10]
theorem flat_cons (x : List UInt8) (ls : List (List UInt8)) : flat (x :: ls) = x ++ 13 :: 10 :: flat ls := by simp [flat]
theorem enc_cons (x : List UInt8) (ls : List (List UInt8)) : enc (x :: ls) = x ++ 13 :: 10 :: enc ls := by simp [enc, flat_cons]
theorem clean_nil : Clean [] := by intro c h; cases h
theorem clean_cons {c : UInt8} {l : List UInt8} : Clean (c :: l) ↔ (c ≠ 0 ∧ c ≠ 13 ∧ c ≠ 10) ∧ Clean l := by
  constructor
  · intro h; exact ⟨h c (by simp), fun d hd => h d (by simp [hd])⟩
  · intro h d hd
    rcases List.mem_cons.1 hd with rfl | hd
    · exact h.1
    · exact h.2 d hd
theorem clean_app {a b : List UInt8} : Clean (a ++ b) ↔ Clean a ∧ Clean b := by
  constructor
  · intro h; exact ⟨fun c hc => h c (by simp [hc]), fun c hc => h c (by simp [hc])⟩
  · intro h c hc
    rcases List.mem_append.1 hc with hc | hc
    · exact h.1 c hc
    · exact h.2 c hc
theorem end4_clean {x : List UInt8} (h : Clean x) (r : List UInt8) : end4 (x ++ r) = (end4 r).map (· + x.length) := by
  induction x with
  | nil => simp
  | cons c t ih =>
    rw [clean_cons] at h
    rw [List.cons_append, end4, if_neg (by intro e; exact h.1.2.1 e.1), ih h.2]
    cases end4 r <;> simp; omega
theorem end4_hit (r : List UInt8) : end4 (13 :: 10 :: 13 :: 10 :: r) = some 4 := by rw [end4, if_pos ⟨rfl, rfl⟩]
theorem end4_crlf {r : List UInt8} (h : r.take 2 ≠ [13, 10]) : end4 (13 :: 10 :: r) = (end4 r).map (· + 2) := by
  rw [end4, if_neg (by rintro ⟨_, e⟩; apply h; rw [List.take_succ_cons] at e; injection e), end4, if_neg (by rintro ⟨e, _⟩; exact absurd e (by decide))]
  cases end4 r <;> simp
theorem take2_line {y : List UInt8} (h : Clean y) (hne : y ≠ []) (r : List UInt8) : (y ++ r).take 2 ≠ [13, 10] := by
  cases y with
  | nil => exact absurd rfl hne
  | cons c t =>
    rw [clean_cons] at h
    intro e
    rw [List.cons_append, List.take_succ_cons] at e
    injection e with e1 _
    exact h.1.2.1 e1
/-- The head of clean lines, none of them empty, ends where its text ends. -/
theorem end4_enc : ∀ (ls : List (List UInt8)), ls ≠ [] → (∀ x ∈ ls, Clean x ∧ x ≠ []) → ∀ r, end4 (enc ls ++ r) = some (enc ls).length := by
  intro ls
  induction ls with
  | nil => intro h; exact absurd rfl h
  | cons x xs ih =>
    intro _ hc r
    obtain ⟨hx, hxn⟩ := hc x (by simp)
    rw [enc_cons, List.append_assoc, end4_clean hx]
    cases xs with
    | nil =>
      show Option.map _ (end4 (13 :: 10 :: 13 :: 10 :: r)) = _
      rw [end4_hit]; simp [enc, flat]; omega
    | cons y ys =>
      obtain ⟨hy, hyn⟩ := hc y (by simp)
      have e : (13 :: 10 :: enc (y :: ys)) ++ r = 13 :: 10 :: (enc (y :: ys) ++ r) := rfl
      rw [e, end4_crlf (by rw [enc_cons, List.append_assoc]; exact take2_line hy hyn _), ih (by simp) (fun z hz => hc z (by simp [hz])) r]
      simp; omega
theorem endO_enc {ls : List (List UInt8)} (h : ls ≠ []) (hc : ∀ x ∈ ls, Clean x ∧ x ≠ []) (r : List UInt8) : endO (enc ls ++ r) = some (enc ls).length := by
  unfold endO
  rw [if_neg, end4_enc ls h hc]
  cases ls with
  | nil => exact absurd rfl h
  | cons x xs =>
    obtain ⟨hx, hxn⟩ := hc x (by simp)
    rw [enc_cons, List.append_assoc]; exact take2_line hx hxn _
/-- A text without bare bytes is divided into clean lines and a clean rest. -/
theorem bare_flat : ∀ (k : Nat) (l : List UInt8) (p : UInt8), l.length ≤ k → p ≠ 13 → bareF p l = false → ∃ ls t, (∀ x ∈ ls, Clean x) ∧ Clean t ∧ l = flat ls ++ t := by
  intro k
  induction k with
  | zero =>
    intro l p hk _ _
    obtain rfl : l = [] := List.eq_nil_of_length_eq_zero (by omega)
    exact ⟨[], [], by simp, clean_nil, rfl⟩
  | succ k ih =>
    intro l p hk hp hb
    cases l with
    | nil => exact ⟨[], [], by simp, clean_nil, rfl⟩
    | cons c r =>
      rw [bareF] at hb
      simp only [Bool.or_eq_false_iff, Bool.and_eq_false_iff, decide_eq_false_iff_not, Decidable.not_not] at hb
      obtain ⟨⟨⟨h0, h13⟩, h10⟩, hr⟩ := hb
      have h10' : c ≠ 10 := by
        rcases h10 with h | h
        · exact h
        · exact absurd h hp
      by_cases e : c = 13
      · subst e
        have hh : r.head? = some 10 := by
          rcases h13 with h | h
          · exact absurd rfl h
          · exact h
        cases r with
        | nil => cases hh
        | cons d r2 =>
          have : d = 10 := Option.some.inj hh
          subst this
          rw [bareF] at hr
          simp only [Bool.or_eq_false_iff] at hr
          obtain ⟨ls, t, h1, h2, rfl⟩ := ih r2 10 (by simp at hk; omega) (by decide) hr.2
          exact ⟨[] :: ls, t, by intro x hx; rcases List.mem_cons.1 hx with rfl | hx; exact clean_nil; exact h1 x hx, h2, by rw [flat_cons]; rfl⟩
      · obtain ⟨ls, t, h1, h2, rfl⟩ := ih r c (by simp at hk; omega) e hr
        cases ls with
        | nil => exact ⟨[], c :: t, by simp, clean_cons.2 ⟨⟨h0, e, h10'⟩, h2⟩, rfl⟩
        | cons y ys =>
          refine ⟨(c :: y) :: ys, t, ?_, h2, by rw [flat_cons, flat_cons]; rfl⟩
          intro x hx
          rcases List.mem_cons.1 hx with rfl | hx
          · exact clean_cons.2 ⟨⟨h0, e, h10'⟩, h1 y (by simp)⟩
          · exact h1 x (by simp [hx])
/-- A text in clean lines that ends where its first empty line ends is the head of lines that are not empty. -/
theorem enc_of : ∀ (ls : List (List UInt8)) (t : List UInt8), (∀ x ∈ ls, Clean x) → Clean t → (∀ x xs, ls = x :: xs → x ≠ []) → end4 (flat ls ++ t) = some (flat ls ++ t).length →
    ∃ ks, ks ≠ [] ∧ (∀ x ∈ ks, Clean x ∧ x ≠ []) ∧ flat ls ++ t = enc ks := by
  intro ls
  induction ls with
  | nil =>
    intro t _ ht _ he
    have := end4_clean ht []
    rw [List.append_nil] at this
    rw [show flat [] ++ t = t from rfl, this] at he
    cases he
  | cons x xs ih =>
    intro t hc ht hne he
    have hx := hc x (by simp)
    have hxn := hne x xs rfl
    rw [flat_cons, List.append_assoc, end4_clean hx] at he
    cases xs with
    | nil =>
      exfalso
      rw [show (13 :: 10 :: flat []) ++ t = 13 :: 10 :: t from rfl, end4_crlf (by
        cases t with
        | nil => simp
        | cons c t' => rw [clean_cons] at ht; intro e; injection e with e1 _; exact ht.1.2.1 e1)] at he
      have h2 := end4_clean ht []
      rw [List.append_nil] at h2
      rw [h2] at he
      cases he
    | cons y ys =>
      by_cases hy : y = []
      · subst hy
        have e : (13 :: 10 :: flat ([] :: ys)) ++ t = 13 :: 10 :: 13 :: 10 :: (flat ys ++ t) := by rw [flat_cons]; rfl
        rw [e, end4_hit] at he
        simp only [Option.map_some, Option.some.injEq, List.length_append, List.length_cons] at he
        have hz : flat ys ++ t = [] := List.eq_nil_of_length_eq_zero (by rw [List.length_append]; omega)
        refine ⟨[x], by simp, by intro z hz; rw [List.mem_singleton] at hz; rw [hz]; exact ⟨hx, hxn⟩, ?_⟩
        rw [flat_cons, List.append_assoc, e, hz]; simp [enc, flat]
      · have hyc := hc y (by simp)
        have e : (13 :: 10 :: flat (y :: ys)) ++ t = 13 :: 10 :: (flat (y :: ys) ++ t) := rfl
        rw [e, end4_crlf (by rw [flat_cons, List.append_assoc]; exact take2_line hyc hy _)] at he
        have he2 : end4 (flat (y :: ys) ++ t) = some (flat (y :: ys) ++ t).length := by
          cases h : end4 (flat (y :: ys) ++ t) with
          | none => rw [h] at he; cases he
          | some n =>
            rw [h] at he
            simp only [Option.map_some, Option.some.injEq, List.length_append, List.length_cons] at he
            rw [List.length_append]; congr 1; omega
        obtain ⟨ks, k1, k2, k3⟩ := ih t (fun z hz => hc z (by simp [hz])) ht (fun a az hh => by injection hh with h1 _; rw [← h1]; exact hy) he2
        refine ⟨x :: ks, by simp, ?_, ?_⟩
        · intro z hz
          rcases List.mem_cons.1 hz with rfl | hz
          · exact ⟨hx, hxn⟩
          · exact k2 z hz
        · rw [enc_cons, ← k3, flat_cons, List.append_assoc]; rfl
theorem linesF_line {x : List UInt8} (h : Clean x) : ∀ (cur r : List UInt8), linesF cur (x ++ 13 :: 10 :: r) = (cur ++ x) :: linesF [] r := by
  induction x with
  | nil => intro cur r; rw [List.nil_append, linesF, if_pos ⟨rfl, rfl⟩]; simp
  | cons c t ih =>
    rw [clean_cons] at h
    intro cur r
    rw [List.cons_append, linesF, if_neg (by rintro ⟨e, _⟩; exact h.1.2.1 e), ih h.2]; simp
theorem linesF_enc : ∀ (ls : List (List UInt8)), (∀ x ∈ ls, Clean x) → linesF [] (enc ls) = ls ++ [[]] := by
  intro ls
  induction ls with
  | nil =>
    intro _
    show linesF [] (13 :: 10 :: []) = _
    rw [linesF, if_pos ⟨rfl, rfl⟩]; simp [linesF]
  | cons x xs ih =>
    intro h
    rw [enc_cons, linesF_line (h x (by simp)), ih (fun z hz => h z (by simp [hz]))]; rfl
theorem bareF_clean {x : List UInt8} (h : Clean x) : ∀ (p : UInt8) (r : List UInt8), bareF p (x ++ r) = bareF ((x.getLast?).getD p) r ∨ x = [] := by
  induction x with
  | nil => intro p r; exact .inr rfl
  | cons c t ih =>
    rw [clean_cons] at h
    intro p r
    left
    rw [List.cons_append, bareF]
    have e : (decide (c = 0) || decide (c = 13) && decide ((t ++ r).head? ≠ some 10) || decide (c = 10) && decide (p ≠ 13)) = false := by
      simp [h.1.1, h.1.2.1, h.1.2.2]
    rw [e, Bool.false_or]
    rcases ih h.2 c r with h2 | h2
    · rw [h2]
      cases t with
      | nil => rfl
      | cons d t' => rw [List.getLast?_cons_cons]; simp [List.getLast?_cons]
    · subst h2; rfl
theorem bareF_crlf (p : UInt8) (r : List UInt8) : bareF p (13 :: 10 :: r) = bareF 10 r := by
  rw [bareF, bareF]
  simp
theorem bareF_line {x : List UInt8} (h : Clean x) (p : UInt8) (r : List UInt8) : bareF p (x ++ 13 :: 10 :: r) = bareF 10 r := by
  rcases bareF_clean h p (13 :: 10 :: r) with e | e
  · rw [e, bareF_crlf]
  · subst e; exact bareF_crlf p r
theorem bare_enc : ∀ (ls : List (List UInt8)), (∀ x ∈ ls, Clean x) → ∀ p, bareF p (enc ls) = false := by
  intro ls
  induction ls with
  | nil => intro _ p; show bareF p (13 :: 10 :: []) = false; rw [bareF_crlf]; rfl
  | cons x xs ih =>
    intro h p
    rw [enc_cons, bareF_line (h x (by simp)), ih (fun z hz => h z (by simp [hz]))]
end Go.Proofs.YtkfmfjlapkpeaaaGreatDoor
