import Derived.Test.YtfmgfcddnnggeaaGreatDoorPa4
import Derived.Test.YtfmgfcddnnggeaaGreatDoorPa2
import Derived.Shelf.Strings.Split
/- What the code says of a letter or a digit. -/
namespace Go.Proofs.YtfmgfcddnnggeaaGreatDoor
open Go.RowKit

set_option maxHeartbeats 400000 in
theorem alnum_any (c : UInt8) (w : World) :
    Calls Tryz.prog 102 #[.int .u8 (c.toNat : Int)] w fun e w' => e = .returned (.bool (alnB c)) ∧ w = w' := by
  go_enter Tryz.func102, Tryz.ntmps102
  go_wp2
  all_goals
    go_ret
    refine ⟨ret_bool ?_, rfl⟩
    rw [Bool.eq_iff_iff]
    simp [alnB] at *
    try omega
end Go.Proofs.YtfmgfcddnnggeaaGreatDoor

/- What isLabel says of a string: whether it is a label of a host. -/
namespace Go.Proofs.YtfmgfcddnnggeaaGreatDoor
open Go.RowKit

def okTo (p : UInt8 → Bool) (s : ByteArray) (k : Nat) : Prop := (s.data.toList.take k).all p = true
theorem okTo0 (p : UInt8 → Bool) (s : ByteArray) : okTo p s 0 := by simp [okTo]
theorem okTo_step {p : UInt8 → Bool} {s : ByteArray} {k : Nat} (h : k < s.size) (hn : okTo p s k) (hb : p s[k] = true) : okTo p s (k + 1) := by
  unfold okTo at *; rw [take_snoc s k h, List.all_append, hn]; simp [hb]
theorem okTo_no {p : UInt8 → Bool} {s : ByteArray} {k : Nat} (h : k < s.size) (hb : p s[k] = false) : s.data.toList.all p = false := by
  rw [Bool.eq_false_iff]; intro ha
  rw [List.all_eq_true] at ha
  rw [ha _ (get_mem s k h)] at hb; cases hb
theorem okTo_end {p : UInt8 → Bool} {s : ByteArray} {k : Nat} (h : s.size ≤ k) (hn : okTo p s k) : s.data.toList.all p = true := by
  unfold okTo at hn; rw [take_all s k h] at hn; exact hn
theorem head_at (s : ByteArray) (h : 0 < s.size) : s.data.toList.head? = some s[0] := by
  rw [List.head?_eq_getElem?, List.getElem?_eq_getElem (by simpa using h)]; rfl
theorem last_at (s : ByteArray) (h : 0 < s.size) : s.data.toList.getLast? = some (s[s.size - 1]'(by omega)) := by
  rw [List.getLast?_eq_getElem?, List.getElem?_eq_getElem (by simp; omega)]
  have : s.data.toList.length - 1 = s.size - 1 := by simp
  congr 1
theorem lbl_nil {s : ByteArray} (h : s.size = 0) : lblB s.data.toList = false := by
  have : s.data.toList = [] := List.eq_nil_of_length_eq_zero (by simpa using h)
  rw [this]; rfl
theorem lbl_long {s : ByteArray} (h : 63 < s.size) : lblB s.data.toList = false := by
  have : decide (s.data.toList.length ≤ 63) = false := by simp; omega
  unfold lblB; rw [this]; simp
theorem lbl_head {s : ByteArray} (h : 0 < s.size) (hc : s[0].toNat = 45) : lblB s.data.toList = false := by
  have e : s[0] = 45 := nat_of_u8 hc
  unfold lblB; rw [head_at s h, e]; simp
theorem lbl_last {s : ByteArray} (h : 0 < s.size) (hc : (s[s.size - 1]'(by omega)).toNat = 45) : lblB s.data.toList = false := by
  have e : (s[s.size - 1]'(by omega)) = 45 := nat_of_u8 hc
  unfold lblB; rw [last_at s h, e]; simp
theorem lbl_rest {s : ByteArray} (h : 0 < s.size) (h63 : s.size ≤ 63) (h0 : s[0].toNat ≠ 45) (h1 : (s[s.size - 1]'(by omega)).toNat ≠ 45) : lblB s.data.toList = s.data.toList.all lblC := by
  have a1 : s.data.toList.isEmpty = false := by
    cases e : s.data.toList with
    | nil => have : s.data.toList.length = 0 := by rw [e]; rfl
             rw [Array.length_toList] at this; have h' : s.size = 0 := this; omega
    | cons => rfl
  have a2 : decide (s.data.toList.length ≤ 63) = true := decide_eq_true (by rw [Array.length_toList]; exact h63)
  have e0 : (some s[0] != some (45 : UInt8)) = true := by simp; intro e; exact h0 (by rw [e]; rfl)
  have e1 : (some (s[s.size - 1]'(by omega)) != some (45 : UInt8)) = true := by simp; intro e; exact h1 (by rw [e]; rfl)
  unfold lblB; rw [a1, a2, head_at s h, last_at s h, e0, e1]; simp
theorem lblC_of {c : UInt8} (h : alnB c = true ∨ c.toNat = 45) : lblC c = true := by
  unfold lblC; rcases h with h | h
  · rw [h]; rfl
  · rw [nat_of_u8 (a := c) (b := 45) h]; simp
theorem lblC_not {c : UInt8} (h : alnB c = false) (h' : c.toNat ≠ 45) : lblC c = false := by
  unfold lblC; rw [h]; simp; intro e; exact h' (by rw [e]; rfl)

set_option maxHeartbeats 4000000 in
set_option maxRecDepth 100000 in
theorem isLabel_any (s : ByteArray) (w : World) (hs : s.size ≤ 1000000000) :
    Calls Tryz.prog 84 #[.string s] w fun e w' => e = .returned (.bool (lblB s.data.toList)) ∧ w = w' := by
  by_cases hz : s.size = 0
  · have hr := lbl_nil hz
    have e0 : (s.toList == ([] : List UInt8)) = true := by
      rw [ByteArray.toList_eq, List.eq_nil_of_length_eq_zero (l := s.data.toList) (by simpa using hz)]; rfl
    have e1 : s.toList.isEmpty = true := by
      rw [ByteArray.toList_eq, List.eq_nil_of_length_eq_zero (l := s.data.toList) (by simpa using hz)]; rfl
    have HR := Lib.hid hr
    clear hz hr
    go_enter Tryz.func84, Tryz.ntmps84
    go_wp2
    go_ret
    exact ⟨ret_bool HR.out.symm, rfl⟩
  · have hz' : 0 < s.size := by omega
    have hne : s.data.toList ≠ [] := fun e => hz (by have : s.data.toList.length = 0 := by rw [e]; rfl
                                                     simpa using this)
    have e0 : (s.toList == ([] : List UInt8)) = false := by rw [ByteArray.toList_eq]; simpa using hne
    have e1 : s.toList.isEmpty = false := by rw [ByteArray.toList_eq]; simpa using hne
    clear hne hz
    by_cases h63 : 63 < s.size
    · have HR := Lib.hid (lbl_long h63)
      go_enter Tryz.func84, Tryz.ntmps84
      go_wp2
      go_ret
      exact ⟨ret_bool HR.out.symm, rfl⟩
    · by_cases h0 : s[0].toNat = 45
      · have HR := Lib.hid (lbl_head hz' h0)
        have h0' : ((s[0].toNat : Int) == 45) = true := by rw [h0]; rfl
        clear h0
        go_enter Tryz.func84, Tryz.ntmps84
        go_wp2
        go_ret
        exact ⟨ret_bool HR.out.symm, rfl⟩
      · have h0' : ((s[0].toNat : Int) == 45) = false := by simp; omega
        by_cases h1 : (s[s.size - 1]'(by omega)).toNat = 45
        · have HR := Lib.hid (lbl_last hz' h1)
          have h1' : (((s[s.size - 1]'(by omega)).toNat : Int) == 45) = true := by rw [h1]; rfl
          clear h1 h0
          go_enter Tryz.func84, Tryz.ntmps84
          go_wp2
          go_ret
          exact ⟨ret_bool HR.out.symm, rfl⟩
        · have HR := Lib.hid (lbl_rest hz' (by omega) h0 h1)
          have h1' : (((s[s.size - 1]'(by omega)).toNat : Int) == 45) = false := by simp; omega
          clear h1 h0
          go_enter Tryz.func84, Tryz.ntmps84
          go_wp2
          go_loop [3] (fun i => ∃ k : Nat, k ≤ s.size ∧ i = .int .i64 k ∧ okTo lblC s k) (fun i => s.size - (intOf i).toNat)
          case atStart => exact ⟨0, by omega, rfl, okTo0 _ s⟩
          case round =>
            obtain ⟨k, hk, rfl, hn⟩ := hrel
            by_cases hlt : k < s.size
            · by_cases ha : alnB s[k] = true
              · have hl := lblC_of (Or.inl ha)
                have HL := Lib.hid hl
                clear hl
                go_wp2_with (go_at_call 102; refine (alnum_any _ _).mono ?_; rintro e w' ⟨rfl, rfl⟩)
                go_round
                case rel => exact ⟨k + 1, by omega, by go_num, okTo_step hlt hn HL.out⟩
                case measure => simp [intOf]; omega
              · have ha' : alnB s[k] = false := by simpa using ha
                clear ha
                by_cases h45 : s[k].toNat = 45
                · have HL := Lib.hid (lblC_of (Or.inr h45))
                  have h45' : ((s[k].toNat : Int) != 45) = false := by rw [h45]; rfl
                  clear h45
                  go_wp2_with (go_at_call 102; refine (alnum_any _ _).mono ?_; rintro e w' ⟨rfl, rfl⟩)
                  go_round
                  case rel => exact ⟨k + 1, by omega, by go_num, okTo_step hlt hn HL.out⟩
                  case measure => simp [intOf]; omega
                · have HL := Lib.hid (okTo_no hlt (lblC_not ha' h45))
                  have h45' : ((s[k].toNat : Int) != 45) = true := by simp; omega
                  clear h45
                  go_wp2_with (go_at_call 102; refine (alnum_any _ _).mono ?_; rintro e w' ⟨rfl, rfl⟩)
                  go_ret
                  exact ⟨ret_bool (by rw [HR.out, HL.out]), rfl⟩
            · go_wp2
              go_ret
              exact ⟨ret_bool (by rw [HR.out, okTo_end (by omega) hn]), rfl⟩
end Go.Proofs.YtfmgfcddnnggeaaGreatDoor

/- The library's Split and Cut at one byte, in plain words, in a world in which MaxLen is an int. -/
namespace Go.Proofs.YtfmgfcddnnggeaaGreatDoor
open Go.RowKit

/-- MaxLen is an int. -/
def HasMax (w : World) : Prop := ∃ m, w.cell? ⟨0, 0, none⟩ = some (.int .i64 m)
theorem HasMax.below {w w' : World} (h : HasMax w) (hb : Below w.heap.size w w') : HasMax w' := by
  obtain ⟨m, hm⟩ := h
  exact ⟨m, (hb.cell (p := ⟨0, 0, none⟩) (World.block_lt_of_cell? _ _ hm)).trans hm⟩

theorem idx_sep (c : UInt8) (t : List UInt8) : Lib.index (c :: t) [c] = 0 := by unfold Lib.index; simp [List.isPrefixOf]
theorem idx_ne {c x : UInt8} (h : x ≠ c) (t : List UInt8) : Lib.index (x :: t) [c] = if Lib.index t [c] == -1 then -1 else Lib.index t [c] + 1 := by
  rw [Lib.index, if_neg (by simp [List.isPrefixOf]; exact fun e => h e.symm)]
theorem split_cutL (c : UInt8) : ∀ l : List UInt8, Lib.splitK [c] 0 (Lib.count l [c]) l = cutL c l := by
  intro l
  induction l with
  | nil => rfl
  | cons x t ih =>
    by_cases hx : x = c
    · subst hx
      rw [Lib.count_cons_eq, Nat.add_comm, Lib.splitK, idx_sep, cutL_sep, ← ih]
      simp
    · rw [Lib.count_cons_ne x c t hx]
      cases hk : Lib.count t [c] with
      | zero =>
        rw [hk] at ih
        rw [cutL_cons (p := t) (r := []) hx ih.symm]; rfl
      | succ k =>
        rw [hk] at ih
        have hi : ¬ Lib.index t [c] = -1 := fun e => by rw [Lib.count_miss e] at hk; cases hk
        have hge := Lib.index_ge t [c]
        obtain ⟨i, hi'⟩ : ∃ i : Nat, Lib.index t [c] = i := ⟨(Lib.index t [c]).toNat, by omega⟩
        have e1 : (Lib.index t [c] == -1) = false := by simpa using hi
        have e2 : Lib.index (x :: t) [c] = ((i + 1 : Nat) : Int) := by rw [idx_ne hx, e1, hi']; simp
        have e3 : (((i + 1 : Nat) : Int) == -1) = false := by simp; omega
        rw [Lib.splitK, e1] at ih
        rw [Lib.splitK, e2, e3]
        rw [hi'] at ih
        simp only [Bool.false_eq_true, if_false, Int.toNat_natCast, Nat.add_zero, List.length_singleton, List.take_succ_cons, List.drop_succ_cons] at ih ⊢
        rw [cutL_cons hx ih.symm]
theorem cut_cutC (c : UInt8) : ∀ l : List UInt8, Lib.cut l [c] = cutC c l := by
  intro l
  induction l with
  | nil => rfl
  | cons x t ih =>
    by_cases hx : x = c
    · subst hx
      unfold Lib.cut; rw [idx_sep]; simp [cutC]
    · rw [cutC, if_neg hx, ← ih]
      have hge := Lib.index_ge t [c]
      by_cases hi : Lib.index t [c] = -1
      · unfold Lib.cut
        rw [idx_ne hx, hi]; rfl
      · obtain ⟨i, hi'⟩ : ∃ i : Nat, Lib.index t [c] = i := ⟨(Lib.index t [c]).toNat, by omega⟩
        have e1 : (Lib.index t [c] == -1) = false := by simpa using hi
        have e2 : Lib.index (x :: t) [c] = ((i + 1 : Nat) : Int) := by rw [idx_ne hx, e1, hi']; simp
        unfold Lib.cut
        rw [e2, hi', if_pos (by omega), if_pos (by omega)]
        simp only [Int.toNat_natCast, List.length_singleton, List.take_succ_cons, List.drop_succ_cons]
theorem splitM_any (c : UInt8) (s : ByteArray) (w : World) (hM : HasMax w) (hs : s.size ≤ 100000000) :
    Calls Tryz.prog 53 #[.string s, .string ⟨#[c]⟩] w fun e w' => ∃ v, e = .returned v ∧ OwnsS w.heap.size w' v (cutL c s.data.toList) ∧ Below w.heap.size w w' := by
  obtain ⟨m, hm⟩ := hM
  refine (Tryz.strings_Split s ⟨#[c]⟩ m w (by omega) hm (Nat.le_refl 1)).mono ?_
  rintro e w' ⟨rfl, rfl⟩
  have hd := Lib.splitB_data ⟨#[c]⟩ 0 (Lib.countB s ⟨#[c]⟩) s
  have hc : Lib.countB s ⟨#[c]⟩ = Lib.count s.data.toList [c] := rfl
  have hcut : (Lib.splitB ⟨#[c]⟩ 0 (Lib.countB s ⟨#[c]⟩) s).map (·.data.toList) = cutL c s.data.toList := by
    rw [hd, hc]; exact split_cutL c _
  have hv : (Lib.splitB ⟨#[c]⟩ 0 (Lib.countB s ⟨#[c]⟩) s).map Value.string = (cutL c s.data.toList).map strV := by
    rw [← hcut, List.map_map]
    exact List.map_congr_left fun x _ => by show Value.string x = Value.string (strB x.data.toList); rw [strB_of]
  have hlen : Lib.countB s ⟨#[c]⟩ + 1 = (cutL c s.data.toList).length := by
    rw [← hcut, List.length_map]
    exact (Lib.splitB_all ⟨#[c]⟩ (Nat.le_refl 1) 0 _ s rfl).symm
  have hle := cutL_len c s.data.toList
  have hsz : s.data.toList.length = s.size := by rw [Array.length_toList]; rfl
  refine ⟨_, rfl, ?_, below_new _ _⟩
  rw [hv, hlen]
  have := World.ownsRow_lit (base := w.heap.size) (e := 9) (size := 1) w ((cutL c s.data.toList).map strV).toArray (cutL c s.data.toList).length (Nat.le_refl _) (by unfold maxLen; omega) (by simp)
  exact this
theorem cutM_any (c : UInt8) (s : ByteArray) (w : World) (hM : HasMax w) (hs : s.size ≤ 100000000) :
    Calls Tryz.prog 55 #[.string s, .string ⟨#[c]⟩] w fun e w' => e = .returned (.tuple #[.string (strB (cutC c s.data.toList).1), .string (strB (cutC c s.data.toList).2.1), .bool (cutC c s.data.toList).2.2]) ∧ ∃ n, w' = w.drewN n := by
  obtain ⟨m, hm⟩ := hM
  refine (Tryz.strings_Cut s ⟨#[c]⟩ m w (by omega) hm).mono ?_
  rintro e w' ⟨he, hn⟩
  have hc : Lib.cut s.data.toList (⟨#[c]⟩ : ByteArray).data.toList = cutC c s.data.toList := cut_cutC c _
  rw [hc] at he
  exact ⟨he, hn⟩
end Go.Proofs.YtfmgfcddnnggeaaGreatDoor
