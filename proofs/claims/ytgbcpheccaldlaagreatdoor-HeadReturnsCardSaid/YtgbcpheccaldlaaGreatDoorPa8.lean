import Derived.Test.YtgbcpheccaldlaaGreatDoorPa7
import Derived.Test.YtgbcpheccaldlaaGreatDoorPa3
import Derived.Shelf.Strings.Split
import Derived.Test.YtgbcpheccaldlaaGreatDoorPa5
import Derived.Lib.Split
import Derived.Lib.IndexMore
import Derived.Test.YtgbcpheccaldlaaGreatDoorPa0
import Derived.Shelf.Bytes.SlIndexWhole
import Derived.Shelf.Bytes.SlSmallAll
import Derived.Lib.SlBytesConst
/- What isLabel says of a string: whether it is a label of a host. -/
namespace Go.Proofs.YtgbcpheccaldlaaGreatDoor
open Go.RowKit

def okTo (p : UInt8 → Bool) (s : ByteArray) (k : Nat) : Prop := (s.data.toList.take k).all p = true
theorem okTo0 (p : UInt8 → Bool) (s : ByteArray) : okTo p s 0 := by simp [okTo]
theorem okTo_step {p : UInt8 → Bool} {s : ByteArray} {k : Nat} (h : k < s.size) (hn : okTo p s k) (hb : p s[k] = true) : okTo p s (k + 1) := by
  unfold okTo at *; rw [take_snoc s k h, List.all_append, hn]; simp [hb]
theorem okTo_no {p : UInt8 → Bool} {s : ByteArray} {k : Nat} (h : k < s.size) (hb : p s[k] = false) : s.data.toList.all p = false := by
  rw [Bool.eq_false_iff]; intro ha
  rw [List.all_eq_true] at ha
  rw [ha _ (get_mem s k h)] at hb; cases hb
theorem okTo_end {p : UInt8 → Bool} {s : ByteArray} {k : Nat} (h : s.size ≤ k) (hn : okTo p s k) : s.data.toList.all p = true := by
  unfold okTo at hn; rw [take_all s k h] at hn; exact hn
theorem head_at (s : ByteArray) (h : 0 < s.size) : s.data.toList.head? = some s[0] := by
  rw [List.head?_eq_getElem?, List.getElem?_eq_getElem (by simpa using h)]; rfl
theorem last_at (s : ByteArray) (h : 0 < s.size) : s.data.toList.getLast? = some (s[s.size - 1]'(by omega)) := by
  rw [List.getLast?_eq_getElem?, List.getElem?_eq_getElem (by simp; omega)]
  have : s.data.toList.length - 1 = s.size - 1 := by simp
  congr 1
theorem lbl_nil {s : ByteArray} (h : s.size = 0) : lblB s.data.toList = false := by
  have : s.data.toList = [] := List.eq_nil_of_length_eq_zero (by simpa using h)
  rw [this]; rfl
theorem lbl_long {s : ByteArray} (h : 63 < s.size) : lblB s.data.toList = false := by
  have : decide (s.data.toList.length ≤ 63) = false := by simp; omega
  unfold lblB; rw [this]; simp
theorem lbl_head {s : ByteArray} (h : 0 < s.size) (hc : s[0].toNat = 45) : lblB s.data.toList = false := by
  have e : s[0] = 45 := nat_of_u8 hc
  unfold lblB; rw [head_at s h, e]; simp
theorem lbl_last {s : ByteArray} (h : 0 < s.size) (hc : (s[s.size - 1]'(by omega)).toNat = 45) : lblB s.data.toList = false := by
  have e : (s[s.size - 1]'(by omega)) = 45 := nat_of_u8 hc
  unfold lblB; rw [last_at s h, e]; simp
theorem lbl_rest {s : ByteArray} (h : 0 < s.size) (h63 : s.size ≤ 63) (h0 : s[0].toNat ≠ 45) (h1 : (s[s.size - 1]'(by omega)).toNat ≠ 45) : lblB s.data.toList = s.data.toList.all lblC := by
  have a1 : s.data.toList.isEmpty = false := by
    cases e : s.data.toList with
    | nil => have : s.data.toList.length = 0 := by rw [e]; rfl
             rw [Array.length_toList] at this; have h' : s.size = 0 := this; omega
    | cons => rfl
  have a2 : decide (s.data.toList.length ≤ 63) = true := decide_eq_true (by rw [Array.length_toList]; exact h63)
  have e0 : (some s[0] != some (45 : UInt8)) = true := by simp; intro e; exact h0 (by rw [e]; rfl)
  have e1 : (some (s[s.size - 1]'(by omega)) != some (45 : UInt8)) = true := by simp; intro e; exact h1 (by rw [e]; rfl)
  unfold lblB; rw [a1, a2, head_at s h, last_at s h, e0, e1]; simp
theorem lblC_of {c : UInt8} (h : alnB c = true ∨ c.toNat = 45) : lblC c = true := by
  unfold lblC; rcases h with h | h
  · rw [h]; rfl
  · rw [nat_of_u8 (a := c) (b := 45) h]; simp
theorem lblC_not {c : UInt8} (h : alnB c = false) (h' : c.toNat ≠ 45) : lblC c = false := by
  unfold lblC; rw [h]; simp; intro e; exact h' (by rw [e]; rfl)

set_option maxHeartbeats 4000000 in
set_option maxRecDepth 100000 in
theorem isLabel_any (s : ByteArray) (w : World) (hs : s.size ≤ 1000000000) :
    Calls Tryz.prog 49 #[.string s] w fun e w' => e = .returned (.bool (lblB s.data.toList)) ∧ w = w' := by
  by_cases hz : s.size = 0
  · have hr := lbl_nil hz
    have e0 : (s.toList == ([] : List UInt8)) = true := by
      rw [ByteArray.toList_eq, List.eq_nil_of_length_eq_zero (l := s.data.toList) (by simpa using hz)]; rfl
    have e1 : s.toList.isEmpty = true := by
      rw [ByteArray.toList_eq, List.eq_nil_of_length_eq_zero (l := s.data.toList) (by simpa using hz)]; rfl
    have HR := Lib.hid hr
    clear hz hr
    go_enter Tryz.func49, Tryz.ntmps49
    go_wp2
    go_ret
    exact ⟨ret_bool HR.out.symm, rfl⟩
  · have hz' : 0 < s.size := by omega
    have hne : s.data.toList ≠ [] := fun e => hz (by have : s.data.toList.length = 0 := by rw [e]; rfl
                                                     simpa using this)
    have e0 : (s.toList == ([] : List UInt8)) = false := by rw [ByteArray.toList_eq]; simpa using hne
    have e1 : s.toList.isEmpty = false := by rw [ByteArray.toList_eq]; simpa using hne
    clear hne hz
    by_cases h63 : 63 < s.size
    · have HR := Lib.hid (lbl_long h63)
      go_enter Tryz.func49, Tryz.ntmps49
      go_wp2
      go_ret
      exact ⟨ret_bool HR.out.symm, rfl⟩
    · by_cases h0 : s[0].toNat = 45
      · have HR := Lib.hid (lbl_head hz' h0)
        have h0' : ((s[0].toNat : Int) == 45) = true := by rw [h0]; rfl
        clear h0
        go_enter Tryz.func49, Tryz.ntmps49
        go_wp2
        go_ret
        exact ⟨ret_bool HR.out.symm, rfl⟩
      · have h0' : ((s[0].toNat : Int) == 45) = false := by simp; omega
        by_cases h1 : (s[s.size - 1]'(by omega)).toNat = 45
        · have HR := Lib.hid (lbl_last hz' h1)
          have h1' : (((s[s.size - 1]'(by omega)).toNat : Int) == 45) = true := by rw [h1]; rfl
          clear h1 h0
          go_enter Tryz.func49, Tryz.ntmps49
          go_wp2
          go_ret
          exact ⟨ret_bool HR.out.symm, rfl⟩
        · have HR := Lib.hid (lbl_rest hz' (by omega) h0 h1)
          have h1' : (((s[s.size - 1]'(by omega)).toNat : Int) == 45) = false := by simp; omega
          clear h1 h0
          go_enter Tryz.func49, Tryz.ntmps49
          go_wp2
          go_loop [3] (fun i => ∃ k : Nat, k ≤ s.size ∧ i = .int .i64 k ∧ okTo lblC s k) (fun i => s.size - (intOf i).toNat)
          case atStart => exact ⟨0, by omega, rfl, okTo0 _ s⟩
          case round =>
            obtain ⟨k, hk, rfl, hn⟩ := hrel
            by_cases hlt : k < s.size
            · by_cases ha : alnB s[k] = true
              · have hl := lblC_of (Or.inl ha)
                have HL := Lib.hid hl
                clear hl
                go_wp2_with (go_at_call 65; refine (alnum_any _ _).mono ?_; rintro e w' ⟨rfl, rfl⟩)
                go_round
                case rel => exact ⟨k + 1, by omega, by go_num, okTo_step hlt hn HL.out⟩
                case measure => simp [intOf]; omega
              · have ha' : alnB s[k] = false := by simpa using ha
                clear ha
                by_cases h45 : s[k].toNat = 45
                · have HL := Lib.hid (lblC_of (Or.inr h45))
                  have h45' : ((s[k].toNat : Int) != 45) = false := by rw [h45]; rfl
                  clear h45
                  go_wp2_with (go_at_call 65; refine (alnum_any _ _).mono ?_; rintro e w' ⟨rfl, rfl⟩)
                  go_round
                  case rel => exact ⟨k + 1, by omega, by go_num, okTo_step hlt hn HL.out⟩
                  case measure => simp [intOf]; omega
                · have HL := Lib.hid (okTo_no hlt (lblC_not ha' h45))
                  have h45' : ((s[k].toNat : Int) != 45) = true := by simp; omega
                  clear h45
                  go_wp2_with (go_at_call 65; refine (alnum_any _ _).mono ?_; rintro e w' ⟨rfl, rfl⟩)
                  go_ret
                  exact ⟨ret_bool (by rw [HR.out, HL.out]), rfl⟩
            · go_wp2
              go_ret
              exact ⟨ret_bool (by rw [HR.out, okTo_end (by omega) hn]), rfl⟩
end Go.Proofs.YtgbcpheccaldlaaGreatDoor

/- The library's Split and Cut at one byte, in plain words, in a world in which MaxLen is an int. -/
namespace Go.Proofs.YtgbcpheccaldlaaGreatDoor
open Go.RowKit

/-- MaxLen is an int. -/
def HasMax (w : World) : Prop := ∃ m, w.cell? ⟨0, 0, none⟩ = some (.int .i64 m)
theorem HasMax.below {w w' : World} (h : HasMax w) (hb : Below w.heap.size w w') : HasMax w' := by
  obtain ⟨m, hm⟩ := h
  exact ⟨m, (hb.cell (p := ⟨0, 0, none⟩) (World.block_lt_of_cell? _ _ hm)).trans hm⟩

theorem idx_sep (c : UInt8) (t : List UInt8) : Lib.index (c :: t) [c] = 0 := by unfold Lib.index; simp [List.isPrefixOf]
theorem idx_ne {c x : UInt8} (h : x ≠ c) (t : List UInt8) : Lib.index (x :: t) [c] = if Lib.index t [c] == -1 then -1 else Lib.index t [c] + 1 := by
  rw [Lib.index, if_neg (by simp [List.isPrefixOf]; exact fun e => h e.symm)]
theorem split_cutL (c : UInt8) : ∀ l : List UInt8, Lib.splitK [c] 0 (Lib.count l [c]) l = cutL c l := by
  intro l
  induction l with
  | nil => rfl
  | cons x t ih =>
    by_cases hx : x = c
    · subst hx
      rw [Lib.count_cons_eq, Nat.add_comm, Lib.splitK, idx_sep, cutL_sep, ← ih]
      simp
    · rw [Lib.count_cons_ne x c t hx]
      cases hk : Lib.count t [c] with
      | zero =>
        rw [hk] at ih
        rw [cutL_cons (p := t) (r := []) hx ih.symm]; rfl
      | succ k =>
        rw [hk] at ih
        have hi : ¬ Lib.index t [c] = -1 := fun e => by rw [Lib.count_miss e] at hk; cases hk
        have hge := Lib.index_ge t [c]
        obtain ⟨i, hi'⟩ : ∃ i : Nat, Lib.index t [c] = i := ⟨(Lib.index t [c]).toNat, by omega⟩
        have e1 : (Lib.index t [c] == -1) = false := by simpa using hi
        have e2 : Lib.index (x :: t) [c] = ((i + 1 : Nat) : Int) := by rw [idx_ne hx, e1, hi']; simp
        have e3 : (((i + 1 : Nat) : Int) == -1) = false := by simp; omega
        rw [Lib.splitK, e1] at ih
        rw [Lib.splitK, e2, e3]
        rw [hi'] at ih
        simp only [Bool.false_eq_true, if_false, Int.toNat_natCast, Nat.add_zero, List.length_singleton, List.take_succ_cons, List.drop_succ_cons] at ih ⊢
        rw [cutL_cons hx ih.symm]
theorem cut_cutC (c : UInt8) : ∀ l : List UInt8, Lib.cut l [c] = cutC c l := by
  intro l
  induction l with
  | nil => rfl
  | cons x t ih =>
    by_cases hx : x = c
    · subst hx
      unfold Lib.cut; rw [idx_sep]; simp [cutC]
    · rw [cutC, if_neg hx, ← ih]
      have hge := Lib.index_ge t [c]
      by_cases hi : Lib.index t [c] = -1
      · unfold Lib.cut
        rw [idx_ne hx, hi]; rfl
      · obtain ⟨i, hi'⟩ : ∃ i : Nat, Lib.index t [c] = i := ⟨(Lib.index t [c]).toNat, by omega⟩
        have e1 : (Lib.index t [c] == -1) = false := by simpa using hi
        have e2 : Lib.index (x :: t) [c] = ((i + 1 : Nat) : Int) := by rw [idx_ne hx, e1, hi']; simp
        unfold Lib.cut
        rw [e2, hi', if_pos (by omega), if_pos (by omega)]
        simp only [Int.toNat_natCast, List.length_singleton, List.take_succ_cons, List.drop_succ_cons]
theorem splitM_any (c : UInt8) (s : ByteArray) (w : World) (hM : HasMax w) (hs : s.size ≤ 100000000) :
    Calls Tryz.prog 37 #[.string s, .string ⟨#[c]⟩] w fun e w' => ∃ v, e = .returned v ∧ OwnsS w.heap.size w' v (cutL c s.data.toList) ∧ Below w.heap.size w w' := by
  obtain ⟨m, hm⟩ := hM
  refine (Tryz.strings_Split s ⟨#[c]⟩ m w (by omega) hm (Nat.le_refl 1)).mono ?_
  rintro e w' ⟨rfl, rfl⟩
  have hd := Lib.splitB_data ⟨#[c]⟩ 0 (Lib.countB s ⟨#[c]⟩) s
  have hc : Lib.countB s ⟨#[c]⟩ = Lib.count s.data.toList [c] := rfl
  have hcut : (Lib.splitB ⟨#[c]⟩ 0 (Lib.countB s ⟨#[c]⟩) s).map (·.data.toList) = cutL c s.data.toList := by
    rw [hd, hc]; exact split_cutL c _
  have hv : (Lib.splitB ⟨#[c]⟩ 0 (Lib.countB s ⟨#[c]⟩) s).map Value.string = (cutL c s.data.toList).map strV := by
    rw [← hcut, List.map_map]
    exact List.map_congr_left fun x _ => by show Value.string x = Value.string (strB x.data.toList); rw [strB_of]
  have hlen : Lib.countB s ⟨#[c]⟩ + 1 = (cutL c s.data.toList).length := by
    rw [← hcut, List.length_map]
    exact (Lib.splitB_all ⟨#[c]⟩ (Nat.le_refl 1) 0 _ s rfl).symm
  have hle := cutL_len c s.data.toList
  have hsz : s.data.toList.length = s.size := by rw [Array.length_toList]; rfl
  refine ⟨_, rfl, ?_, below_new _ _⟩
  rw [hv, hlen]
  have := World.ownsRow_lit (base := w.heap.size) (e := 9) (size := 1) w ((cutL c s.data.toList).map strV).toArray (cutL c s.data.toList).length (Nat.le_refl _) (by unfold maxLen; omega) (by simp)
  exact this
theorem cutM_any (c : UInt8) (s : ByteArray) (w : World) (hM : HasMax w) (hs : s.size ≤ 100000000) :
    Calls Tryz.prog 39 #[.string s, .string ⟨#[c]⟩] w fun e w' => e = .returned (.tuple #[.string (strB (cutC c s.data.toList).1), .string (strB (cutC c s.data.toList).2.1), .bool (cutC c s.data.toList).2.2]) ∧ ∃ n, w' = w.drewN n := by
  obtain ⟨m, hm⟩ := hM
  refine (Tryz.strings_Cut s ⟨#[c]⟩ m w (by omega) hm).mono ?_
  rintro e w' ⟨he, hn⟩
  have hc : Lib.cut s.data.toList (⟨#[c]⟩ : ByteArray).data.toList = cutC c s.data.toList := cut_cutC c _
  rw [hc] at he
  exact ⟨he, hn⟩
end Go.Proofs.YtgbcpheccaldlaaGreatDoor

/- How the program divides a head: by the first CR LF CR LF within the limit, and by CR LF; it is how the reference does. -/
namespace Go.Proofs.YtgbcpheccaldlaaGreatDoor

def crlf : List UInt8 := [13, 10]
def crlf2 : List UInt8 := [13, 10, 13, 10]
/-- The pieces between CR LF; cur is what stands before. -/
def spF (cur : List UInt8) : List UInt8 → List (List UInt8)
  | [] => [cur]
  | c :: r => if c = 13 ∧ r.head? = some 10 then cur :: spF [] r.tail else spF (cur ++ [c]) r
termination_by l => l.length
decreasing_by all_goals simp_wf; all_goals (try have := List.length_tail (l := r)); all_goals (try omega)
theorem pre2 (c : UInt8) (r : List UInt8) : crlf.isPrefixOf (c :: r) = true ↔ c = 13 ∧ r.head? = some 10 := by
  unfold crlf
  cases r with
  | nil => simp [List.isPrefixOf]
  | cons d r => simp [List.isPrefixOf]; constructor <;> (rintro ⟨a, b⟩; exact ⟨a.symm, b.symm⟩)
theorem spF_index : ∀ (s cur : List UInt8), spF cur s = if Lib.index s crlf = -1 then [cur ++ s] else (cur ++ s.take (Lib.index s crlf).toNat) :: spF [] (s.drop ((Lib.index s crlf).toNat + 2)) := by
  intro s
  induction s with
  | nil => intro cur; rw [spF]; simp [Lib.index, crlf]
  | cons c r ih =>
    intro cur
    by_cases h : crlf.isPrefixOf (c :: r) = true
    · rw [spF, if_pos ((pre2 c r).1 h), Lib.index, if_pos h]
      simp
    · have h' : ¬ (c = 13 ∧ r.head? = some 10) := fun e => h ((pre2 c r).2 e)
      rw [spF, if_neg h', ih, Lib.index, if_neg h]
      have hge := Lib.index_ge r crlf
      by_cases h2 : Lib.index r crlf = -1
      · rw [if_pos h2, if_pos (show (Lib.index r crlf == -1) = true by rw [h2]; rfl), if_pos rfl]; simp
      · rw [if_neg h2, if_neg (show ¬ (Lib.index r crlf == -1) = true by simpa using h2), if_neg (by omega)]
        have e : (Lib.index r crlf + 1).toNat = (Lib.index r crlf).toNat + 1 := by omega
        rw [e, show (Lib.index r crlf).toNat + 1 + 2 = (Lib.index r crlf).toNat + 2 + 1 by omega]
        simp
theorem splitK_sp : ∀ (fuel : Nat) (s : List UInt8), s.length < fuel → Lib.splitK crlf 0 (Lib.countFrom crlf fuel s) s = spF [] s := by
  intro fuel
  induction fuel with
  | zero => intro s h; omega
  | succ k ih =>
    intro s hs
    rw [spF_index, Lib.countFrom]
    by_cases h : Lib.index s crlf = -1
    · rw [if_pos (by rw [h]; rfl), if_pos h]; simp [Lib.splitK]
    · have hge := Lib.index_ge s crlf
      have hle : (Lib.index s crlf).toNat + 2 ≤ s.length := by
        have := Lib.index_room s crlf (by omega)
        have h2 : crlf.length = 2 := rfl
        omega
      rw [if_neg (by simpa using h), if_neg h, show 1 + Lib.countFrom crlf k (s.drop ((Lib.index s crlf).toNat + crlf.length)) = Lib.countFrom crlf k (s.drop ((Lib.index s crlf).toNat + crlf.length)) + 1 by omega, Lib.splitK, if_neg (by simpa using h)]
      rw [show crlf.length = 2 from rfl, ih _ (by rw [List.length_drop]; omega)]
      simp
/-- strings.Split at CR LF. -/
theorem split_sp (s : List UInt8) : Lib.split s crlf = spF [] s := splitK_sp _ s (by omega)
theorem pre4 (c : UInt8) (r : List UInt8) : crlf2.isPrefixOf (c :: r) = true ↔ c = 13 ∧ r.take 3 = [10, 13, 10] := by
  unfold crlf2
  match r with
  | [] => simp [List.isPrefixOf]
  | [a] => simp [List.isPrefixOf]
  | [a, b] => simp [List.isPrefixOf]
  | a :: b :: d :: t => simp [List.isPrefixOf]; constructor <;> (rintro ⟨h1, h2, h3, h4⟩; exact ⟨h1.symm, h2.symm, h3.symm, h4.symm⟩)
theorem end4_index : ∀ l : List UInt8, end4 l = if Lib.index l crlf2 = -1 then none else some ((Lib.index l crlf2).toNat + 4) := by
  intro l
  induction l with
  | nil => rfl
  | cons c r ih =>
    rw [end4]
    by_cases h : crlf2.isPrefixOf (c :: r) = true
    · rw [if_pos ((pre4 c r).1 h), Lib.index, if_pos h]; rfl
    · have h' : ¬ (c = 13 ∧ r.take 3 = [10, 13, 10]) := fun e => h ((pre4 c r).2 e)
      rw [if_neg h', ih, Lib.index, if_neg h]
      have hge := Lib.index_ge r crlf2
      by_cases h2 : Lib.index r crlf2 = -1
      · rw [if_pos h2, if_pos (show (Lib.index r crlf2 == -1) = true by rw [h2]; rfl), if_pos rfl]; rfl
      · rw [if_neg h2, if_neg (show ¬ (Lib.index r crlf2 == -1) = true by simpa using h2), if_neg (by omega)]
        simp; omega
theorem linesF_end : ∀ (k : Nat) (a cur : List UInt8), a.length ≤ k → linesF cur (a ++ crlf2) = spF cur a ++ [[]] := by
  intro k
  induction k with
  | zero =>
    intro a cur h
    obtain rfl : a = [] := List.eq_nil_of_length_eq_zero (by omega)
    rw [spF, List.nil_append, crlf2, linesF, if_pos ⟨rfl, rfl⟩, List.tail, linesF, if_pos ⟨rfl, rfl⟩, List.tail, linesF]; rfl
  | succ k ih =>
    intro a cur h
    cases a with
    | nil => exact ih [] cur (by simp)
    | cons c r =>
      rw [List.cons_append, linesF, spF]
      by_cases hc : c = 13 ∧ r.head? = some 10
      · cases r with
        | nil => cases hc.2
        | cons d r2 =>
          rw [if_pos hc, if_pos (by exact hc)]
          show cur :: linesF [] (r2 ++ crlf2) = _
          rw [ih r2 [] (by simp at h; omega)]; rfl
      · have hc' : ¬ (c = 13 ∧ (r ++ crlf2).head? = some 10) := by
          rintro ⟨h1, h2⟩
          apply hc
          refine ⟨h1, ?_⟩
          cases r with
          | nil => exact absurd h2 (by decide)
          | cons d r2 => exact h2
        rw [if_neg hc, if_neg hc', ih r _ (by simp at h; omega)]
def badC (c : UInt8) : Bool := [13, 10, 0].contains c
theorem badC_iff (c : UInt8) : badC c = true ↔ c = 13 ∨ c = 10 ∨ c = 0 := by unfold badC; simp
theorem spF_bad : ∀ (k : Nat) (a cur : List UInt8), a.length ≤ k → cur.any badC = true → (spF cur a).any (·.any badC) = true := by
  intro k
  induction k with
  | zero =>
    intro a cur h hc
    obtain rfl : a = [] := List.eq_nil_of_length_eq_zero (by omega)
    rw [spF]; simp only [List.any_cons, hc, Bool.true_or]
  | succ k ih =>
    intro a cur h hc
    cases a with
    | nil => exact ih [] cur (by simp) hc
    | cons c r =>
      rw [spF]
      split
      · simp only [List.any_cons, hc, Bool.true_or]
      · exact ih r _ (by simp at h; omega) (by rw [List.any_append, hc, Bool.true_or])
theorem bareF_end : ∀ (k : Nat) (a cur : List UInt8) (p : UInt8), a.length ≤ k → p ≠ 13 → cur.any badC = false → bareF p (a ++ crlf2) = (spF cur a).any (·.any badC) := by
  intro k
  induction k with
  | zero =>
    intro a cur p h _ hc
    obtain rfl : a = [] := List.eq_nil_of_length_eq_zero (by omega)
    rw [spF, List.nil_append, crlf2, bareF_crlf, bareF_crlf]
    simp only [List.any_cons, hc]; rfl
  | succ k ih =>
    intro a cur p h hp hc
    cases a with
    | nil => exact ih [] cur p (by simp) hp hc
    | cons c r =>
      by_cases h13 : c = 13 ∧ r.head? = some 10
      · obtain ⟨rfl, h2⟩ := h13
        cases r with
        | nil => cases h2
        | cons d r2 =>
          obtain rfl : d = 10 := Option.some.inj h2
          rw [spF, if_pos ⟨rfl, rfl⟩]
          show bareF p (13 :: 10 :: (r2 ++ crlf2)) = _
          rw [bareF_crlf, ih r2 [] 10 (by simp at h; omega) (by decide) rfl]
          simp only [List.any_cons, hc, Bool.false_or]; rfl
      · rw [spF, if_neg h13, List.cons_append, bareF]
        have hh : ¬ (c = 13 ∧ (r ++ crlf2).head? = some 10) := by
          rintro ⟨h1, h2⟩
          apply h13
          refine ⟨h1, ?_⟩
          cases r with
          | nil => exact absurd h2 (by decide)
          | cons d r2 => exact h2
        by_cases hb : badC c = true
        · rw [spF_bad (k := k) _ _ (by simp at h; omega) (by rw [List.any_append]; simp [hb])]
          rcases (badC_iff c).1 hb with rfl | rfl | rfl
          · have : decide ((r ++ crlf2).head? ≠ some 10) = true := decide_eq_true fun e => hh ⟨rfl, e⟩
            rw [this]; simp
          · simp [hp]
          · simp
        · have hb' := hb
          rw [badC_iff] at hb'
          simp only [not_or] at hb'
          rw [ih r (cur ++ [c]) c (by simp at h; omega) hb'.1 (by rw [List.any_append, hc]; simpa using hb)]
          simp [hb'.1, hb'.2.1, hb'.2.2]
/-- How the program divides a head. -/
def divP (l : List UInt8) : Nat × List (List UInt8) × Nat :=
  if l.take 2 = crlf then (22, [], 0)
  else if Lib.index (l.take 8192) crlf2 = -1 then (if l.length < 8192 then 21 else 5, [], 0)
  else if 65 < (spF [] (l.take (Lib.index (l.take 8192) crlf2).toNat)).length then (5, [], 0)
  else if (spF [] (l.take (Lib.index (l.take 8192) crlf2).toNat)).any (·.any badC) = true then (22, [], 0)
  else (0, spF [] (l.take (Lib.index (l.take 8192) crlf2).toNat), (Lib.index (l.take 8192) crlf2).toNat + 4)
theorem splitG_div (l : List UInt8) : splitG l = divP l := by
  unfold splitG divP
  by_cases h0 : l.take 2 = crlf
  · have e : endO l = some 2 := by unfold endO; rw [if_pos (by exact h0)]
    rw [e, if_pos h0]
    simp only
    have e2 : linesF [] (l.take 2) = [[]] := by rw [h0, crlf, linesF, if_pos ⟨rfl, rfl⟩, List.tail, linesF]
    rw [e2]; simp
  · have e : endO l = end4 l := by unfold endO; rw [if_neg (by exact h0)]
    rw [e, if_neg h0]
    have hi := end4_index (l.take 8192)
    by_cases h1 : Lib.index (l.take 8192) crlf2 = -1
    · rw [if_pos h1] at hi ⊢
      cases h2 : end4 l with
      | none => rfl
      | some n =>
        simp only
        have hn := end4_some h2
        have hlt : 8192 < n := by
          refine Nat.lt_of_not_le fun hle => ?_
          have h3 := end4_pre h2 ((l.drop n).take (8192 - n))
          have h4 : l.take n ++ (l.drop n).take (8192 - n) = l.take 8192 := by
            rw [← List.take_add]; congr 1; omega
          rw [h4, hi] at h3
          cases h3
        rw [if_pos (.inl hlt), if_neg (by omega)]
    · rw [if_neg h1] at hi ⊢
      have hge := Lib.index_ge (l.take 8192) crlf2
      generalize hk : (Lib.index (l.take 8192) crlf2).toNat = k at hi ⊢
      have hn := end4_some hi
      have hk4 : k + 4 ≤ 8192 ∧ k + 4 ≤ l.length := by
        have := hn.2
        rw [List.length_take] at this
        omega
      have h2 : end4 l = some (k + 4) := by
        have := end4_pre hi (l.drop (k + 4))
        rw [List.take_take, Nat.min_eq_left hk4.1, List.take_append_drop] at this
        exact this
      rw [h2]
      simp only
      have h5 : l.take (k + 4) = l.take k ++ crlf2 := by
        have h6 : crlf2.isPrefixOf ((l.take 8192).drop k) = true := by
          rcases Lib.index_spec (l.take 8192) crlf2 with ⟨h, _⟩ | ⟨i, h, _, ho, _⟩
          · exact absurd h h1
          · obtain rfl : i = k := by omega
            exact ho
        rw [List.drop_take] at h6
        have h7 : crlf2 = (l.drop k).take 4 := by
          have := List.isPrefixOf_iff_prefix.1 h6
          have h8 := List.prefix_iff_eq_take.1 this
          rw [List.take_take, show crlf2.length = 4 from rfl, Nat.min_eq_left (by omega)] at h8
          exact h8
        rw [List.take_add, ← h7]
      rw [h5, linesF_end _ _ _ (Nat.le_refl _), bareF_end _ _ [] 0 (Nat.le_refl _) (by decide) rfl, List.dropLast_concat, List.length_append]
      by_cases h6 : 65 < (spF [] (l.take k)).length
      · rw [if_pos (.inr (by simp; omega)), if_pos h6]
      · rw [if_neg (by simp; omega), if_neg h6]
        by_cases h7 : (spF [] (l.take k)).any (·.any badC) = true
        · rw [if_pos (.inr h7), if_pos h7]
        · rw [if_neg (by rintro (h | h); omega; exact h7 h), if_neg h7]
theorem spF_len : ∀ (k : Nat) (s cur : List UInt8), s.length ≤ k → (spF cur s).length ≤ s.length + 1 := by
  intro k
  induction k with
  | zero =>
    intro s cur h
    obtain rfl : s = [] := List.eq_nil_of_length_eq_zero (by omega)
    rw [spF]; simp
  | succ k ih =>
    intro s cur h
    cases s with
    | nil => rw [spF]; simp
    | cons c r =>
      rw [spF]
      split
      · have h2 := List.length_tail (l := r)
        have := ih r.tail [] (by simp at h; omega)
        simp only [List.length_cons]; omega
      · have := ih r (cur ++ [c]) (by simp at h; omega)
        simp only [List.length_cons]; omega
/-- The parts are no longer than the text. -/
theorem spF_part : ∀ (k : Nat) (s cur : List UInt8), s.length ≤ k → ∀ l ∈ spF cur s, l.length ≤ cur.length + s.length := by
  intro k
  induction k with
  | zero =>
    intro s cur h l hl
    obtain rfl : s = [] := List.eq_nil_of_length_eq_zero (by omega)
    rw [spF, List.mem_singleton] at hl
    rw [hl]; simp
  | succ k ih =>
    intro s cur h l hl
    cases s with
    | nil => rw [spF, List.mem_singleton] at hl; rw [hl]; simp
    | cons c r =>
      rw [spF] at hl
      split at hl
      · have h2 := List.length_tail (l := r)
        rcases List.mem_cons.1 hl with rfl | hl
        · simp
        · have := ih r.tail [] (by simp at h; omega) l hl
          simp at this ⊢; omega
      · have := ih r (cur ++ [c]) (by simp at h; omega) l hl
        simp at this ⊢; omega
theorem spF_ne (s cur : List UInt8) : spF cur s ≠ [] := by
  rw [spF_index]; split <;> simp
theorem enc_part : ∀ (ls : List (List UInt8)), ∀ y ∈ ls, y.length ≤ (enc ls).length := by
  intro ls
  induction ls with
  | nil => intro y hy; cases hy
  | cons x t ih =>
    intro y hy
    rw [enc_cons]
    rcases List.mem_cons.1 hy with rfl | hy
    · simp
    · have := ih y hy; simp; omega
end Go.Proofs.YtgbcpheccaldlaaGreatDoor

/- Slices of bytes that a call reads; bytes.HasPrefix and bytes.Index at the line ends, strings.Split at CR LF. -/
namespace Go.Proofs.YtgbcpheccaldlaaGreatDoor
open Go.RowKit

def numsB (l : List UInt8) : List Int := l.map fun c => (c.toNat : Int)
theorem numsB_len (l : List UInt8) : (numsB l).length = l.length := by simp [numsB]
theorem bytesOf_nums (l : List UInt8) : Lib.bytesOf (numsB l) = l := by
  unfold Lib.bytesOf numsB
  rw [List.map_map]
  conv => rhs; rw [← List.map_id l]
  exact List.map_congr_left fun c _ => by simp
theorem numsB_byte (l : List UInt8) : ∀ x ∈ numsB l, 0 ≤ x ∧ x < 256 := by
  intro x hx
  obtain ⟨c, _, rfl⟩ := List.mem_map.1 hx
  have := UInt8.toNat_lt c
  omega
theorem numsB_at {l : List UInt8} {i : Nat} (h : i < l.length) : (numsB l).getD i 0 = ((l[i]'h).toNat : Int) := by
  unfold numsB; rw [List.getD, List.getElem?_map, List.getElem?_eq_getElem h]; rfl
/-- The cells from ⟨g, off⟩ on hold these bytes. -/
def CellsB (w : World) (g off : Nat) (l : List UInt8) : Prop := ∀ i (h : i < l.length), w.cell? ⟨g, off + i, none⟩ = some (.int .u8 ((l[i]'h).toNat : Int))
theorem CellsB.below {w w' : World} {g off : Nat} {l : List UInt8} (h : CellsB w g off l) (hg : g < w.heap.size) (hb : Below w.heap.size w w') : CellsB w' g off l :=
  fun i hi => (hb.cell (p := ⟨g, off + i, none⟩) hg).trans (h i hi)
theorem CellsB.take {w : World} {g off : Nat} {l : List UInt8} (h : CellsB w g off l) (n : Nat) : CellsB w g off (l.take n) := by
  intro i hi
  have hi' : i < l.length := by rw [List.length_take] at hi; omega
  rw [h i hi', List.getElem_take]
/-- The value v is a slice of these bytes. -/
def ReadsB (w : World) (v : Value) (l : List UInt8) : Prop :=
  ∃ ao cap, v = .slice ao l.length cap ∧ l.length ≤ cap ∧ ((ao = none ∧ cap = 0) ∨ ∃ g off, ao = some ⟨g, off, none⟩ ∧ g < w.heap.size ∧ CellsB w g off l)
theorem ReadsB.below {w w' : World} {v : Value} {l : List UInt8} (h : ReadsB w v l) (hb : Below w.heap.size w w') : ReadsB w' v l := by
  obtain ⟨ao, cap, h1, h2, h3⟩ := h
  refine ⟨ao, cap, h1, h2, ?_⟩
  rcases h3 with h3 | ⟨g, off, h4, h5, h6⟩
  · exact .inl h3
  · exact .inr ⟨g, off, h4, Nat.lt_of_lt_of_le h5 hb.size, h6.below h5 hb⟩
/-- A slice of bytes is nil and empty, or lies in a block. -/
theorem ReadsB.cases {w : World} {v : Value} {l : List UInt8} (h : ReadsB w v l) :
    (v = .slice none 0 0 ∧ l = []) ∨ ∃ g off cap, v = .slice (some ⟨g, off, none⟩) l.length cap ∧ l.length ≤ cap ∧ g < w.heap.size ∧ CellsB w g off l := by
  obtain ⟨ao, cap, h1, h2, h3⟩ := h
  rcases h3 with ⟨rfl, rfl⟩ | ⟨g, off, h4, h5, h6⟩
  · have : l = [] := List.eq_nil_of_length_eq_zero (by omega)
    subst this
    exact .inl ⟨h1, rfl⟩
  · exact .inr ⟨g, off, cap, by rw [h1, h4], h2, h5, h6⟩
theorem cells_take {l : List UInt8} (c : List UInt8) (n : Nat) (h : l.take n = c) (hn : n = c.length) : Lib.hasPrefix l c = true := by
  subst hn
  unfold Lib.hasPrefix
  rw [List.isPrefixOf_iff_prefix, List.prefix_iff_eq_take]
  exact h.symm
theorem hasPrefix_crlf (l : List UInt8) : Lib.hasPrefix l crlf = decide (l.take 2 = crlf) := by
  by_cases h : l.take 2 = crlf
  · rw [cells_take crlf 2 h rfl, decide_eq_true h]
  · rw [decide_eq_false h, Bool.eq_false_iff]
    intro e
    unfold Lib.hasPrefix at e
    rw [List.isPrefixOf_iff_prefix, List.prefix_iff_eq_take] at e
    exact h e.symm
theorem two_cells (W : World) (a b : Int) (T : TypeId) (fr : Nat × Nat) (i : Nat) (h : i < 2) : (W.alloc (.cells #[.int .u8 a, .int .u8 b] T fr)).cell? ⟨W.heap.size, 0 + i, none⟩ = some (.int .u8 ([a, b].getD i 0)) := by
  rw [World.cell?_alloc_mark]
  have : i = 0 ∨ i = 1 := by omega
  rcases this with rfl | rfl <;> rfl
theorem four_cells (W : World) (a b c d : Int) (T : TypeId) (fr : Nat × Nat) (i : Nat) (h : i < 4) : (W.alloc (.cells #[.int .u8 a, .int .u8 b, .int .u8 c, .int .u8 d] T fr)).cell? ⟨W.heap.size, 0 + i, none⟩ = some (.int .u8 ([a, b, c, d].getD i 0)) := by
  rw [World.cell?_alloc_mark]
  have : i = 0 ∨ i = 1 ∨ i = 2 ∨ i = 3 := by omega
  rcases this with rfl | rfl | rfl | rfl <;> rfl
/-- bytes.HasPrefix(b, []byte("\r\n")). -/
theorem prefix_crlf (W : World) (g off cap : Nat) (l : List UInt8) (hl : l.length ≤ cap) (hg : g < W.heap.size) (hc : CellsB W g off l) :
    Calls Tryz.prog 35 #[.slice (some ⟨g, off, none⟩) l.length cap, .slice (some ⟨W.heap.size, 0, none⟩) 2 2] (W.alloc (.cells #[.int .u8 13, .int .u8 10] 5 (2, 3)))
      fun e w' => e = .returned (.bool (decide (l.take 2 = crlf))) ∧ (W.alloc (.cells #[.int .u8 13, .int .u8 10] 5 (2, 3))) = w' := by
  have hcc := hc.below hg (below_new W (.cells #[.int .u8 13, .int .u8 10] 5 (2, 3)))
  refine (Tryz.bytes_HasPrefix_all (some ⟨g, off, none⟩) (some ⟨W.heap.size, 0, none⟩) l.length cap 2 2 (numsB l) [13, 10] _ (numsB_len l) rfl hl
    (fun _ => ⟨g, off, rfl, fun i hi => by rw [numsB_at hi]; exact hcc i hi⟩) (fun _ => ⟨W.heap.size, 0, rfl, fun i hi => two_cells W 13 10 _ _ i hi⟩)).mono ?_
  rintro e w' ⟨rfl, rfl⟩
  rw [bytesOf_nums, show Lib.bytesOf [13, 10] = crlf by decide, hasPrefix_crlf]
  exact ⟨rfl, rfl⟩
/-- bytes.Index(b, []byte("\r\n\r\n")). -/
theorem index_crlf2 (W : World) (hM : HasMax W) (g off cap : Nat) (l : List UInt8) (hl : l.length ≤ cap) (h8 : l.length ≤ 100000) (hg : g < W.heap.size) (hc : CellsB W g off l) :
    Calls Tryz.prog 36 #[.slice (some ⟨g, off, none⟩) l.length cap, .slice (some ⟨W.heap.size, 0, none⟩) 4 4] (W.alloc (.cells #[.int .u8 13, .int .u8 10, .int .u8 13, .int .u8 10] 5 (4, 5)))
      fun e w' => e = .returned (.int .i64 (Lib.index l crlf2)) ∧ Below W.heap.size W w' := by
  obtain ⟨m, hm⟩ := hM.below (below_new W (.cells #[.int .u8 13, .int .u8 10, .int .u8 13, .int .u8 10] 5 (4, 5)))
  have hcc := hc.below hg (below_new W (.cells #[.int .u8 13, .int .u8 10, .int .u8 13, .int .u8 10] 5 (4, 5)))
  refine (Tryz.bytes_Index_at ⟨g, off, none⟩ ⟨W.heap.size, 0, none⟩ l.length cap 4 4 (numsB l) [13, 10, 13, 10] m _ (numsB_len l) rfl (numsB_byte l) (by decide)
    (fun i hi => by rw [Addr.add_lit, numsB_at hi]; exact hcc i hi) (fun i hi => by rw [Addr.add_lit]; exact four_cells W 13 10 13 10 _ _ i hi) hl (by omega) (by decide) hm).mono ?_
  rintro e w' ⟨rfl, q, rfl⟩
  rw [bytesOf_nums, show Lib.bytesOf [13, 10, 13, 10] = crlf2 by decide]
  exact ⟨rfl, below_drewN (below_new W _) q⟩
/-- string(b) of a slice of bytes. -/
theorem conv_bytes (W : World) (g off cap : Nat) (l : List UInt8) (hc : CellsB W g off l) :
    (convert 27 9 (.slice (some ⟨g, off, none⟩) l.length cap)).run Tryz.prog W = .ok (.string (strB l)) W :=
  run_convert_bytes_back W 27 9 5 ⟨g, off, none⟩ cap l Tryz.underlying27 Tryz.underlying5 Tryz.underlying9 (fun j hj => by rw [Addr.add_lit]; exact hc j hj)
/-- strings.Split(s, "\r\n"). -/
theorem split_crlf (s : List UInt8) (w : World) (hM : HasMax w) (hs : s.length ≤ 100000) :
    Calls Tryz.prog 37 #[.string (strB s), .string ⟨#[13, 10]⟩] w fun e w' => ∃ v, e = .returned v ∧ OwnsS w.heap.size w' v (spF [] s) ∧ Below w.heap.size w w' := by
  obtain ⟨m, hm⟩ := hM
  have hz : (strB s).size ≤ 100000 := by rw [strB_size]; exact hs
  refine (Tryz.strings_Split (strB s) ⟨#[13, 10]⟩ m w (by omega) hm (by decide)).mono ?_
  rintro e w' ⟨rfl, rfl⟩
  have hd := Lib.splitB_data ⟨#[13, 10]⟩ 0 (Lib.countB (strB s) ⟨#[13, 10]⟩) (strB s)
  have hc : Lib.countB (strB s) ⟨#[13, 10]⟩ = Lib.count (strB s).data.toList crlf := rfl
  have hcut : (Lib.splitB ⟨#[13, 10]⟩ 0 (Lib.countB (strB s) ⟨#[13, 10]⟩) (strB s)).map (·.data.toList) = spF [] s := by
    rw [hd, hc, strB_list]; exact split_sp s
  have hv : (Lib.splitB ⟨#[13, 10]⟩ 0 (Lib.countB (strB s) ⟨#[13, 10]⟩) (strB s)).map Value.string = (spF [] s).map strV := by
    rw [← hcut, List.map_map]
    exact List.map_congr_left fun x _ => by show Value.string x = Value.string (strB x.data.toList); rw [strB_of]
  have hlen : Lib.countB (strB s) ⟨#[13, 10]⟩ + 1 = (spF [] s).length := by
    rw [← hcut, List.length_map]
    exact (Lib.splitB_all ⟨#[13, 10]⟩ (by decide) 0 _ (strB s) rfl).symm
  have hle : (spF [] s).length ≤ s.length + 1 := spF_len _ s [] (Nat.le_refl _)
  refine ⟨_, rfl, ?_, below_new _ _⟩
  rw [hv, hlen]
  exact World.ownsRow_lit (base := w.heap.size) (e := 9) (size := 1) w ((spF [] s).map strV).toArray (spF [] s).length (Nat.le_refl _) (by unfold maxLen; omega) (by simp)
end Go.Proofs.YtgbcpheccaldlaaGreatDoor
