/- SyntaxNumbers: for every number, count of zeros and string the statement's function returns true: the walk. -/
import Derived.Test.YtnpodkjcdhgfcaaDoorAwake
import Derived.Test.YtnpodkjcdhgfcaaDoorIs
import Derived.Laws.IdiomStrings
namespace Go.Proofs.YtnpodkjcdhgfcaaDoor.numbers
open Go.RowKit

theorem fold_from : ∀ (l : List UInt8) (a : Nat), l.foldl (fun n c => 10 * n + (c.toNat - 48)) a = a * 10 ^ l.length + numV l := by
  intro l
  induction l with
  | nil => intro a; simp [numV]
  | cons c t ih =>
    intro a
    have e : numV (c :: t) = t.foldl (fun n c => 10 * n + (c.toNat - 48)) (10 * 0 + (c.toNat - 48)) := rfl
    rw [List.foldl_cons, ih, e, ih, List.length_cons, Nat.pow_succ, Nat.add_mul, Nat.add_mul]
    have e2 : a * (10 ^ t.length * 10) = 10 * a * 10 ^ t.length := by
      rw [Nat.mul_comm (10 ^ t.length) 10, ← Nat.mul_assoc, Nat.mul_comm a 10]
    rw [e2]; simp; omega
theorem numV_cons (c : UInt8) (t : List UInt8) : numV (c :: t) = (c.toNat - 48) * 10 ^ t.length + numV t := by
  have e : numV (c :: t) = t.foldl (fun n c => 10 * n + (c.toNat - 48)) (10 * 0 + (c.toNat - 48)) := rfl
  rw [e, fold_from]; simp

theorem strB_size (l : List UInt8) : (strB l).size = l.length := by show l.toArray.size = _; simp
theorem strB_list (l : List UInt8) : (strB l).data.toList = l := by simp [strB]
/-- What holds while the digits of n are written: r is what is left, l the digits so far. -/
def Dig (n : Nat) (l : List UInt8) (r : Nat) : Prop := l.all digB = true ∧ n = r * 10 ^ l.length + numV l ∧ l.length ≤ 15 ∧ r ≤ n
theorem Dig0 (n : Nat) : Dig n [] n := ⟨rfl, by simp [numV], by simp, Nat.le_refl _⟩
theorem dig_of (r : Nat) : ∃ c : UInt8, c.toNat = 48 + r % 10 :=
  ⟨UInt8.ofNat (48 + r % 10), by rw [UInt8.toNat_ofNat']; omega⟩
theorem Dig.step {n : Nat} {l : List UInt8} {r : Nat} {c : UInt8} (h : Dig n l r) (hn : n ≤ 999999999999999) (hc : c.toNat = 48 + r % 10) (hr : 0 < r ∨ l = []) : Dig n (c :: l) (r / 10) := by
  obtain ⟨h1, h2, h3, h4⟩ := h
  have d1 : digB c = true := by simp [digB, hc]; omega
  refine ⟨by simp [d1, h1], ?_, ?_, Nat.le_trans (Nat.div_le_self _ _) h4⟩
  · rw [numV_cons, hc, List.length_cons, Nat.pow_succ, h2]
    have e : r / 10 * (10 ^ l.length * 10) = 10 * (r / 10) * 10 ^ l.length := by
      rw [Nat.mul_comm (10 ^ l.length) 10, ← Nat.mul_assoc, Nat.mul_comm (r / 10) 10]
    have e3 : r * 10 ^ l.length = 10 * (r / 10) * 10 ^ l.length + (48 + r % 10 - 48) * 10 ^ l.length := by
      rw [← Nat.add_mul]; congr 1; omega
    rw [e, e3]; omega
  · rw [List.length_cons]
    rcases hr with hr | hr
    · have a1 : 10 ^ l.length ≤ r * 10 ^ l.length := Nat.le_mul_of_pos_left _ hr
      have a2 : (10 : Nat) ^ l.length < 10 ^ 15 := by
        have : (10 : Nat) ^ 15 = 1000000000000000 := by decide
        omega
      have := (Nat.pow_lt_pow_iff_right (a := 10) (by omega)).mp a2
      omega
    · subst hr; simp
theorem Dig.size {n : Nat} {l : List UInt8} {r : Nat} (h : Dig n l r) : (strB l).size ≤ 15 := by
  rw [strB_size]; exact h.2.2.1
theorem Dig.done {n : Nat} {l : List UInt8} (h : Dig n l 0) : numV l = n := by
  have := h.2.1; simp at this; exact this.symm

def DigRel (n : Nat) (w : World) (s r : Value) (wr : World) : Prop :=
  ∃ (l : List UInt8) (q : Nat), s = .string (strB l) ∧ r = .int .i64 q ∧ Dig n l q ∧ Below w.heap.size w wr
def strEmpty : Value → Nat
  | .string b => if b.size = 0 then 1 else 0
  | _ => 0

theorem conv1 (z : Int) (c : UInt8) (hz : z = (c.toNat : Int)) (W : World) :
    (convert 54 9 (.slice (some ⟨W.heap.size, 0, none⟩) 1 1)).run Tryd.prog (W.alloc (.cells #[.int .u8 z] 5)) = .ok (.string ⟨#[c]⟩) (W.alloc (.cells #[.int .u8 z] 5)) :=
  run_convert_bytes_back _ _ _ 5 ⟨W.heap.size, 0, none⟩ 1 [c] Tryd.underlying54 Tryd.underlying5 Tryd.underlying9 (fun j hj => by
    have : j = 0 := by simp at hj; omega
    subst this
    subst hz
    simp [Addr.add])
theorem strB_cons (c : UInt8) (l : List UInt8) : (⟨#[c]⟩ : ByteArray) ++ strB l = strB (c :: l) := by
  apply ByteArray.ext; simp [strB]

theorem strEmpty_cons (c : UInt8) (l : List UInt8) : strEmpty (.string (⟨#[c]⟩ ++ strB l)) = 0 := by rw [strB_cons]; show (if (strB (c :: l)).size = 0 then 1 else 0) = 0; rw [strB_size]; simp
theorem strEmpty_nil {l : List UInt8} (h : l = []) : strEmpty (.string (strB l)) = 1 := by subst h; rfl
/-- The text of m, with zeros before it. -/
def Zer (m : Nat) (l : List UInt8) : Prop := l.all digB = true ∧ l ≠ [] ∧ numV l = m
theorem Zer.zero {m : Nat} {l : List UInt8} (h : Zer m l) : Zer m (48 :: l) := by
  obtain ⟨h1, h2, h3⟩ := h
  exact ⟨by simp [h1]; decide, by simp, by rw [numV_cons, h3]; simp⟩
theorem Zer.good {m : Nat} {l : List UInt8} (h : Zer m l) : numGood (strB l) := by
  unfold numGood; rw [strB_list]; exact ⟨h.2.1, h.1⟩
/-- Whether the string has bytes, and those before k are digits. -/
def digTo (s : ByteArray) (k : Nat) : Bool := decide (0 < s.size) && (s.data.toList.take k).all digB
theorem digTo_step {s : ByteArray} {k : Nat} (h : k < s.size) : digTo s (k + 1) = (digTo s k && digB s[k]) := by
  unfold digTo; rw [take_snoc s k h, List.all_append]; simp [Bool.and_assoc]
theorem digTo_end {s : ByteArray} {k : Nat} (h : s.size ≤ k) : digTo s k = true ↔ numGood s := by
  unfold digTo numGood; rw [take_all s k h]; simp
  intro _
  constructor
  · intro h h2; rw [← ByteArray.size_data, h2] at h; simp at h
  · intro h2; rcases Nat.eq_zero_or_pos s.size with h3 | h3
    · exact absurd (Array.eq_empty_of_size_eq_zero h3) h2
    · exact h3

set_option maxHeartbeats 4000000 in
set_option maxRecDepth 100000 in
theorem walk (n : Int) (z : Nat) (s : ByteArray) (w : World) (hz1 : z ≤ 255) (hs : s.size ≤ 9223372036854775807) :
    Calls Tryd.prog 10 #[.int .i64 n, .int .u8 (z : Int), .string s] w fun e w' => e = .returned (.bool true) ∧ Below w.heap.size w w' := by
  go_enter Tryd.func10, Tryd.ntmps10
  go_wp2_with fail
  refine (awake_any _).mono ?_
  rintro e w1 ⟨rfl, hB⟩
  go_wp2_with fail
  refine (clip_any n _).mono ?_
  rintro e w' ⟨m, rfl, hm, rfl⟩
  go_wp2_with fail
  go_loopw [7, 8] (fun s r wr => DigRel m w1 s r wr) (fun s r _ => (intOf r).toNat + strEmpty s)
  case atStart => exact ⟨[], m, rfl, rfl, Dig0 m, Below.refl _ _⟩
  case round =>
    obtain ⟨l, q, rfl, rfl, hD, hBr⟩ := hrel
    have HD := Lib.hid hD
    have hq1 : q ≤ m := hD.2.2.2
    clear hD
    have hsz := HD.out.size
    obtain ⟨c, hc⟩ := dig_of q
    have hcv := fun W => conv1 (48 + (q : Int) % 10) c (by rw [hc]; omega) W
    have HC := Lib.hid hc
    clear hc
    by_cases hq : 0 < q
    · by_cases hl : l = []
      all_goals
        first
        | (have hl1 := empty_yes hl; have HL := Lib.hid hl; clear hl)
        | (have hl1 := empty_no hl)
        go_wp2
        go_roundw
        case rel => exact ⟨c :: l, q / 10, by rw [strB_cons], by go_num, HD.out.step hm HC.out (.inl hq), hBr.alloc hBr.size _⟩
        case measure => rw [strEmpty_cons]; simp [intOf]; omega
    · by_cases hl : l = []
      · have hl1 := empty_yes hl
        have HL := Lib.hid hl
        clear hl
        go_wp2
        go_roundw
        case rel => exact ⟨c :: l, q / 10, by rw [strB_cons], by go_num, HD.out.step hm HC.out (.inr HL.out), hBr.alloc hBr.size _⟩
        case measure => rw [strEmpty_cons, strEmpty_nil HL.out]; simp [intOf]; omega
      · have hl1 := empty_no hl
        obtain rfl : q = 0 := by omega
        have hZ : Zer m l := ⟨HD.out.1, hl, HD.out.done⟩
        have HZ := Lib.hid hZ
        clear hZ hl hcv
        go_wp2
        go_loop [7, 36] (fun s i => ∃ (j : Nat) (t : List UInt8), i = .int .u8 j ∧ j ≤ z % 20 ∧ s = .string (strB t) ∧ Zer m t ∧ t.length ≤ 15 + j) (fun _ i => 20 - (intOf i).toNat)
        case atStart => exact ⟨0, l, rfl, by omega, rfl, HZ.out, by have := HD.out.2.2.1; omega⟩
        case round =>
          obtain ⟨j, t, rfl, hj, rfl, hT, htl⟩ := hrel
          have hts := strB_size t
          have htz : (strB t).size ≤ 34 := by omega
          clear hts
          by_cases hlt : j < z % 20
          · go_wp2
            go_round
            case rel => exact ⟨j + 1, 48 :: t, by go_num, by omega, by rw [← strB_cons], hT.zero, by simp; omega⟩
            case measure => simp [intOf]; omega
          · have hG := hT.good
            have HG := Lib.hid hG
            have HT := Lib.hid hT
            clear hT hG
            by_cases h15 : (strB t).size ≤ 15
            all_goals
              first
              | (have hnum : ∀ W : World, Calls Tryd.prog 33 #[.string (strB t)] W fun e w' => e = .returned (.tuple #[.int .i64 (m : Int), .nilIface]) ∧ W = w' := fun W => by
                  refine (number_small (strB t) W HG.out h15).mono ?_
                  rintro e w' ⟨he, hw⟩
                  exact ⟨by rw [he, strB_list, HT.out.2.2], hw⟩
                 go_wp2_with fail
                 refine (hnum _).mono ?_
                 rintro e w' ⟨rfl, rfl⟩
                 go_wp2_with fail)
              | (have h15' : 15 < (strB t).size := by omega
                 go_wp2_with fail
                 refine (number_large (strB t) _ (by unfold maxLen; omega) HG.out h15').mono ?_
                 rintro e w' ⟨rfl, rfl⟩
                 go_wp2_with fail
                 refine (is_errno 5 (by decide) _).mono ?_
                 rintro e w' ⟨rfl, rfl⟩
                 go_wp2_with fail)
              go_loop [11, 77] (fun d i => ∃ k : Nat, i = .int .i64 k ∧ k ≤ s.size ∧ d = .bool (digTo s k)) (fun _ i => s.size - (intOf i).toNat)
              case atStart => exact ⟨0, rfl, by omega, by simp [digTo]⟩
              case round =>
                obtain ⟨k, rfl, hk, rfl⟩ := hrel
                obtain ⟨b, hb⟩ : ∃ b, digTo s k = b := ⟨_, rfl⟩
                rw [hb]
                have HB := Lib.hid hb
                clear hb
                by_cases hlt2 : k < s.size
                · cases b
                  · go_wp2
                    go_round
                    case rel => exact ⟨k + 1, by go_num, by omega, congrArg Value.bool (by rw [digTo_step hlt2, HB.out]; rfl)⟩
                    case measure => simp [intOf]; omega
                  · by_cases h48 : 48 ≤ s[k].toNat
                    · by_cases h57 : s[k].toNat ≤ 57
                      all_goals
                        have hd : Hid (digB s[k] = decide (s[k].toNat ≤ 57)) := by show _ = _; simp [digB, h48]
                        go_wp2
                        go_round
                        case rel => exact ⟨k + 1, by go_num, by omega, congrArg Value.bool (by rw [digTo_step hlt2, HB.out, hd.out]; first | (simp [h57]; done) | (simp; done) | (simp; omega))⟩
                        case measure => simp [intOf]; omega
                    · go_wp2
                      go_round
                      case rel => exact ⟨k + 1, by go_num, by omega, congrArg Value.bool (by rw [digTo_step hlt2, HB.out]; simp [digB]; omega)⟩
                      case measure => simp [intOf]; omega
                · cases b
                  · have hng : ¬ numGood s := fun h => by
                      have := (digTo_end (k := k) (by omega)).mpr h
                      rw [HB.out] at this; cases this
                    have HNG := Lib.hid hng
                    clear hng
                    go_wp2_with fail
                    refine (number_form s _ (by unfold maxLen; omega) HNG.out).mono ?_
                    rintro e w' ⟨rfl, rfl⟩
                    go_wp2_with fail
                    refine (is_errno 2 (by decide) _).mono ?_
                    rintro e w' ⟨rfl, rfl⟩
                    go_wp2_with fail
                    go_ret
                    exact ⟨rfl, hB.trans (hBr.mono hB.size)⟩
                  · have hng : numGood s := (digTo_end (k := k) (by omega)).mp HB.out
                    have HNG := Lib.hid hng
                    clear hng
                    by_cases hs15 : s.size ≤ 15
                    · go_wp2_with fail
                      refine (number_small s _ HNG.out hs15).mono ?_
                      rintro e w' ⟨rfl, rfl⟩
                      go_wp2_with fail
                      go_ret
                      exact ⟨rfl, hB.trans (hBr.mono hB.size)⟩
                    · go_wp2_with fail
                      refine (number_large s _ (by unfold maxLen; omega) HNG.out (by omega)).mono ?_
                      rintro e w' ⟨rfl, rfl⟩
                      go_wp2_with fail
                      go_ret
                      exact ⟨rfl, hB.trans (hBr.mono hB.size)⟩
end Go.Proofs.YtnpodkjcdhgfcaaDoor.numbers
