/- What the reference's digits and number return. -/
import Derived.Test.YtkpeaghbacoehaaGreatDoorHEnv
import Derived.Laws.IdiomStrings
namespace Go.Proofs.YtkpeaghbacoehaaGreatDoor
open Go.RowKit

theorem convD (z : Int) (c : UInt8) (hz : z = (c.toNat : Int)) (W : World) :
    (convert 111 9 (.slice (some ⟨W.heap.size, 0, none⟩) 1 1)).run Tryz.prog (W.alloc (.cells #[.int .u8 z] 5)) = .ok (.string ⟨#[c]⟩) (W.alloc (.cells #[.int .u8 z] 5)) :=
  run_convert_bytes_back _ _ _ 5 ⟨W.heap.size, 0, none⟩ 1 [c] Tryz.underlying111 Tryz.underlying5 Tryz.underlying9 (fun j hj => by
    have : j = 0 := by simp at hj; omega
    subst this
    subst hz
    simp [Addr.add])
def DgRel (n many : Nat) (w : World) (r o i : Value) (wr : World) : Prop :=
  ∃ k : Nat, k ≤ many ∧ i = .int .i64 (k : Int) ∧ r = .int .i64 ((n / 10 ^ k : Nat) : Int) ∧ o = .string (strB (dgs k n)) ∧ Below w.heap.size w wr
theorem dgs_cons (k n : Nat) : (⟨#[dig (n / 10 ^ k)]⟩ : ByteArray) ++ strB (dgs k n) = strB (dgs (k + 1) n) := by apply ByteArray.ext; simp [strB, dgs]
set_option maxHeartbeats 1000000 in
theorem digits_any (n many : Nat) (w : World) (hm : many ≤ 4) (hn : n ≤ 1000000) :
    Calls Tryz.prog 90 #[.int .i64 (n : Int), .int .i64 (many : Int)] w fun e w' => e = .returned (.string (strB (dgs many n))) ∧ Below w.heap.size w w' := by
  go_enter Tryz.func90, Tryz.ntmps90
  go_wp2
  go_loopw [0, 5, 7] (fun r o i wr => DgRel n many w r o i wr) (fun _ _ i _ => many - (intOf i).toNat)
  case atStart => exact ⟨0, by omega, rfl, by simp, rfl, Below.refl _ _⟩
  case round =>
    obtain ⟨k, hk, rfl, rfl, rfl, hB⟩ := hrel
    have HS := Lib.hid (div_pow_succ n k)
    have HC := Lib.hid (dgs_cons k n)
    have hq : n / 10 ^ k ≤ 1000000 := Nat.le_trans (Nat.div_le_self _ _) hn
    have hcv := fun W => convD (48 + ((n / 10 ^ k : Nat) : Int) % 10) (dig (n / 10 ^ k)) (by rw [dig_nat]; omega) W
    have hz : (strB (dgs k n)).size ≤ 4 := by rw [strB_size, dgs_len]; omega
    obtain ⟨q, hqq⟩ : ∃ q, n / 10 ^ k = q := ⟨_, rfl⟩
    rw [hqq] at HS HC hq hcv ⊢
    clear hqq
    by_cases hlt : k < many
    · go_wp2
      go_roundw
      case rel => exact ⟨k + 1, by omega, by go_num, by rw [← HS.out]; go_num, by rw [← HC.out], hB.alloc hB.size _⟩
      case measure => simp [intOf]; omega
    · obtain rfl : k = many := by omega
      have HB := Lib.hid hB
      clear hB
      go_wp2
      go_ret
      exact ⟨rfl, HB.out⟩
theorem get_all {s : ByteArray} {k : Nat} (h : k < s.size) (hb : dgtB s[k] = false) : s.data.toList.all dgtB = false := all_bad (l := s.data.toList) (k := k) (by simpa using h) hb
set_option maxHeartbeats 1000000 in
theorem refNumber_any (s : ByteArray) (w : World) (hs : s.size ≤ 4) :
    Calls Tryz.prog 65 #[.string s] w fun e w' => e = .returned (.int .i64 (rn s.data.toList)) ∧ w = w' := by
  go_enter Tryz.func65, Tryz.ntmps65
  go_wp2
  go_loop [3, 7] (fun v i => ∃ k : Nat, k ≤ s.size ∧ i = .int .i64 (k : Int) ∧ v = .int .i64 (rnv (s.data.toList.take k) : Int) ∧ (s.data.toList.take k).all dgtB = true) (fun _ i => s.size - (intOf i).toNat)
  case atStart => exact ⟨0, by omega, rfl, by simp [rnv], by simp⟩
  case round =>
    obtain ⟨k, hk, rfl, rfl, ha⟩ := hrel
    have hb : rnv (s.data.toList.take k) < 10 ^ k := by
      have := rnv_lt _ ha
      rwa [List.length_take_of_le (by simpa using hk)] at this
    have hb2 : rnv (s.data.toList.take k) < 10000 := Nat.lt_of_lt_of_le hb (Nat.pow_le_pow_right (n := 10) (by omega) (show k ≤ 4 by omega))
    have HA := Lib.hid ha
    clear ha hb
    by_cases hlt : k < s.size
    · have HT := Lib.hid (take_snoc s k hlt)
      by_cases h48 : s[k].toNat < 48
      · have HN := Lib.hid (rn_no (get_all hlt (show dgtB s[k] = false from decide_eq_false (by omega))))
        go_wp2
        go_ret
        exact ⟨ret_int HN.out.symm, rfl⟩
      · by_cases h57 : 57 < s[k].toNat
        · have HN := Lib.hid (rn_no (get_all hlt (show dgtB s[k] = false from decide_eq_false (by omega))))
          go_wp2
          go_ret
          exact ⟨ret_int HN.out.symm, rfl⟩
        · have HD := Lib.hid (show dgtB s[k] = true from decide_eq_true (by omega))
          have HV := Lib.hid (rnv_snoc (s.data.toList.take k) s[k])
          go_wp2
          go_round
          case rel => exact ⟨k + 1, by omega, by go_num, by rw [HT.out, HV.out]; go_num, by rw [HT.out, List.all_append, HA.out]; simp [HD.out]⟩
          case measure => simp [intOf]; omega
    · have HE := Lib.hid (take_all s k (by omega))
      go_wp2
      go_ret
      exact ⟨ret_int (by rw [HE.out, rn_yes (by rw [← HE.out]; exact HA.out)]), rfl⟩
end Go.Proofs.YtkpeaghbacoehaaGreatDoor
