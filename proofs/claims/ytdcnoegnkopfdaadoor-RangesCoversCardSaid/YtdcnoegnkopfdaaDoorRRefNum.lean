/- What the reference's digits, value and cut return. -/
import Derived.Test.YtdcnoegnkopfdaaDoorRNum
import Derived.Test.YtdcnoegnkopfdaaDoorRCut
namespace Go.Proofs.YtdcnoegnkopfdaaDoor
open Go.RowKit

def isNum (l : List UInt8) : Bool := decide (l ≠ [] ∧ l.all digB = true ∧ l.length ≤ 15)
theorem isNum_some {l : List UInt8} {n : Nat} (h : num9 l = some n) : isNum l = true ∧ n = numV l ∧ l.all digB = true ∧ l.length ≤ 15 := by
  unfold num9 at h
  split at h
  · rename_i hc; exact ⟨decide_eq_true hc, by simpa using h.symm, hc.2.1, hc.2.2⟩
  · cases h
theorem isNum_none {l : List UInt8} (h : num9 l = none) : isNum l = false := by
  unfold num9 at h
  split at h
  · cases h
  · rename_i hc; exact decide_eq_false hc
theorem isNum_yes {s : ByteArray} {k : Nat} (hk : s.size ≤ k) (h : allDig s k) (h1 : 1 ≤ s.size) (h2 : s.size ≤ 15) : isNum s.data.toList = true := by
  unfold allDig at h; rw [take_all s k hk] at h
  have hl : s.data.toList.length = s.size := by simp
  refine decide_eq_true ⟨fun e => ?_, h, by omega⟩
  rw [e] at hl; simp at hl; omega
theorem isNum_short {s : ByteArray} (h1 : s.size < 1 ∨ 15 < s.size) : isNum s.data.toList = false := by
  have hl : s.data.toList.length = s.size := by simp
  refine decide_eq_false ?_
  rintro ⟨h2, _, h3⟩
  have := List.length_pos_iff.mpr h2
  omega
theorem isNum_bad {s : ByteArray} {k : Nat} (h : k < s.size) (hb : digB s[k] = false) : isNum s.data.toList = false := by
  refine decide_eq_false ?_
  rintro ⟨_, h3, _⟩
  rw [List.all_eq_true] at h3
  rw [h3 _ (get_mem s k h)] at hb; cases hb
set_option maxHeartbeats 2000000 in
set_option maxRecDepth 100000 in
theorem refDigits_any (s : ByteArray) (w : World) (hs : s.size ≤ 1000000) :
    Calls Tryd.prog 50 #[.string s] w fun e w' => e = .returned (.bool (isNum s.data.toList)) ∧ w = w' := by
  go_enter Tryd.func50, Tryd.ntmps50
  go_wp2
  go_loop [6] (fun i => ∃ k : Nat, k ≤ s.size ∧ i = .int .i64 k ∧ allDig s k) (fun i => s.size - (intOf i).toNat)
  case atStart => exact ⟨0, by omega, rfl, allDig0 s⟩
  case round =>
    obtain ⟨k, hk, rfl, hn⟩ := hrel
    by_cases hlt : k < s.size
    · by_cases h48 : s[k].toNat < 48
      · go_wp2
        go_ret
        exact ⟨ret_bool (isNum_bad hlt (by unfold digB; simp; omega)).symm, rfl⟩
      · have h48' : 48 ≤ s[k].toNat := by omega
        by_cases h57 : 57 < s[k].toNat
        · go_wp2
          go_ret
          exact ⟨ret_bool (isNum_bad hlt (by unfold digB; simp; omega)).symm, rfl⟩
        · have h57' : s[k].toNat ≤ 57 := by omega
          have HN := Lib.hid (allDig_step hlt hn (by unfold digB; simp; omega))
          go_wp2
          go_round
          case rel => exact ⟨k + 1, by omega, by go_num, HN.out⟩
          case measure => simp [intOf]; omega
    · have hke : s.size ≤ k := by omega
      by_cases h1 : 1 ≤ s.size
      · by_cases h15 : s.size ≤ 15
        · have HN := Lib.hid (isNum_yes hke hn h1 h15)
          go_wp2
          go_ret
          exact ⟨ret_bool (by rw [HN.out]; simp; omega), rfl⟩
        · have HN := Lib.hid (isNum_short (s := s) (.inr (by omega)))
          have h15' : 15 < s.size := by omega
          go_wp2
          go_ret
          exact ⟨ret_bool (by rw [HN.out]; simp; omega), rfl⟩
      · have HN := Lib.hid (isNum_short (s := s) (.inl (by omega)))
        have h1' : s.size < 1 := by omega
        go_wp2
        go_ret
        exact ⟨ret_bool (by rw [HN.out]), rfl⟩
set_option maxHeartbeats 2000000 in
set_option maxRecDepth 100000 in
theorem refValue_any (s : ByteArray) (w : World) (hg : s.data.toList.all digB = true) (h15 : s.size ≤ 15) :
    Calls Tryd.prog 51 #[.string s] w fun e w' => e = .returned (.int .i64 (numV s.data.toList)) ∧ w = w' := by
  have HG := Lib.hid hg
  clear hg
  go_enter Tryd.func51, Tryd.ntmps51
  go_wp2
  go_loop [3, 7] (fun n i => ∃ k : Nat, k ≤ s.size ∧ i = .int .i64 k ∧ n = .int .i64 (numV (s.data.toList.take k))) (fun _ i => s.size - (intOf i).toNat)
  case atStart => exact ⟨0, by omega, rfl, rfl⟩
  case round =>
    obtain ⟨j, hj, rfl, rfl⟩ := hrel
    by_cases hlj : j < s.size
    · have hd := digB_of hlj HG.out
      have hd1 := hd.1
      have hd2 := hd.2
      have hv : numV (s.data.toList.take j) < 1000000000000000 := numV_le _ (by
        rw [List.all_eq_true]; intro c hc
        have := HG.out; rw [List.all_eq_true] at this
        exact this c (List.mem_of_mem_take hc)) (by simp; omega)
      have hv2 : Hid (numV (s.data.toList.take (j + 1)) = 10 * numV (s.data.toList.take j) + (s[j].toNat - 48)) := by
        rw [take_snoc s j hlj]; exact numV_snoc _ _
      clear hd
      go_wp2
      go_round
      case rel => exact ⟨j + 1, by omega, by go_num, int_eq (by rw [hv2.out]; omega)⟩
      case measure => simp [intOf]; omega
    · have HT := Lib.hid (take_all s j (by omega))
      go_wp2
      go_ret
      exact ⟨by rw [HT.out]; rfl, rfl⟩
theorem ext9 (s : ByteArray) (a b : Nat) (l : List UInt8) (h : (s.data.toList.drop a).take (b - a) = l) : s.extract a b = strB l := strB_ext (by rw [seg_list]; exact h)
theorem sl9_pre (s : ByteArray) (k : Nat) (h : k ≤ s.size) (w : World) : (Instr.slice 9 (.string s) none (some (.int .i64 (k : Int))) none).run Tryd.prog w = .ok (.string (strB (s.data.toList.take k))) w := by
  rw [run_slice_string_h w 9 s Tryd.underlying9 .i64 (k : Int) (by omega) (by omega)]
  rw [Int.toNat_natCast, ext9 s 0 k _ (by rw [List.drop_zero, Nat.sub_zero])]
theorem sl9_post (s : ByteArray) (k : Nat) (h : k < s.size) (w : World) : (Instr.slice 9 (.string s) (some (.int .i64 ((k : Int) + 1))) none none).run Tryd.prog w = .ok (.string (strB (s.data.toList.drop (k + 1)))) w := by
  rw [run_slice_string_l w 9 s Tryd.underlying9 .i64 ((k : Int) + 1) (by omega) (by omega)]
  rw [show ((k : Int) + 1).toNat = k + 1 by omega, ext9 s (k + 1) s.size _ (List.take_of_length_le (by rw [List.length_drop, Array.length_toList]; exact Nat.le_refl _))]
theorem cut_seg1 (s : ByteArray) (k : Nat) : s.extract 0 k = strB (s.data.toList.take k) := strB_ext (by rw [seg_list, List.drop_zero, Nat.sub_zero])
theorem cut_seg2 (s : ByteArray) (k : Nat) : s.extract k s.size = strB (s.data.toList.drop k) := strB_ext (by rw [seg_list, List.take_of_length_le (by simp)])
set_option maxHeartbeats 2000000 in
set_option maxRecDepth 100000 in
theorem refCut_any (s : ByteArray) (c : UInt8) (w : World) (hs : s.size ≤ 1000000) {a b : List UInt8} {f : Bool} (h : cut9 c s.data.toList = (a, b, f)) :
    Calls Tryd.prog 49 #[.string s, .int .u8 (c.toNat : Int)] w fun e w' => e = .returned (.tuple #[.string (strB a), .string (strB b), .bool f]) ∧ ∃ n, w' = w.drewN n := by
  have HH := Lib.hid h
  clear h
  go_enter Tryd.func49, Tryd.ntmps49
  go_wp2
  go_loop [10] (fun i => ∃ k : Nat, k ≤ s.size ∧ i = .int .i64 k ∧ c ∉ s.data.toList.take k) (fun i => s.size - (intOf i).toNat)
  case atStart => exact ⟨0, by omega, rfl, by simp⟩
  case round =>
    obtain ⟨k, hk, rfl, hn⟩ := hrel
    have HN := Lib.hid hn
    clear hn
    by_cases hlt : k < s.size
    · have hlen : k < s.data.toList.length := by simpa using hlt
      have hget : s.data.toList[k] = s[k] := rfl
      by_cases he : s[k].toNat = c.toNat
      · have hec : s[k] = c := UInt8.toNat_inj.mp he
        have HR := Lib.hid (HH.out.symm.trans (cut9_at c s.data.toList k hlen HN.out (hget.trans hec)))
        have b1 : ((s[k].toNat : Int) == (c.toNat : Int)) = true := by simp; omega
        have hk0 : (0 : Int) ≤ (k : Int) := by omega
        have hk1 : (k : Int) ≤ (s.size : Int) := by omega
        have hk2 : (k : Int) + 1 ≤ (s.size : Int) := by omega
        have s1 := sl9_pre s k (by omega)
        have s2 := sl9_post s k hlt
        have hw : IntKind.i64.wrap ((k : Int) + 1) = (k : Int) + 1 := IntWalk.i64_in _ (by omega)
        clear he hec hget
        go_wp2
        go_quiet (fail)
        go_wp2
        go_ret3
        have := HR.out
        simp only [Prod.mk.injEq] at this
        obtain ⟨rfl, rfl, rfl⟩ := this
        exact ⟨rfl, _, rfl⟩
      · have b1 : ((s[k].toNat : Int) == (c.toNat : Int)) = false := by simp; omega
        have HN2 := Lib.hid (show c ∉ s.data.toList.take (k + 1) by
          rw [take_snoc s k hlt, List.mem_append]
          rintro (h | h)
          · exact HN.out h
          · simp at h; exact he (by rw [h]))
        clear he
        go_wp2
        go_round
        case rel => exact ⟨k + 1, by omega, by go_num, HN2.out⟩
        case measure => simp [intOf]; omega
    · have HR := Lib.hid (HH.out.symm.trans (cut9_none c s.data.toList (by have := HN.out; rwa [take_all s k (by omega)] at this)))
      go_wp2
      go_ret3
      refine ⟨?_, 0, rfl⟩
      have := HR.out
      simp only [Prod.mk.injEq] at this
      obtain ⟨rfl, rfl, rfl⟩ := this
      rw [strB_of]; rfl
end Go.Proofs.YtdcnoegnkopfdaaDoor
