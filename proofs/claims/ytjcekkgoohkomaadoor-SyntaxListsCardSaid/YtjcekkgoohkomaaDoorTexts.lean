/- What Texts says of two slices of strings: whether they hold the same strings. -/
import Derived.Test.YtjcekkgoohkomaaDoorBase
import Derived.Deep.QuietTactic
import Derived.BigQuiet
namespace Go.Proofs.YtjcekkgoohkomaaDoor
open Go.RowKit

def sameTo (la lb : List (List UInt8)) (k : Nat) : Prop := la.take k = lb.take k
theorem sameTo_step {la lb : List (List UInt8)} {k : Nat} {l : List UInt8} (h : sameTo la lb k) (ha : la[k]? = some l) (hb : lb[k]? = some l) : sameTo la lb (k + 1) := by
  unfold sameTo at *; rw [List.take_add_one, List.take_add_one, h, ha, hb]
theorem sameTo_no {la lb : List (List UInt8)} {k : Nat} {l m : List UInt8} (ha : la[k]? = some l) (hb : lb[k]? = some m) (h : l ≠ m) : false = decide (la = lb) := by
  rw [eq_comm, decide_eq_false_iff_not]; intro e; rw [e, hb] at ha; simp at ha; exact h ha.symm
theorem sameTo_end {la lb : List (List UInt8)} {k : Nat} (h : sameTo la lb k) (ha : la.length ≤ k) (hb : lb.length ≤ k) : true = decide (la = lb) := by
  unfold sameTo at h; rw [List.take_of_length_le ha, List.take_of_length_le hb] at h; simp [h]
set_option maxHeartbeats 2000000 in
set_option maxRecDepth 100000 in
theorem texts_big (va vb : Value) (la lb : List (List UInt8)) (w : World) (ha : ReadsS w va la) (hb : ReadsS w vb lb) (hla : la.length ≤ 100000000) (_hlb : lb.length ≤ 100000000) :
    Calls Tryd.prog 30 #[va, vb] w fun e w' => e = .returned (.bool (decide (la = lb))) ∧ ∃ n, w' = w.drewN n := by
  obtain ⟨ao, ca, rfl, hca⟩ := ha
  obtain ⟨bo, cb, rfl, hcb⟩ := hb
  by_cases hne : la.length = lb.length
  · have hne1 : la.length ≤ lb.length := by omega
    have hne2 : lb.length ≤ la.length := by omega
    have Hne := Lib.hid hne
    have HA := Lib.hid hca
    have HB := Lib.hid hcb
    clear hne hca hcb
    go_enter Tryd.func30, Tryd.ntmps30
    go_wp2
    go_loopw [13] (fun i wr => ∃ k n : Nat, i = .int .i64 k ∧ k ≤ la.length ∧ sameTo la lb k ∧ wr = w.drewN n) (fun i _ => la.length - (intOf i).toNat)
    case atStart => exact ⟨0, 0, rfl, Nat.zero_le _, rfl, rfl⟩
    case round =>
      obtain ⟨k, n, rfl, hk, hs, rfl⟩ := hrel
      have HS := Lib.hid hs
      clear hs
      by_cases hlt : k < la.length
      · obtain ⟨l, hl⟩ : ∃ l, la[k]? = some l := ⟨la[k], by simp [hlt]⟩
        obtain ⟨m, hm⟩ : ∃ m, lb[k]? = some m := ⟨lb[k]'(by omega), by simp⟩
        obtain ⟨g, off, rfl, hg, hc1⟩ := HA.out k l hl
        obtain ⟨g', off', rfl, hg', hc2⟩ := HB.out k m hm
        have HL := Lib.hid hl
        have HM := Lib.hid hm
        clear hl hm
        by_cases hlm : l = m
        · have heq : ((strB l).toList == (strB m).toList) = true := by rw [hlm]; exact beq_self_eq_true _
          have HLM := Lib.hid hlm
          clear hlm
          go_wp2
          go_quiet (fail)
          go_wp2
          go_roundw
          case rel => exact ⟨k + 1, _, by go_num, by omega, sameTo_step HS.out HL.out (by rw [HLM.out]; exact HM.out), rfl⟩
          case measure => simp [intOf]; omega
        · have heq : ((strB l).toList == (strB m).toList) = false := by
            rw [ByteArray.toList_eq, ByteArray.toList_eq]
            simpa [strB] using hlm
          go_wp2
          go_quiet (fail)
          go_wp2
          go_ret
          exact ⟨ret_bool (sameTo_no HL.out HM.out hlm), n + nq, by first | exact World.drewN_drewN .. | rfl⟩
      · go_wp2
        go_ret
        exact ⟨ret_bool (sameTo_end HS.out (by omega) (by omega)), _, rfl⟩
  · go_enter Tryd.func30, Tryd.ntmps30
    have h0 : ((la.length : Int) != (lb.length : Int)) = true := by simp; omega
    go_wp2
    go_ret
    exact ⟨ret_bool (by simp; intro h; exact hne (by rw [h])), 0, rfl⟩
theorem texts_any (va vb : Value) (la lb : List (List UInt8)) (w : World) (ha : ReadsS w va la) (hb : ReadsS w vb lb) (hla : la.length ≤ 1000000) (hlb : lb.length ≤ 1000000) :
    Calls Tryd.prog 30 #[va, vb] w fun e w' => e = .returned (.bool (decide (la = lb))) ∧ ∃ n, w' = w.drewN n :=
  texts_big va vb la lb w ha hb (by omega) (by omega)
end Go.Proofs.YtjcekkgoohkomaaDoor
