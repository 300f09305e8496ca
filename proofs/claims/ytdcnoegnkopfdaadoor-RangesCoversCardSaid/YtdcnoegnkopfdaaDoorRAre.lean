/- What the statements' are returns: whether ranges are the same. -/
import Derived.Test.YtdcnoegnkopfdaaDoorRMem
import Derived.Deep.QuietTactic
import Derived.BigQuiet
namespace Go.Proofs.YtdcnoegnkopfdaaDoor
open Go.RowKit

theorem are_step {la lb : List Rg} {k : Nat} {p q : Rg} (h : la.take k = lb.take k) (ha : la[k]? = some p) (hb : lb[k]? = some q) (e : p = q) : la.take (k + 1) = lb.take (k + 1) := by
  rw [List.take_add_one, List.take_add_one, h, ha, hb, e]
theorem are_no {la lb : List Rg} {k : Nat} {p q : Rg} (ha : la[k]? = some p) (hb : lb[k]? = some q) (h : p ≠ q) : false = decide (la = lb) := by
  rw [eq_comm, decide_eq_false_iff_not]; intro e; rw [e, hb] at ha; simp at ha; exact h ha.symm
theorem are_end {la lb : List Rg} {k : Nat} (h : la.take k = lb.take k) (ha : la.length ≤ k) (hb : lb.length ≤ k) : true = decide (la = lb) := by
  rw [List.take_of_length_le ha, List.take_of_length_le hb] at h; simp [h]
set_option maxHeartbeats 4000000 in
set_option maxRecDepth 100000 in
theorem are_any (va vb : Value) (la lb : List Rg) (w : World) (ha : ReadsI w va la) (hb : ReadsI w vb lb) (hla : la.length ≤ 100000000) (hlb : lb.length ≤ 4611686018427387904) :
    Calls Tryd.prog 14 #[va, vb] w fun e w' => e = .returned (.bool (decide (la = lb))) ∧ ∃ n, w' = w.drewN n := by
  obtain ⟨ao, ca, rfl, hca⟩ := ha
  obtain ⟨bo, cb, rfl, hcb⟩ := hb
  by_cases hne : la.length = lb.length
  · have hne1 : la.length ≤ lb.length := by omega
    have hne2 : lb.length ≤ la.length := by omega
    have h0 : ((la.length : Int) != (lb.length : Int)) = false := by simp; omega
    have HA := Lib.hid hca
    have HB := Lib.hid hcb
    clear hne hca hcb
    go_enter Tryd.func14, Tryd.ntmps14
    go_wp2
    go_loopw [13] (fun i wr => ∃ k n : Nat, i = .int .i64 k ∧ k ≤ la.length ∧ la.take k = lb.take k ∧ wr = w.drewN n) (fun i _ => la.length - (intOf i).toNat)
    case atStart => exact ⟨0, 0, rfl, Nat.zero_le _, rfl, rfl⟩
    case round =>
      obtain ⟨k, n, rfl, hk, hs, rfl⟩ := hrel
      have HS := Lib.hid hs
      clear hs
      by_cases hlt : k < la.length
      · obtain ⟨p, hp⟩ : ∃ p, la[k]? = some p := ⟨la[k], by simp [hlt]⟩
        obtain ⟨q, hq⟩ : ∃ q, lb[k]? = some q := ⟨lb[k]'(by omega), by simp⟩
        obtain ⟨g, off, rfl, hg, hc1, hc2⟩ := HA.out k p hp
        obtain ⟨g', off', rfl, hg', hd1, hd2⟩ := HB.out k q hq
        have HP := Lib.hid hp
        have HQ := Lib.hid hq
        clear hp hq
        obtain ⟨p1, p2⟩ := p
        obtain ⟨q1, q2⟩ := q
        by_cases e1 : p1 = q1
        · subst e1
          have b1 : (p1 != p1) = false := by simp
          by_cases e2 : p2 = q2
          · subst e2
            have b2 : (p2 != p2) = false := by simp
            go_wp2
            go_quiet (fail)
            go_wp2
            go_roundw
            case rel => exact ⟨k + 1, _, by go_num, by omega, are_step HS.out HP.out HQ.out rfl, rfl⟩
            case measure => simp [intOf]; omega
          · have b2 : (p2 != q2) = true := by simpa using e2
            have HE := Lib.hid e2
            clear e2
            go_wp2
            go_quiet (fail)
            go_wp2
            go_ret
            exact ⟨ret_bool (are_no HP.out HQ.out (fun e => HE.out (congrArg Prod.snd e))), n + nq, by first | exact World.drewN_drewN .. | rfl⟩
        · have b1 : (p1 != q1) = true := by simpa using e1
          have HE := Lib.hid e1
          clear e1
          go_wp2
          go_quiet (fail)
          go_wp2
          go_ret
          exact ⟨ret_bool (are_no HP.out HQ.out (fun e => HE.out (congrArg Prod.fst e))), n + nq, by first | exact World.drewN_drewN .. | rfl⟩
      · go_wp2
        go_ret
        exact ⟨ret_bool (are_end HS.out (by omega) (by omega)), _, rfl⟩
  · have h0 : ((la.length : Int) != (lb.length : Int)) = true := by simp; omega
    go_enter Tryd.func14, Tryd.ntmps14
    go_wp2
    go_ret
    exact ⟨ret_bool (by simp; intro h; exact hne (by rw [h])), 0, rfl⟩
end Go.Proofs.YtdcnoegnkopfdaaDoor
