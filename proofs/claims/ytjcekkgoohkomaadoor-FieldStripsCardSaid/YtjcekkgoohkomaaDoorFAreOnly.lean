/- What Are returns: whether two lists of fields are the same. -/
import Derived.Test.YtjcekkgoohkomaaDoorFAll
import Derived.Test.YtjcekkgoohkomaaDoorFOwn
import Derived.Deep.QuietTactic
import Derived.BigQuiet
namespace Go.Proofs.YtjcekkgoohkomaaDoor
open Go.RowKit

theorem same_step {la lb : Flds} {k : Nat} {l : List UInt8 × List UInt8} (h : la.take k = lb.take k) (ha : la[k]? = some l) (hb : lb[k]? = some l) : la.take (k + 1) = lb.take (k + 1) := by
  rw [List.take_add_one, List.take_add_one, h, ha, hb]
theorem same_no {la lb : Flds} {k : Nat} {l m : List UInt8 × List UInt8} (ha : la[k]? = some l) (hb : lb[k]? = some m) (h : l ≠ m) : false = decide (la = lb) := by
  rw [eq_comm, decide_eq_false_iff_not]; intro e; rw [e, hb] at ha; simp at ha; exact h ha.symm
theorem same_end {la lb : Flds} {k : Nat} (h : la.take k = lb.take k) (ha : la.length ≤ k) (hb : lb.length ≤ k) : true = decide (la = lb) := by
  rw [List.take_of_length_le ha, List.take_of_length_le hb] at h; simp [h]

set_option maxHeartbeats 4000000 in
set_option maxRecDepth 100000 in
theorem are_any (va vb : Value) (la lb : Flds) (w : World) (ha : ReadsQ w va la) (hb : ReadsQ w vb lb) (hla : la.length ≤ 1000000) (_hlb : lb.length ≤ 1000000) :
    Calls Tryd.prog 43 #[va, vb] w fun e w' => e = .returned (.bool (decide (la = lb))) ∧ ∃ n, w' = w.drewN n := by
  obtain ⟨ao, ca, rfl, hca⟩ := ha
  obtain ⟨bo, cb, rfl, hcb⟩ := hb
  by_cases hne : la.length = lb.length
  · have hne1 : la.length ≤ lb.length := by omega
    have hne2 : lb.length ≤ la.length := by omega
    have Hne := Lib.hid hne
    have HA := Lib.hid hca
    have HB := Lib.hid hcb
    clear hne hca hcb
    go_enter Tryd.func43, Tryd.ntmps43
    go_wp2
    go_loopw [13] (fun i wr => ∃ k n : Nat, i = .int .i64 k ∧ k ≤ la.length ∧ la.take k = lb.take k ∧ wr = w.drewN n) (fun i _ => la.length - (intOf i).toNat)
    case atStart => exact ⟨0, 0, rfl, Nat.zero_le _, rfl, rfl⟩
    case round =>
      obtain ⟨k, n, rfl, hk, hs, rfl⟩ := hrel
      have HS := Lib.hid hs
      clear hs
      by_cases hlt : k < la.length
      · obtain ⟨l, hl⟩ : ∃ l, la[k]? = some l := ⟨la[k], by simp [hlt]⟩
        obtain ⟨m, hm⟩ : ∃ m, lb[k]? = some m := ⟨lb[k]'(by omega), by simp⟩
        obtain ⟨g, off, rfl, hg, hc1, hc2⟩ := HA.out k l hl
        obtain ⟨g', off', rfl, hg', hd1, hd2⟩ := HB.out k m hm
        have HL := Lib.hid hl
        have HM := Lib.hid hm
        clear hl hm
        by_cases h1 : l.1 = m.1
        · have heq := toList_same h1
          by_cases h2 : l.2 = m.2
          · have heq2 := toList_same h2
            have hlm : l = m := Prod.ext h1 h2
            have HLM := Lib.hid hlm
            clear hlm h1 h2
            go_wp2
            go_quiet (fail)
            go_wp2
            go_roundw
            case rel => exact ⟨k + 1, _, by go_num, by omega, same_step HS.out HL.out (by rw [HLM.out]; exact HM.out), rfl⟩
            case measure => simp [intOf]; omega
          · have heq2 := toList_other h2
            have hlm : l ≠ m := fun e => h2 (by rw [e])
            have HLM := Lib.hid hlm
            clear hlm h1 h2
            go_wp2
            go_quiet (fail)
            go_wp2
            go_ret
            exact ⟨ret_bool (same_no HL.out HM.out HLM.out), n + nq, by first | exact World.drewN_drewN .. | rfl⟩
        · have heq := toList_other h1
          have hlm : l ≠ m := fun e => h1 (by rw [e])
          have HLM := Lib.hid hlm
          clear hlm h1
          go_wp2
          go_quiet (fail)
          go_wp2
          go_ret
          exact ⟨ret_bool (same_no HL.out HM.out HLM.out), n + nq, by first | exact World.drewN_drewN .. | rfl⟩
      · go_wp2
        go_ret
        exact ⟨ret_bool (same_end HS.out (by omega) (by omega)), _, rfl⟩
  · go_enter Tryd.func43, Tryd.ntmps43
    have h0 : ((la.length : Int) != (lb.length : Int)) = true := by simp; omega
    go_wp2
    go_ret
    exact ⟨ret_bool (by simp; intro h; exact hne (by rw [h])), 0, rfl⟩
theorem are_same (va vb : Value) (l : Flds) (w : World) (ha : ReadsQ w va l) (hb : ReadsQ w vb l) (hl : l.length ≤ 1000000) :
    Calls Tryd.prog 43 #[va, vb] w fun e w' => e = .returned (.bool true) ∧ Below w.heap.size w w' :=
  (are_any va vb l l w ha hb hl hl).mono fun e w' ⟨he, n, hw⟩ => ⟨by rw [he, decide_eq_true rfl], by rw [hw]; exact below_drewN (Below.refl _ _) n⟩

end Go.Proofs.YtjcekkgoohkomaaDoor
