/- SyntaxSplits: for every string the statement's function returns true: the walk. -/
import Derived.Test.YtjcekkgoohkomaaDoorRefSplit
import Derived.Test.YtjcekkgoohkomaaDoorQuotes
namespace Go.Proofs.YtjcekkgoohkomaaDoor
open Go.RowKit

set_option maxHeartbeats 2000000 in
set_option maxRecDepth 100000 in
theorem params_any (va vb : Value) (ps : List (List UInt8 × List UInt8)) (w : World) (ha : ReadsP w va ps) (hb : ReadsP w vb ps) (hn : ps.length ≤ 1000000) :
    Calls Tryd.prog 33 #[va, vb] w fun e w' => e = .returned (.bool true) ∧ ∃ n, w' = w.drewN n := by
  obtain ⟨ao, ca, rfl, hca⟩ := ha
  obtain ⟨bo, cb, rfl, hcb⟩ := hb
  have HA := Lib.hid hca
  have HB := Lib.hid hcb
  clear hca hcb
  go_enter Tryd.func33, Tryd.ntmps33
  go_wp2
  go_loopw [13] (fun i wr => ∃ k n : Nat, i = .int .i64 k ∧ k ≤ ps.length ∧ wr = w.drewN n) (fun i _ => ps.length - (intOf i).toNat)
  case atStart => exact ⟨0, 0, rfl, Nat.zero_le _, rfl⟩
  case round =>
    obtain ⟨k, n, rfl, hk, rfl⟩ := hrel
    by_cases hlt : k < ps.length
    · obtain ⟨p, hp⟩ : ∃ p, ps[k]? = some p := ⟨ps[k], by simp [hlt]⟩
      obtain ⟨g, rfl, hg, h1, h2⟩ := HA.out k p hp
      obtain ⟨g', rfl, hg', h3, h4⟩ := HB.out k p hp
      have q1 : ((strB p.1).toList == (strB p.1).toList) = true := beq_self_eq_true _
      have q2 : ((strB p.2).toList == (strB p.2).toList) = true := beq_self_eq_true _
      clear hp
      go_wp2
      go_quiet (fail)
      go_wp2
      go_roundw
      case rel => exact ⟨k + 1, _, by go_num, by omega, rfl⟩
      case measure => simp [intOf]; omega
    · go_wp2
      go_ret
      exact ⟨rfl, _, rfl⟩
end Go.Proofs.YtjcekkgoohkomaaDoor
namespace Go.Proofs.YtjcekkgoohkomaaDoor.splits
open Go.RowKit
set_option maxHeartbeats 1000000 in
set_option maxRecDepth 100000 in
theorem walk (s : ByteArray) (m : Int) (w : World) (hm : w.cell? ⟨0, 0, none⟩ = some (.int .i64 m)) (_hs : s.size ≤ maxLen) :
    Calls Tryd.prog 8 #[.string s] w fun e w' => e = .returned (.bool true) ∧ Below w.heap.size w w' := by
  have hg0 : (0 : Nat) < w.heap.size := World.block_lt_of_cell? w _ hm
  have HM := Lib.hid hm
  clear hm
  by_cases h400 : s.size ≤ 400
  · cases hu : splitO s.data.toList with
    | none =>
      go_enter Tryd.func8, Tryd.ntmps8
      go_wp2_with fail
      refine (awake_any _).mono ?_
      rintro e w1 ⟨rfl, hB⟩
      have hm1 := (hB.cell (p := ⟨0, 0, none⟩) hg0).trans HM.out
      have HM1 := Lib.hid hm1
      clear hm1
      go_wp2_with fail
      refine (split_any s m _ (by omega) HM1.out).mono ?_
      rintro e w2 ⟨hB2, he⟩
      rw [hu] at he
      subst he
      go_wp2_with fail
      refine (refSplit_any s _ (by omega)).mono ?_
      rintro e w3 ⟨hB3, he⟩
      rw [hu] at he
      subst he
      go_wp2_with fail
      refine (num_errno 2 _).mono ?_
      rintro e w' ⟨rfl, rfl⟩
      go_wp2_with fail
      refine (code_false _).mono ?_
      rintro e w' ⟨rfl, rfl⟩
      go_wp2_with fail
      refine (params_any _ _ [] _ ⟨none, 0, rfl, fun j p h => by simp at h⟩ ⟨none, 0, rfl, fun j p h => by simp at h⟩ (by simp)).mono ?_
      rintro e w' ⟨rfl, n, rfl⟩
      go_wp2_with fail
      go_ret
      exact ⟨rfl, below_drewN (hB.trans ((hB2.trans (hB3.mono hB2.size)).mono hB.size)) n⟩
    | some q =>
      obtain ⟨v, ps⟩ := q
      go_enter Tryd.func8, Tryd.ntmps8
      go_wp2_with fail
      refine (awake_any _).mono ?_
      rintro e w1 ⟨rfl, hB⟩
      have hm1 := (hB.cell (p := ⟨0, 0, none⟩) hg0).trans HM.out
      have HM1 := Lib.hid hm1
      clear hm1
      go_wp2_with fail
      refine (split_any s m _ (by omega) HM1.out).mono ?_
      rintro e w2 ⟨hB2, he⟩
      rw [hu] at he
      obtain ⟨u1, rfl, hu1, hle⟩ := he
      go_wp2_with fail
      refine (refSplit_any s _ (by omega)).mono ?_
      rintro e w3 ⟨hB3, he⟩
      rw [hu] at he
      obtain ⟨u2, rfl, hu2, _⟩ := he
      go_wp2_with fail
      refine (num_nil _).mono ?_
      rintro e w' ⟨rfl, rfl⟩
      go_wp2_with fail
      refine (code_true _).mono ?_
      rintro e w' ⟨rfl, rfl⟩
      have q1 : ((strB v).toList == (strB v).toList) = true := beq_self_eq_true _
      go_wp2_with fail
      refine (params_any _ _ ps _ (hu1.reads.below hB3) hu2.reads (by omega)).mono ?_
      rintro e w' ⟨rfl, n, rfl⟩
      go_wp2_with fail
      go_ret
      exact ⟨rfl, below_drewN (hB.trans ((hB2.trans (hB3.mono hB2.size)).mono hB.size)) n⟩
  · go_enter Tryd.func8, Tryd.ntmps8
    go_wp2_with fail
    refine (awake_any _).mono ?_
    rintro e w1 ⟨rfl, hB⟩
    go_wp2_with fail
    refine (awake_any _).mono ?_
    rintro e w2 ⟨rfl, hB2⟩
    go_wp2_with fail
    go_ret
    exact ⟨rfl, hB.trans (hB2.mono hB.size)⟩
end Go.Proofs.YtjcekkgoohkomaaDoor.splits
