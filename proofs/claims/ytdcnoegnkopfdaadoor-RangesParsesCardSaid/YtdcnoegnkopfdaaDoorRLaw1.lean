/- RangesParses: for every text and length the statement's function returns true: the walk. -/
import Derived.Test.YtdcnoegnkopfdaaDoorRAwake
import Derived.Test.YtdcnoegnkopfdaaDoorRRefParse
import Derived.Test.YtdcnoegnkopfdaaDoorNum
namespace Go.Proofs.YtdcnoegnkopfdaaDoor
open Go.RowKit

set_option maxHeartbeats 4000000 in
set_option maxRecDepth 100000 in
theorem parses_walk (s : ByteArray) (n : Int) (w : World) (hM : MaxIs w) (hs : s.size ≤ maxLen) (hn1 : -9223372036854775808 ≤ n) (hn2 : n ≤ 9223372036854775807) :
    Calls Tryd.prog 3 #[.string s, .int .i64 n] w fun e w' => e = .returned (.bool true) ∧ Below w.heap.size w w' := by
  have HM := Lib.hid hM
  clear hM
  go_enter Tryd.func3, Tryd.ntmps3
  go_wp2_with fail
  refine (awake9_any _ HM.out).mono ?_
  rintro e w1 ⟨rfl, hB⟩
  have HM1 := Lib.hid (HM.out.below hB)
  have HB := Lib.hid hB
  have hsz := hB.size
  clear hB
  by_cases h5 : s.size ≤ 500
  · have h5' : ¬ 500 < s.size := by omega
    go_wp2_with fail
    refine (parse_any s n _ HM1.out (by omega) hn1 hn2).mono ?_
    rintro e w2 ⟨hB2, he⟩
    have hsz2 := hB2.size
    cases hp : parseR s.data.toList n with
    | err c =>
      rw [hp] at he
      subst he
      go_wp2_with fail
      refine (refParse_any s n _ (by omega) hn1 hn2).mono ?_
      rintro e w3 ⟨hB3, he⟩
      rw [hp] at he
      subst he
      go_wp2_with fail
      refine (num_errno (c : Int) _).mono ?_
      rintro e w' ⟨rfl, rfl⟩
      go_wp2_with fail
      refine (are_any _ _ [] [] _ ⟨none, 0, rfl, fun j p h => by simp at h⟩ ⟨none, 0, rfl, fun j p h => by simp at h⟩ (by decide) (by decide)).mono ?_
      rintro e w' ⟨he, k, rfl⟩
      rw [decide_eq_true rfl] at he
      subst he
      go_wp2_with fail
      go_ret
      exact ⟨rfl, below_drewN (HB.out.trans ((hB2.trans (hB3.mono hsz2)).mono hsz)) k⟩
    | ok rs =>
      rw [hp] at he
      obtain ⟨v, rfl, hv, _, hl8⟩ := he
      go_wp2_with fail
      refine (refParse_any s n _ (by omega) hn1 hn2).mono ?_
      rintro e w3 ⟨hB3, he⟩
      rw [hp] at he
      obtain ⟨u, rfl, hu, _, _⟩ := he
      go_wp2_with fail
      refine (num_nil _).mono ?_
      rintro e w' ⟨rfl, rfl⟩
      go_wp2_with fail
      refine (are_any _ _ rs rs _ (hv.reads.below hB3) hu.reads (by omega) (by omega)).mono ?_
      rintro e w' ⟨he, k, rfl⟩
      rw [decide_eq_true rfl] at he
      subst he
      go_wp2_with fail
      go_ret
      exact ⟨rfl, below_drewN (HB.out.trans ((hB2.trans (hB3.mono hsz2)).mono hsz)) k⟩
  · have h5' : 500 < s.size := by omega
    go_wp2_with fail
    refine (awake9_any _ HM1.out).mono ?_
    rintro e w2 ⟨rfl, hB2⟩
    go_wp2_with fail
    go_ret
    exact ⟨rfl, HB.out.trans (hB2.mono hsz)⟩
end Go.Proofs.YtdcnoegnkopfdaaDoor
