/- slices.SortStableFunc and slices.Equal, for the code's lists of fields. -/
import Derived.Test.YthpjemihbobjfaaStable
import Derived.Test.YthpjemihbobjfaaSameSpec
import Derived.Test.YthpjemihbobjfaaFAre
namespace Go.Proofs.Ythpjemihbobjfaa
open Go.RowKit

theorem insertion_nil (w : World) : Calls Try.prog 47 #[.slice none 0 0, .int .i64 0, .int .i64 0, cmpV] w fun e w' => e = .returned (.tuple #[]) ∧ Below w.heap.size w w' := by
  go_enter Try.func47, Try.ntmps47
  go_wp2_with fail
  go_loopw [8] (fun i wr => i = .int .i64 1 ∧ Below w.heap.size w wr) (fun _ _ => 0)
  case atStart => exact ⟨rfl, Below.refl _ _⟩
  case round =>
    obtain ⟨rfl, hB⟩ := hrel
    go_wp2_with fail
    go_end0
    exact ⟨rfl, hB⟩
set_option maxHeartbeats 1000000 in
theorem stable_nil (w : World) : Calls Try.prog 43 #[.slice none 0 0, .int .i64 0, cmpV] w fun e w' => e = .returned (.tuple #[]) ∧ Below w.heap.size w w' := by
  go_enter Try.func43, Try.ntmps43
  go_wp2_with fail
  go_loopw [7, 8] (fun u v wr => u = .int .i64 0 ∧ v = .int .i64 20 ∧ Below w.heap.size w wr) (fun _ _ _ => 0)
  case atStart => exact ⟨rfl, rfl, Below.refl _ _⟩
  case round =>
    obtain ⟨rfl, rfl, hB⟩ := hrel
    go_wp2_with fail
    refine (insertion_nil _).mono ?_
    rintro e w1 ⟨rfl, hB1⟩
    have hB2 := hB.trans (hB1.mono hB.size)
    go_wp2_with fail
    go_loopw [6] (fun u wr => u = .int .i64 20 ∧ Below w.heap.size w wr) (fun _ _ => 0)
    case atStart => exact ⟨rfl, hB2⟩
    case round =>
      obtain ⟨rfl, hB3⟩ := hrel
      go_wp2_with fail
      go_end0
      exact ⟨rfl, hB3⟩

theorem sortStable_any (B : Nat) (fv : Value) (D : Flds) (w : World) (h : OwnsP 42 B w fv D) (hB : B ≤ w.heap.size) (hl : D.length ≤ 1000000) :
    Calls Try.prog 38 #[fv, cmpV] w fun e w' => e = .returned (.tuple #[]) ∧ ∃ Z, Srt Z ∧ SameF Z D ∧ OwnsP 42 B w' fv Z ∧ Below B w w' := by
  rcases id h with ⟨hl0, ⟨hv, hn⟩ | ⟨g, cap, cur, hv, hb, hg, hn, _⟩⟩
  · have hD : D = [] := List.eq_nil_of_length_eq_zero hn
    subst hD
    subst hv
    go_enter Try.func38, Try.ntmps38
    go_wp2_with fail
    refine (stable_nil _).mono ?_
    rintro e w1 ⟨rfl, hB1⟩
    go_wp2_with fail
    go_end0
    exact ⟨rfl, [], srt_nil, SameF.refl _, OwnsP.nil _ _ _, hB1.mono hB⟩
  · subst hv
    have SR := stable_any B g D.length cap D w h hl
    clear h hl0
    go_enter Try.func38, Try.ntmps38
    go_wp2_with fail
    refine SR.mono ?_
    rintro e w1 ⟨rfl, Z, h1, h2, h3, h4⟩
    go_wp2_with fail
    go_end0
    exact ⟨rfl, Z, h1, h2, h3, h4⟩

set_option maxHeartbeats 4000000 in
set_option maxRecDepth 100000 in
theorem equal_any (va vb : Value) (la lb : Flds) (w : World) (ha : ReadsQ w va la) (hb : ReadsQ w vb lb) (hla : la.length ≤ 1000000) (_hlb : lb.length ≤ 1000000) :
    Calls Try.prog 33 #[va, vb] w fun e w' => e = .returned (.bool (decide (la = lb))) ∧ ∃ n, w' = w.drewN n := by
  obtain ⟨ao, ca, rfl, hca⟩ := ha
  obtain ⟨bo, cb, rfl, hcb⟩ := hb
  by_cases hne : la.length = lb.length
  · have hne1 : la.length ≤ lb.length := by omega
    have hne2 : lb.length ≤ la.length := by omega
    have Hne := Lib.hid hne
    have HA := Lib.hid hca
    have HB := Lib.hid hcb
    clear hne hca hcb
    go_enter Try.func33, Try.ntmps33
    go_wp2
    go_loopw [13] (fun i wr => ∃ k n : Nat, i = .int .i64 k ∧ k ≤ la.length ∧ la.take k = lb.take k ∧ wr = w.drewN n) (fun i _ => la.length - (intOf i).toNat)
    case atStart => exact ⟨0, 0, rfl, Nat.zero_le _, rfl, rfl⟩
    case round =>
      obtain ⟨k, n, rfl, hk, hs, rfl⟩ := hrel
      have HS := Lib.hid hs
      clear hs
      by_cases hlt : k < la.length
      · obtain ⟨l, hl⟩ : ∃ l, la[k]? = some l := ⟨la[k], by simp [hlt]⟩
        obtain ⟨m, hm⟩ : ∃ m, lb[k]? = some m := ⟨lb[k]'(by omega), by simp⟩
        obtain ⟨g, off, rfl, hg, hc1, hc2⟩ := HA.out k l hl
        obtain ⟨g', off', rfl, hg', hd1, hd2⟩ := HB.out k m hm
        have HL := Lib.hid hl
        have HM := Lib.hid hm
        clear hl hm
        by_cases h1 : l.1 = m.1
        · have heq := toList_same h1
          by_cases h2 : l.2 = m.2
          · have heq2 := toList_same h2
            have hlm : l = m := Prod.ext h1 h2
            have HLM := Lib.hid hlm
            clear hlm h1 h2
            go_wp2
            go_quiet (fail)
            go_wp2
            go_roundw
            case rel => exact ⟨k + 1, _, by go_num, by omega, same_step HS.out HL.out (by rw [HLM.out]; exact HM.out), rfl⟩
            case measure => simp [intOf]; omega
          · have heq2 := toList_other h2
            have hlm : l ≠ m := fun e => h2 (by rw [e])
            have HLM := Lib.hid hlm
            clear hlm h1 h2
            go_wp2
            go_quiet (fail)
            go_wp2
            go_ret
            exact ⟨ret_bool (same_no HL.out HM.out HLM.out), n + nq, by first | exact World.drewN_drewN .. | rfl⟩
        · have heq := toList_other h1
          have hlm : l ≠ m := fun e => h1 (by rw [e])
          have HLM := Lib.hid hlm
          clear hlm h1
          go_wp2
          go_quiet (fail)
          go_wp2
          go_ret
          exact ⟨ret_bool (same_no HL.out HM.out HLM.out), n + nq, by first | exact World.drewN_drewN .. | rfl⟩
      · go_wp2
        go_ret
        exact ⟨ret_bool (same_end HS.out (by omega) (by omega)), _, rfl⟩
  · go_enter Try.func33, Try.ntmps33
    have h0 : ((la.length : Int) != (lb.length : Int)) = true := by simp; omega
    go_wp2
    go_ret
    exact ⟨ret_bool (by simp; intro h; exact hne (by rw [h])), 0, rfl⟩
end Go.Proofs.Ythpjemihbobjfaa
