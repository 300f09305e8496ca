/- RangesMerges: for every list of ranges the statement's function returns true: the walk. -/
import Derived.Test.YtdcnoegnkopfdaaDoorRAwake
import Derived.Test.YtdcnoegnkopfdaaDoorRRefMerge
import Derived.Test.YtdcnoegnkopfdaaDoorROf
namespace Go.Proofs.YtdcnoegnkopfdaaDoor
open Go.RowKit

theorem canon_at {l : List Rg} (h : Canon l) {k : Nat} {p : Rg} (hp : l[k]? = some p) : p.1 < p.2 := h.1 p (List.mem_of_getElem? hp)
theorem canon_two {l : List Rg} (h : Canon l) {k : Nat} {p q : Rg} (hq : l[k]? = some q) (hp : l[k + 1]? = some p) : q.2 < p.1 := by
  have h2 := h.2
  rw [List.pairwise_iff_getElem] at h2
  obtain ⟨hk, rfl⟩ := List.getElem?_eq_some_iff.mp hq
  obtain ⟨hk1, rfl⟩ := List.getElem?_eq_some_iff.mp hp
  exact h2 k (k + 1) hk hk1 (by omega)
set_option maxHeartbeats 8000000 in
set_option maxRecDepth 100000 in
theorem merges_walk (va : Value) (l : List Rg) (w : World) (hM : MaxIs w) (ha : ReadsI w va l) (hl : l.length ≤ maxLen) :
    Calls Tryd.prog 6 #[va] w fun e w' => e = .returned (.bool true) ∧ Below w.heap.size w w' := by
  have HM := Lib.hid hM
  have HA := Lib.hid ha
  have ha' := ha
  clear hM ha
  obtain ⟨ao, ca, rfl, _⟩ := ha'
  go_enter Tryd.func6, Tryd.ntmps6
  go_wp2_with fail
  refine (awake9_any _ HM.out).mono ?_
  rintro e w1 ⟨rfl, hB⟩
  have HW1 := Lib.hid hB
  clear hB
  by_cases h5 : l.length ≤ 40
  · have h5' : ¬ 40 < l.length := by omega
    go_wp2_with fail
    refine (of_any _ l _ (HA.out.below HW1.out) (by omega)).mono ?_
    rintro e w2 ⟨v, rfl, hO, hB2⟩
    have HW2 := Lib.hid (HW1.out.trans (hB2.mono HW1.out.size))
    have HO := Lib.hid hO
    clear hB2 hO
    go_wp2_with fail
    refine (merge_any v l _ _ HO.out (by omega)).mono ?_
    rintro e w3 ⟨v1, ms, rfl, hO1, hJ, hml, hB3⟩
    have HW3 := Lib.hid (HW2.out.trans (hB3.mono HW2.out.size))
    have HO1 := Lib.hid hO1
    have HJ := Lib.hid hJ
    clear hB3 hO1 hJ
    go_wp2_with fail
    refine (merge_any v1 ms _ _ HO1.out (by omega)).mono ?_
    rintro e w4 ⟨v2, ms2, rfl, hO2, hJ2, hml2, hB4⟩
    have hms : ms2 = ms := hJ2.unique (Joins.self HJ.out.1)
    subst hms
    have HW4 := Lib.hid (HW3.out.trans (hB4.mono HW3.out.size))
    have HO1 := Lib.hid (HO1.out.below hB4)
    have HR1 := HO1.out.reads
    have HR2 := Lib.hid hO2.reads
    clear hB4 hO2 hJ2 hml2
    obtain ⟨mo, mc, rfl, hmc⟩ := HR1
    have HMC := Lib.hid hmc
    have HR1 := Lib.hid HO1.out.reads
    clear hmc
    go_wp2_with fail
    go_loopw [22] (fun i wr => ∃ k : Nat, i = .int .i64 k ∧ k ≤ ms2.length ∧ Below w4.heap.size w4 wr) (fun i _ => ms2.length - (intOf i).toNat)
    case atStart => exact ⟨0, rfl, Nat.zero_le _, Below.refl _ _⟩
    case round =>
      obtain ⟨k, rfl, hk, hBr⟩ := hrel
      have hbr := hBr.size
      have HBR := Lib.hid hBr
      clear hBr
      by_cases hlt : k < ms2.length
      · obtain ⟨p, hp⟩ : ∃ p, ms2[k]? = some p := ⟨ms2[k], by simp [hlt]⟩
        obtain ⟨g, off, rfl, hg, hc1, hc2⟩ := HMC.out k p hp
        have hd1 := (HBR.out.cell (p := ⟨g, off + k * 2, none⟩) hg).trans hc1
        have hd2 := (HBR.out.cell (p := ⟨g, off + k * 2 + 1, none⟩) hg).trans hc2
        have HP := Lib.hid hp
        have hlt1 := canon_at HJ.out.1 hp
        clear hp hc1 hc2
        obtain ⟨x, y⟩ := p
        simp only at hd1 hd2 hlt1
        have hd : decide (y ≤ x) = false := decide_eq_false (by omega)
        by_cases h0 : 0 < k
        · obtain ⟨k1, hk1⟩ : ∃ k1, k = k1 + 1 := ⟨k - 1, by omega⟩
          obtain ⟨q, hq⟩ : ∃ q, ms2[k1]? = some q := ⟨ms2[k1]'(by omega), by simp⟩
          obtain ⟨g', off', he, _, hc1, hc2⟩ := HMC.out k1 q hq
          obtain ⟨rfl, rfl⟩ : g = g' ∧ off = off' := by simpa using he
          have he2 := (HBR.out.cell (p := ⟨g, off + k1 * 2 + 1, none⟩) hg).trans hc2
          have hlt2 := canon_two HJ.out.1 hq (by rw [← hk1]; exact HP.out)
          clear hq hc1 hc2 he
          obtain ⟨c, d⟩ := q
          simp only at he2 hlt2
          have he3 := (below_new wr (.cells #[.int .i64 x, .int .i64 y] 46)).cell (p := ⟨g, off + k1 * 2 + 1, none⟩) (by show g < _; omega)
          rw [he2] at he3
          have hdd : decide (x ≤ d) = false := decide_eq_false (by omega)
          have hw : IntKind.i64.wrap ((k : Int) - 1) = (k1 : Int) := by rw [IntWalk.i64_in _ (by omega)]; omega
          have i1 : (0 : Int) ≤ (k1 : Int) := by omega
          have i2 : (k1 : Int) < (ms2.length : Int) := by omega
          have i3 : (0 : Int) < (k : Int) := by omega
          have i4 : decide ((0 : Int) < (k : Int)) = true := decide_eq_true i3
          have HK1 := Lib.hid hk1
          clear hk1 he2
          go_wp2_with fail
          go_quiet (fail)
          go_wp2_with fail
          clear hw
          go_roundw
          case rel => exact ⟨k + 1, by go_num, by omega, below_drewN (HBR.out.alloc hbr _) _⟩
          case measure => simp [intOf]; omega
        · have i4 : decide ((0 : Int) < (k : Int)) = false := decide_eq_false (by omega)
          go_wp2_with fail
          go_quiet (fail)
          go_wp2_with fail
          go_roundw
          case rel => exact ⟨k + 1, by go_num, by omega, below_drewN (HBR.out.alloc hbr _) _⟩
          case measure => simp [intOf]; omega
      · have HWR := Lib.hid (HW4.out.trans (HBR.out.mono HW4.out.size))
        go_wp2_with fail
        refine (refMerge_any _ l _ (HA.out.below HWR.out) (by omega)).mono ?_
        rintro e w5 ⟨v3, ms3, rfl, hO3, hJ3, _, hB5⟩
        have hms : ms3 = ms2 := hJ3.unique HJ.out
        subst hms
        have HW5 := Lib.hid (HWR.out.trans (hB5.mono HWR.out.size))
        have HB45 := Lib.hid (HBR.out.trans (hB5.mono hbr))
        have HR3 := Lib.hid hO3.reads
        clear hB5 hO3 hJ3
        go_wp2_with fail
        refine (are_any _ _ ms3 ms3 _ (HR1.out.below HB45.out) HR3.out (by omega) (by omega)).mono ?_
        rintro e w' ⟨he, n, rfl⟩
        rw [decide_eq_true rfl] at he
        subst he
        have HW6 := Lib.hid (below_drewN HW5.out n)
        have HB46 := Lib.hid (below_drewN HB45.out n)
        go_wp2_with fail
        refine (refMerge_any _ l _ (HA.out.below HW6.out) (by omega)).mono ?_
        rintro e w7 ⟨v4, ms4, rfl, hO4, hJ4, _, hB7⟩
        have hms : ms4 = ms3 := hJ4.unique HJ.out
        subst hms
        have HW7 := Lib.hid (HW6.out.trans (hB7.mono HW6.out.size))
        have HB47 := Lib.hid (HB46.out.trans (hB7.mono HB46.out.size))
        have HR4 := Lib.hid hO4.reads
        clear hB7 hO4 hJ4
        go_wp2_with fail
        refine (are_any _ _ ms4 ms4 _ (HR2.out.below HB47.out) HR4.out (by omega) (by omega)).mono ?_
        rintro e w' ⟨he, n, rfl⟩
        rw [decide_eq_true rfl] at he
        subst he
        go_wp2_with fail
        go_ret
        exact ⟨rfl, below_drewN HW7.out n⟩
  · have h5' : 40 < l.length := by omega
    go_wp2_with fail
    refine (awake9_any _ (HM.out.below HW1.out)).mono ?_
    rintro e w2 ⟨rfl, hB2⟩
    have HW2 := Lib.hid (HW1.out.trans (hB2.mono HW1.out.size))
    go_wp2_with fail
    go_ret
    exact ⟨rfl, HW2.out⟩
end Go.Proofs.YtdcnoegnkopfdaaDoor
