/- What the code's Cover and the reference's Has return. -/
import Derived.Test.YtdcnoegnkopfdaaDoorRMergeW
namespace Go.Proofs.YtdcnoegnkopfdaaDoor
open Go.RowKit

def CoverPost (l : List Rg) (r : Rg) (w : World) (e : Ending) (w' : World) : Prop :=
  ∃ b : Bool, e = .returned (.bool b) ∧ (b = true ↔ ∀ i, inR r i → hasR l i) ∧ Below w.heap.size w w'
theorem cov_step {ms : List Rg} {k : Nat} {p : Rg} {x y : Int} (h : ∀ m ∈ ms.take k, ¬ (m.1 ≤ x ∧ y ≤ m.2)) (hp : ms[k]? = some p) (hn : ¬ (p.1 ≤ x ∧ y ≤ p.2)) : ∀ m ∈ ms.take (k + 1), ¬ (m.1 ≤ x ∧ y ≤ m.2) := by
  rw [take_succ_of hp]
  intro m hm
  rcases List.mem_append.mp hm with hm | hm
  · exact h m hm
  · simp at hm; subst hm; exact hn
theorem cov_iff {ms l : List Rg} {x y : Int} (hJ : Joins ms l) (hxy : x < y) : (∃ m ∈ ms, m.1 ≤ x ∧ y ≤ m.2) ↔ ∀ i, inR (x, y) i → hasR l i := by
  have := hJ.1.cover (x, y)
  constructor
  · intro h i hi
    exact (hJ.2 i).mp (this.mp (.inr h) i hi)
  · intro h
    rcases this.mpr (fun i hi => (hJ.2 i).mpr (h i hi)) with h1 | h1
    · exact absurd h1 (by show ¬ (x ≥ y); omega)
    · exact h1
set_option maxHeartbeats 8000000 in
set_option maxRecDepth 100000 in
theorem cover_any (v : Value) (l : List Rg) (B : Nat) (r : Rg) (w : World) (hO : OwnsI 46 B w v l) (hl : l.length ≤ 100000) :
    Calls Tryd.prog 26 #[v, rgV r] w (CoverPost l r w) := by
  obtain ⟨x, y⟩ := r
  have HIE := Lib.hid (fun (w : World) => (show Calls Tryd.prog 38 #[.agg #[.int .i64 x, .int .i64 y]] w fun e w' => e = .returned (.bool (decide (y ≤ x))) ∧ Below w.heap.size w w' from isEmpty_any (x, y) w))
  have HO := Lib.hid hO
  clear hO
  by_cases hxy : y ≤ x
  · have hd : decide (y ≤ x) = true := decide_eq_true hxy
    have HXY := Lib.hid hxy
    go_enter Tryd.func26, Tryd.ntmps26
    go_wp2_with fail
    refine (HIE.out _).mono ?_
    rintro e w1 ⟨rfl, hB⟩
    have HW := Lib.hid ((below_new w (.cells #[.int .i64 x, .int .i64 y] 46)).trans (hB.mono (by simp)))
    clear hB
    go_wp2_with fail
    go_ret
    exact ⟨true, rfl, ⟨fun _ i hi => absurd hi (fun h => by have := HXY.out; unfold inR at h; simp only at h; omega), fun _ => rfl⟩, HW.out⟩
  · have hd : decide (y ≤ x) = false := decide_eq_false hxy
    have HXY := Lib.hid (show x < y by omega)
    clear hxy
    go_enter Tryd.func26, Tryd.ntmps26
    go_wp2_with fail
    refine (HIE.out _).mono ?_
    rintro e w1 ⟨rfl, hB⟩
    have hT := (twoI_new w x y 46).below hB
    have HW := Lib.hid ((below_new w (.cells #[.int .i64 x, .int .i64 y] 46)).trans (hB.mono (by simp)))
    have HT := Lib.hid hT
    clear hB hT
    go_wp2_with fail
    refine (merge_any v l B _ (HO.out.below HW.out) hl).mono ?_
    rintro e w3 ⟨v1, ms, rfl, hO1, hJ, hml, hB3⟩
    have HW3 := Lib.hid (HW.out.trans (hB3.mono HW.out.size))
    have HT3 := Lib.hid (HT.out.below hB3)
    have HJ := Lib.hid hJ
    obtain ⟨mo, mc, rfl, hmc⟩ := hO1.reads
    have HMC := Lib.hid hmc
    clear hB3 hO1 hJ hmc
    go_wp2_with fail
    go_loopw [12] (fun i wr => ∃ k : Nat, i = .int .i64 k ∧ k ≤ ms.length ∧ (∀ m ∈ ms.take k, ¬ (m.1 ≤ x ∧ y ≤ m.2)) ∧ Below w3.heap.size w3 wr) (fun i _ => ms.length - (intOf i).toNat)
    case atStart => exact ⟨0, rfl, Nat.zero_le _, (fun m hm => by simp at hm), Below.refl _ _⟩
    case round =>
      obtain ⟨k, rfl, hk, hno, hBr⟩ := hrel
      have hbr := hBr.size
      have HBR := Lib.hid hBr
      have HNO := Lib.hid hno
      have HTR := Lib.hid (HT3.out.below hBr)
      clear hBr hno
      by_cases hlt : k < ms.length
      · obtain ⟨p, hp⟩ : ∃ p, ms[k]? = some p := ⟨ms[k], by simp [hlt]⟩
        obtain ⟨g, off, rfl, hg, hc1, hc2⟩ := HMC.out k p hp
        have hd1 := (HBR.out.cell (p := ⟨g, off + k * 2, none⟩) hg).trans hc1
        have hd2 := (HBR.out.cell (p := ⟨g, off + k * 2 + 1, none⟩) hg).trans hc2
        have HP := Lib.hid hp
        clear hp hc1 hc2
        obtain ⟨c, d⟩ := p
        simp only at hd1 hd2
        obtain ⟨c0, c1, f0, f1, hN⟩ := HTR.out.below (below_new wr (.cells #[.int .i64 c, .int .i64 d] 46))
        by_cases h1 : c ≤ x
        · by_cases h2 : y ≤ d
          · have HY := Lib.hid ((cov_iff HJ.out HXY.out).mp ⟨(c, d), List.mem_of_getElem? HP.out, h1, h2⟩)
            go_wp2_with fail
            go_ret
            exact ⟨true, rfl, ⟨fun _ => HY.out, fun _ => rfl⟩, HW3.out.trans ((HBR.out.alloc hbr _).mono HW3.out.size)⟩
          · have h2' : d < y := by omega
            have HN := Lib.hid (cov_step HNO.out HP.out (fun h => h2 h.2))
            clear h2
            go_wp2_with fail
            go_roundw
            case rel => exact ⟨k + 1, by go_num, by omega, HN.out, HBR.out.alloc hbr _⟩
            case measure => simp [intOf]; omega
        · have h1' : x < c := by omega
          have HN := Lib.hid (cov_step HNO.out HP.out (fun h => h1 h.1))
          clear h1
          go_wp2_with fail
          go_roundw
          case rel => exact ⟨k + 1, by go_num, by omega, HN.out, HBR.out.alloc hbr _⟩
          case measure => simp [intOf]; omega
      · have hall := HNO.out
        rw [List.take_of_length_le (by omega)] at hall
        have HN := Lib.hid (show ¬ ∀ i, inR (x, y) i → hasR l i from fun h => by
          obtain ⟨m, hm, h1⟩ := (cov_iff HJ.out HXY.out).mpr h
          exact hall m hm h1)
        clear hall
        go_wp2_with fail
        go_ret
        exact ⟨false, rfl, ⟨(fun h => by cases h), fun h => absurd h HN.out⟩, HW3.out.trans (HBR.out.mono HW3.out.size)⟩
def HasPost (l : List Rg) (n : Int) (w : World) (e : Ending) (w' : World) : Prop :=
  ∃ b : Bool, e = .returned (.bool b) ∧ (b = true ↔ hasR l n) ∧ w = w'
set_option maxHeartbeats 4000000 in
set_option maxRecDepth 100000 in
theorem refHas_any (va : Value) (l : List Rg) (n : Int) (w : World) (ha : ReadsI w va l) (hl : l.length ≤ 100000) :
    Calls Tryd.prog 25 #[va, .int .i64 n] w (HasPost l n w) := by
  obtain ⟨ao, ca, rfl, hca⟩ := ha
  have HA := Lib.hid hca
  clear hca
  go_enter Tryd.func25, Tryd.ntmps25
  go_wp2_with fail
  go_loop [8] (fun i => ∃ k : Nat, i = .int .i64 k ∧ k ≤ l.length ∧ ∀ m ∈ l.take k, ¬ inR m n) (fun i => l.length - (intOf i).toNat)
  case atStart => exact ⟨0, rfl, Nat.zero_le _, (fun m hm => by simp at hm)⟩
  case round =>
    obtain ⟨k, rfl, hk, hno⟩ := hrel
    have HNO := Lib.hid hno
    clear hno
    by_cases hlt : k < l.length
    · obtain ⟨p, hp⟩ : ∃ p, l[k]? = some p := ⟨l[k], by simp [hlt]⟩
      obtain ⟨g, off, rfl, hg, hc1, hc2⟩ := HA.out k p hp
      have HP := Lib.hid hp
      clear hp
      have HSTEP := Lib.hid (fun (h : ¬ inR p n) => show ∀ m ∈ l.take (k + 1), ¬ inR m n by
        rw [take_succ_of HP.out]
        intro m hm
        rcases List.mem_append.mp hm with hm | hm
        · exact HNO.out m hm
        · simp at hm; subst hm; exact h)
      obtain ⟨c, d⟩ := p
      simp only at hc1 hc2
      by_cases h1 : c ≤ n
      · by_cases h2 : n < d
        · have HY := Lib.hid (show hasR l n from ⟨(c, d), List.mem_of_getElem? HP.out, h1, h2⟩)
          go_wp2_with fail
          go_ret
          exact ⟨true, rfl, ⟨fun _ => HY.out, fun _ => rfl⟩, rfl⟩
        · have h2' : d ≤ n := by omega
          have HN := Lib.hid (HSTEP.out (fun h => h2 h.2))
          clear h2
          go_wp2_with fail
          go_round
          case rel => exact ⟨k + 1, by go_num, by omega, HN.out⟩
          case measure => simp [intOf]; omega
      · have h1' : n < c := by omega
        have HN := Lib.hid (HSTEP.out (fun h => h1 h.1))
        clear h1
        go_wp2_with fail
        go_round
        case rel => exact ⟨k + 1, by go_num, by omega, HN.out⟩
        case measure => simp [intOf]; omega
    · have hall := HNO.out
      rw [List.take_of_length_le (by omega)] at hall
      have HN := Lib.hid (show ¬ hasR l n from fun ⟨m, hm, h1⟩ => hall m hm h1)
      clear hall
      go_wp2_with fail
      go_ret
      exact ⟨false, rfl, ⟨(fun h => by cases h), fun h => absurd h HN.out⟩, rfl⟩
end Go.Proofs.YtdcnoegnkopfdaaDoor
