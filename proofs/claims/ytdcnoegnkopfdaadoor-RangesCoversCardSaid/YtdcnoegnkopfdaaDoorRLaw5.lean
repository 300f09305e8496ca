/- RangesCovers: for every list of pairs and every pair of bytes the statement's function returns true: the walk. -/
import Derived.Test.YtdcnoegnkopfdaaDoorRAwake
import Derived.Test.YtdcnoegnkopfdaaDoorRCover
import Derived.Test.YtdcnoegnkopfdaaDoorRRefParse
import Derived.Test.YtdcnoegnkopfdaaDoorRRefCR
import Derived.Test.YtdcnoegnkopfdaaDoorROf
import Derived.Deep.RegionHeld3
namespace Go.Proofs.YtdcnoegnkopfdaaDoor
open Go.RowKit

/-- The value v is a slice of pairs of bytes that reads as ps. -/
def ReadsB2 (w : World) (v : Value) (ps : List (UInt8 × UInt8)) : Prop :=
  ∃ ao cap, v = .slice ao ps.length cap ∧ ∀ (j : Nat) p, ps[j]? = some p → ∃ g off, ao = some ⟨g, off, none⟩ ∧ g < w.heap.size ∧ w.cell? ⟨g, off + j * 2, none⟩ = some (.int .u8 (p.1.toNat : Int)) ∧ w.cell? ⟨g, off + j * 2 + 1, none⟩ = some (.int .u8 (p.2.toNat : Int))
theorem ReadsB2.below {w w' : World} {v : Value} {ps : List (UInt8 × UInt8)} (h : ReadsB2 w v ps) (hb : Below w.heap.size w w') : ReadsB2 w' v ps := by
  obtain ⟨ao, cap, rfl, hc⟩ := h
  refine ⟨ao, cap, rfl, fun j p hj => ?_⟩
  obtain ⟨g, off, h1, h2, h3, h4⟩ := hc j p hj
  exact ⟨g, off, h1, Nat.lt_of_lt_of_le h2 hb.size, (hb.cell (p := ⟨g, off + j * 2, none⟩) h2).trans h3, (hb.cell (p := ⟨g, off + j * 2 + 1, none⟩) h2).trans h4⟩
def rgB (p : UInt8 × UInt8) : Rg := ((p.1.toNat : Int), (p.2.toNat : Int))
/-- A block of a pair's two bytes. -/
def TwoB (N : Nat) (w : World) (x y : UInt8) : Prop :=
  w.cell? ⟨N, 0, none⟩ = some (.int .u8 (x.toNat : Int)) ∧ w.cell? ⟨N, 1, none⟩ = some (.int .u8 (y.toNat : Int)) ∧ N < w.heap.size
theorem TwoB.below {N : Nat} {w w' : World} {x y : UInt8} (h : TwoB N w x y) (hb : Below w.heap.size w w') : TwoB N w' x y := by
  obtain ⟨h1, h2, h5⟩ := h
  exact ⟨(hb.cell (p := ⟨N, 0, none⟩) h5).trans h1, (hb.cell (p := ⟨N, 1, none⟩) h5).trans h2, Nat.lt_of_lt_of_le h5 hb.size⟩
theorem twoB_new (w : World) (x y : UInt8) (T : TypeId) : TwoB w.heap.size (w.alloc (.cells #[.int .u8 (x.toNat : Int), .int .u8 (y.toNat : Int)] T)) x y :=
  ⟨by rw [World.cell?_alloc_at _ _ _ _ rfl]; rfl, by rw [World.cell?_alloc_at _ _ _ _ rfl]; rfl, by simp⟩
/-- Making the list of ranges. -/
def CRel (T : TypeId) (ps : List (UInt8 × UInt8)) (w : World) (v i : Value) (wr : World) : Prop :=
  ∃ k : Nat, i = .int .i64 k ∧ k ≤ ps.length ∧ OwnsI T w.heap.size wr v ((ps.take k).map rgB) ∧ Below w.heap.size w wr
theorem map_step {ps : List (UInt8 × UInt8)} {k : Nat} {p : UInt8 × UInt8} (hp : ps[k]? = some p) : (ps.take (k + 1)).map rgB = (ps.take k).map rgB ++ [rgB p] := by rw [List.take_add_one, hp]; simp
/-- All offsets below k that are of r are of l. -/
def allUp (l : List Rg) (r : Rg) (k : Nat) : Prop := ∀ i : Nat, i < k → inR r i → hasR l i
def VRel (l : List Rg) (r : Rg) (w : World) (v i : Value) (wr : World) : Prop :=
  ∃ (k : Nat) (b : Bool), i = .int .i64 k ∧ k ≤ 257 ∧ v = .bool b ∧ (b = true ↔ allUp l r k) ∧ Below w.heap.size w wr
def InRel (ms : List Rg) (n : Int) (w : World) (v i : Value) (wr : World) : Prop :=
  ∃ (k : Nat) (b : Bool), i = .int .i64 k ∧ k ≤ ms.length ∧ v = .bool b ∧ (b = true ↔ ∃ m ∈ ms.take k, inR m n) ∧ Below w.heap.size w wr
instance (r : Rg) (n : Int) : Decidable (inR r n) := by unfold inR; infer_instance
theorem in_step {ms : List Rg} {k : Nat} {p : Rg} {n : Int} {b b' : Bool} (h : b = true ↔ ∃ m ∈ ms.take k, inR m n) (hp : ms[k]? = some p) (hb : b' = (b || decide (inR p n))) : b' = true ↔ ∃ m ∈ ms.take (k + 1), inR m n := by
  rw [take_succ_of hp, hb, Bool.or_eq_true, h, decide_eq_true_iff]
  constructor
  · rintro (⟨m, hm, h⟩ | h)
    · exact ⟨m, List.mem_append.mpr (.inl hm), h⟩
    · exact ⟨p, by simp, h⟩
  · rintro ⟨m, hm, h⟩
    rcases List.mem_append.mp hm with hm | hm
    · exact .inl ⟨m, hm, h⟩
    · simp at hm; subst hm; exact .inr h
theorem all_step {l : List Rg} {r : Rg} {k : Nat} {b b' : Bool} (h : b = true ↔ allUp l r k) (hb : b' = true ↔ (b = true ∧ (inR r k → hasR l k))) : b' = true ↔ allUp l r (k + 1) := by
  rw [hb, h]
  constructor
  · rintro ⟨h1, h2⟩ i hi hr
    by_cases e : i = k
    · subst e; exact h2 hr
    · exact h1 i (by omega) hr
  · intro h1
    exact ⟨fun i hi hr => h1 i (by omega) hr, fun hr => h1 k (by omega) hr⟩
theorem all_cover {l : List Rg} {x y : UInt8} : allUp l ((x.toNat : Int), (y.toNat : Int)) 257 ↔ ∀ i, inR ((x.toNat : Int), (y.toNat : Int)) i → hasR l i := by
  constructor
  · intro h i hi
    have h1 := hi
    unfold inR at h1
    simp only at h1
    have hx := x.toNat_lt
    have hy := y.toNat_lt
    have := h i.toNat (by omega) (by rw [show ((i.toNat : Nat) : Int) = i by omega]; exact hi)
    rwa [show ((i.toNat : Nat) : Int) = i by omega] at this
  · intro h i _ hi
    exact h i hi
set_option maxHeartbeats 8000000 in
set_option maxRecDepth 100000 in
theorem covers_walk (va : Value) (ps : List (UInt8 × UInt8)) (x y : UInt8) (w : World) (hM : MaxIs w) (ha : ReadsB2 w va ps) (hl : ps.length ≤ maxLen) :
    Calls Tryd.prog 7 #[va, .agg #[.int .u8 (x.toNat : Int), .int .u8 (y.toNat : Int)]] w fun e w' => e = .returned (.bool true) ∧ Below w.heap.size w w' := by
  obtain ⟨i0, hi, hz0, hz1, hz2⟩ := info_parts Tryd.infoR9
  have HM := Lib.hid hM
  have HA := Lib.hid ha
  have ha' := ha
  clear hM ha
  obtain ⟨ao, ca, rfl, _⟩ := ha'
  have hx := x.toNat_lt
  have hy := y.toNat_lt
  go_enter Tryd.func7, Tryd.ntmps7
  go_wp2_with fail
  refine (awake9_any _ (HM.out.alloc _)).mono ?_
  rintro e w1 ⟨rfl, hB⟩
  have HT1 := Lib.hid ((twoB_new w x y 57).below hB)
  have HW1 := Lib.hid ((below_new w (.cells #[.int .u8 (x.toNat : Int), .int .u8 (y.toNat : Int)] 57)).trans (hB.mono (by simp)))
  clear hB
  by_cases h5 : ps.length ≤ 40
  · have h5' : ¬ 40 < ps.length := by omega
    have HA1 := Lib.hid (HA.out.below HW1.out)
    obtain ⟨ao', ca', hva, hca⟩ := HA1.out
    have HC := Lib.hid hca
    obtain ⟨rfl, _, rfl⟩ : ao = ao' ∧ ps.length = ps.length ∧ ca = ca' := by simpa using hva
    clear hca hva
    go_wp2_with fail
    go_loopw [5, 25] (fun v i wr => CRel 43 ps w1 v i wr) (fun _ i _ => ps.length - (intOf i).toNat)
    case atStart => exact ⟨0, rfl, Nat.zero_le _, OwnsI.nil _ _ _, Below.refl _ _⟩
    case round =>
      obtain ⟨k, rfl, hk, hO, hBr⟩ := hrel
      have hbr := hBr.size
      have HBR := Lib.hid hBr
      clear hBr
      by_cases hlt : k < ps.length
      · obtain ⟨p, hp⟩ : ∃ p, ps[k]? = some p := ⟨ps[k], by simp [hlt]⟩
        obtain ⟨g, off, rfl, hg, hc1, hc2⟩ := HC.out k p hp
        have hd1 := (HBR.out.cell (p := ⟨g, off + k * 2, none⟩) hg).trans hc1
        have hd2 := (HBR.out.cell (p := ⟨g, off + k * 2 + 1, none⟩) hg).trans hc2
        have HMS := Lib.hid (map_step hp)
        clear hp hc1 hc2
        obtain ⟨c, d⟩ := p
        simp only at hd1 hd2
        have hc := c.toNat_lt
        have hd := d.toNat_lt
        have hfl := flatI_len ((ps.take k).map rgB)
        have hpl : ((ps.take k).map rgB).length ≤ 40 := by simp; omega
        go_wp2_with (at_builtin; go_must (refine wpList_append_own _ rfl _ _ 28 rfl w1.heap.size 43 i0 (.agg #[.int .i64 0, .int .i64 0]) 2 16 Tryd.underlying28 hi hz0 hz1 hz2 rfl (by decide) _ _ _ rfl (World.ownsRow.alloc (World.ownsRow.alloc hO _) _) ⟨wr.heap.size + 1, 0, none⟩ 1 1 [.int .i64 (c.toNat : Int), .int .i64 (d.toNat : Int)] rfl rfl (new_rg2 wr _ (c.toNat : Int) (d.toNat : Int) _) (fun u hu => by simp at hu; rcases hu with rfl | rfl <;> rfl) (by unfold maxLen; omega) (by omega) (by simp; omega) ?_); intro v' w5 hown' hgrow _)
        go_roundw
        case rel => exact ⟨k + 1, by go_num, by omega, by rw [HMS.out]; exact OwnsI.snoc hown', below_appendI (HBR.out.alloc hbr _) (by simp; omega) (Below.refl _ _) (World.ownsRow.alloc hO _) hgrow⟩
        case measure => simp [intOf]; omega
      · rename World => wq
        have hall := List.take_of_length_le (show ps.length ≤ k by omega)
        rw [hall] at hO
        obtain ⟨l, hl9⟩ : ∃ l, ps.map rgB = l := ⟨_, rfl⟩
        have hll : l.length ≤ 40 := by rw [← hl9]; simp; omega
        rw [hl9] at hO
        have HRL := Lib.hid hO.reads
        have HWQ := Lib.hid (HW1.out.trans (HBR.out.mono HW1.out.size))
        have HTQ := Lib.hid (HT1.out.below HBR.out)
        clear hall hO hl9
        go_wp2_with fail
        refine (of_any _ l _ HRL.out (by omega)).mono ?_
        rintro e w2 ⟨v2, rfl, hO2, hB2⟩
        have HW2 := Lib.hid (HWQ.out.trans (hB2.mono HWQ.out.size))
        have HC2 := Lib.hid hB2
        have HO2 := Lib.hid hO2
        clear hB2 hO2
        go_wp2_with fail
        refine (merge_any v2 l _ _ HO2.out (by omega)).mono ?_
        rintro e w3 ⟨v1, ms, rfl, hO1, hJ, hml, hB3⟩
        have HW3 := Lib.hid (HW2.out.trans (hB3.mono HW2.out.size))
        have HC3 := Lib.hid (HC2.out.trans (hB3.mono HC2.out.size))
        have HO1 := Lib.hid hO1
        have HJ := Lib.hid hJ
        have HT3 := Lib.hid (HTQ.out.below HC3.out)
        have HRL3 := Lib.hid (HRL.out.below HC3.out)
        obtain ⟨mo, mc, rfl, hmc⟩ := hO1.reads
        have HMC := Lib.hid hmc
        clear hB3 hO1 hJ hmc
        go_wp2_with fail
        go_loopw [9, 43] (fun v i wr => VRel l ((x.toNat : Int), (y.toNat : Int)) w3 v i wr) (fun _ i _ => 257 - (intOf i).toNat)
        case atStart => exact ⟨0, true, rfl, by omega, rfl, ⟨fun _ i hi => by omega, fun _ => rfl⟩, Below.refl _ _⟩
        case round =>
          obtain ⟨k, b2, rfl, hk, rfl, hall, hBr2⟩ := hrel
          rename World => wv
          have hbr2 := hBr2.size
          have HBR2 := Lib.hid hBr2
          have HALL := Lib.hid hall
          clear hBr2 hall
          by_cases hlt2 : k < 257
          · go_wp2_with fail
            go_loopw [11, 48] (fun v i wr => InRel ms (k : Int) wv v i wr) (fun _ i _ => ms.length - (intOf i).toNat)
            case atStart => exact ⟨0, false, rfl, Nat.zero_le _, rfl, ⟨(fun h => by cases h), (fun h => by obtain ⟨m, hm, _⟩ := h; simp at hm)⟩, Below.refl _ _⟩
            case round =>
              obtain ⟨k3, b3, rfl, hk3, rfl, hin, hBr3⟩ := hrel
              have hbr3 := hBr3.size
              have HBR3 := Lib.hid hBr3
              have HIN := Lib.hid hin
              clear hBr3 hin
              by_cases hlt3 : k3 < ms.length
              · obtain ⟨p, hp⟩ : ∃ p, ms[k3]? = some p := ⟨ms[k3], by simp [hlt3]⟩
                obtain ⟨g, off, rfl, hg, hc1, hc2⟩ := HMC.out k3 p hp
                have hd1 := ((HBR2.out.trans (HBR3.out.mono hbr2)).cell (p := ⟨g, off + k3 * 2, none⟩) hg).trans hc1
                have hd2 := ((HBR2.out.trans (HBR3.out.mono hbr2)).cell (p := ⟨g, off + k3 * 2 + 1, none⟩) hg).trans hc2
                have HP := Lib.hid hp
                clear hp hc1 hc2
                obtain ⟨c, d⟩ := p
                simp only at hd1 hd2
                cases b3 with
                | true =>
                  have HN := Lib.hid (in_step (b' := true) HIN.out HP.out rfl)
                  go_wp2_with fail
                  go_roundw
                  case rel => exact ⟨k3 + 1, true, by go_num, by omega, rfl, HN.out, HBR3.out.alloc hbr3 _⟩
                  case measure => simp [intOf]; omega
                | false =>
                  by_cases h1 : c ≤ (k : Int)
                  · by_cases h2 : (k : Int) < d
                    · have HN := Lib.hid (in_step (b' := true) HIN.out HP.out (by rw [decide_eq_true (show inR (c, d) (k : Int) from ⟨h1, h2⟩)]; rfl))
                      go_wp2_with fail
                      go_roundw
                      case rel => exact ⟨k3 + 1, true, by go_num, by omega, by (first | rfl | simp [h2]), HN.out, HBR3.out.alloc hbr3 _⟩
                      case measure => simp [intOf]; omega
                    · have HN := Lib.hid (in_step (b' := false) HIN.out HP.out (by rw [decide_eq_false (show ¬ inR (c, d) (k : Int) from fun h => h2 h.2)]; rfl))
                      have hd2' : decide ((k : Int) < d) = false := decide_eq_false h2
                      clear h2
                      go_wp2_with fail
                      go_roundw
                      case rel => exact ⟨k3 + 1, false, by go_num, by omega, by (first | rfl | (simp; omega)), HN.out, HBR3.out.alloc hbr3 _⟩
                      case measure => simp [intOf]; omega
                  · have HN := Lib.hid (in_step (b' := false) HIN.out HP.out (by rw [decide_eq_false (show ¬ inR (c, d) (k : Int) from fun h => h1 h.1)]; rfl))
                    have hd1' : decide (c ≤ (k : Int)) = false := decide_eq_false h1
                    clear h1
                    go_wp2_with fail
                    go_roundw
                    case rel => exact ⟨k3 + 1, false, by go_num, by omega, by (first | rfl | (simp; omega)), HN.out, HBR3.out.alloc hbr3 _⟩
                    case measure => simp [intOf]; omega
              · have hin := HIN.out
                rw [List.take_of_length_le (by omega)] at hin
                have hin2 : b3 = true ↔ hasR l (k : Int) := hin.trans (HJ.out.2 (k : Int))
                have HIN2 := Lib.hid hin2
                have HB2 := Lib.hid (HBR2.out.trans (HBR3.out.mono hbr2))
                have HRLw := Lib.hid (HRL3.out.below HB2.out)
                have HTw := Lib.hid (HT3.out.below HB2.out)
                clear hin hin2
                go_wp2_with fail
                refine (refHas_any _ l (k : Int) _ HRLw.out (by omega)).mono ?_
                rintro e w' ⟨b4, rfl, hb4, rfl⟩
                have hbb : b4 = b3 := Bool.eq_iff_iff.mpr (hb4.trans HIN2.out.symm)
                subst hbb
                have hne : (b4 != b4) = false := by simp
                obtain ⟨c0, c1, hN⟩ := HTw.out
                by_cases h1 : (x.toNat : Int) ≤ (k : Int)
                · by_cases h2 : (k : Int) < (y.toNat : Int)
                  · have HN := Lib.hid (fun (b' : Bool) (h : b' = (b2 && b4)) => all_step (b := b2) (b' := b') HALL.out (by
                      rw [h, Bool.and_eq_true, HIN2.out]
                      exact ⟨fun h => ⟨h.1, fun _ => h.2⟩, fun h => ⟨h.1, h.2 ⟨h1, h2⟩⟩⟩))
                    cases b2 with
                    | true =>
                      go_wp2_with fail
                      go_roundw
                      case rel => exact ⟨k + 1, _, by go_num, by omega, rfl, HN.out _ (by simp), HB2.out⟩
                      case measure => simp [intOf]; omega
                    | false =>
                      go_wp2_with fail
                      go_roundw
                      case rel => exact ⟨k + 1, _, by go_num, by omega, rfl, HN.out _ (by simp), HB2.out⟩
                      case measure => simp [intOf]; omega
                  · have HN := Lib.hid (all_step (b := b2) (b' := b2) HALL.out ⟨fun h => ⟨h, fun hr => absurd hr.2 h2⟩, fun h => h.1⟩)
                    have h2' : (y.toNat : Int) ≤ (k : Int) := by omega
                    clear h2
                    go_wp2_with fail
                    go_roundw
                    case rel => exact ⟨k + 1, b2, by go_num, by omega, rfl, HN.out, HB2.out⟩
                    case measure => simp [intOf]; omega
                · have HN := Lib.hid (all_step (b := b2) (b' := b2) HALL.out ⟨fun h => ⟨h, fun hr => absurd hr.1 h1⟩, fun h => h.1⟩)
                  have h1' : (k : Int) < (x.toNat : Int) := by omega
                  clear h1
                  go_wp2_with fail
                  go_roundw
                  case rel => exact ⟨k + 1, b2, by go_num, by omega, rfl, HN.out, HB2.out⟩
                  case measure => simp [intOf]; omega
          · have hk257 : k = 257 := by omega
            have HALL2 := Lib.hid (show b2 = true ↔ ∀ i, inR ((x.toNat : Int), (y.toNat : Int)) i → hasR l i by rw [← all_cover, ← hk257]; exact HALL.out)
            have HJM := Lib.hid (fun i => HJ.out.2 i)
            have HTw := Lib.hid (HT3.out.below HBR2.out)
            obtain ⟨c0, c1, hN⟩ := HTw.out
            clear hk257
            go_upto_region 26 with fail
            have hS0 := twoI_new wv (x.toNat : Int) (y.toNat : Int) 46
            have HCW := Lib.hid (HBR2.out.alloc hbr2 (.cells #[.int .i64 (x.toNat : Int), .int .i64 (y.toNat : Int)] 46))
            generalize wv.alloc (.cells #[.int .i64 (x.toNat : Int), .int .i64 (y.toNat : Int)] 46) = W at *
            have HOW := Lib.hid (HO1.out.below HCW.out)
            have HRW := Lib.hid (HRL3.out.below HCW.out)
            obtain ⟨s0, s1, _, _, s2⟩ := hS0
            generalize wv.heap.size = NB at *
            have hS : W.drew.cell? ⟨NB, 0, none⟩ = some (.int .i64 (x.toNat : Int)) ∧ W.drew.cell? ⟨NB, 1, none⟩ = some (.int .i64 (y.toNat : Int)) ∧ Below W.heap.size W W.drew ∧ NB < W.heap.size := ⟨s0, s1, (Below.refl _ _).drew, s2⟩
            have HOF := Lib.hid (fun (wz : World) (h : wz.cell? ⟨NB, 0, none⟩ = some (.int .i64 (x.toNat : Int)) ∧ wz.cell? ⟨NB, 1, none⟩ = some (.int .i64 (y.toNat : Int)) ∧ Below W.heap.size W wz ∧ NB < W.heap.size) => (of_any _ l wz (HRW.out.below h.2.2.1) (by omega)).mono (R' := fun e w' => ∃ v, e = .returned v ∧ OwnsI 46 W.heap.size w' v l ∧ (w'.cell? ⟨NB, 0, none⟩ = some (.int .i64 (x.toNat : Int)) ∧ w'.cell? ⟨NB, 1, none⟩ = some (.int .i64 (y.toNat : Int)) ∧ Below W.heap.size W w' ∧ NB < W.heap.size)) (by
              rintro e w' ⟨v, rfl, hO, hB⟩
              exact ⟨v, rfl, hO.mono h.2.2.1.size, SB.below h hB⟩))
            have HCV1 := Lib.hid (fun (v : Value) (wz : World) (hO : OwnsI 46 W.heap.size wz v l) (h : wz.cell? ⟨NB, 0, none⟩ = some (.int .i64 (x.toNat : Int)) ∧ wz.cell? ⟨NB, 1, none⟩ = some (.int .i64 (y.toNat : Int)) ∧ Below W.heap.size W wz ∧ NB < W.heap.size) => (cover_any v l _ ((x.toNat : Int), (y.toNat : Int)) wz hO (by omega)).mono (R' := fun e w' => e = .returned (.bool b2) ∧ (w'.cell? ⟨NB, 0, none⟩ = some (.int .i64 (x.toNat : Int)) ∧ w'.cell? ⟨NB, 1, none⟩ = some (.int .i64 (y.toNat : Int)) ∧ Below W.heap.size W w' ∧ NB < W.heap.size)) (by
              rintro e w' ⟨b5, rfl, hb5, hB⟩
              have hbb : b5 = b2 := Bool.eq_iff_iff.mpr (hb5.trans HALL2.out.symm)
              exact ⟨by rw [hbb], SB.below h hB⟩))
            have HCV2 := Lib.hid (fun (wz : World) (h : wz.cell? ⟨NB, 0, none⟩ = some (.int .i64 (x.toNat : Int)) ∧ wz.cell? ⟨NB, 1, none⟩ = some (.int .i64 (y.toNat : Int)) ∧ Below W.heap.size W wz ∧ NB < W.heap.size) => (cover_any _ ms _ ((x.toNat : Int), (y.toNat : Int)) wz (HOW.out.below h.2.2.1) (by omega)).mono (R' := fun e w' => e = .returned (.bool b2) ∧ (w'.cell? ⟨NB, 0, none⟩ = some (.int .i64 (x.toNat : Int)) ∧ w'.cell? ⟨NB, 1, none⟩ = some (.int .i64 (y.toNat : Int)) ∧ Below W.heap.size W w' ∧ NB < W.heap.size)) (by
              rintro e w' ⟨b5, rfl, hb5, hB⟩
              have hbb : b5 = b2 := Bool.eq_iff_iff.mpr ((hb5.trans ⟨fun h i hi => (HJM.out i).mp (h i hi), fun h i hi => (HJM.out i).mpr (h i hi)⟩).trans HALL2.out.symm)
              exact ⟨by rw [hbb], SB.below h hB⟩))
            have hbb : (b2 == b2) = true := by simp
            clear s0 s1 c0 c1 hN
            go_region_held3 (fun w' => w'.cell? ⟨NB, 0, none⟩ = some (.int .i64 (x.toNat : Int)) ∧ w'.cell? ⟨NB, 1, none⟩ = some (.int .i64 (y.toNat : Int)) ∧ Below W.heap.size W w' ∧ NB < W.heap.size)
              (first | (with_reducible exact h7) | (with_reducible exact h6) | (with_reducible exact h5) | (with_reducible exact hS))
              (first
                | (go_at_call 16; refine (HOF.out _ (by assumption)).mono ?_; rintro e w' ⟨vo, rfl, hOf, h5⟩)
                | (go_at_call_of 26 vo; refine (HCV1.out _ _ (by first | exact hOf | exact hOf.below (Below.refl _ _).drew | exact hOf.below (below_drewN (Below.refl _ _) _)) (by assumption)).mono ?_; rintro e w' ⟨rfl, h6⟩)
                | (go_at_call 26; refine (HCV2.out _ (by assumption)).mono ?_; rintro e w' ⟨rfl, h7⟩))
            have HFIN := Lib.hid (HW3.out.trans ((HCW.out.trans (h7.2.2.1.mono HCW.out.size)).mono HW3.out.size))
            go_wp2_with fail
            go_ret
            exact ⟨rfl, HFIN.out⟩
  · have h5' : 40 < ps.length := by omega
    go_wp2_with fail
    refine (awake9_any _ (HM.out.below HW1.out)).mono ?_
    rintro e w2 ⟨rfl, hB2⟩
    have HW2 := Lib.hid (HW1.out.trans (hB2.mono HW1.out.size))
    go_wp2_with fail
    go_ret
    exact ⟨rfl, HW2.out⟩
end Go.Proofs.YtdcnoegnkopfdaaDoor
