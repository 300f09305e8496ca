/- What the statements' few and awake return. -/
import Derived.Test.YtkpeaghbacoehaaGreatDoorYState
import Derived.Test.YtkpeaghbacoehaaGreatDoorFSmall
namespace Go.Proofs.YtkpeaghbacoehaaGreatDoor
open Go.RowKit

def fewB (ps : Flds) : Bool := decide (ps.length ≤ 20 ∧ totL ps ≤ 3000)
theorem few_yes {ps : Flds} (h : fewB ps = true) : ps.length ≤ 20 ∧ ∀ p ∈ ps, p.1.length + p.2.length ≤ 3000 := by
  have := of_decide_eq_true h
  exact ⟨this.1, fun p hp => Nat.le_trans (tot_mem hp) this.2⟩
theorem fit_of {ps : Flds} (h : ps.length ≤ 30) (hb : ∀ p ∈ ps, p.1.length + p.2.length ≤ 3000) : FitY ps := by
  refine ⟨by omega, fun p hp => by have := hb p hp; omega, fun n => ?_⟩
  have h1 := getL_len (allL ps n) 3000 (fun l hl => by
    obtain ⟨p, hp, rfl⟩ := List.mem_map.mp hl
    have := hb p (List.mem_filter.mp hp).1
    omega)
  have h2 := all_len ps n
  have h3 : (allL ps n).length * (3000 + 2) ≤ 30 * (3000 + 2) := Nat.mul_le_mul_right _ (by omega)
  unfold valF
  omega
set_option maxHeartbeats 1000000 in
set_option maxRecDepth 100000 in
theorem few_any (lv : Value) (ps : Flds) (w : World) (hr : ReadsQ w lv ps) (hl : ps.length ≤ 9223372036854775807) (hb : ∀ p ∈ ps, p.1.length ≤ 140737488355328 ∧ p.2.length ≤ 140737488355328) :
    Calls Tryz.prog 23 #[lv] w fun e w' => e = .returned (.bool (fewB ps)) ∧ Below w.heap.size w w' := by
  obtain ⟨ao, cap, rfl, hc⟩ := hr
  have hs := tot_le hb
  have HC := Lib.hid hc
  have HBig := Lib.hid hb
  have HS := Lib.hid hs
  clear hc hb hs
  by_cases h20 : ps.length ≤ 20
  · go_enter Tryz.func23, Tryz.ntmps23
    go_wp2_with fail
    go_loopw [3, 8] (fun v i wr => ∃ k : Nat, i = .int .i64 k ∧ k ≤ ps.length ∧ v = .int .i64 (totL (ps.take k)) ∧ Below w.heap.size w wr) (fun _ i _ => ps.length - (intOf i).toNat)
    case atStart => exact ⟨0, rfl, Nat.zero_le _, rfl, Below.refl _ _⟩
    case round =>
      obtain ⟨k, rfl, hk, rfl, hBr⟩ := hrel
      have hbr := hBr.size
      have hsk : totL (ps.take k) ≤ 20 * (140737488355328 + 140737488355328) := Nat.le_trans (HS.out k) (Nat.mul_le_mul_right _ (by omega))
      by_cases hlt : k < ps.length
      · obtain ⟨p, hp⟩ : ∃ p, ps[k]? = some p := ⟨ps[k], by simp [hlt]⟩
        obtain ⟨g, off, rfl, hg1, h1, h2⟩ := HC.out k p hp
        have hc1 : wr.cell? ⟨g, off + k * 2, none⟩ = some (.string (strB p.1)) := (hBr.cell (p := ⟨g, off + k * 2, none⟩) hg1).trans h1
        have hc2 : wr.cell? ⟨g, off + k * 2 + 1, none⟩ = some (.string (strB p.2)) := (hBr.cell (p := ⟨g, off + k * 2 + 1, none⟩) hg1).trans h2
        have hpl := HBig.out p (List.mem_of_getElem? hp)
        have e1 : (strB p.1).size = p.1.length := strB_size _
        have e2 : (strB p.2).size = p.2.length := strB_size _
        have hm := tot_more hp
        have HM := Lib.hid hm
        clear hp h1 h2 hm
        go_wp2
        go_roundw
        case rel => exact ⟨k + 1, by go_num, by omega, by rw [HM.out]; congr 1, hBr.alloc hbr _⟩
        case measure => simp [intOf]; omega
      · have htk : ps.take k = ps := List.take_of_length_le (by omega)
        rw [htk] at hsk ⊢
        go_wp2_with fail
        go_ret
        refine ⟨ret_bool ?_, hBr⟩
        unfold fewB
        by_cases h6 : totL ps ≤ 3000
        · rw [decide_eq_true (show ps.length ≤ 20 ∧ totL ps ≤ 3000 from ⟨h20, h6⟩), decide_eq_true (by omega)]
        · rw [decide_eq_false (fun h : ps.length ≤ 20 ∧ totL ps ≤ 3000 => h6 h.2), decide_eq_false (by omega)]
  · have hsm : fewB ps = false := decide_eq_false fun h => h20 h.1
    rw [hsm]
    go_enter Tryz.func23, Tryz.ntmps23
    go_wp2_with fail
    go_loopw [3, 8] (fun v i wr => ∃ (k : Nat) (z : Int), i = .int .i64 k ∧ k ≤ ps.length ∧ v = .int .i64 z ∧ Below w.heap.size w wr) (fun _ i _ => ps.length - (intOf i).toNat)
    case atStart => exact ⟨0, 0, rfl, Nat.zero_le _, rfl, Below.refl _ _⟩
    case round =>
      obtain ⟨k, z, rfl, hk, rfl, hBr⟩ := hrel
      have hbr := hBr.size
      by_cases hlt : k < ps.length
      · obtain ⟨p, hp⟩ : ∃ p, ps[k]? = some p := ⟨ps[k], by simp [hlt]⟩
        obtain ⟨g, off, rfl, hg1, h1, h2⟩ := HC.out k p hp
        have hc1 : wr.cell? ⟨g, off + k * 2, none⟩ = some (.string (strB p.1)) := (hBr.cell (p := ⟨g, off + k * 2, none⟩) hg1).trans h1
        have hc2 : wr.cell? ⟨g, off + k * 2 + 1, none⟩ = some (.string (strB p.2)) := (hBr.cell (p := ⟨g, off + k * 2 + 1, none⟩) hg1).trans h2
        have hpl := HBig.out p (List.mem_of_getElem? hp)
        have e1 : (strB p.1).size = p.1.length := strB_size _
        have e2 : (strB p.2).size = p.2.length := strB_size _
        clear hp h1 h2
        go_wp2
        go_roundw
        case rel => exact ⟨k + 1, _, by go_num, by omega, rfl, hBr.alloc hbr _⟩
        case measure => simp [intOf]; omega
      · go_wp2_with fail
        go_ret
        exact ⟨rfl, hBr⟩

def exP : Flds := [(nIN, [87, 47, 34, 97, 34])]
def exS : StV := ⟨true, true, false, (false, [97]), 0⟩
theorem exFit : FitY exP := fit_of (by decide) (by decide)
theorem exRead : readTL [87, 47, 34, 97, 34] = some (true, [97]) := by decide
theorem exNone (n : List UInt8) (h : lowS nIN ≠ lowS n) : valF exP n = [] := by
  have : allL exP n = [] := by
    unfold allL exP
    rw [List.filter_cons_of_neg (by unfold ofN; simpa using h)]; rfl
  unfold valF; rw [this]; rfl
theorem exEval : evalL mGET exP exS none none = 2 := by decide
theorem exReads (w : World) (T : TypeId) (N : Nat) (hN : N = w.heap.size) : ReadsQ (w.alloc (.cells #[.string ⟨#[105, 102, 45, 110, 111, 110, 101, 45, 109, 97, 116, 99, 104]⟩, .string ⟨#[87, 47, 34, 97, 34]⟩] T)) (.slice (some ⟨N, 0, none⟩) 1 1) exP := by
  subst hN
  refine ⟨_, 1, rfl, fun j p hj => ⟨w.heap.size, 0, rfl, by simp, ?_, ?_⟩⟩
  all_goals
    have hj0 : j = 0 := by
      have : j < exP.length := (List.getElem?_eq_some_iff.mp hj).1
      simp [exP] at this; exact this
    subst hj0
    simp only [exP, List.getElem?_cons_zero, Option.some.injEq] at hj
    subst hj
    rw [World.cell?_alloc_at _ _ _ _ rfl]; rfl
set_option maxHeartbeats 4000000 in
set_option maxRecDepth 100000 in
theorem awakeY_any (w : World) (hE : EnvY w) :
    Calls Tryz.prog 11 #[] w fun e w' => e = .returned (.bool true) ∧ Below w.heap.size w w' := by
  have HE := Lib.hid hE
  have HR := Lib.hid (fun (w : World) (hM : MaxIs w) => readTag_any [87, 47, 34, 97, 34] w hM (by decide))
  rw [exRead] at HR
  unfold tgO at HR
  have HV := Lib.hid (fun (fv : Value) (w : World) (hr : ReadsQ w fv exP) (hE : EnvY w) => evaluate_any mGET fv exP exS none none w hr exFit (by rw [exNone nIU (by decide)]; exact date_nil) (by rw [exNone nIS (by decide)]; exact date_nil) hE)
  rw [exEval] at HV
  have HV2 : Hid (∀ (fv : Value) (w : World), ReadsQ w fv exP → EnvY w → Calls Tryz.prog 25 #[.string ⟨#[71, 69, 84]⟩, fv, .agg #[.bool true, .bool true, .bool false, .bool false, .string ⟨#[97]⟩, .int .i64 0]] w fun e w' => e = .returned (.int .i64 2) ∧ Below w.heap.size w w') := HV
  clear HV
  clear hE
  go_enter Tryz.func11, Tryz.ntmps11
  go_wp2_with fail
  refine (HR.out _ HE.out.1).mono ?_
  rintro e w1 ⟨rfl, hB1⟩
  have HB1 := Lib.hid hB1
  obtain ⟨c0, c1, f0, f1, hN⟩ := twoT_new w1 true [97] 29
  clear hB1
  have e97 : ((strB [97]).toList == [97]) = true := by rw [meth_any]; decide
  go_wp2_with fail
  have hW := (below_newY w1 (.cells #[.bool true, .string (strB [97])] 29) (.cells #[.bool true, .bool true, .bool false, .bool false, .string ⟨#[97]⟩, .int .i64 0] 61)).alloc (by simp; omega) (.cells #[.string ⟨#[105, 102, 45, 110, 111, 110, 101, 45, 109, 97, 116, 99, 104]⟩, .string ⟨#[87, 47, 34, 97, 34]⟩] 72)
  have hW2 := HB1.out.trans (hW.mono HB1.out.size)
  have hX := exReads ((w1.alloc (.cells #[.bool true, .string (strB [97])] 29)).alloc (.cells #[.bool true, .bool true, .bool false, .bool false, .string ⟨#[97]⟩, .int .i64 0] 61)) 72 (w1.heap.size + 2) (by simp)
  refine (HV2.out _ _ hX (HE.out.below hW2)).mono ?_
  rintro e w2 ⟨rfl, hB2⟩
  go_wp2_with fail
  go_ret
  exact ⟨rfl, hW2.trans (hB2.mono hW2.size)⟩
end Go.Proofs.YtkpeaghbacoehaaGreatDoor
