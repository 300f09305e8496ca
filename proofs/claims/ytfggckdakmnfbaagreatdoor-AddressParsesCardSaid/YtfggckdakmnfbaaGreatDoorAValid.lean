/- What Valid, Format and Read return. -/
import Derived.Test.YtfggckdakmnfbaaGreatDoorAAwake
import Derived.Deep.RegionHeld3
import Derived.Deep.RegionWith
import Derived.Deep.DeepCutAuto
namespace Go.Proofs.YtfggckdakmnfbaaGreatDoor
open Go.RowKit

theorem parse_at {a : Adr} {B : Nat} {w wr : World} (s t : ByteArray) (hE : Env w) (hS : wr.cell? ⟨B, 0, none⟩ = some (.string (strB a.h)) ∧ wr.cell? ⟨B, 1, none⟩ = some (.string (strB a.p)) ∧ wr.cell? ⟨B, 2, none⟩ = some (.string (strB a.q)) ∧ wr.cell? ⟨B, 3, none⟩ = some (.bool a.b) ∧ B < wr.heap.size ∧ Below w.heap.size w wr) (hs : s.size ≤ maxLen) (ht : t.size ≤ 100000) {x : Adr} {ev : Value} (hv : parseV s.data.toList t.data.toList = .tuple #[adrV x, ev]) :
    Calls Tryz.prog 5 #[.string s, .string t] wr fun e w' => e = .returned (.tuple #[adrV x, ev]) ∧
      (w'.cell? ⟨B, 0, none⟩ = some (.string (strB a.h)) ∧ w'.cell? ⟨B, 1, none⟩ = some (.string (strB a.p)) ∧ w'.cell? ⟨B, 2, none⟩ = some (.string (strB a.q)) ∧ w'.cell? ⟨B, 3, none⟩ = some (.bool a.b) ∧ B < w'.heap.size ∧ Below w.heap.size w w') ∧ Below wr.heap.size wr w' := by
  refine (parse_any s t wr (hE.below hS.2.2.2.2.2) hs ht).mono ?_
  rintro e w' ⟨rfl, hB⟩
  exact ⟨by rw [hv], AdrAt.below (show AdrAt a B w wr from hS) hB, hB⟩
theorem bcell {W w1 : World} (hb : Below W.heap.size W w1) : (∀ b o, b < W.heap.size → w1.cell? ⟨b, o, none⟩ = W.cell? ⟨b, o, none⟩) ∧ (∀ b o, b < W.heap.size → w1.frozen? ⟨b, o, none⟩ = W.frozen? ⟨b, o, none⟩) :=
  ⟨fun b o h => hb.cell (p := ⟨b, o, none⟩) h, fun b o h => hb.frozen (p := ⟨b, o, none⟩) h⟩
theorem five_alloc {a : Adr} {B : Nat} {w wr : World} (hS : wr.cell? ⟨B, 0, none⟩ = some (.string (strB a.h)) ∧ wr.cell? ⟨B, 1, none⟩ = some (.string (strB a.p)) ∧ wr.cell? ⟨B, 2, none⟩ = some (.string (strB a.q)) ∧ wr.cell? ⟨B, 3, none⟩ = some (.bool a.b) ∧ B < wr.heap.size ∧ Below w.heap.size w wr) (o : Obj) :
    ((wr.alloc o).cell? ⟨B, 0, none⟩ = some (.string (strB a.h)) ∧ (wr.alloc o).cell? ⟨B, 1, none⟩ = some (.string (strB a.p)) ∧ (wr.alloc o).cell? ⟨B, 2, none⟩ = some (.string (strB a.q)) ∧ (wr.alloc o).cell? ⟨B, 3, none⟩ = some (.bool a.b) ∧ B < (wr.alloc o).heap.size ∧ Below w.heap.size w (wr.alloc o)) :=
  AdrAt.below (show AdrAt a B w wr from hS) (below_new _ _)
theorem five_drew {a : Adr} {w wr : World} (hS : wr.cell? ⟨w.heap.size, 0, none⟩ = some (.string (strB a.h)) ∧ wr.cell? ⟨w.heap.size, 1, none⟩ = some (.string (strB a.p)) ∧ wr.cell? ⟨w.heap.size, 2, none⟩ = some (.string (strB a.q)) ∧ wr.cell? ⟨w.heap.size, 3, none⟩ = some (.bool a.b) ∧ w.heap.size < wr.heap.size ∧ Below w.heap.size w wr) :
    wr.drew.cell? ⟨w.heap.size, 0, none⟩ = some (.string (strB a.h)) ∧ wr.drew.cell? ⟨w.heap.size, 1, none⟩ = some (.string (strB a.p)) ∧ wr.drew.cell? ⟨w.heap.size, 2, none⟩ = some (.string (strB a.q)) ∧ wr.drew.cell? ⟨w.heap.size, 3, none⟩ = some (.bool a.b) ∧ w.heap.size < wr.drew.heap.size ∧ Below w.heap.size w wr.drew :=
  ⟨hS.1, hS.2.1, hS.2.2.1, hS.2.2.2.1, hS.2.2.2.2.1, hS.2.2.2.2.2.drew⟩
theorem four_drew {B : Nat} {w : World} {v0 v1 v2 v3 : Value} (h : Four B w v0 v1 v2 v3) : Four B w.drew v0 v1 v2 v3 := h
theorem five_set {a : Adr} {w wr : World} {N : Nat} (hS : wr.cell? ⟨w.heap.size, 0, none⟩ = some (.string (strB a.h)) ∧ wr.cell? ⟨w.heap.size, 1, none⟩ = some (.string (strB a.p)) ∧ wr.cell? ⟨w.heap.size, 2, none⟩ = some (.string (strB a.q)) ∧ wr.cell? ⟨w.heap.size, 3, none⟩ = some (.bool a.b) ∧ w.heap.size < wr.heap.size ∧ Below w.heap.size w wr) (hN : w.heap.size < N) (v0 v1 v2 v3 : Value) :
    ((((wr.setCell ⟨N, 0, none⟩ v0).setCell ⟨N, 1, none⟩ v1).setCell ⟨N, 2, none⟩ v2).setCell ⟨N, 3, none⟩ v3).cell? ⟨w.heap.size, 0, none⟩ = some (.string (strB a.h)) ∧ ((((wr.setCell ⟨N, 0, none⟩ v0).setCell ⟨N, 1, none⟩ v1).setCell ⟨N, 2, none⟩ v2).setCell ⟨N, 3, none⟩ v3).cell? ⟨w.heap.size, 1, none⟩ = some (.string (strB a.p)) ∧ ((((wr.setCell ⟨N, 0, none⟩ v0).setCell ⟨N, 1, none⟩ v1).setCell ⟨N, 2, none⟩ v2).setCell ⟨N, 3, none⟩ v3).cell? ⟨w.heap.size, 2, none⟩ = some (.string (strB a.q)) ∧ ((((wr.setCell ⟨N, 0, none⟩ v0).setCell ⟨N, 1, none⟩ v1).setCell ⟨N, 2, none⟩ v2).setCell ⟨N, 3, none⟩ v3).cell? ⟨w.heap.size, 3, none⟩ = some (.bool a.b) ∧ w.heap.size < ((((wr.setCell ⟨N, 0, none⟩ v0).setCell ⟨N, 1, none⟩ v1).setCell ⟨N, 2, none⟩ v2).setCell ⟨N, 3, none⟩ v3).heap.size ∧ Below w.heap.size w ((((wr.setCell ⟨N, 0, none⟩ v0).setCell ⟨N, 1, none⟩ v1).setCell ⟨N, 2, none⟩ v2).setCell ⟨N, 3, none⟩ v3) := by
  obtain ⟨h0, h1, h2, h3, hB, hw⟩ := hS
  have far : ∀ j : Nat, ((((wr.setCell ⟨N, 0, none⟩ v0).setCell ⟨N, 1, none⟩ v1).setCell ⟨N, 2, none⟩ v2).setCell ⟨N, 3, none⟩ v3).cell? ⟨w.heap.size, j, none⟩ = wr.cell? ⟨w.heap.size, j, none⟩ := by
    intro j
    rw [World.cell?_setCell_far _ _ _ _ (by show N ≠ w.heap.size; omega), World.cell?_setCell_far _ _ _ _ (by show N ≠ w.heap.size; omega), World.cell?_setCell_far _ _ _ _ (by show N ≠ w.heap.size; omega), World.cell?_setCell_far _ _ _ _ (by show N ≠ w.heap.size; omega)]
  have hBl : Below w.heap.size w ((((wr.setCell ⟨N, 0, none⟩ v0).setCell ⟨N, 1, none⟩ v1).setCell ⟨N, 2, none⟩ v2).setCell ⟨N, 3, none⟩ v3) :=
    (((hw.setCell (p := ⟨N, 0, none⟩) (by show w.heap.size ≤ N; omega) _).setCell (p := ⟨N, 1, none⟩) (by show w.heap.size ≤ N; omega) _).setCell (p := ⟨N, 2, none⟩) (by show w.heap.size ≤ N; omega) _).setCell (p := ⟨N, 3, none⟩) (by show w.heap.size ≤ N; omega) _
  exact ⟨by rw [far]; exact h0, by rw [far]; exact h1, by rw [far]; exact h2, by rw [far]; exact h3, by simpa using hB, hBl⟩
theorem four_set {N : Nat} {w : World} {u0 u1 u2 u3 : Value} (h : Four N w u0 u1 u2 u3) (v0 v1 v2 v3 : Value) : Four N ((((w.setCell ⟨N, 0, none⟩ v0).setCell ⟨N, 1, none⟩ v1).setCell ⟨N, 2, none⟩ v2).setCell ⟨N, 3, none⟩ v3) v0 v1 v2 v3 := by
  obtain ⟨a0, a1, a2, a3, f0, f1, f2, f3, hB⟩ := h
  have ne : ∀ i j : Nat, i ≠ j → (⟨N, i, none⟩ : Addr) ≠ ⟨N, j, none⟩ := fun i j h e => h (by injection e)
  refine ⟨?_, ?_, ?_, ?_, by simpa using f0, by simpa using f1, by simpa using f2, by simpa using f3, by simpa using hB⟩
  all_goals simp [go_sem, a0, a1, a2, a3]
theorem valid_eq (a : Adr) : validA a = decide (parseA a.h a.target = (0, a)) := by
  by_cases h : parseA a.h a.target = (0, a)
  · rw [validA_of h, decide_eq_true h]
  · unfold validA; rw [decide_eq_false h, Bool.and_false]
theorem strL_inj {a b : List UInt8} (h : (strB a).toList = (strB b).toList) : a = b := by
  rw [ByteArray.toList_eq, ByteArray.toList_eq, strB_list, strB_list] at h; exact h
def ValRel (a x : Adr) (w : World) (u : Value) (wx : World) : Prop :=
  ∃ N, u = .pointer (some ⟨N, 0, none⟩) ∧ Four N wx (.string (strB x.h)) (.string (strB x.p)) (.string (strB x.q)) (.bool x.b) ∧ AdrAt a w.heap.size w wx
set_option maxHeartbeats 4000000 in
set_option maxRecDepth 100000 in
theorem valid_any (a : Adr) (w : World) (hE : Env w) (ha : AdrLe 10000 a) :
    Calls Tryz.prog 9 #[adrV a] w fun e w' => e = .returned (.bool (validA a)) ∧ Below w.heap.size w w' := by
  have hts := target_size ha
  have HA := Lib.hid (show AdrLe 1000000000000 a from ⟨by have := ha.1; omega, by have := ha.2.1; omega, by have := ha.2.2; omega⟩)
  have hhs : (strB a.h).size ≤ maxLen := by have := ha.1; unfold maxLen; omega
  have hF := adrAt_new a w 24
  have HE := Lib.hid hE
  clear ha hE
  obtain ⟨x, hx⟩ : ∃ x, x = (parseA a.h a.target).2 := ⟨_, rfl⟩
  obtain ⟨ev, hev⟩ : ∃ ev : Value, ev = if (parseA a.h a.target).1 = 0 then .nilIface else errA (parseA a.h a.target).1 := ⟨_, rfl⟩
  have HV := Lib.hid (show parseV (strB a.h).data.toList (strB a.target).data.toList = .tuple #[adrV x, ev] by rw [strB_list, strB_list, hx, hev]; rfl)
  have HX := Lib.hid hx
  have HEV := Lib.hid hev
  clear hx hev
  go_enter Tryz.func9, Tryz.ntmps9
  go_upto_region 1 with fail
  generalize w.alloc (.cells #[.string (strB a.h), .string (strB a.p), .string (strB a.q), .bool a.b] 24) = w0 at *
  go_cut [3, 4] (fun u3 u4 wx => u4 = ev ∧ ValRel a x w u3 wx)
  case first =>
    have hD := hF.below ((Below.refl _ _).drew)
    unfold AdrAt at hD
    have hD0 := hF
    unfold AdrAt at hD0
    have hlt := hF.2.2.2.2.1
    clear hF
    go_region_held3 (fun w' => w'.cell? ⟨w.heap.size, 0, none⟩ = some (.string (strB a.h)) ∧ w'.cell? ⟨w.heap.size, 1, none⟩ = some (.string (strB a.p)) ∧ w'.cell? ⟨w.heap.size, 2, none⟩ = some (.string (strB a.q)) ∧ w'.cell? ⟨w.heap.size, 3, none⟩ = some (.bool a.b) ∧ w.heap.size < w'.heap.size ∧ Below w.heap.size w w')
      (first | (with_reducible exact h5) | (with_reducible exact five_alloc h5 _) | (with_reducible exact hD) | (with_reducible exact five_drew (five_alloc hD0 _)) | (with_reducible exact five_set h5 (by assumption) _ _ _ _))
      (first
        | (go_at_call 20; refine (target_at (by assumption) HA.out).mono ?_; rintro e w' ⟨rfl, h5, hB⟩; have hq := h5.2.2.2.2.1; (first | ((with_reducible have HG := Lib.hid ((four_drew (four_new _ _ _ _ _ _)).below hB)); obtain ⟨g0, g1, g2, g3, f0, f1, f2, f3, hy⟩ := HG.out) | skip); have HB := Lib.hid hB; clear hB)
        | (go_at_call 5; refine (parse_at _ _ HE.out (by assumption) hhs (by omega) HV.out).mono ?_; rintro e w' ⟨rfl, h5, hB⟩; have hq2 := h5.2.2.2.2.1; (first | ((with_reducible have HG2 := Lib.hid ((four_new _ _ _ _ _ _).below hB)); obtain ⟨g0, g1, g2, g3, f0, f1, f2, f3, hy⟩ := HG2.out) | (have HG2 := Lib.hid (HG.out.below hB); obtain ⟨k0, k1, k2, k3, l0, l1, l2, l3, hy2⟩ := HG2.out) | skip); have HB2 := Lib.hid hB; clear hB))
    · go_wp2_with fail
      go_meet
      case rel => exact ⟨rfl, _, rfl, four_new _ _ _ _ _ _, AdrAt.below (show AdrAt a w.heap.size w _ from h5) (below_new _ _)⟩
    · go_wp2_with fail
      go_meet
      case rel => exact ⟨rfl, _, rfl, four_set HG2.out _ _ _ _, five_set h5 (by assumption) _ _ _ _⟩
    · go_wp2_with fail
      go_meet
      case rel => exact ⟨rfl, _, rfl, four_set HG2.out _ _ _ _, five_set h5 (by assumption) _ _ _ _⟩
  case rest =>
    obtain ⟨rfl, N, rfl, hN, hA⟩ := hcut
    obtain ⟨c0, c1, c2, c3, g0, g1, g2, g3, _⟩ := hN
    obtain ⟨d0, d1, d2, d3, hlt, hBw⟩ := hA
    by_cases hr : (parseA a.h a.target).1 = 0
    · have hev := HEV.out
      rw [if_pos hr] at hev
      subst hev
      by_cases hxa : x = a
      · have HR := Lib.hid (show validA a = true by rw [valid_eq, decide_eq_true_iff]; exact Prod.ext hr (HX.out.symm.trans hxa))
        subst hxa
        clear hr
        go_wp2_with fail
        go_ret
        exact ⟨ret_bool HR.out.symm, hBw⟩
      · have HR := Lib.hid (show validA a = false by
          rw [valid_eq, decide_eq_false_iff_not]
          intro e
          rw [HX.out, e] at hxa
          exact hxa rfl)
        have HNE := Lib.hid (show ¬ (x.h = a.h ∧ x.p = a.p ∧ x.q = a.q ∧ x.b = a.b) from fun ⟨e1, e2, e3, e4⟩ => hxa (by cases x; cases a; simp_all))
        clear hr hxa
        go_wp2_with fail
        all_goals first
          | (go_ret
             exact ⟨ret_bool HR.out.symm, hBw⟩)
          | (exact absurd ⟨strL_inj (by assumption), strL_inj (by assumption), strL_inj (by assumption), by assumption⟩ HNE.out)
    · have hev := HEV.out
      rw [if_neg hr] at hev
      have HR := Lib.hid (show validA a = false by
        rw [valid_eq, decide_eq_false_iff_not]
        intro e
        exact hr (by rw [e]))
      subst hev
      clear hr
      go_wp2_with fail
      go_ret
      exact ⟨ret_bool HR.out.symm, hBw⟩
end Go.Proofs.YtfggckdakmnfbaaGreatDoor
