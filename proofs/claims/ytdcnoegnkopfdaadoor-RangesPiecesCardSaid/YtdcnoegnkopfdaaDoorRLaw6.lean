/- RangesPieces: for every range, length and number the statement's function returns true: the walk. -/
import Derived.Test.YtdcnoegnkopfdaaDoorRAwake
import Derived.Test.YtdcnoegnkopfdaaDoorRPcs
import Derived.Test.YtdcnoegnkopfdaaDoorRCover
import Derived.Test.YtdcnoegnkopfdaaDoorIs
import Derived.Deep.RegionHeld3
namespace Go.Proofs.YtdcnoegnkopfdaaDoor
open Go.RowKit

theorem nat_take {la : List Nat} {k : Nat} {p : Nat} (hp : la[k]? = some p) : la.take (k + 1) = la.take k ++ [p] := by rw [List.take_add_one, hp]; rfl
set_option maxHeartbeats 2000000 in
set_option maxRecDepth 100000 in
theorem ints_same (va vb : Value) (l : List Nat) (w : World) (ha : ReadsN w va l) (hb : ReadsN w vb l) (hl : l.length ≤ 1000000) :
    Calls Tryd.prog 30 #[va, vb] w fun e w' => e = .returned (.bool true) ∧ ∃ n, w' = w.drewN n := by
  obtain ⟨ao, ca, rfl, hca⟩ := ha
  obtain ⟨bo, cb, rfl, hcb⟩ := hb
  have h0 : ((l.length : Int) != (l.length : Int)) = false := by simp
  have HA := Lib.hid hca
  have HB := Lib.hid hcb
  clear hca hcb
  go_enter Tryd.func30, Tryd.ntmps30
  go_wp2
  go_loopw [13] (fun i wr => ∃ k n : Nat, i = .int .i64 k ∧ k ≤ l.length ∧ wr = w.drewN n) (fun i _ => l.length - (intOf i).toNat)
  case atStart => exact ⟨0, 0, rfl, Nat.zero_le _, rfl⟩
  case round =>
    obtain ⟨k, n, rfl, hk, rfl⟩ := hrel
    by_cases hlt : k < l.length
    · obtain ⟨p, hp⟩ : ∃ p, l[k]? = some p := ⟨l[k], by simp [hlt]⟩
      obtain ⟨g, off, rfl, hg, hc1⟩ := HA.out k p hp
      obtain ⟨g', off', rfl, hg', hd1⟩ := HB.out k p hp
      have b1 : ((p : Int) != (p : Int)) = false := by simp
      clear hp
      go_wp2
      go_quiet (fail)
      go_wp2
      go_roundw
      case rel => exact ⟨k + 1, _, by go_num, by omega, rfl⟩
      case measure => simp [intOf]; omega
    · go_wp2
      go_ret
      exact ⟨rfl, _, rfl⟩
set_option maxHeartbeats 400000 in
set_option maxRecDepth 100000 in
theorem clip9_any (n : Int) (w : World) : Calls Tryd.prog 32 #[.int .i64 n, .int .i64 0, .int .i64 65536] w fun e w' => e = .returned (.int .i64 (bodyL n)) ∧ w = w' := by
  have hmm : max 0 (min n 65536) = bodyL n := by unfold bodyL; omega
  go_enter Tryd.func32, Tryd.ntmps32
  go_wp2
  go_ret
  exact ⟨by first | rfl | rw [hmm], rfl⟩
theorem bel_allocP {Z w : World} {o : Obj} (h : Below Z.heap.size Z w) : Below Z.heap.size Z (w.alloc o) := h.alloc h.size o
def LRel (n : Int) (ns : List Nat) (w : World) (v i : Value) (wr : World) : Prop :=
  ∃ k : Nat, i = .int .i64 k ∧ k ≤ ns.length ∧ OwnsI 46 w.heap.size wr v (pcsR n (ns.take k)) ∧ Below w.heap.size w wr
theorem pcs_snoc (n : Int) (l : List Nat) (k : Nat) : pcsR n (l ++ [k]) = pcsR n l ++ [((k : Int) * 256, min (((k : Int) + 1) * 256) (bodyL n))] := by unfold pcsR; simp
set_option maxHeartbeats 8000000 in
set_option maxRecDepth 100000 in
theorem pieces_walk (r : Rg) (n i : Int) (w : World) (hM : MaxIs w) (hi1 : i ≤ 9223372036854775807) :
    Calls Tryd.prog 8 #[rgV r, .int .i64 n, .int .i64 i] w fun e w' => e = .returned (.bool true) ∧ Below w.heap.size w w' := by
  obtain ⟨i0, hi, hz0, hz1, hz2⟩ := info_parts Tryd.infoR
  have HM := Lib.hid hM
  have HCOV := Lib.hid (pieces_cover r n)
  have HPO := Lib.hid (fun k => @piece_of r n k)
  have HPS := Lib.hid (fun (w : World) => pieces_any r n w)
  have HRPS := Lib.hid (fun (w : World) => refPieces_any r n w)
  have HP := Lib.hid (fun (w : World) => piece_any i n w)
  have HRP := Lib.hid (fun (w : World) => refPiece_any i n w hi1)
  have HPK := Lib.hid (fun (k : Nat) (w : World) => piece_any (k : Int) n w)
  have HCL := Lib.hid (fun (w : World) => clip9_any n w)
  obtain ⟨a, b⟩ := r
  clear hM
  go_enter Tryd.func8, Tryd.ntmps8
  go_wp2_with fail
  refine (awake9_any _ (HM.out.alloc _)).mono ?_
  rintro e w1 ⟨rfl, hB⟩
  have HT3 := Lib.hid ((twoI_new w a b 43).below hB)
  have HW1 := Lib.hid ((below_new w (.cells #[.int .i64 a, .int .i64 b] 43)).trans (hB.mono (by simp)))
  obtain ⟨c0, c1, f0, f1, hN⟩ := HT3.out
  clear hB
  go_wp2_with fail
  refine (HPS.out _).mono ?_
  rintro e w2 ⟨v, rfl, hv, hvl, hB⟩
  have HC2 := Lib.hid ((below_new w1 (.cells #[.int .i64 a, .int .i64 b] 46)).trans (hB.mono (by simp)))
  have HW2 := Lib.hid (HW1.out.trans (HC2.out.mono HW1.out.size))
  have HT3 := Lib.hid (HT3.out.below HC2.out)
  have HV := Lib.hid hv
  clear hB c0 c1 f0 f1 hN hv
  go_wp2_with fail
  refine (HP.out _).mono ?_
  rintro e w3 ⟨he, hB⟩
  have HC3 := Lib.hid hB
  have HW3 := Lib.hid (HW2.out.trans (hB.mono HW2.out.size))
  clear hB
  have HRP3 := Lib.hid (fun (w : World) => HRP.out w)
  cases hp : pieceR i n with
  | none =>
    rw [hp] at he HRP3
    unfold pcV at he
    unfold pcT at HRP3
    subst he
    clear hp
    go_wp2_with fail
    refine (HRP3.out _).mono ?_
    rintro e w4 ⟨rfl, hB⟩
    have HC4 := Lib.hid ((below_new w3 (.cells #[.int .i64 0, .int .i64 0] 46)).trans (hB.mono (by simp)))
    have HT9 := Lib.hid ((twoI_new w3 0 0 46).below hB)
    have HT3 := Lib.hid ((HT3.out.below HC3.out).below HC4.out)
    have HW4 := Lib.hid (HW3.out.trans (HC4.out.mono HW3.out.size))
    obtain ⟨c0, c1, f0, f1, hN⟩ := HT3.out.below (below_new w4 (.cells #[.int .i64 0, .int .i64 0] 43))
    obtain ⟨c2, c3, f2, f3, hN3⟩ := HT3.out
    clear hB
    go_wp2_with fail
    refine (HRPS.out _).mono ?_
    rintro e w5 ⟨u, rfl, hu, _, hB⟩
    have HC5 := Lib.hid ((below_new w4 (.cells #[.int .i64 0, .int .i64 0] 43)).trans (hB.mono (by simp)))
    have HT11 := Lib.hid ((twoI_new w4 0 0 43).below hB)
    have HT9 := Lib.hid (HT9.out.below HC5.out)
    have HT3 := Lib.hid (HT3.out.below HC5.out)
    have HW5 := Lib.hid (HW4.out.trans (HC5.out.mono HW4.out.size))
    have HV5 := Lib.hid (((HV.out.below HC3.out).below HC4.out).below HC5.out)
    have HU := Lib.hid hu
    clear hB hu c0 c1 f0 f1 hN c2 c3 f2 f3 hN3
    go_wp2_with fail
    refine (ints_same _ _ _ _ HV5.out HU.out (by omega)).mono ?_
    rintro e w' ⟨rfl, m, rfl⟩
    have HT11 := Lib.hid (HT11.out.drewN m)
    have HT9 := Lib.hid (HT9.out.drewN m)
    have HT3 := Lib.hid (HT3.out.drewN m)
    have HV6 := Lib.hid (HV5.out.below (below_drewN (Below.refl _ _) m))
    have HW6 := Lib.hid (below_drewN HW5.out m)
    generalize w5.drewN m = W at *
    obtain ⟨c0, c1, f0, f1, hN⟩ := HT9.out
    obtain ⟨d0, d1, g0, g1, hN2⟩ := HT11.out
    have b1 : ((0 : Int) != 0) = false := by simp
    have b2 : ((0 : Int) != 0) = false := by simp
    obtain ⟨vo, vc, rfl, hvc⟩ := HV6.out
    have HVC := Lib.hid hvc
    clear hvc
    go_wp2_with fail
    refine (is_errno 1 (by decide) _).mono ?_
    rintro e w' ⟨rfl, rfl⟩
    go_wp2_with fail
    clear c0 c1 f0 f1 hN d0 d1 g0 g1 hN2 b1 b2
    go_loopw [13, 78] (fun v i wr => LRel n (piecesR (a, b) n) W v i wr) (fun _ i _ => (piecesR (a, b) n).length - (intOf i).toNat)
    case atStart => exact ⟨0, rfl, Nat.zero_le _, OwnsI.nil _ _ _, Below.refl _ _⟩
    case round =>
      obtain ⟨k, rfl, hk, hO, hBr⟩ := hrel
      have hbr := hBr.size
      have HBR := Lib.hid hBr
      clear hBr
      by_cases hlt : k < (piecesR (a, b) n).length
      · obtain ⟨q, hq⟩ : ∃ q, (piecesR (a, b) n)[k]? = some q := ⟨(piecesR (a, b) n)[k], by simp [hlt]⟩
        obtain ⟨g, off, rfl, hg, hc1⟩ := HVC.out k q hq
        have hd1 := (HBR.out.cell (p := ⟨g, off + k, none⟩) hg).trans hc1
        have HPQ := Lib.hid (HPO.out q (List.mem_of_getElem? hq)).1
        have HTK := Lib.hid (nat_take hq)
        have HPKQ := Lib.hid (fun (w : World) => HPK.out q w)
        rw [HPQ.out] at HPKQ
        unfold pcV at HPKQ
        clear hq hc1
        go_wp2_with fail
        refine (HPKQ.out _).mono ?_
        rintro e wk ⟨rfl, hB⟩
        have hOk := hO.below hB
        have hbk := hB.size
        have HBk := Lib.hid (HBR.out.trans (hB.mono hbr))
        have hfl := flatI_len (pcsR n ((piecesR (a, b) n).take k))
        have hpl : (pcsR n ((piecesR (a, b) n).take k)).length ≤ 257 := by unfold pcsR; simp; omega
        clear hB hO
        obtain ⟨qx, hqx⟩ : ∃ z, (q : Int) * 256 = z := ⟨_, rfl⟩
        obtain ⟨qy, hqy⟩ : ∃ z, min (((q : Int) + 1) * 256) (bodyL n) = z := ⟨_, rfl⟩
        rw [hqx, hqy]
        have HQX := Lib.hid hqx
        have HQY := Lib.hid hqy
        clear hqx hqy
        go_wp2_with (at_builtin; go_must (refine wpList_append_own _ rfl _ _ 23 rfl W.heap.size 46 i0 (.agg #[.int .i64 0, .int .i64 0]) 2 16 Tryd.underlying23 hi hz0 hz1 hz2 rfl (by decide) _ _ _ rfl (World.ownsRow.alloc (World.ownsRow.alloc hOk _) _) ⟨wk.heap.size + 1, 0, none⟩ 1 1 [.int .i64 qx, .int .i64 qy] rfl rfl (new_rg2 wk _ qx qy _) (fun u hu => by simp at hu; rcases hu with rfl | rfl <;> rfl) (by unfold maxLen; omega) (by omega) (by simp; omega) ?_); intro v' w7 hown' hgrow _)
        go_roundw
        case rel => exact ⟨k + 1, by go_num, by omega, by rw [HTK.out, pcs_snoc, HQX.out, HQY.out]; exact OwnsI.snoc hown', below_appendI (HBk.out.alloc (by omega) _) (by simp; omega) (Below.refl _ _) (World.ownsRow.alloc hOk _) hgrow⟩
        case measure => simp [intOf]; omega
      · have hall := List.take_of_length_le (show (piecesR (a, b) n).length ≤ k by omega)
        rw [hall] at hO
        have HO := Lib.hid hO
        have HTR := Lib.hid (HT3.out.below HBR.out)
        have HWR := Lib.hid (HW6.out.trans (HBR.out.mono HW6.out.size))
        obtain ⟨c0, c1, f0, f1, hN⟩ := HTR.out
        clear hall hO
        have HCV := Lib.hid (fun (w' : World) (h : Below wr.heap.size wr w') => cover_any _ _ _ (max a 0, min b (bodyL n)) w' (HO.out.below h) (by unfold pcsR; simp; omega))
        have HCOV2 := Lib.hid (show ∀ i, inR (max a 0, min b (bodyL n)) i → hasR (pcsR n (piecesR (a, b) n)) i from fun i h => HCOV.out i h)
        generalize bodyL n = L at *
        clear hvl
        go_wp2_with fail
        have hS : (wr.drew).cell? ⟨w.heap.size, 0, none⟩ = some (.int .i64 a) ∧ (wr.drew).cell? ⟨w.heap.size, 1, none⟩ = some (.int .i64 b) := ⟨c0, c1⟩
        generalize hNN : w.heap.size = NN at *
        have n0 := World.new_ne wr _ c0
        have n1 := World.new_ne wr _ c1
        clear f0 f1
        go_region_held3 (fun w' => w'.cell? ⟨NN, 0, none⟩ = some (.int .i64 a) ∧ w'.cell? ⟨NN, 1, none⟩ = some (.int .i64 b))
          (first | (with_reducible exact hS) | go_keep)
          ((go_at_call 32; refine (HCL.out _).mono ?_; rintro e w' ⟨rfl, rfl⟩))
        all_goals clear n0 n1 hS
        all_goals go_wp2_with fail
        all_goals
          refine (HCV.out _ (by (repeat' (first | exact Below.refl _ _ | (with_reducible apply bel_allocP) | (with_reducible apply Below.drew) | (with_reducible apply below_drewN))))).mono ?_
          rintro e w9 ⟨bb, rfl, hbb, hB9⟩
          have hbt := hbb.mpr HCOV2.out
          subst hbt
          go_wp2_with fail
          go_ret
          subst hNN
          exact ⟨rfl, HWR.out.trans ((Below.trans (by (repeat' (first | exact Below.refl _ _ | (with_reducible apply bel_allocP) | (with_reducible apply Below.drew) | (with_reducible apply below_drewN)))) (hB9.mono (by simp))).mono HWR.out.size)⟩
  | some p =>
    obtain ⟨c, d⟩ := p
    rw [hp] at he HRP3
    unfold pcV at he
    unfold pcT at HRP3
    subst he
    clear hp
    go_wp2_with fail
    refine (HRP3.out _).mono ?_
    rintro e w4 ⟨rfl, hB⟩
    have HC4 := Lib.hid ((below_new w3 (.cells #[.int .i64 c, .int .i64 d] 46)).trans (hB.mono (by simp)))
    have HT9 := Lib.hid ((twoI_new w3 c d 46).below hB)
    have HT3 := Lib.hid ((HT3.out.below HC3.out).below HC4.out)
    have HW4 := Lib.hid (HW3.out.trans (HC4.out.mono HW3.out.size))
    obtain ⟨c0, c1, f0, f1, hN⟩ := HT3.out.below (below_new w4 (.cells #[.int .i64 c, .int .i64 d] 43))
    obtain ⟨c2, c3, f2, f3, hN3⟩ := HT3.out
    clear hB
    go_wp2_with fail
    refine (HRPS.out _).mono ?_
    rintro e w5 ⟨u, rfl, hu, _, hB⟩
    have HC5 := Lib.hid ((below_new w4 (.cells #[.int .i64 c, .int .i64 d] 43)).trans (hB.mono (by simp)))
    have HT11 := Lib.hid ((twoI_new w4 c d 43).below hB)
    have HT9 := Lib.hid (HT9.out.below HC5.out)
    have HT3 := Lib.hid (HT3.out.below HC5.out)
    have HW5 := Lib.hid (HW4.out.trans (HC5.out.mono HW4.out.size))
    have HV5 := Lib.hid (((HV.out.below HC3.out).below HC4.out).below HC5.out)
    have HU := Lib.hid hu
    clear hB hu c0 c1 f0 f1 hN c2 c3 f2 f3 hN3
    go_wp2_with fail
    refine (ints_same _ _ _ _ HV5.out HU.out (by omega)).mono ?_
    rintro e w' ⟨rfl, m, rfl⟩
    have HT11 := Lib.hid (HT11.out.drewN m)
    have HT9 := Lib.hid (HT9.out.drewN m)
    have HT3 := Lib.hid (HT3.out.drewN m)
    have HV6 := Lib.hid (HV5.out.below (below_drewN (Below.refl _ _) m))
    have HW6 := Lib.hid (below_drewN HW5.out m)
    generalize w5.drewN m = W at *
    obtain ⟨c0, c1, f0, f1, hN⟩ := HT9.out
    obtain ⟨d0, d1, g0, g1, hN2⟩ := HT11.out
    have b1 : ((c : Int) != c) = false := by simp
    have b2 : ((d : Int) != d) = false := by simp
    obtain ⟨vo, vc, rfl, hvc⟩ := HV6.out
    have HVC := Lib.hid hvc
    clear hvc
    go_wp2_with fail
    clear c0 c1 f0 f1 hN d0 d1 g0 g1 hN2 b1 b2
    go_loopw [13, 78] (fun v i wr => LRel n (piecesR (a, b) n) W v i wr) (fun _ i _ => (piecesR (a, b) n).length - (intOf i).toNat)
    case atStart => exact ⟨0, rfl, Nat.zero_le _, OwnsI.nil _ _ _, Below.refl _ _⟩
    case round =>
      obtain ⟨k, rfl, hk, hO, hBr⟩ := hrel
      have hbr := hBr.size
      have HBR := Lib.hid hBr
      clear hBr
      by_cases hlt : k < (piecesR (a, b) n).length
      · obtain ⟨q, hq⟩ : ∃ q, (piecesR (a, b) n)[k]? = some q := ⟨(piecesR (a, b) n)[k], by simp [hlt]⟩
        obtain ⟨g, off, rfl, hg, hc1⟩ := HVC.out k q hq
        have hd1 := (HBR.out.cell (p := ⟨g, off + k, none⟩) hg).trans hc1
        have HPQ := Lib.hid (HPO.out q (List.mem_of_getElem? hq)).1
        have HTK := Lib.hid (nat_take hq)
        have HPKQ := Lib.hid (fun (w : World) => HPK.out q w)
        rw [HPQ.out] at HPKQ
        unfold pcV at HPKQ
        clear hq hc1
        go_wp2_with fail
        refine (HPKQ.out _).mono ?_
        rintro e wk ⟨rfl, hB⟩
        have hOk := hO.below hB
        have hbk := hB.size
        have HBk := Lib.hid (HBR.out.trans (hB.mono hbr))
        have hfl := flatI_len (pcsR n ((piecesR (a, b) n).take k))
        have hpl : (pcsR n ((piecesR (a, b) n).take k)).length ≤ 257 := by unfold pcsR; simp; omega
        clear hB hO
        obtain ⟨qx, hqx⟩ : ∃ z, (q : Int) * 256 = z := ⟨_, rfl⟩
        obtain ⟨qy, hqy⟩ : ∃ z, min (((q : Int) + 1) * 256) (bodyL n) = z := ⟨_, rfl⟩
        rw [hqx, hqy]
        have HQX := Lib.hid hqx
        have HQY := Lib.hid hqy
        clear hqx hqy
        go_wp2_with (at_builtin; go_must (refine wpList_append_own _ rfl _ _ 23 rfl W.heap.size 46 i0 (.agg #[.int .i64 0, .int .i64 0]) 2 16 Tryd.underlying23 hi hz0 hz1 hz2 rfl (by decide) _ _ _ rfl (World.ownsRow.alloc (World.ownsRow.alloc hOk _) _) ⟨wk.heap.size + 1, 0, none⟩ 1 1 [.int .i64 qx, .int .i64 qy] rfl rfl (new_rg2 wk _ qx qy _) (fun u hu => by simp at hu; rcases hu with rfl | rfl <;> rfl) (by unfold maxLen; omega) (by omega) (by simp; omega) ?_); intro v' w7 hown' hgrow _)
        go_roundw
        case rel => exact ⟨k + 1, by go_num, by omega, by rw [HTK.out, pcs_snoc, HQX.out, HQY.out]; exact OwnsI.snoc hown', below_appendI (HBk.out.alloc (by omega) _) (by simp; omega) (Below.refl _ _) (World.ownsRow.alloc hOk _) hgrow⟩
        case measure => simp [intOf]; omega
      · have hall := List.take_of_length_le (show (piecesR (a, b) n).length ≤ k by omega)
        rw [hall] at hO
        have HO := Lib.hid hO
        have HTR := Lib.hid (HT3.out.below HBR.out)
        have HWR := Lib.hid (HW6.out.trans (HBR.out.mono HW6.out.size))
        obtain ⟨c0, c1, f0, f1, hN⟩ := HTR.out
        clear hall hO
        have HCV := Lib.hid (fun (w' : World) (h : Below wr.heap.size wr w') => cover_any _ _ _ (max a 0, min b (bodyL n)) w' (HO.out.below h) (by unfold pcsR; simp; omega))
        have HCOV2 := Lib.hid (show ∀ i, inR (max a 0, min b (bodyL n)) i → hasR (pcsR n (piecesR (a, b) n)) i from fun i h => HCOV.out i h)
        generalize bodyL n = L at *
        clear hvl
        go_wp2_with fail
        have hS : (wr.drew).cell? ⟨w.heap.size, 0, none⟩ = some (.int .i64 a) ∧ (wr.drew).cell? ⟨w.heap.size, 1, none⟩ = some (.int .i64 b) := ⟨c0, c1⟩
        generalize hNN : w.heap.size = NN at *
        have n0 := World.new_ne wr _ c0
        have n1 := World.new_ne wr _ c1
        clear f0 f1
        go_region_held3 (fun w' => w'.cell? ⟨NN, 0, none⟩ = some (.int .i64 a) ∧ w'.cell? ⟨NN, 1, none⟩ = some (.int .i64 b))
          (first | (with_reducible exact hS) | go_keep)
          ((go_at_call 32; refine (HCL.out _).mono ?_; rintro e w' ⟨rfl, rfl⟩))
        all_goals clear n0 n1 hS
        all_goals go_wp2_with fail
        all_goals
          refine (HCV.out _ (by (repeat' (first | exact Below.refl _ _ | (with_reducible apply bel_allocP) | (with_reducible apply Below.drew) | (with_reducible apply below_drewN))))).mono ?_
          rintro e w9 ⟨bb, rfl, hbb, hB9⟩
          have hbt := hbb.mpr HCOV2.out
          subst hbt
          go_wp2_with fail
          go_ret
          subst hNN
          exact ⟨rfl, HWR.out.trans ((Below.trans (by (repeat' (first | exact Below.refl _ _ | (with_reducible apply bel_allocP) | (with_reducible apply Below.drew) | (with_reducible apply below_drewN)))) (hB9.mono (by simp))).mono HWR.out.size)⟩
end Go.Proofs.YtdcnoegnkopfdaaDoor
