/- HeadAnswers: for every response the statement's function returns true: the walk. -/
import Derived.Test.YtboemdhmmdcmpaaDoorGRefWResp
import Derived.Test.YtboemdhmmdcmpaaDoorGRespO
import Derived.Test.YtboemdhmmdcmpaaDoorGAwake
import Derived.Test.YtboemdhmmdcmpaaDoorNum
import Derived.Deep.RegionHeld3
import Derived.Test.YtboemdhmmdcmpaaDoorAMax
namespace Go.Proofs.YtboemdhmmdcmpaaDoor
open Go.RowKit

theorem numE_any (c : Nat) (w : World) : Calls Tryd.prog 13 #[errV c] w fun e w' => e = .returned (.int .i64 (c : Int)) ∧ w = w' := by
  unfold errV
  by_cases h : c = 0
  · rw [if_pos h, h]; exact num_nil w
  · rw [if_neg h]; exact num_errno _ w
theorem conv_nilE (W : World) : (convert 27 9 (.slice none 0 0)).run Tryd.prog W = .ok (.string (strB [])) W := by
  simp [convert, go_sem, Tryd.underlying27, Tryd.underlying9, Tryd.underlying5]
  rfl
/-- The bytes at v, read out of a world. -/
def RB (v : Value) (b : List UInt8) (w : World) : Prop :=
  (v = .slice none 0 0 ∧ b = []) ∨ ∃ g cp, v = .slice (some ⟨g, 0, none⟩) b.length cp ∧ g < w.heap.size ∧ ∀ i (h : i < b.length), w.cell? ⟨g, i, none⟩ = some (.int .u8 ((b[i]'h).toNat : Int))
theorem RB.below {v : Value} {b : List UInt8} {w w' : World} (h : RB v b w) (hb : Below w.heap.size w w') : RB v b w' := by
  rcases h with h | ⟨g, cp, h1, h2, h3⟩
  · exact .inl h
  · exact .inr ⟨g, cp, h1, Nat.lt_of_lt_of_le h2 hb.size, fun i hi => (hb.cell (p := ⟨g, i, none⟩) h2).trans (h3 i hi)⟩
theorem RB.conv {v : Value} {b : List UInt8} {w : World} (h : RB v b w) : (convert 27 9 v).run Tryd.prog w = .ok (.string (strB b)) w := by
  rcases h with ⟨rfl, rfl⟩ | ⟨g, cp, rfl, _, h3⟩
  · exact conv_nilE w
  · exact conv_own w g cp b h3
theorem OwnsB.rb {B : Nat} {w : World} {v : Value} {b : List UInt8} (h : OwnsB B w v b) : RB v b w := by
  rcases h.isSlice with h | ⟨g, cp, h1, _, _, h4, h5⟩
  · exact .inl h
  · exact .inr ⟨g, cp, h1, h4, h5⟩
/-- What the last line's region keeps. -/
@[reducible] def AnS (N : Nat) (z : Int) (v : Value) (b : List UInt8) (s : ByteArray) (B : Nat) (w0 w' : World) : Prop :=
  w'.cell? ⟨N, 0, none⟩ = some (.int .i64 z) ∧ (convert 27 9 v).run Tryd.prog w' = .ok (.string s) w' ∧ RB v b w' ∧ N < w'.heap.size ∧ B ≤ w'.heap.size ∧ Below B w0 w'
theorem AnS.below {N : Nat} {z : Int} {v : Value} {b : List UInt8} {s : ByteArray} {B : Nat} {w0 w1 w2 : World} (hs : strB b = s) (h : AnS N z v b s B w0 w1) (hb : Below w1.heap.size w1 w2) : AnS N z v b s B w0 w2 := by
  obtain ⟨h1, _, h3, h4, h5, h6⟩ := h
  have hr := h3.below hb
  exact ⟨(hb.cell (p := ⟨N, 0, none⟩) h4).trans h1, by rw [← hs]; exact hr.conv, hr, Nat.lt_of_lt_of_le h4 hb.size, Nat.le_trans h5 hb.size, h6.trans (hb.mono h5)⟩
theorem refReason_an {N : Nat} {z : Int} {v : Value} {b : List UInt8} {s t : ByteArray} {B : Nat} {w0 w1 : World} (hs : strB b = s) (ht : strB (reasonZ z) = t) (h : AnS N z v b s B w0 w1) :
    Calls Tryd.prog 15 #[.int .i64 z] w1 fun e w' => e = .returned (.string t) ∧ AnS N z v b s B w0 w' := by
  refine (refReason_any z w1).mono ?_
  rintro e w' ⟨rfl, hB⟩
  exact ⟨by rw [ht], AnS.below hs h hB⟩
theorem reason_an (z : Int) {t : ByteArray} (ht : strB (reasonZ z) = t) (w : World) : Calls Tryd.prog 14 #[.int .i64 z] w fun e w' => e = .returned (.string t) ∧ w = w' := by
  rw [← ht]; exact reason_any z w
set_option maxHeartbeats 8000000 in
set_option maxRecDepth 100000 in
theorem answers_walk (z : Int) (v : Value) (ps : List (List UInt8 × List UInt8)) (w : World) (_hM : HasMax w) (hT : HasTab w)
    (hg : ReadsQ w v ps ∧ ps.length ≤ maxLen ∧ (∀ q ∈ ps, q.1.length ≤ 140737488355328 ∧ q.2.length ≤ 140737488355328)) :
    Calls Tryd.prog 3 #[.agg #[.int .i64 z, v]] w fun e w' => e = .returned (.bool true) ∧ Below w.heap.size w w' := by
  obtain ⟨hr, hpl, hpb⟩ := hg
  have HT := Lib.hid hT
  have HR := Lib.hid hr
  have F := Lib.hid (fun W (hr : ReadsQ W v ps) => fits_any v ps W hr (by unfold maxLen at hpl; omega) hpb)
  obtain ⟨ao, cap, rfl, hc⟩ := hr
  have hB0 : Below w.heap.size w (w.alloc (.cells #[.int .i64 z, .slice ao ps.length cap] 24)) := below_new _ _
  clear hT hc hpl hpb
  go_enter Tryd.func3, Tryd.ntmps3
  go_wp2_with fail
  refine (awake_any _ (HT.out.below hB0)).mono ?_
  rintro e w1 ⟨rfl, hB1⟩
  obtain ⟨b0, b1, bf0, bf1, bz⟩ := box_kept w hB1
  have hBx := hB0.trans (hB1.mono hB0.size)
  go_wp2_with fail
  refine (F.out _ (HR.out.below hBx)).mono ?_
  rintro e w2 ⟨rfl, hB2⟩
  have hB12 := hB1.trans (hB2.mono hB1.size)
  have hBy := hB0.trans (hB12.mono hB0.size)
  clear b0 b1 bf0 bf1 bz hB1 hB2 hBx
  obtain ⟨b0, b1, bf0, bf1, bz⟩ := box_kept w hB12
  cases hfit : fitsB ps with
  | false =>
    go_wp2_with fail
    refine (awake_any _ (HT.out.below hBy)).mono ?_
    rintro e w3 ⟨rfl, hB3⟩
    go_wp2_with fail
    go_ret
    exact ⟨rfl, hBy.trans (hB3.mono hBy.size)⟩
  | true =>
    obtain ⟨hl80, hq⟩ := fits_yes hfit
    have hb : ∀ p ∈ ps, p.1.length + p.2.length ≤ 1000000 := fun p hp => Nat.le_trans (hq p hp) (by decide)
    have Q := Lib.hid (fun W (hr : ReadsQ W (.slice ao ps.length cap) ps) => response_any z (.slice ao ps.length cap) ps W hr (by omega) hb)
    have WR := Lib.hid (fun v W (hr : ReadsQ W v ps) hT => writeResponse_any z v ps W hr hT (by omega) hb)
    have RW := Lib.hid (fun W (hr : ReadsQ W (.slice ao ps.length cap) ps) => refWriteResponse_any z (.slice ao ps.length cap) ps W hr (by omega) hb)
    unfold RespPost at WR
    unfold RefRPost at RW
    generalize wrP z ps = q at *
    obtain ⟨c, b⟩ := q
    have qb := toList_same (rfl : b = b)
    have qr := toList_same (rfl : reasonZ z = reasonZ z)
    clear hq hb hl80 hfit
    go_wp2_with fail
    refine (Q.out _ (HR.out.below hBy)).mono ?_
    rintro e w3 ⟨a3, n3, c3, rfl, hO3, hB3⟩
    have hB13 := hB12.trans (hB3.mono hB12.size)
    have hBz := hB0.trans (hB13.mono hB0.size)
    clear b0 b1 bf0 bf1 bz hB12 hB3 hBy
    have WR := WR.out _ _ hO3.q (HT.out.below hBz)
    go_wp2_with fail
    refine WR.mono ?_
    rintro e w4 ⟨v4, rfl, hO4, hB4⟩
    have hB14 := hB13.trans (hB4.mono hB13.size)
    have hBw := hB0.trans (hB14.mono hB0.size)
    clear WR hO3 hB13 hB4 hBz
    obtain ⟨b0, b1, bf0, bf1, bz⟩ := box_kept w hB14
    have RW := RW.out _ (HR.out.below hBw)
    have hRB4 : RB v4 b w4 := hO4.rb
    obtain ⟨s, hs⟩ : ∃ s, strB b = s := ⟨_, rfl⟩
    obtain ⟨t, ht⟩ : ∃ t, strB (reasonZ z) = t := ⟨_, rfl⟩
    try dsimp only at RW
    rw [hs] at RW
    go_wp2_with fail
    refine RW.mono ?_
    rintro e w5 ⟨rfl, hB5⟩
    have hRB5 := hRB4.below hB5
    have hB15 := hB14.trans (hB5.mono hB14.size)
    have hBv := hBw.trans (hB5.mono hBw.size)
    clear b0 b1 bf0 bf1 bz RW hO4 hRB4 hB14 hBw
    obtain ⟨b0, b1, bf0, bf1, bz⟩ := box_kept w hB15
    have hS5 : AnS w.heap.size z v4 b s w.heap.size w w5 := ⟨b0, by rw [← hs]; exact hRB5.conv, hRB5, bz, hBv.size, hBv⟩
    rw [hs] at qb
    rw [ht] at qr
    have RA := Lib.hid (fun (w1 : World) (h : AnS w.heap.size z v4 b s w.heap.size w w1) => refReason_an hs ht h)
    have RZ := Lib.hid (fun (w1 : World) => reason_an z ht w1)
    have hSd := AnS.below hs hS5 (Below.refl _ _).drew
    clear hB5 hB15 hBv hRB5 b0 b1 bf0 bf1 bz hB0 ht hs hS5
    go_upto_region 5 with fail
    generalize hN : w.heap.size = N at *
    go_region_held3 (fun w' => w'.cell? ⟨N, 0, none⟩ = some (.int .i64 z) ∧ (convert 27 9 v4).run Tryd.prog w' = .ok (.string s) w' ∧ RB v4 b w' ∧ N < w'.heap.size ∧ N ≤ w'.heap.size ∧ Below N w w')
      (first | (with_reducible exact hK) | (with_reducible exact hSd))
      (first
        | (go_at_call 13; refine (numE_any c _).mono ?_; rintro e w6 ⟨rfl, rfl⟩)
        | (go_at_call 14; refine (RZ.out _).mono ?_; rintro e w6 ⟨rfl, rfl⟩)
        | (go_at_call 15; refine (RA.out _ (by assumption)).mono ?_; rintro e w6 ⟨rfl, hK⟩))
    all_goals
      have hBf := hK.2.2.2.2.2
      go_wp2_with fail
      go_ret
      subst hN
      exact ⟨rfl, hBf⟩
end Go.Proofs.YtboemdhmmdcmpaaDoor
