/- What slices.rotate does: two parts that lie side by side, exchanged. -/
import Derived.Test.YthpjemihbobjfaaSwap
namespace Go.Proofs.Ythpjemihbobjfaa
open Go.RowKit

set_option maxHeartbeats 4000000 in
set_option maxRecDepth 100000 in
theorem rotate_any (B g n cap a m b : Nat) (cv : Value) (P U V S : Flds) (w : World) (h : OwnsP 42 B w (.slice (some ⟨g, 0, none⟩) n cap) (P ++ U ++ V ++ S))
    (ha : a = P.length) (hm : m = a + U.length) (hb : b = m + V.length) (hu : 0 < U.length) (hv : 0 < V.length) (hn : n ≤ 1000000) :
    Calls Try.prog 50 #[.slice (some ⟨g, 0, none⟩) n cap, .int .i64 a, .int .i64 m, .int .i64 b, cv] w fun e w' => e = .returned (.tuple #[]) ∧ OwnsP 42 B w' (.slice (some ⟨g, 0, none⟩) n cap) (P ++ V ++ U ++ S) ∧ Below B w w' := by
  obtain ⟨hml, hBg, hgl, hmc⟩ := own_len h
  have hmle : P.length + U.length + V.length + S.length = n := by rw [hml]; simp; omega
  have hbn : b ≤ n := by omega
  have ham : a < m := by omega
  have hmb : m < b := by omega
  -- the pieces that are still to be exchanged end and begin at m
  have h0 : ∃ L U' V' R, P ++ V ++ U ++ S = L ++ V' ++ U' ++ R ∧ OwnsP 42 B w (.slice (some ⟨g, 0, none⟩) n cap) (L ++ U' ++ V' ++ R) ∧ L.length + U'.length = m ∧ U'.length = m - a ∧ V'.length = b - m :=
    ⟨P, U, V, S, rfl, h, by omega, by omega, by omega⟩
  generalize P ++ V ++ U ++ S = D at h0
  have H0 := Lib.hid h0
  clear h hml hmle ha hm hb hu hv h0
  have i1 : (m : Int) - (a : Int) = ((m - a : Nat) : Int) := by omega
  have i2 : (b : Int) - (m : Int) = ((b - m : Nat) : Int) := by omega
  generalize hi : m - a = i at H0 i1
  generalize hj : b - m = j at H0 i2
  have hi0 : 0 < i := by omega
  have hj0 : 0 < j := by omega
  have him : i ≤ m := by omega
  have hjn : m + j ≤ n := by omega
  clear hi hj
  go_enter Try.func50, Try.ntmps50
  go_wp2_with fail
  go_loopw [10, 11] (fun u v wr => ∃ (p q : Nat), u = .int .i64 p ∧ v = .int .i64 q ∧ 0 < p ∧ 0 < q ∧ p ≤ m ∧ m + q ≤ n ∧ Below B w wr ∧
    ∃ L U' V' R, D = L ++ V' ++ U' ++ R ∧ OwnsP 42 B wr (.slice (some ⟨g, 0, none⟩) n cap) (L ++ U' ++ V' ++ R) ∧ L.length + U'.length = m ∧ U'.length = p ∧ V'.length = q) (fun u v _ => (intOf u).toNat + (intOf v).toNat)
  case atStart => exact ⟨i, j, rfl, rfl, hi0, hj0, him, hjn, Below.refl _ _, H0.out⟩
  case round =>
    obtain ⟨p, q, rfl, rfl, hp, hq, hpm, hqn, hBr, L, U', V', R, hD, hO, hl, hU, hV⟩ := hrel
    have s1 : (m : Int) - (p : Int) = ((m - p : Nat) : Int) := by omega
    by_cases hpq : p = q
    · have SR := swapRange_any B g n cap (m - p) m p cv L U' [] V' R wr (by simpa using hO) (by omega) hU (by omega) (by simp; omega) hn
      rw [List.append_nil] at SR
      have HD := Lib.hid hD
      have hpq' : ((p : Int) != (q : Int)) = false := by simp; omega
      clear hD hO hl hU hV hpq
      go_wp2_with fail
      refine SR.mono ?_
      rintro e w1 ⟨rfl, hO1, hB1⟩
      go_wp2_with fail
      go_end0
      exact ⟨rfl, by rw [HD.out]; exact hO1, hBr.trans hB1⟩
    · have hpq' : ((p : Int) != (q : Int)) = true := by simp; omega
      by_cases hlt : q < p
      · -- the first q of U' are exchanged with V'
        have e1 : U' = U'.take q ++ U'.drop q := (List.take_append_drop _ _).symm
        have l1 : (U'.take q).length = q := by simp; omega
        have l2 : (U'.drop q).length = p - q := by simp; omega
        generalize U'.take q = Ua at e1 l1
        generalize U'.drop q = Ub at e1 l2
        subst e1
        have hlen : L.length + q + (p - q) = m := by rw [← hl, List.length_append]; omega
        have SR := swapRange_any B g n cap (m - p) m q cv L Ua Ub V' R wr (by simpa using hO) (by omega) l1 hV (by omega) hn
        have hfin : D = (L ++ V') ++ Ua ++ Ub ++ R := by rw [hD]; simp
        have HD := Lib.hid hfin
        have L1 := Lib.hid l1
        have L2 := Lib.hid l2
        have HL := Lib.hid hlen
        have HV := Lib.hid hV
        have d1 : (p : Int) - (q : Int) = ((p - q : Nat) : Int) := by omega
        clear hD hO hl hU hV hpq l1 l2 hlen hfin
        go_wp2_with fail
        refine SR.mono ?_
        rintro e w1 ⟨rfl, hO1, hB1⟩
        have HO1 := Lib.hid hO1
        clear hO1
        go_wp2_with fail
        go_roundw
        case rel => exact ⟨p - q, q, by first | rfl | (congr 1), rfl, by omega, hq, by omega, hqn, hBr.trans hB1, L ++ V', Ub, Ua, R, HD.out, by have := HO1.out; simpa using this, by have h1 := HL.out; have h2 := HV.out; have h3 := L2.out; simp; omega, L2.out, L1.out⟩
        case measure => simp [intOf]; omega
      · -- U' is exchanged with the last p of V'
        have e1 : V' = V'.take (q - p) ++ V'.drop (q - p) := (List.take_append_drop _ _).symm
        have l1 : (V'.take (q - p)).length = q - p := by simp; omega
        have l2 : (V'.drop (q - p)).length = p := by simp; omega
        generalize V'.take (q - p) = Va at e1 l1
        generalize V'.drop (q - p) = Vb at e1 l2
        subst e1
        have SR := swapRange_any B g n cap (m - p) (m + q - p) p cv L U' Va Vb R wr (by simpa using hO) (by omega) hU l2 (by omega) hn
        have hfin : D = L ++ Va ++ Vb ++ (U' ++ R) := by rw [hD]; simp
        have HD := Lib.hid hfin
        have L1 := Lib.hid l1
        have L2 := Lib.hid l2
        have HL := Lib.hid hl
        have HU := Lib.hid hU
        have d1 : (q : Int) - (p : Int) = ((q - p : Nat) : Int) := by omega
        have d2 : (m : Int) + (q : Int) - (p : Int) = ((m + q - p : Nat) : Int) := by omega
        have hlt' : p < q := by omega
        clear hD hO hl hU hV hpq l1 l2 hfin
        go_wp2_with fail
        refine SR.mono ?_
        rintro e w1 ⟨rfl, hO1, hB1⟩
        have HO1 := Lib.hid hO1
        clear hO1
        go_wp2_with fail
        go_roundw
        case rel => exact ⟨p, q - p, rfl, by first | rfl | (congr 1), hp, by omega, hpm, by omega, hBr.trans hB1, L, Vb, Va, U' ++ R, HD.out, by have := HO1.out; simpa using this, by have := HL.out; have := HU.out; have := L2.out; omega, L2.out, L1.out⟩
        case measure => simp [intOf]; omega
end Go.Proofs.Ythpjemihbobjfaa
