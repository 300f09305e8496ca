import Derived.Test.YtoiampkdmjpljaaGreatDoorPa38
import Derived.Test.YtoiampkdmjpljaaGreatDoorPa42
import Derived.Deep.DeepCutAuto
/- What slices.rotate does: two parts that lie side by side, exchanged. -/
namespace Go.Proofs.YtoiampkdmjpljaaGreatDoor
open Go.RowKit

set_option maxHeartbeats 4000000 in
set_option maxRecDepth 100000 in
theorem rotate_any (B g n cap a m b : Nat) (cv : Value) (P U V S : Flds) (w : World) (h : OwnsP 58 B w (.slice (some ⟨g, 0, none⟩) n cap) (P ++ U ++ V ++ S))
    (ha : a = P.length) (hm : m = a + U.length) (hb : b = m + V.length) (hu : 0 < U.length) (hv : 0 < V.length) (hn : n ≤ 1000000) :
    Calls Tryz.prog 141 #[.slice (some ⟨g, 0, none⟩) n cap, .int .i64 a, .int .i64 m, .int .i64 b, cv] w fun e w' => e = .returned (.tuple #[]) ∧ OwnsP 58 B w' (.slice (some ⟨g, 0, none⟩) n cap) (P ++ V ++ U ++ S) ∧ Below B w w' := by
  obtain ⟨hml, hBg, hgl, hmc⟩ := own_len h
  have hmle : P.length + U.length + V.length + S.length = n := by rw [hml]; simp; omega
  have hbn : b ≤ n := by omega
  have ham : a < m := by omega
  have hmb : m < b := by omega
  -- the pieces that are still to be exchanged end and begin at m
  have h0 : ∃ L U' V' R, P ++ V ++ U ++ S = L ++ V' ++ U' ++ R ∧ OwnsP 58 B w (.slice (some ⟨g, 0, none⟩) n cap) (L ++ U' ++ V' ++ R) ∧ L.length + U'.length = m ∧ U'.length = m - a ∧ V'.length = b - m :=
    ⟨P, U, V, S, rfl, h, by omega, by omega, by omega⟩
  generalize P ++ V ++ U ++ S = D at h0
  have H0 := Lib.hid h0
  clear h hml hmle ha hm hb hu hv h0
  have i1 : (m : Int) - (a : Int) = ((m - a : Nat) : Int) := by omega
  have i2 : (b : Int) - (m : Int) = ((b - m : Nat) : Int) := by omega
  generalize hi : m - a = i at H0 i1
  generalize hj : b - m = j at H0 i2
  have hi0 : 0 < i := by omega
  have hj0 : 0 < j := by omega
  have him : i ≤ m := by omega
  have hjn : m + j ≤ n := by omega
  clear hi hj
  go_enter Tryz.func141, Tryz.ntmps141
  go_wp2_with fail
  go_loopw [10, 11] (fun u v wr => ∃ (p q : Nat), u = .int .i64 p ∧ v = .int .i64 q ∧ 0 < p ∧ 0 < q ∧ p ≤ m ∧ m + q ≤ n ∧ Below B w wr ∧
    ∃ L U' V' R, D = L ++ V' ++ U' ++ R ∧ OwnsP 58 B wr (.slice (some ⟨g, 0, none⟩) n cap) (L ++ U' ++ V' ++ R) ∧ L.length + U'.length = m ∧ U'.length = p ∧ V'.length = q) (fun u v _ => (intOf u).toNat + (intOf v).toNat)
  case atStart => exact ⟨i, j, rfl, rfl, hi0, hj0, him, hjn, Below.refl _ _, H0.out⟩
  case round =>
    obtain ⟨p, q, rfl, rfl, hp, hq, hpm, hqn, hBr, L, U', V', R, hD, hO, hl, hU, hV⟩ := hrel
    have s1 : (m : Int) - (p : Int) = ((m - p : Nat) : Int) := by omega
    by_cases hpq : p = q
    · have SR := swapRange_any B g n cap (m - p) m p cv L U' [] V' R wr (by simpa using hO) (by omega) hU (by omega) (by simp; omega) hn
      rw [List.append_nil] at SR
      have HD := Lib.hid hD
      have hpq' : ((p : Int) != (q : Int)) = false := by simp; omega
      clear hD hO hl hU hV hpq
      go_wp2_with fail
      refine SR.mono ?_
      rintro e w1 ⟨rfl, hO1, hB1⟩
      go_wp2_with fail
      go_end0
      exact ⟨rfl, by rw [HD.out]; exact hO1, hBr.trans hB1⟩
    · have hpq' : ((p : Int) != (q : Int)) = true := by simp; omega
      by_cases hlt : q < p
      · -- the first q of U' are exchanged with V'
        have e1 : U' = U'.take q ++ U'.drop q := (List.take_append_drop _ _).symm
        have l1 : (U'.take q).length = q := by simp; omega
        have l2 : (U'.drop q).length = p - q := by simp; omega
        generalize U'.take q = Ua at e1 l1
        generalize U'.drop q = Ub at e1 l2
        subst e1
        have hlen : L.length + q + (p - q) = m := by rw [← hl, List.length_append]; omega
        have SR := swapRange_any B g n cap (m - p) m q cv L Ua Ub V' R wr (by simpa using hO) (by omega) l1 hV (by omega) hn
        have hfin : D = (L ++ V') ++ Ua ++ Ub ++ R := by rw [hD]; simp
        have HD := Lib.hid hfin
        have L1 := Lib.hid l1
        have L2 := Lib.hid l2
        have HL := Lib.hid hlen
        have HV := Lib.hid hV
        have d1 : (p : Int) - (q : Int) = ((p - q : Nat) : Int) := by omega
        clear hD hO hl hU hV hpq l1 l2 hlen hfin
        go_wp2_with fail
        refine SR.mono ?_
        rintro e w1 ⟨rfl, hO1, hB1⟩
        have HO1 := Lib.hid hO1
        clear hO1
        go_wp2_with fail
        go_roundw
        case rel => exact ⟨p - q, q, by first | rfl | (congr 1), rfl, by omega, hq, by omega, hqn, hBr.trans hB1, L ++ V', Ub, Ua, R, HD.out, by have := HO1.out; simpa using this, by have h1 := HL.out; have h2 := HV.out; have h3 := L2.out; simp; omega, L2.out, L1.out⟩
        case measure => simp [intOf]; omega
      · -- U' is exchanged with the last p of V'
        have e1 : V' = V'.take (q - p) ++ V'.drop (q - p) := (List.take_append_drop _ _).symm
        have l1 : (V'.take (q - p)).length = q - p := by simp; omega
        have l2 : (V'.drop (q - p)).length = p := by simp; omega
        generalize V'.take (q - p) = Va at e1 l1
        generalize V'.drop (q - p) = Vb at e1 l2
        subst e1
        have SR := swapRange_any B g n cap (m - p) (m + q - p) p cv L U' Va Vb R wr (by simpa using hO) (by omega) hU l2 (by omega) hn
        have hfin : D = L ++ Va ++ Vb ++ (U' ++ R) := by rw [hD]; simp
        have HD := Lib.hid hfin
        have L1 := Lib.hid l1
        have L2 := Lib.hid l2
        have HL := Lib.hid hl
        have HU := Lib.hid hU
        have d1 : (q : Int) - (p : Int) = ((q - p : Nat) : Int) := by omega
        have d2 : (m : Int) + (q : Int) - (p : Int) = ((m + q - p : Nat) : Int) := by omega
        have hlt' : p < q := by omega
        clear hD hO hl hU hV hpq l1 l2 hfin
        go_wp2_with fail
        refine SR.mono ?_
        rintro e w1 ⟨rfl, hO1, hB1⟩
        have HO1 := Lib.hid hO1
        clear hO1
        go_wp2_with fail
        go_roundw
        case rel => exact ⟨p, q - p, rfl, by first | rfl | (congr 1), hp, by omega, hpm, by omega, hBr.trans hB1, L, Vb, Va, U' ++ R, HD.out, by have := HO1.out; simpa using this, by have := HL.out; have := HU.out; have := L2.out; omega, L2.out, L1.out⟩
        case measure => simp [intOf]; omega
end Go.Proofs.YtoiampkdmjpljaaGreatDoor

/- What slices.symMerge does where both parts are longer: it divides both, exchanges the middle, and merges the halves. -/
namespace Go.Proofs.YtoiampkdmjpljaaGreatDoor
open Go.RowKit

set_option maxHeartbeats 8000000 in
set_option maxRecDepth 100000 in
theorem mergeC_any (B g n cap a m b : Nat) (P X Y S : Flds) (w : World) (h : OwnsP 58 B w (.slice (some ⟨g, 0, none⟩) n cap) (P ++ X ++ Y ++ S))
    (ha : a = P.length) (hm : m = a + X.length) (hb : b = m + Y.length) (hX : Srt X) (hY : Srt Y) (hx1 : X.length ≠ 1) (hy1 : Y.length ≠ 1) (hn : n ≤ 1000000)
    (IH : ∀ (a m b : Nat) (P' X' Y' S' : Flds) (w' : World), X'.length + Y'.length < X.length + Y.length → OwnsP 58 B w' (.slice (some ⟨g, 0, none⟩) n cap) (P' ++ X' ++ Y' ++ S') →
      a = P'.length → m = a + X'.length → b = m + Y'.length → Srt X' → Srt Y' →
      Calls Tryz.prog 120 #[.slice (some ⟨g, 0, none⟩) n cap, .int .i64 a, .int .i64 m, .int .i64 b, cmpV] w' (MergePost B g n cap P' X' Y' S' w')) :
    Calls Tryz.prog 120 #[.slice (some ⟨g, 0, none⟩) n cap, .int .i64 a, .int .i64 m, .int .i64 b, cmpV] w (MergePost B g n cap P X Y S w) := by
  obtain ⟨hml, hBg, hgl, hmc⟩ := own_len h
  have hmle : P.length + X.length + Y.length + S.length = n := by rw [hml]; simp; omega
  have hbn : b ≤ n := by omega
  have hBw : B ≤ w.heap.size := by omega
  have hgx : ∀ k x, X[k]? = some x → (P ++ X ++ Y ++ S)[a + k]? = some x := by
    intro k x hk
    have hkl := (List.getElem?_eq_some_iff.mp hk).1
    rw [List.append_assoc, List.append_assoc, List.getElem?_append_right (by omega), List.getElem?_append_left (by omega)]
    simpa [show a + k - P.length = k by omega] using hk
  have hgy : ∀ k y, Y[k]? = some y → (P ++ X ++ Y ++ S)[m + k]? = some y := by
    intro k y hk
    have hkl := (List.getElem?_eq_some_iff.mp hk).1
    rw [List.getElem?_append_left (by simp; omega), List.getElem?_append_right (by simp; omega)]
    simpa [show m + k - (P.length + X.length) = k by omega] using hk
  have e0 : ((m : Int) - (a : Int) == 1) = false := by simp; omega
  have e1 : ((b : Int) - (m : Int) == 1) = false := by simp; omega
  obtain ⟨hh, hhe⟩ : ∃ hh, hh = (X.length + Y.length) / 2 := ⟨_, rfl⟩
  obtain ⟨mid, hmid⟩ : ∃ mid, mid = a + hh := ⟨_, rfl⟩
  have emid : ((a : Int) + (b : Int)) / 2 = (mid : Int) := by omega
  have ham : a ≤ m := by omega
  have hmb : m ≤ b := by omega
  have hamid : a ≤ mid := by omega
  have hmidb : mid ≤ b := by omega
  have hq1 : mid < m → b ≤ mid + m := by omega
  obtain ⟨lo, hlo⟩ : ∃ lo, lo = if mid < m then mid + m - b else a := ⟨_, rfl⟩
  obtain ⟨hi, hhi⟩ : ∃ hi, hi = if mid < m then mid else m := ⟨_, rfl⟩
  have l1 : a ≤ lo := by rw [hlo]; split <;> omega
  have l2 : lo ≤ hi := by rw [hlo, hhi]; split <;> omega
  have l3 : hi ≤ mid := by rw [hhi]; split <;> omega
  have l4 : hi ≤ m := by rw [hhi]; split <;> omega
  have l5 : mid + m ≤ lo + b := by rw [hlo]; split <;> omega
  have l6 : lo = a ∨ lo + b = mid + m := by rw [hlo]; split <;> omega
  have l7 : hi = mid ∨ hi = m := by rw [hhi]; split <;> omega
  have HH := Lib.hid h
  have HA := Lib.hid ha
  have HM := Lib.hid hm
  have HB := Lib.hid hb
  have HX := Lib.hid hX
  have HY := Lib.hid hY
  have HGx := Lib.hid hgx
  have HGy := Lib.hid hgy
  have HHe := Lib.hid hhe
  have HMid := Lib.hid hmid
  have HQ1 := Lib.hid hq1
  have HLo := Lib.hid hlo
  have HHi := Lib.hid hhi
  have L6 := Lib.hid l6
  have L7 := Lib.hid l7
  have HIH := Lib.hid IH
  clear h hml hmle ha hm hb hX hY hgx hgy hhe hmid hq1 hlo hhi l6 l7 IH hx1 hy1
  go_enter Tryz.func120, Tryz.ntmps120
  go_upto_if 140 with fail
  go_cut [20, 21] from 20 (fun u v wx => u = .int .i64 (lo : Nat) ∧ v = .int .i64 (hi : Nat) ∧ w = wx)
  case first =>
    by_cases hc : mid < m
    · have q : (mid : Int) + (m : Int) - (b : Int) = (lo : Int) := by have h1 := HLo.out; have h2 := HQ1.out hc; rw [if_pos hc] at h1; omega
      go_wp2_with fail
      go_meet
      exact ⟨rfl, by have := HHi.out; rw [if_pos hc] at this; rw [this], rfl⟩
    · go_wp2_with fail
      go_meet
      exact ⟨by have := HLo.out; rw [if_neg hc] at this; rw [this], by have := HHi.out; rw [if_neg hc] at this; rw [this], rfl⟩
  case rest =>
  obtain ⟨rfl, rfl, rfl⟩ := hcut
  go_wp2_with fail
  go_loopw [20, 21] (fun u v wr => ∃ (i j : Nat), u = .int .i64 i ∧ v = .int .i64 j ∧ lo ≤ i ∧ i ≤ j ∧ j ≤ hi ∧ (∀ k x y, lo ≤ a + k → a + k < i → X[k]? = some x → Y[hh - 1 - k]? = some y → ltK y.1 x.1 = false) ∧ (∀ k x y, j ≤ a + k → a + k < hi → X[k]? = some x → Y[hh - 1 - k]? = some y → ltK y.1 x.1 = true) ∧
    OwnsP 58 B wr (.slice (some ⟨g, 0, none⟩) n cap) (P ++ X ++ Y ++ S) ∧ Below B w wr) (fun u v _ => (intOf v).toNat - (intOf u).toNat)
  case atStart => exact ⟨lo, hi, rfl, rfl, Nat.le_refl _, l2, Nat.le_refl _, (fun k x y h1 h2 _ _ => by omega), (fun k x y h1 h2 _ _ => by omega), HH.out, Below.refl _ _⟩
  case round =>
    obtain ⟨i, j, rfl, rfl, hmi, hij, hjb, h1, h2, hO, hBr⟩ := hrel
    have H1 := Lib.hid h1
    have H2 := Lib.hid h2
    have HO := Lib.hid hO
    clear h1 h2 hO
    by_cases hlt : i < j
    · obtain ⟨c, ec, hic, hcj⟩ := half hlt
      obtain ⟨k, hk⟩ : ∃ k, c = a + k := ⟨c - a, by omega⟩
      obtain ⟨q, hq⟩ : ∃ q, q + c + 1 = mid + m := ⟨mid + m - 1 - c, by omega⟩
      obtain ⟨x, hx⟩ : ∃ x, X[k]? = some x := ⟨X[k]'(by have := HM.out; omega), by simp⟩
      obtain ⟨y, hy⟩ : ∃ y, Y[hh - 1 - k]? = some y := ⟨Y[hh - 1 - k]'(by have := HMid.out; have := HB.out; omega), by simp⟩
      have q1 : (P ++ X ++ Y ++ S)[q]? = some y := by have := HGy.out _ y hy; rwa [show m + (hh - 1 - k) = q by have := HMid.out; omega] at this
      have q2 : (P ++ X ++ Y ++ S)[c]? = some x := by have := HGx.out k x hx; rwa [← hk] at this
      have hP := pair4_of HO.out q1 q2
      have HXk := Lib.hid hx
      have HYk := Lib.hid hy
      have epc : (mid : Int) + (m : Int) - 1 - (c : Int) = (q : Int) := by omega
      have r1 : IntKind.i64.wrap ((mid : Int) + (m : Int) - 1 - (c : Int)) = (q : Int) := by rw [epc, IntKind.wrap_i64]; omega
      have r2 : IntKind.i64.wrap (q : Int) = (q : Int) := by rw [IntKind.wrap_i64]; omega
      have p1 : (q : Int) < (n : Int) := by omega
      have p3 : (c : Int) < (n : Int) := by omega
      have HK := Lib.hid hk
      clear q1 q2 hx hy hk hq
      cases hl : ltK y.1 x.1 with
      | true =>
        have HL := Lib.hid hl
        clear hl
        go_wp2_with fail
        go_region_held3 (fun w' => w'.cell? ⟨g, q * 2, none⟩ = some (.string (strB y.1)) ∧ w'.cell? ⟨g, q * 2 + 1, none⟩ = some (.string (strB y.2)) ∧ w'.cell? ⟨g, c * 2, none⟩ = some (.string (strB x.1)) ∧ w'.cell? ⟨g, c * 2 + 1, none⟩ = some (.string (strB x.2)) ∧ Below wr.heap.size wr w')
          (first | exact hP.drew | exact hP2)
          (first | (go_at_call 74; refine (cmp_lt (by assumption) HL.out).mono ?_; rintro e w2 ⟨z, rfl, hz, hP2⟩))
        have hO2 := OwnsP.below HO.out hP2.2.2.2.2
        have hB2 := hBr.trans (hP2.2.2.2.2.mono (Nat.le_trans hBw hBr.size))
        have HO2 := Lib.hid hO2
        clear hO2 hP hP2
        go_wp2_with fail
        go_roundw
        case rel => exact ⟨i, c, rfl, by go_num, hmi, hic, by omega, H1.out, (fun k' x' y' h1 h2 hx' hy' => le_lt_lt (srt_get HY.out hy' HYk.out (by have := HK.out; omega)) (lt_le_lt HL.out (srt_get HX.out HXk.out hx' (by have := HK.out; omega)))), HO2.out, hB2⟩
        case measure => simp [intOf]; omega
      | false =>
        have HL := Lib.hid hl
        clear hl
        go_wp2_with fail
        go_region_held3 (fun w' => w'.cell? ⟨g, q * 2, none⟩ = some (.string (strB y.1)) ∧ w'.cell? ⟨g, q * 2 + 1, none⟩ = some (.string (strB y.2)) ∧ w'.cell? ⟨g, c * 2, none⟩ = some (.string (strB x.1)) ∧ w'.cell? ⟨g, c * 2 + 1, none⟩ = some (.string (strB x.2)) ∧ Below wr.heap.size wr w')
          (first | exact hP.drew | exact hP2)
          (first | (go_at_call 74; refine (cmp_ge (by assumption) HL.out).mono ?_; rintro e w2 ⟨z, rfl, hz, hP2⟩))
        have hO2 := OwnsP.below HO.out hP2.2.2.2.2
        have hB2 := hBr.trans (hP2.2.2.2.2.mono (Nat.le_trans hBw hBr.size))
        have HO2 := Lib.hid hO2
        clear hO2 hP hP2
        go_wp2_with fail
        go_roundw
        case rel => exact ⟨c + 1, j, by go_num, rfl, by omega, by omega, hjb, (fun k' x' y' h1 h2 hx' hy' => by
          cases h : ltK y'.1 x'.1 with
          | false => rfl
          | true =>
            have := lt_le_lt (le_lt_lt (srt_get HY.out HYk.out hy' (by have := HK.out; omega)) h) (srt_get HX.out hx' HXk.out (by have := HK.out; omega))
            rw [HL.out] at this; cases this), H2.out, HO2.out, hB2⟩
        case measure => simp [intOf]; omega
        case roundEnd => rename_i hc; simp at hc; omega
    · -- both are divided
      obtain rfl : i = j := by omega
      have c1 := cut_lt (h := hh) (s := i - a) (hi := hi - a) HX.out HY.out (by have := HMid.out; omega) (by have := HMid.out; have := HB.out; omega) (by have := HMid.out; have := HM.out; have := L7.out; omega) (by omega)
        (fun k x y h1 h2 hx hy => H2.out k x y (by omega) (by omega) hx hy)
      have c2 := cut_le (h := hh) (s := i - a) (lo := lo - a) HX.out HY.out (by have := HMid.out; omega) (by have := HM.out; omega) (by have := HMid.out; have := HB.out; have := L6.out; omega)
        (fun k x y h1 h2 hx hy => H1.out k x y (by omega) (by omega) hx hy)
      have ex : X = X.take (i - a) ++ X.drop (i - a) := (List.take_append_drop _ _).symm
      have ey : Y = Y.take (hh - (i - a)) ++ Y.drop (hh - (i - a)) := (List.take_append_drop _ _).symm
      have lx1 : a + (X.take (i - a)).length = i := by have := HM.out; simp; omega
      have lx2 : i + (X.drop (i - a)).length = m := by have := HM.out; simp; omega
      obtain ⟨en, hen⟩ : ∃ en, en + i = mid + m := ⟨mid + m - i, by omega⟩
      have ly1 : m + (Y.take (hh - (i - a))).length = en := by have := HMid.out; have := HB.out; simp; omega
      have ly2 : en + (Y.drop (hh - (i - a))).length = b := by have := HMid.out; have := HB.out; simp; omega
      have een : (mid : Int) + (m : Int) - (i : Int) = (en : Int) := by omega
      have hme : m ≤ en := by omega
      have heb : en ≤ b := by omega
      have hmide : mid ≤ en := by omega
      have him : i ≤ m := by omega
      have himid : i ≤ mid := by omega
      have hai : a ≤ i := by omega
      have hst : OwnsP 58 B wr (.slice (some ⟨g, 0, none⟩) n cap) (P ++ X.take (i - a) ++ X.drop (i - a) ++ Y.take (hh - (i - a)) ++ Y.drop (hh - (i - a)) ++ S) := by
        have h3 := HO.out
        rw [ex, ey] at h3
        simpa [-List.take_append_drop] using h3
      generalize X.take (i - a) = X1 at *
      generalize X.drop (i - a) = X2 at *
      generalize Y.take (hh - (i - a)) = Y1 at *
      generalize Y.drop (hh - (i - a)) = Y2 at *
      have C1 := Lib.hid c1
      have C2 := Lib.hid c2
      have EX := Lib.hid ex
      have EY := Lib.hid ey
      have LX1 := Lib.hid lx1
      have LX2 := Lib.hid lx2
      have LY1 := Lib.hid ly1
      have LY2 := Lib.hid ly2
      have HSt := Lib.hid hst
      have HEn := Lib.hid hen
      clear c1 c2 ex ey lx1 lx2 ly1 ly2 hst hen HO
      obtain ⟨t1, ht1⟩ : ∃ t1 : Bool, t1 = decide (i < m ∧ m < en) := ⟨_, rfl⟩
      have T1 := Lib.hid ht1
      clear ht1
      go_upto_region 39 with fail
      go_cut [185] from 178 (fun u wx => u = .bool t1 ∧ wr = wx)
      case first =>
        have ht := T1.out
        by_cases h1 : i < m
        · by_cases h2 : m < en
          · have e : t1 = true := by rw [ht]; simp [h1, h2]
            clear ht
            go_wp2_with fail
            go_meet
            exact ⟨by rw [e], rfl⟩
          · have e : t1 = false := by rw [ht]; simp [h2]
            clear ht
            go_wp2_with fail
            go_meet
            exact ⟨by rw [e], rfl⟩
        · have e : t1 = false := by rw [ht]; simp [h1]
          clear ht
          go_wp2_with fail
          go_meet
          exact ⟨by rw [e], rfl⟩
      case rest =>
      obtain ⟨rfl, rfl⟩ := hcut
      go_upto_if 185 with fail
      go_cut [191] from 186 (fun _ wx => OwnsP 58 B wx (.slice (some ⟨g, 0, none⟩) n cap) (P ++ (X1 ++ Y1) ++ (X2 ++ Y2) ++ S) ∧ Below B w wx)
      case first =>
        cases t1 with
        | true =>
            obtain ⟨h1, h2⟩ := of_decide_eq_true T1.out.symm
            have SR := rotate_any B g n cap i m en cmpV (P ++ X1) X2 Y1 (Y2 ++ S) wr (by have := HSt.out; simpa using this) (by have := LX1.out; have := HA.out; simp; omega) (by have := LX2.out; omega) (by have := LY1.out; omega) (by have := LX2.out; omega) (by have := LY1.out; omega) hn
            go_wp2_with fail
            refine SR.mono ?_
            rintro e w1 ⟨rfl, hO1, hB1⟩
            have HO1 := Lib.hid hO1
            clear hO1 SR
            go_wp2_with fail
            go_meet
            exact ⟨by have := HO1.out; simpa using this, hBr.trans hB1⟩
        | false =>
          have hf := of_decide_eq_false T1.out.symm
          go_wp2_with fail
          go_meet
          exact ⟨by
            have h3 := HSt.out
            by_cases h1 : i < m
            · have h4 : Y1 = [] := nil_of_le (by have := LY1.out; omega)
              rw [h4] at h3 ⊢
              simpa using h3
            · have h4 : X2 = [] := nil_of_le (by have := LX2.out; omega)
              rw [h4] at h3 ⊢
              simpa using h3, hBr⟩
      case rest =>
      obtain ⟨hO1, hB1⟩ := hcut
      rename World => wd
      have HO1 := Lib.hid hO1
      clear hO1 HSt
      clear T1
      obtain ⟨t2, ht2⟩ : ∃ t2 : Bool, t2 = decide (a < i ∧ i < mid) := ⟨_, rfl⟩
      have T2 := Lib.hid ht2
      clear ht2
      go_upto_region 41 with fail
      go_cut [199] from 192 (fun u wx => u = .bool t2 ∧ wd = wx)
      case first =>
        have ht := T2.out
        by_cases h1 : a < i
        · by_cases h2 : i < mid
          · have e : t2 = true := by rw [ht]; simp [h1, h2]
            clear ht
            go_wp2_with fail
            go_meet
            exact ⟨by rw [e], rfl⟩
          · have e : t2 = false := by rw [ht]; simp [h2]
            clear ht
            go_wp2_with fail
            go_meet
            exact ⟨by rw [e], rfl⟩
        · have e : t2 = false := by rw [ht]; simp [h1]
          clear ht
          go_wp2_with fail
          go_meet
          exact ⟨by rw [e], rfl⟩
      case rest =>
      obtain ⟨rfl, rfl⟩ := hcut
      go_upto_if 199 with fail
      go_cut [205] from 200 (fun _ wx => ∃ Z1, Srt Z1 ∧ SameF Z1 (X1 ++ Y1) ∧ OwnsP 58 B wx (.slice (some ⟨g, 0, none⟩) n cap) (P ++ Z1 ++ (X2 ++ Y2) ++ S) ∧ Below B w wx)
      case first =>
        cases t2 with
        | true =>
            obtain ⟨h1, h2⟩ := of_decide_eq_true T2.out.symm
            have SR := HIH.out a i mid P X1 Y1 (X2 ++ Y2 ++ S) wd (by have := LX1.out; have := LX2.out; have := LY1.out; have := LY2.out; have := HM.out; have := HB.out; have := HEn.out; omega) (by have := HO1.out; simpa using this) HA.out (by have := LX1.out; omega) (by have := LY1.out; have := HEn.out; omega)
              (by have := HX.out; rw [EX.out] at this; exact this.left) (by have := HY.out; rw [EY.out] at this; exact this.left)
            go_wp2_with fail
            refine SR.mono ?_
            rintro e w1 ⟨rfl, Z, hz1, hz2, hO2, hB2⟩
            have HO2 := Lib.hid hO2
            have HZ1 := Lib.hid hz1
            have HZ2 := Lib.hid hz2
            clear hO2 hz1 hz2 SR
            go_wp2_with fail
            go_meet
            exact ⟨Z, HZ1.out, HZ2.out, by have := HO2.out; simpa using this, hB1.trans hB2⟩
        | false =>
          have hf := of_decide_eq_false T2.out.symm
          go_wp2_with fail
          go_meet
          exact ⟨X1 ++ Y1, one_side (by have := HX.out; rw [EX.out] at this; exact this.left) (by have := HY.out; rw [EY.out] at this; exact this.left) (by have := LX1.out; have := LY1.out; have := HEn.out; omega), SameF.refl _, HO1.out, hB1⟩
      case rest =>
      obtain ⟨Z1, hz1, hz2, hO2, hB2⟩ := hcut
      have HO2 := Lib.hid hO2
      have HZ1 := Lib.hid hz1
      have HZ2 := Lib.hid hz2
      clear hO2 hz1 hz2 HO1
      by_cases h1 : mid < en
      · by_cases h2 : en < b
        · have SR := HIH.out mid en b (P ++ Z1) X2 Y2 S wc (by have := LX1.out; have := LX2.out; have := LY1.out; have := LY2.out; have := HM.out; have := HB.out; have := HEn.out; have := HMid.out; have := HHe.out; omega) (by have := HO2.out; simpa using this)
            (by have := HZ2.out.length; have := LX1.out; have := LY1.out; have := HEn.out; have := HA.out; simp at *; omega) (by have := LX2.out; have := HEn.out; omega) (by have := LY2.out; omega)
            (by have := HX.out; rw [EX.out] at this; exact this.right) (by have := HY.out; rw [EY.out] at this; exact this.right)
          go_wp2_with fail
          refine SR.mono ?_
          rintro e w1 ⟨rfl, Z, hz1, hz2, hO3, hB3⟩
          have HO3 := Lib.hid hO3
          have hj := merge_join (by have := HX.out; rw [EX.out] at this; exact this) (by have := HY.out; rw [EY.out] at this; exact this) C1.out C2.out HZ1.out hz1 HZ2.out hz2
          rw [← EX.out, ← EY.out] at hj
          have HJ := Lib.hid hj
          clear hO3 hz1 hz2 SR hj
          go_wp2_with fail
          go_end0
          exact ⟨rfl, Z1 ++ Z, HJ.out.1, HJ.out.2, by have := HO3.out; simpa using this, hB2.trans hB3⟩
        · go_wp2_with fail
          go_end0
          have hz := one_side (X := X2) (Y := Y2) (by have := HX.out; rw [EX.out] at this; exact this.right) (by have := HY.out; rw [EY.out] at this; exact this.right) (by have := LY2.out; omega)
          have hj := merge_join (by have := HX.out; rw [EX.out] at this; exact this) (by have := HY.out; rw [EY.out] at this; exact this) C1.out C2.out HZ1.out hz HZ2.out (SameF.refl _)
          rw [← EX.out, ← EY.out] at hj
          exact ⟨rfl, _, hj.1, hj.2, by have := HO2.out; simpa using this, hB2⟩
      · go_wp2_with fail
        go_end0
        have hz := one_side (X := X2) (Y := Y2) (by have := HX.out; rw [EX.out] at this; exact this.right) (by have := HY.out; rw [EY.out] at this; exact this.right) (by have := LX2.out; have := HEn.out; omega)
        have hj := merge_join (by have := HX.out; rw [EX.out] at this; exact this) (by have := HY.out; rw [EY.out] at this; exact this) C1.out C2.out HZ1.out hz HZ2.out (SameF.refl _)
        rw [← EX.out, ← EY.out] at hj
        exact ⟨rfl, _, hj.1, hj.2, by have := HO2.out; simpa using this, hB2⟩
end Go.Proofs.YtoiampkdmjpljaaGreatDoor

/- slices.symMerge: two sorted parts become one, in the stable order. -/
namespace Go.Proofs.YtoiampkdmjpljaaGreatDoor
open Go.RowKit

theorem merge_any (B g n cap : Nat) (hn : n ≤ 1000000) : ∀ (N a m b : Nat) (P X Y S : Flds) (w : World), X.length + Y.length < N → OwnsP 58 B w (.slice (some ⟨g, 0, none⟩) n cap) (P ++ X ++ Y ++ S) →
      a = P.length → m = a + X.length → b = m + Y.length → Srt X → Srt Y →
      Calls Tryz.prog 120 #[.slice (some ⟨g, 0, none⟩) n cap, .int .i64 a, .int .i64 m, .int .i64 b, cmpV] w (MergePost B g n cap P X Y S w) := by
  intro N
  induction N with
  | zero => intro a m b P X Y S w hN; omega
  | succ N ih =>
    intro a m b P X Y S w hN h ha hm hb hX hY
    by_cases hx : X.length = 1
    · obtain ⟨x, rfl⟩ := List.length_eq_one_iff.mp hx
      exact mergeA_any B g n cap a m b P Y S x w h ha (by simpa using hm) hb hY hn
    · by_cases hy : Y.length = 1
      · obtain ⟨y, rfl⟩ := List.length_eq_one_iff.mp hy
        exact mergeB_any B g n cap a m b P X S y w h ha hm (by simpa using hb) hX hx hn
      · exact mergeC_any B g n cap a m b P X Y S w h ha hm hb hX hY hx hy hn fun a' m' b' P' X' Y' S' w' hl h' ha' hm' hb' hX' hY' => ih a' m' b' P' X' Y' S' w' (by omega) h' ha' hm' hb' hX' hY'
end Go.Proofs.YtoiampkdmjpljaaGreatDoor
