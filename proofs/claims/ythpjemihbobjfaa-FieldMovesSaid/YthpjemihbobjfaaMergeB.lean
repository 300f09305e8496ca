/- What slices.symMerge does where the second part is a single field, and the first is not. -/
import Derived.Test.YthpjemihbobjfaaMergeA
namespace Go.Proofs.Ythpjemihbobjfaa
open Go.RowKit

set_option maxHeartbeats 4000000 in
set_option maxRecDepth 100000 in
theorem mergeB_any (B g n cap a m b : Nat) (P X S : Flds) (y : List UInt8 × List UInt8) (w : World) (h : OwnsP 42 B w (.slice (some ⟨g, 0, none⟩) n cap) (P ++ X ++ [y] ++ S))
    (ha : a = P.length) (hm : m = a + X.length) (hb : b = m + 1) (hX : Srt X) (hx1 : X.length ≠ 1) (hn : n ≤ 1000000) :
    Calls Try.prog 48 #[.slice (some ⟨g, 0, none⟩) n cap, .int .i64 a, .int .i64 m, .int .i64 b, cmpV] w (MergePost B g n cap P X [y] S w) := by
  obtain ⟨hml, hBg, hgl, hmc⟩ := own_len h
  have hmle : P.length + X.length + 1 + S.length = n := by rw [hml]; simp; omega
  have hbn : m + 1 ≤ n := by omega
  have hab : a ≤ m := by omega
  have hBw : B ≤ w.heap.size := by omega
  have hgy : (P ++ X ++ [y] ++ S)[m]? = some y := by
    rw [List.getElem?_append_left (by simp; omega), List.getElem?_append_right (by simp; omega)]
    simp [show m - (P.length + X.length) = 0 by omega]
  have hgx : ∀ k x, X[k]? = some x → (P ++ X ++ [y] ++ S)[a + k]? = some x := by
    intro k x hk
    have hkl := (List.getElem?_eq_some_iff.mp hk).1
    rw [List.append_assoc, List.append_assoc, List.getElem?_append_right (by omega), List.getElem?_append_left (by omega)]
    simpa [show a + k - P.length = k by omega] using hk
  have e0 : ((m : Int) - (a : Int) == 1) = false := by simp; omega
  have e1 : (b : Int) - (m : Int) = 1 := by omega
  have HH := Lib.hid h
  have HA := Lib.hid ha
  have HM := Lib.hid hm
  have HX := Lib.hid hX
  have HGx := Lib.hid hgx
  have HGy := Lib.hid hgy
  clear h hml hmle ha hm hb hX hgx hgy hx1
  go_enter Try.func48, Try.ntmps48
  go_wp2_with fail
  go_loopw [14, 15] (fun u v wr => ∃ (i j : Nat), u = .int .i64 i ∧ v = .int .i64 j ∧ a ≤ i ∧ i ≤ j ∧ j ≤ m ∧ (∀ k x, a + k < i → X[k]? = some x → ltK y.1 x.1 = false) ∧ (∀ k x, j ≤ a + k → X[k]? = some x → ltK y.1 x.1 = true) ∧
    OwnsP 42 B wr (.slice (some ⟨g, 0, none⟩) n cap) (P ++ X ++ [y] ++ S) ∧ Below B w wr) (fun u v _ => (intOf v).toNat - (intOf u).toNat)
  case atStart => exact ⟨a, m, rfl, rfl, Nat.le_refl _, hab, Nat.le_refl _, (fun k x hk _ => by omega), (fun k x hk hx => by have h1 := (List.getElem?_eq_some_iff.mp hx).1; have h2 := HM.out; omega), HH.out, Below.refl _ _⟩
  case round =>
    obtain ⟨i, j, rfl, rfl, hmi, hij, hjb, h1, h2, hO, hBr⟩ := hrel
    have H1 := Lib.hid h1
    have H2 := Lib.hid h2
    have HO := Lib.hid hO
    clear h1 h2 hO
    by_cases hlt : i < j
    · obtain ⟨c, ec, hic, hcj⟩ := half hlt
      obtain ⟨k, rfl⟩ : ∃ k, c = a + k := ⟨c - a, by omega⟩
      obtain ⟨x, hx⟩ : ∃ x, X[k]? = some x := ⟨X[k]'(by have := HM.out; omega), by simp⟩
      have q1 := HGx.out k x hx
      have hP := pair4_of HO.out HGy.out q1
      have HXk := Lib.hid hx
      have ec' : ((i : Int) + (j : Int)) / 2 = (a : Int) + (k : Int) := by omega
      have p0 : (0 : Int) ≤ (a : Int) + (k : Int) := by omega
      have p1 : (a : Int) + (k : Int) < (n : Int) := by omega
      have p2 : ((a : Int) + (k : Int)).toNat = a + k := by omega
      have p3 : (m : Int) < (n : Int) := by omega
      clear q1 hx ec
      cases hl : ltK y.1 x.1 with
      | true =>
        have HL := Lib.hid hl
        clear hl
        go_wp2_with fail
        go_region_held3 (fun w' => w'.cell? ⟨g, m * 2, none⟩ = some (.string (strB y.1)) ∧ w'.cell? ⟨g, m * 2 + 1, none⟩ = some (.string (strB y.2)) ∧ w'.cell? ⟨g, (a + k) * 2, none⟩ = some (.string (strB x.1)) ∧ w'.cell? ⟨g, (a + k) * 2 + 1, none⟩ = some (.string (strB x.2)) ∧ Below wr.heap.size wr w')
          (first | exact hP.drew | exact hP2)
          (first | (go_at_call 39; refine (cmp_lt (by assumption) HL.out).mono ?_; rintro e w2 ⟨z, rfl, hz, hP2⟩))
        have hO2 := OwnsP.below HO.out hP2.2.2.2.2
        have hB2 := hBr.trans (hP2.2.2.2.2.mono (Nat.le_trans hBw hBr.size))
        have HO2 := Lib.hid hO2
        clear hO2 hP hP2
        go_wp2_with fail
        go_roundw
        case rel => exact ⟨i, a + k, rfl, by go_num, hmi, hic, by omega, H1.out, (fun q z hq hz => lt_le_lt HL.out (srt_get HX.out HXk.out hz (by omega))), HO2.out, hB2⟩
        case measure => simp [intOf]; omega
      | false =>
        have HL := Lib.hid hl
        clear hl
        go_wp2_with fail
        go_region_held3 (fun w' => w'.cell? ⟨g, m * 2, none⟩ = some (.string (strB y.1)) ∧ w'.cell? ⟨g, m * 2 + 1, none⟩ = some (.string (strB y.2)) ∧ w'.cell? ⟨g, (a + k) * 2, none⟩ = some (.string (strB x.1)) ∧ w'.cell? ⟨g, (a + k) * 2 + 1, none⟩ = some (.string (strB x.2)) ∧ Below wr.heap.size wr w')
          (first | exact hP.drew | exact hP2)
          (first | (go_at_call 39; refine (cmp_ge (by assumption) HL.out).mono ?_; rintro e w2 ⟨z, rfl, hz, hP2⟩))
        have hO2 := OwnsP.below HO.out hP2.2.2.2.2
        have hB2 := hBr.trans (hP2.2.2.2.2.mono (Nat.le_trans hBw hBr.size))
        have HO2 := Lib.hid hO2
        clear hO2 hP hP2
        go_wp2_with fail
        go_roundw
        case rel => exact ⟨a + k + 1, j, by go_num, rfl, by omega, by omega, hjb, (fun q z hq hz => by
          cases h : ltK y.1 z.1 with
          | false => rfl
          | true =>
            have := lt_le_lt h (srt_get HX.out hz HXk.out (by omega))
            rw [HL.out] at this; cases this), H2.out, HO2.out, hB2⟩
        case measure => simp [intOf]; omega
        case roundEnd => rename_i hc; simp at hc; omega
    · -- the place of the one field is found: it is carried there
      obtain rfl : i = j := by omega
      obtain ⟨c, rfl⟩ : ∃ c, i = a + c := ⟨i - a, by omega⟩
      have hcl : c ≤ X.length := by have := HM.out; omega
      have hlow : ∀ z ∈ X.take c, leK z.1 y.1 := fun z hz => by
        obtain ⟨k, hk, hg⟩ := mem_take_get hz
        exact H1.out k z (by omega) hg
      have hhi : ∀ z ∈ X.drop c, ltK y.1 z.1 = true := fun z hz => by
        obtain ⟨k, hk, hg⟩ := mem_drop_get hz
        exact H2.out k z (by omega) hg
      have hsz : Srt (X.take c ++ y :: X.drop c) := ins_srt (by rw [List.take_append_drop]; exact HX.out) hlow hhi
      have hsf : SameF (X.take c ++ y :: X.drop c) (X ++ [y]) := ins_same (by rw [List.take_append_drop]; exact SameF.refl _) hhi
      have hst : OwnsP 42 B wr (.slice (some ⟨g, 0, none⟩) n cap) (P ++ X.take X.length ++ y :: (X.drop X.length ++ S)) := by
        have := HO.out
        rw [List.take_length, List.drop_length]
        simpa using this
      have HSz := Lib.hid hsz
      have HSf := Lib.hid hsf
      have HSt := Lib.hid hst
      have HCl := Lib.hid hcl
      clear hlow hhi hsz hsf hst HO hcl
      go_wp2_with fail
      go_loopw [17] (fun u wr => ∃ (t : Nat), u = .int .i64 (a + t : Nat) ∧ c ≤ t ∧ t ≤ X.length ∧ OwnsP 42 B wr (.slice (some ⟨g, 0, none⟩) n cap) (P ++ X.take t ++ y :: (X.drop t ++ S)) ∧ Below B w wr) (fun u _ => (intOf u).toNat)
      case atStart => exact ⟨X.length, by have := HM.out; congr 1; omega, HCl.out, Nat.le_refl _, HSt.out, hBr⟩
      case round =>
        obtain ⟨t, rfl, htc, htl, hO, hBt⟩ := hrel
        by_cases hlt2 : c < t
        · obtain ⟨s, rfl⟩ : ∃ s, t = s + 1 := ⟨t - 1, by omega⟩
          obtain ⟨x, hx⟩ : ∃ x, X[s]? = some x := ⟨X[s]'(by omega), by simp⟩
          have hO2 : OwnsP 42 B wr (.slice (some ⟨g, 0, none⟩) n cap) (two (P ++ X.take s) x [] y (X.drop (s + 1) ++ S)) := by
            have e : P ++ X.take (s + 1) ++ y :: (X.drop (s + 1) ++ S) = two (P ++ X.take s) x [] y (X.drop (s + 1) ++ S) := by unfold two; rw [take_more hx]; simp
            rw [← e]; exact hO
          have i1 : a + s = (P ++ X.take s).length := by have := HA.out; simp; omega
          have i2 : a + s + 1 = (P ++ X.take s).length + 1 + ([] : Flds).length := by have := HA.out; simp; omega
          have g1 := two_1 (P ++ X.take s) [] (X.drop (s + 1) ++ S) x y
          have g2 := two_2 (P ++ X.take s) [] (X.drop (s + 1) ++ S) x y
          rw [← i1] at g1
          rw [← i2] at g2
          have hnx : P ++ X.take s ++ y :: (X.drop s ++ S) = two (P ++ X.take s) y [] x (X.drop (s + 1) ++ S) := by unfold two; rw [drop_at hx]; simp
          have hkn : a + (s + 1) < n := by have := HM.out; omega
          generalize hk : a + s + 1 = k at *
          have hk1 : a + s = k - 1 := by omega
          rw [hk1] at g1 i1
          obtain ⟨c1, c2, f1, f2⟩ := own_at hO2 g1
          obtain ⟨c3, c4, f3, f4⟩ := own_at hO2 g2
          have HO2 := Lib.hid hO2
          have I1 := Lib.hid i1
          have I2 := Lib.hid i2
          have HNx := Lib.hid hnx
          have HK := Lib.hid hk
          have htl' : s + 1 ≤ X.length := htl
          have HTl := Lib.hid htl'
          have r1 : IntKind.i64.wrap ((k : Int) - 1) = (k : Int) - 1 := by rw [IntKind.wrap_i64]; omega
          have p0 : (0 : Int) ≤ (k : Int) - 1 := by omega
          have p1 : (k : Int) - 1 < (n : Int) := by omega
          have p2 : ((k : Int) - 1).toNat = k - 1 := by omega
          have p3 : (k : Int) < (n : Int) := by omega
          have p4 : (1 : Int) ≤ (k : Int) := by omega
          have p5 : (k : Int) ≤ (n : Int) := by omega
          have hkc : (a : Int) + (c : Int) < (k : Int) := by omega
          clear hO hO2 i1 i2 g1 g2 hx hnx hk hk1 htl htl'
          go_wp2_with fail
          go_region
          go_wp2_with fail
          go_roundw
          case rel => exact ⟨s, by have := HK.out; congr 1; omega, by omega, by have := HTl.out; omega, by rw [HNx.out]; exact World.ownsRow.drew (own_swap' HO2.out I1.out I2.out), (below_four hBt hBg _ _ _ _ _ _ _ _).drew⟩
          case measure => simp [intOf]; omega
        · obtain rfl : t = c := by omega
          have hfin : OwnsP 42 B wr (.slice (some ⟨g, 0, none⟩) n cap) (P ++ (X.take t ++ y :: X.drop t) ++ S) := by simpa using hO
          have HFin := Lib.hid hfin
          clear hO hfin
          go_wp2_with fail
          go_end0
          exact ⟨rfl, _, HSz.out, HSf.out, HFin.out, hBt⟩
end Go.Proofs.Ythpjemihbobjfaa
