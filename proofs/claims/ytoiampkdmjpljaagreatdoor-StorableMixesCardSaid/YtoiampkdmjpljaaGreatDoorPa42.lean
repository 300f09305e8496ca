import Derived.Test.YtoiampkdmjpljaaGreatDoorPa41
/- What slices.symMerge does where the first part is a single field. -/
namespace Go.Proofs.YtoiampkdmjpljaaGreatDoor
open Go.RowKit

theorem srt_get {l : Flds} (h : Srt l) {i j : Nat} {p q : List UInt8 × List UInt8} (hp : l[i]? = some p) (hq : l[j]? = some q) (hij : i ≤ j) : leK p.1 q.1 := by
  obtain ⟨hi, rfl⟩ := List.getElem?_eq_some_iff.mp hp
  obtain ⟨hj, rfl⟩ := List.getElem?_eq_some_iff.mp hq
  rcases Nat.lt_or_eq_of_le hij with h1 | rfl
  · exact List.pairwise_iff_getElem.mp h i j hi hj h1
  · exact le_refl' _
theorem mid_srt {Z1 Z2 : Flds} {x : List UInt8 × List UInt8} (h : Srt (Z1 ++ Z2)) (h1 : ∀ z ∈ Z1, leK z.1 x.1) (h2 : ∀ z ∈ Z2, leK x.1 z.1) : Srt (Z1 ++ x :: Z2) := by
  refine h.left.app (List.pairwise_cons.2 ⟨h2, h.right⟩) fun p hp q hq => ?_
  rcases List.mem_cons.1 hq with rfl | hq
  · exact h1 p hp
  · exact h.cross p hp q hq
theorem mem_take_get {l : Flds} {c : Nat} {p : List UInt8 × List UInt8} (h : p ∈ l.take c) : ∃ k, k < c ∧ l[k]? = some p := by
  obtain ⟨k, hk⟩ := List.getElem?_of_mem h
  rw [List.getElem?_take] at hk
  split at hk
  · exact ⟨k, by assumption, hk⟩
  · cases hk
theorem mem_drop_get {l : Flds} {c : Nat} {p : List UInt8 × List UInt8} (h : p ∈ l.drop c) : ∃ k, c ≤ k ∧ l[k]? = some p := by
  obtain ⟨k, hk⟩ := List.getElem?_of_mem h
  rw [List.getElem?_drop] at hk
  exact ⟨c + k, by omega, hk⟩
def MergePost (B g n cap : Nat) (P X Y S : Flds) (w : World) (e : Ending) (w' : World) : Prop :=
  e = .returned (.tuple #[]) ∧ ∃ Z, Srt Z ∧ SameF Z (X ++ Y) ∧ OwnsP 58 B w' (.slice (some ⟨g, 0, none⟩) n cap) (P ++ Z ++ S) ∧ Below B w w'
theorem half {i j : Nat} (h : i < j) : ∃ c : Nat, ((i : Int) + (j : Int)) / 2 = (c : Int) ∧ i ≤ c ∧ c < j := ⟨(i + j) / 2, by omega, by omega, by omega⟩

set_option maxHeartbeats 4000000 in
set_option maxRecDepth 100000 in
theorem mergeA_any (B g n cap a m b : Nat) (P Y S : Flds) (x : List UInt8 × List UInt8) (w : World) (h : OwnsP 58 B w (.slice (some ⟨g, 0, none⟩) n cap) (P ++ [x] ++ Y ++ S))
    (ha : a = P.length) (hm : m = a + 1) (hb : b = m + Y.length) (hY : Srt Y) (hn : n ≤ 1000000) :
    Calls Tryz.prog 120 #[.slice (some ⟨g, 0, none⟩) n cap, .int .i64 a, .int .i64 m, .int .i64 b, cmpV] w (MergePost B g n cap P [x] Y S w) := by
  obtain ⟨hml, hBg, hgl, hmc⟩ := own_len h
  have hmle : P.length + 1 + Y.length + S.length = n := by rw [hml]; simp; omega
  have hbn : b ≤ n := by omega
  have han : a < m := by omega
  have hmb : m ≤ b := by omega
  have hBw : B ≤ w.heap.size := by omega
  have hgx : (P ++ [x] ++ Y ++ S)[a]? = some x := by rw [ha]; simp
  have hgy : ∀ k y, Y[k]? = some y → (P ++ [x] ++ Y ++ S)[m + k]? = some y := by
    intro k y hk
    have hkl := (List.getElem?_eq_some_iff.mp hk).1
    rw [List.getElem?_append_left (by simp; omega), List.getElem?_append_right (by simp; omega)]
    simpa [show m + k - (P.length + 1) = k by omega] using hk
  have e1 : (m : Int) - (a : Int) = 1 := by omega
  have HH := Lib.hid h
  have HA := Lib.hid ha
  have HM := Lib.hid hm
  have HB := Lib.hid hb
  have HY := Lib.hid hY
  have HGx := Lib.hid hgx
  have HGy := Lib.hid hgy
  clear h hml hmle ha hm hb hY hgx hgy
  go_enter Tryz.func120, Tryz.ntmps120
  go_wp2_with fail
  go_loopw [10, 11] (fun u v wr => ∃ (i j : Nat), u = .int .i64 i ∧ v = .int .i64 j ∧ m ≤ i ∧ i ≤ j ∧ j ≤ b ∧ (∀ k y, m + k < i → Y[k]? = some y → ltK y.1 x.1 = true) ∧ (∀ k y, j ≤ m + k → Y[k]? = some y → ltK y.1 x.1 = false) ∧
    OwnsP 58 B wr (.slice (some ⟨g, 0, none⟩) n cap) (P ++ [x] ++ Y ++ S) ∧ Below B w wr) (fun u v _ => (intOf v).toNat - (intOf u).toNat)
  case atStart => exact ⟨m, b, rfl, rfl, Nat.le_refl _, hmb, Nat.le_refl _, (fun k y hk _ => by omega), (fun k y hk hy => by have h1 := (List.getElem?_eq_some_iff.mp hy).1; have h2 := HB.out; omega), HH.out, Below.refl _ _⟩
  case round =>
    obtain ⟨i, j, rfl, rfl, hmi, hij, hjb, h1, h2, hO, hBr⟩ := hrel
    have H1 := Lib.hid h1
    have H2 := Lib.hid h2
    have HO := Lib.hid hO
    clear h1 h2 hO
    by_cases hlt : i < j
    · obtain ⟨c, ec, hic, hcj⟩ := half hlt
      obtain ⟨k, rfl⟩ : ∃ k, c = m + k := ⟨c - m, by omega⟩
      obtain ⟨y, hy⟩ : ∃ y, Y[k]? = some y := ⟨Y[k]'(by have := HB.out; omega), by simp⟩
      have q1 := HGy.out k y hy
      have hP := pair4_of HO.out q1 HGx.out
      have HYk := Lib.hid hy
      have ec' : ((i : Int) + (j : Int)) / 2 = (m : Int) + (k : Int) := by omega
      have p0 : (0 : Int) ≤ (m : Int) + (k : Int) := by omega
      have p1 : (m : Int) + (k : Int) < (n : Int) := by omega
      have p2 : ((m : Int) + (k : Int)).toNat = m + k := by omega
      have p3 : (a : Int) < (n : Int) := by omega
      clear q1 hy ec
      cases hl : ltK y.1 x.1 with
      | true =>
        have HL := Lib.hid hl
        clear hl
        go_wp2_with fail
        go_region_held3 (fun w' => w'.cell? ⟨g, (m + k) * 2, none⟩ = some (.string (strB y.1)) ∧ w'.cell? ⟨g, (m + k) * 2 + 1, none⟩ = some (.string (strB y.2)) ∧ w'.cell? ⟨g, a * 2, none⟩ = some (.string (strB x.1)) ∧ w'.cell? ⟨g, a * 2 + 1, none⟩ = some (.string (strB x.2)) ∧ Below wr.heap.size wr w')
          (first | exact hP.drew | exact hP2)
          (first | (go_at_call 74; refine (cmp_lt (by assumption) HL.out).mono ?_; rintro e w2 ⟨z, rfl, hz, hP2⟩))
        have hO2 := OwnsP.below HO.out hP2.2.2.2.2
        have hB2 := hBr.trans (hP2.2.2.2.2.mono (Nat.le_trans hBw hBr.size))
        have HO2 := Lib.hid hO2
        clear hO2 hP hP2
        go_wp2_with fail
        go_roundw
        case rel => exact ⟨m + k + 1, j, by go_num, rfl, by omega, by omega, hjb, (fun q z hq hz => le_lt_lt (srt_get HY.out hz HYk.out (by omega)) HL.out), H2.out, HO2.out, hB2⟩
        case measure => simp [intOf]; omega
      | false =>
        have HL := Lib.hid hl
        clear hl
        go_wp2_with fail
        go_region_held3 (fun w' => w'.cell? ⟨g, (m + k) * 2, none⟩ = some (.string (strB y.1)) ∧ w'.cell? ⟨g, (m + k) * 2 + 1, none⟩ = some (.string (strB y.2)) ∧ w'.cell? ⟨g, a * 2, none⟩ = some (.string (strB x.1)) ∧ w'.cell? ⟨g, a * 2 + 1, none⟩ = some (.string (strB x.2)) ∧ Below wr.heap.size wr w')
          (first | exact hP.drew | exact hP2)
          (first | (go_at_call 74; refine (cmp_ge (by assumption) HL.out).mono ?_; rintro e w2 ⟨z, rfl, hz, hP2⟩))
        have hO2 := OwnsP.below HO.out hP2.2.2.2.2
        have hB2 := hBr.trans (hP2.2.2.2.2.mono (Nat.le_trans hBw hBr.size))
        have HO2 := Lib.hid hO2
        clear hO2 hP hP2
        go_wp2_with fail
        go_roundw
        case rel => exact ⟨i, m + k, rfl, by go_num, hmi, hic, by omega, H1.out, (fun q z hq hz => by
          cases h : ltK z.1 x.1 with
          | false => rfl
          | true =>
            have := le_lt_lt (srt_get HY.out HYk.out hz (by omega)) h
            rw [HL.out] at this; cases this), HO2.out, hB2⟩
        case measure => simp [intOf]; omega
    · -- the place of the one field is found: it is carried there
      obtain rfl : i = j := by omega
      obtain ⟨c, rfl⟩ : ∃ c, i = m + c := ⟨i - m, by omega⟩
      have hcl : c ≤ Y.length := by have := HB.out; omega
      have hlow : ∀ z ∈ Y.take c, ltK z.1 x.1 = true := fun z hz => by
        obtain ⟨k, hk, hg⟩ := mem_take_get hz
        exact H1.out k z (by omega) hg
      have hhi : ∀ z ∈ Y.drop c, leK x.1 z.1 := fun z hz => by
        obtain ⟨k, hk, hg⟩ := mem_drop_get hz
        exact H2.out k z (by omega) hg
      have hsz : Srt (Y.take c ++ x :: Y.drop c) := mid_srt (by rw [List.take_append_drop]; exact HY.out) (fun z hz => lt_le (hlow z hz)) hhi
      have hsf : SameF (Y.take c ++ x :: Y.drop c) ([x] ++ Y) := by
        have e : SameF (Y.take c ++ [x]) ([x] ++ Y.take c) := SameF.swap fun p hp q hq he => by
          simp at hp; subst hp
          have := hlow q hq
          rw [he, lt_irrefl'] at this; cases this
        have e2 := e.app (SameF.refl (Y.drop c))
        rw [List.append_assoc, List.append_assoc, List.take_append_drop] at e2
        exact e2
      have hst : OwnsP 58 B wr (.slice (some ⟨g, 0, none⟩) n cap) (P ++ Y.take 0 ++ x :: (Y.drop 0 ++ S)) := by
        have := HO.out
        simpa using this
      have HSz := Lib.hid hsz
      have HSf := Lib.hid hsf
      have HSt := Lib.hid hst
      have HCl := Lib.hid hcl
      have e2 : (m : Int) + (c : Int) - 1 = (a : Int) + (c : Int) := by have := HM.out; omega
      have hmc' : m + c ≤ n := by omega
      clear hlow hhi hsz hsf hst HO hcl
      go_wp2_with fail
      go_loopw [13] (fun u wr => ∃ (t : Nat), u = .int .i64 (a + t : Nat) ∧ t ≤ c ∧ OwnsP 58 B wr (.slice (some ⟨g, 0, none⟩) n cap) (P ++ Y.take t ++ x :: (Y.drop t ++ S)) ∧ Below B w wr) (fun u _ => a + c - (intOf u).toNat)
      case atStart => exact ⟨0, by go_num, Nat.zero_le _, HSt.out, hBr⟩
      case round =>
        obtain ⟨t, rfl, htc, hO, hBt⟩ := hrel
        by_cases hlt2 : t < c
        · obtain ⟨y, hy⟩ : ∃ y, Y[t]? = some y := ⟨Y[t]'(by have := HCl.out; omega), by simp⟩
          have hO2 : OwnsP 58 B wr (.slice (some ⟨g, 0, none⟩) n cap) (two (P ++ Y.take t) x [] y (Y.drop (t + 1) ++ S)) := by
            have e : P ++ Y.take t ++ x :: (Y.drop t ++ S) = two (P ++ Y.take t) x [] y (Y.drop (t + 1) ++ S) := by unfold two; rw [drop_at hy]; simp
            rw [← e]; exact hO
          have i1 : a + t = (P ++ Y.take t).length := by have := HA.out; have := HCl.out; simp; omega
          have i2 : a + t + 1 = (P ++ Y.take t).length + 1 + ([] : Flds).length := by have := HA.out; have := HCl.out; simp; omega
          have g1 := two_1 (P ++ Y.take t) [] (Y.drop (t + 1) ++ S) x y
          have g2 := two_2 (P ++ Y.take t) [] (Y.drop (t + 1) ++ S) x y
          rw [← i1] at g1
          rw [← i2] at g2
          obtain ⟨c1, c2, f1, f2⟩ := own_at hO2 g1
          obtain ⟨c3, c4, f3, f4⟩ := own_at hO2 g2
          have hnx : P ++ Y.take (t + 1) ++ x :: (Y.drop (t + 1) ++ S) = two (P ++ Y.take t) y [] x (Y.drop (t + 1) ++ S) := by unfold two; rw [take_more hy]; simp
          have HO2 := Lib.hid hO2
          have I1 := Lib.hid i1
          have I2 := Lib.hid i2
          have HNx := Lib.hid hnx
          generalize hk : a + t = k at *
          have HK := Lib.hid hk
          have r1 : IntKind.i64.wrap ((k : Int) + 1) = (k : Int) + 1 := by rw [IntKind.wrap_i64]; omega
          have p0 : (0 : Int) ≤ (k : Int) + 1 := by omega
          have p1 : (k : Int) + 1 < (n : Int) := by omega
          have p2 : ((k : Int) + 1).toNat = k + 1 := by omega
          have p3 : (k : Int) < (n : Int) := by omega
          have hkc : (k : Int) < (a : Int) + (c : Int) := by omega
          clear hO hO2 i1 i2 g1 g2 hy hnx hk
          go_wp2_with fail
          go_region
          go_wp2_with fail
          go_roundw
          case rel => exact ⟨t + 1, by have := HK.out; congr 1; omega, by omega, by rw [HNx.out]; exact World.ownsRow.drew (own_swap HO2.out I1.out I2.out), (below_four hBt hBg _ _ _ _ _ _ _ _).drew⟩
          case measure => simp [intOf]; omega
        · obtain rfl : t = c := by omega
          have hfin : OwnsP 58 B wr (.slice (some ⟨g, 0, none⟩) n cap) (P ++ (Y.take t ++ x :: Y.drop t) ++ S) := by simpa using hO
          have HFin := Lib.hid hfin
          clear hO hfin
          go_wp2_with fail
          go_end0
          exact ⟨rfl, _, HSz.out, HSf.out, HFin.out, hBt⟩
end Go.Proofs.YtoiampkdmjpljaaGreatDoor

/- What slices.symMerge does where the second part is a single field, and the first is not. -/
namespace Go.Proofs.YtoiampkdmjpljaaGreatDoor
open Go.RowKit

set_option maxHeartbeats 4000000 in
set_option maxRecDepth 100000 in
theorem mergeB_any (B g n cap a m b : Nat) (P X S : Flds) (y : List UInt8 × List UInt8) (w : World) (h : OwnsP 58 B w (.slice (some ⟨g, 0, none⟩) n cap) (P ++ X ++ [y] ++ S))
    (ha : a = P.length) (hm : m = a + X.length) (hb : b = m + 1) (hX : Srt X) (hx1 : X.length ≠ 1) (hn : n ≤ 1000000) :
    Calls Tryz.prog 120 #[.slice (some ⟨g, 0, none⟩) n cap, .int .i64 a, .int .i64 m, .int .i64 b, cmpV] w (MergePost B g n cap P X [y] S w) := by
  obtain ⟨hml, hBg, hgl, hmc⟩ := own_len h
  have hmle : P.length + X.length + 1 + S.length = n := by rw [hml]; simp; omega
  have hbn : m + 1 ≤ n := by omega
  have hab : a ≤ m := by omega
  have hBw : B ≤ w.heap.size := by omega
  have hgy : (P ++ X ++ [y] ++ S)[m]? = some y := by
    rw [List.getElem?_append_left (by simp; omega), List.getElem?_append_right (by simp; omega)]
    simp [show m - (P.length + X.length) = 0 by omega]
  have hgx : ∀ k x, X[k]? = some x → (P ++ X ++ [y] ++ S)[a + k]? = some x := by
    intro k x hk
    have hkl := (List.getElem?_eq_some_iff.mp hk).1
    rw [List.append_assoc, List.append_assoc, List.getElem?_append_right (by omega), List.getElem?_append_left (by omega)]
    simpa [show a + k - P.length = k by omega] using hk
  have e0 : ((m : Int) - (a : Int) == 1) = false := by simp; omega
  have e1 : (b : Int) - (m : Int) = 1 := by omega
  have HH := Lib.hid h
  have HA := Lib.hid ha
  have HM := Lib.hid hm
  have HX := Lib.hid hX
  have HGx := Lib.hid hgx
  have HGy := Lib.hid hgy
  clear h hml hmle ha hm hb hX hgx hgy hx1
  go_enter Tryz.func120, Tryz.ntmps120
  go_wp2_with fail
  go_loopw [14, 15] (fun u v wr => ∃ (i j : Nat), u = .int .i64 i ∧ v = .int .i64 j ∧ a ≤ i ∧ i ≤ j ∧ j ≤ m ∧ (∀ k x, a + k < i → X[k]? = some x → ltK y.1 x.1 = false) ∧ (∀ k x, j ≤ a + k → X[k]? = some x → ltK y.1 x.1 = true) ∧
    OwnsP 58 B wr (.slice (some ⟨g, 0, none⟩) n cap) (P ++ X ++ [y] ++ S) ∧ Below B w wr) (fun u v _ => (intOf v).toNat - (intOf u).toNat)
  case atStart => exact ⟨a, m, rfl, rfl, Nat.le_refl _, hab, Nat.le_refl _, (fun k x hk _ => by omega), (fun k x hk hx => by have h1 := (List.getElem?_eq_some_iff.mp hx).1; have h2 := HM.out; omega), HH.out, Below.refl _ _⟩
  case round =>
    obtain ⟨i, j, rfl, rfl, hmi, hij, hjb, h1, h2, hO, hBr⟩ := hrel
    have H1 := Lib.hid h1
    have H2 := Lib.hid h2
    have HO := Lib.hid hO
    clear h1 h2 hO
    by_cases hlt : i < j
    · obtain ⟨c, ec, hic, hcj⟩ := half hlt
      obtain ⟨k, rfl⟩ : ∃ k, c = a + k := ⟨c - a, by omega⟩
      obtain ⟨x, hx⟩ : ∃ x, X[k]? = some x := ⟨X[k]'(by have := HM.out; omega), by simp⟩
      have q1 := HGx.out k x hx
      have hP := pair4_of HO.out HGy.out q1
      have HXk := Lib.hid hx
      have ec' : ((i : Int) + (j : Int)) / 2 = (a : Int) + (k : Int) := by omega
      have p0 : (0 : Int) ≤ (a : Int) + (k : Int) := by omega
      have p1 : (a : Int) + (k : Int) < (n : Int) := by omega
      have p2 : ((a : Int) + (k : Int)).toNat = a + k := by omega
      have p3 : (m : Int) < (n : Int) := by omega
      clear q1 hx ec
      cases hl : ltK y.1 x.1 with
      | true =>
        have HL := Lib.hid hl
        clear hl
        go_wp2_with fail
        go_region_held3 (fun w' => w'.cell? ⟨g, m * 2, none⟩ = some (.string (strB y.1)) ∧ w'.cell? ⟨g, m * 2 + 1, none⟩ = some (.string (strB y.2)) ∧ w'.cell? ⟨g, (a + k) * 2, none⟩ = some (.string (strB x.1)) ∧ w'.cell? ⟨g, (a + k) * 2 + 1, none⟩ = some (.string (strB x.2)) ∧ Below wr.heap.size wr w')
          (first | exact hP.drew | exact hP2)
          (first | (go_at_call 74; refine (cmp_lt (by assumption) HL.out).mono ?_; rintro e w2 ⟨z, rfl, hz, hP2⟩))
        have hO2 := OwnsP.below HO.out hP2.2.2.2.2
        have hB2 := hBr.trans (hP2.2.2.2.2.mono (Nat.le_trans hBw hBr.size))
        have HO2 := Lib.hid hO2
        clear hO2 hP hP2
        go_wp2_with fail
        go_roundw
        case rel => exact ⟨i, a + k, rfl, by go_num, hmi, hic, by omega, H1.out, (fun q z hq hz => lt_le_lt HL.out (srt_get HX.out HXk.out hz (by omega))), HO2.out, hB2⟩
        case measure => simp [intOf]; omega
      | false =>
        have HL := Lib.hid hl
        clear hl
        go_wp2_with fail
        go_region_held3 (fun w' => w'.cell? ⟨g, m * 2, none⟩ = some (.string (strB y.1)) ∧ w'.cell? ⟨g, m * 2 + 1, none⟩ = some (.string (strB y.2)) ∧ w'.cell? ⟨g, (a + k) * 2, none⟩ = some (.string (strB x.1)) ∧ w'.cell? ⟨g, (a + k) * 2 + 1, none⟩ = some (.string (strB x.2)) ∧ Below wr.heap.size wr w')
          (first | exact hP.drew | exact hP2)
          (first | (go_at_call 74; refine (cmp_ge (by assumption) HL.out).mono ?_; rintro e w2 ⟨z, rfl, hz, hP2⟩))
        have hO2 := OwnsP.below HO.out hP2.2.2.2.2
        have hB2 := hBr.trans (hP2.2.2.2.2.mono (Nat.le_trans hBw hBr.size))
        have HO2 := Lib.hid hO2
        clear hO2 hP hP2
        go_wp2_with fail
        go_roundw
        case rel => exact ⟨a + k + 1, j, by go_num, rfl, by omega, by omega, hjb, (fun q z hq hz => by
          cases h : ltK y.1 z.1 with
          | false => rfl
          | true =>
            have := lt_le_lt h (srt_get HX.out hz HXk.out (by omega))
            rw [HL.out] at this; cases this), H2.out, HO2.out, hB2⟩
        case measure => simp [intOf]; omega
        case roundEnd => rename_i hc; simp at hc; omega
    · -- the place of the one field is found: it is carried there
      obtain rfl : i = j := by omega
      obtain ⟨c, rfl⟩ : ∃ c, i = a + c := ⟨i - a, by omega⟩
      have hcl : c ≤ X.length := by have := HM.out; omega
      have hlow : ∀ z ∈ X.take c, leK z.1 y.1 := fun z hz => by
        obtain ⟨k, hk, hg⟩ := mem_take_get hz
        exact H1.out k z (by omega) hg
      have hhi : ∀ z ∈ X.drop c, ltK y.1 z.1 = true := fun z hz => by
        obtain ⟨k, hk, hg⟩ := mem_drop_get hz
        exact H2.out k z (by omega) hg
      have hsz : Srt (X.take c ++ y :: X.drop c) := ins_srt (by rw [List.take_append_drop]; exact HX.out) hlow hhi
      have hsf : SameF (X.take c ++ y :: X.drop c) (X ++ [y]) := ins_same (by rw [List.take_append_drop]; exact SameF.refl _) hhi
      have hst : OwnsP 58 B wr (.slice (some ⟨g, 0, none⟩) n cap) (P ++ X.take X.length ++ y :: (X.drop X.length ++ S)) := by
        have := HO.out
        rw [List.take_length, List.drop_length]
        simpa using this
      have HSz := Lib.hid hsz
      have HSf := Lib.hid hsf
      have HSt := Lib.hid hst
      have HCl := Lib.hid hcl
      clear hlow hhi hsz hsf hst HO hcl
      go_wp2_with fail
      go_loopw [17] (fun u wr => ∃ (t : Nat), u = .int .i64 (a + t : Nat) ∧ c ≤ t ∧ t ≤ X.length ∧ OwnsP 58 B wr (.slice (some ⟨g, 0, none⟩) n cap) (P ++ X.take t ++ y :: (X.drop t ++ S)) ∧ Below B w wr) (fun u _ => (intOf u).toNat)
      case atStart => exact ⟨X.length, by have := HM.out; congr 1; omega, HCl.out, Nat.le_refl _, HSt.out, hBr⟩
      case round =>
        obtain ⟨t, rfl, htc, htl, hO, hBt⟩ := hrel
        by_cases hlt2 : c < t
        · obtain ⟨s, rfl⟩ : ∃ s, t = s + 1 := ⟨t - 1, by omega⟩
          obtain ⟨x, hx⟩ : ∃ x, X[s]? = some x := ⟨X[s]'(by omega), by simp⟩
          have hO2 : OwnsP 58 B wr (.slice (some ⟨g, 0, none⟩) n cap) (two (P ++ X.take s) x [] y (X.drop (s + 1) ++ S)) := by
            have e : P ++ X.take (s + 1) ++ y :: (X.drop (s + 1) ++ S) = two (P ++ X.take s) x [] y (X.drop (s + 1) ++ S) := by unfold two; rw [take_more hx]; simp
            rw [← e]; exact hO
          have i1 : a + s = (P ++ X.take s).length := by have := HA.out; simp; omega
          have i2 : a + s + 1 = (P ++ X.take s).length + 1 + ([] : Flds).length := by have := HA.out; simp; omega
          have g1 := two_1 (P ++ X.take s) [] (X.drop (s + 1) ++ S) x y
          have g2 := two_2 (P ++ X.take s) [] (X.drop (s + 1) ++ S) x y
          rw [← i1] at g1
          rw [← i2] at g2
          have hnx : P ++ X.take s ++ y :: (X.drop s ++ S) = two (P ++ X.take s) y [] x (X.drop (s + 1) ++ S) := by unfold two; rw [drop_at hx]; simp
          have hkn : a + (s + 1) < n := by have := HM.out; omega
          generalize hk : a + s + 1 = k at *
          have hk1 : a + s = k - 1 := by omega
          rw [hk1] at g1 i1
          obtain ⟨c1, c2, f1, f2⟩ := own_at hO2 g1
          obtain ⟨c3, c4, f3, f4⟩ := own_at hO2 g2
          have HO2 := Lib.hid hO2
          have I1 := Lib.hid i1
          have I2 := Lib.hid i2
          have HNx := Lib.hid hnx
          have HK := Lib.hid hk
          have htl' : s + 1 ≤ X.length := htl
          have HTl := Lib.hid htl'
          have r1 : IntKind.i64.wrap ((k : Int) - 1) = (k : Int) - 1 := by rw [IntKind.wrap_i64]; omega
          have p0 : (0 : Int) ≤ (k : Int) - 1 := by omega
          have p1 : (k : Int) - 1 < (n : Int) := by omega
          have p2 : ((k : Int) - 1).toNat = k - 1 := by omega
          have p3 : (k : Int) < (n : Int) := by omega
          have p4 : (1 : Int) ≤ (k : Int) := by omega
          have p5 : (k : Int) ≤ (n : Int) := by omega
          have hkc : (a : Int) + (c : Int) < (k : Int) := by omega
          clear hO hO2 i1 i2 g1 g2 hx hnx hk hk1 htl htl'
          go_wp2_with fail
          go_region
          go_wp2_with fail
          go_roundw
          case rel => exact ⟨s, by have := HK.out; congr 1; omega, by omega, by have := HTl.out; omega, by rw [HNx.out]; exact World.ownsRow.drew (own_swap' HO2.out I1.out I2.out), (below_four hBt hBg _ _ _ _ _ _ _ _).drew⟩
          case measure => simp [intOf]; omega
        · obtain rfl : t = c := by omega
          have hfin : OwnsP 58 B wr (.slice (some ⟨g, 0, none⟩) n cap) (P ++ (X.take t ++ y :: X.drop t) ++ S) := by simpa using hO
          have HFin := Lib.hid hfin
          clear hO hfin
          go_wp2_with fail
          go_end0
          exact ⟨rfl, _, HSz.out, HSf.out, HFin.out, hBt⟩
end Go.Proofs.YtoiampkdmjpljaaGreatDoor

/- Plain mathematics: where symMerge divides the two parts; nothing of the program. -/
namespace Go.Proofs.YtoiampkdmjpljaaGreatDoor
open Go.RowKit

/-- The fields before the place in Y are before all behind the place in X. -/
theorem cut_lt {X Y : Flds} {h s hi : Nat} (hX : Srt X) (hY : Srt Y) (_hs : s ≤ h) (hr : h ≤ s + Y.length) (hi1 : hi = h ∨ hi = X.length) (hsi : s ≤ hi)
    (hB : ∀ k x y, s ≤ k → k < hi → X[k]? = some x → Y[h - 1 - k]? = some y → ltK y.1 x.1 = true) : ∀ p ∈ Y.take (h - s), ∀ q ∈ X.drop s, ltK p.1 q.1 = true := by
  intro p hp q hq
  obtain ⟨j, hj, hpj⟩ := mem_take_get hp
  obtain ⟨k, hk, hqk⟩ := mem_drop_get hq
  have hkl := (List.getElem?_eq_some_iff.mp hqk).1
  have hlt : s < hi := by omega
  obtain ⟨x, hx⟩ : ∃ x, X[s]? = some x := ⟨X[s]'(by omega), by simp⟩
  obtain ⟨y, hy⟩ : ∃ y, Y[h - 1 - s]? = some y := ⟨Y[h - 1 - s]'(by omega), by simp⟩
  exact lt_le_lt (le_lt_lt (srt_get hY hpj hy (by omega)) (hB s x y (Nat.le_refl _) hlt hx hy)) (srt_get hX hx hqk hk)
theorem cut_le {X Y : Flds} {h s lo : Nat} (hX : Srt X) (hY : Srt Y) (hs : s ≤ h) (hsl : s ≤ X.length) (hlo : lo = 0 ∨ lo + Y.length = h)
    (hA : ∀ k x y, lo ≤ k → k < s → X[k]? = some x → Y[h - 1 - k]? = some y → ltK y.1 x.1 = false) : ∀ p ∈ X.take s, ∀ q ∈ Y.drop (h - s), leK p.1 q.1 := by
  intro p hp q hq
  obtain ⟨i, hi, hpi⟩ := mem_take_get hp
  obtain ⟨j, hj, hqj⟩ := mem_drop_get hq
  have hjl := (List.getElem?_eq_some_iff.mp hqj).1
  obtain ⟨x, hx⟩ : ∃ x, X[s - 1]? = some x := ⟨X[s - 1]'(by omega), by simp⟩
  obtain ⟨y, hy⟩ : ∃ y, Y[h - 1 - (s - 1)]? = some y := ⟨Y[h - 1 - (s - 1)]'(by omega), by simp⟩
  have h1 : leK x.1 y.1 := hA (s - 1) x y (by omega) (by omega) hx hy
  exact le_trans' (le_trans' (srt_get hX hpi hx (by omega)) h1) (srt_get hY hy hqj (by omega))
theorem merge_join {X1 X2 Y1 Y2 Z1 Z2 : Flds} (hX : Srt (X1 ++ X2)) (hY : Srt (Y1 ++ Y2)) (c1 : ∀ p ∈ Y1, ∀ q ∈ X2, ltK p.1 q.1 = true) (c2 : ∀ p ∈ X1, ∀ q ∈ Y2, leK p.1 q.1)
    (h1 : Srt Z1) (h2 : Srt Z2) (s1 : SameF Z1 (X1 ++ Y1)) (s2 : SameF Z2 (X2 ++ Y2)) : Srt (Z1 ++ Z2) ∧ SameF (Z1 ++ Z2) ((X1 ++ X2) ++ (Y1 ++ Y2)) := by
  refine ⟨h1.app h2 fun p hp q hq => ?_, ?_⟩
  · rcases List.mem_append.1 (s1.mem hp) with hp | hp <;> rcases List.mem_append.1 (s2.mem hq) with hq | hq
    · exact hX.cross p hp q hq
    · exact c2 p hp q hq
    · exact lt_le (c1 p hp q hq)
    · exact hY.cross p hp q hq
  · have e : SameF (Y1 ++ X2) (X2 ++ Y1) := SameF.swap fun p hp q hq he => by
      have := c1 q hq p hp
      rw [he, lt_irrefl'] at this; cases this
    have e2 := ((SameF.refl X1).app e).app (SameF.refl Y2)
    have e3 := (s1.app s2)
    have r1 : (X1 ++ Y1) ++ (X2 ++ Y2) = X1 ++ (Y1 ++ X2) ++ Y2 := by simp
    have r2 : X1 ++ (X2 ++ Y1) ++ Y2 = (X1 ++ X2) ++ (Y1 ++ Y2) := by simp
    rw [r1] at e3
    rw [r2] at e2
    exact e3.trans e2
theorem one_side {X Y : Flds} (hX : Srt X) (hY : Srt Y) (h : X.length = 0 ∨ Y.length = 0) : Srt (X ++ Y) := by
  rcases h with h | h
  · rw [List.eq_nil_of_length_eq_zero h]; exact hY
  · rw [List.eq_nil_of_length_eq_zero h, List.append_nil]; exact hX
theorem nil_of_le {X : Flds} (h : X.length ≤ 0) : X = [] := List.eq_nil_of_length_eq_zero (by omega)
end Go.Proofs.YtoiampkdmjpljaaGreatDoor
