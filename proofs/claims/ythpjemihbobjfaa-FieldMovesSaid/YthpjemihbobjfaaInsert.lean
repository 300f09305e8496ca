/- What the order's comparison and slices.insertionSort do. -/
import Derived.Test.YthpjemihbobjfaaSwap
import Derived.Test.YthpjemihbobjfaaShelf
import Derived.Test.YthpjemihbobjfaaFAll
import Derived.Deep.RegionHeld3
import Derived.Deep.QuietTactic
import Derived.BigQuiet
namespace Go.Proofs.Ythpjemihbobjfaa
open Go.RowKit

abbrev cmpV : Value := .func (.func 39) #[] #[]
set_option maxHeartbeats 1000000 in
set_option maxRecDepth 100000 in
theorem cmp_any (a b c e : List UInt8) (w : World) :
    Calls Try.prog 39 #[.agg #[.string (strB a), .string (strB b)], .agg #[.string (strB c), .string (strB e)]] w fun r w' => r = .returned (.int .i64 (Lib.compareBytes a c)) ∧ Below w.heap.size w w' := by
  have C := fun w => Try.strings_Compare (strB a) (strB c) w
  rw [strB_list, strB_list] at C
  go_enter Try.func39, Try.ntmps39
  go_wp2_with fail
  refine (C _).mono ?_
  rintro r w' ⟨rfl, rfl⟩
  go_wp2_with fail
  go_ret
  have h1 := below_new w (.cells #[.string (strB a), .string (strB b)] 42)
  exact ⟨rfl, h1.alloc h1.size _⟩
/-- Two fields of a block, and what was there, as they were. -/
def Pair4 (w0 : World) (g i j : Nat) (x y : List UInt8 × List UInt8) (w' : World) : Prop :=
  w'.cell? ⟨g, i * 2, none⟩ = some (.string (strB x.1)) ∧ w'.cell? ⟨g, i * 2 + 1, none⟩ = some (.string (strB x.2)) ∧ w'.cell? ⟨g, j * 2, none⟩ = some (.string (strB y.1)) ∧ w'.cell? ⟨g, j * 2 + 1, none⟩ = some (.string (strB y.2)) ∧ Below w0.heap.size w0 w'
theorem Pair4.below {w0 : World} {g i j : Nat} {x y : List UInt8 × List UInt8} {w w' : World} (h : Pair4 w0 g i j x y w) (hb : Below w.heap.size w w') : Pair4 w0 g i j x y w' :=
  ⟨(hb.cell (World.block_lt_of_cell? w _ h.1)).trans h.1, (hb.cell (World.block_lt_of_cell? w _ h.2.1)).trans h.2.1, (hb.cell (World.block_lt_of_cell? w _ h.2.2.1)).trans h.2.2.1, (hb.cell (World.block_lt_of_cell? w _ h.2.2.2.1)).trans h.2.2.2.1,
    h.2.2.2.2.trans (hb.mono h.2.2.2.2.size)⟩
theorem Pair4.drew {w0 : World} {g i j : Nat} {x y : List UInt8 × List UInt8} {w : World} (h : Pair4 w0 g i j x y w) : Pair4 w0 g i j x y w.drew := h.below (below_drewN (Below.refl _ _) 1)
theorem pair4_of {B g n cap i j : Nat} {w : World} {d : Flds} {x y : List UInt8 × List UInt8} (h : OwnsP 42 B w (.slice (some ⟨g, 0, none⟩) n cap) d) (hx : d[i]? = some x) (hy : d[j]? = some y) : Pair4 w g i j x y w :=
  ⟨(own_at h hx).1, (own_at h hx).2.1, (own_at h hy).1, (own_at h hy).2.1, Below.refl _ _⟩
theorem cmp_lt {w0 : World} {g i j : Nat} {x y : List UInt8 × List UInt8} {w : World} (h : Pair4 w0 g i j x y w) (hl : ltK x.1 y.1 = true) :
    Calls Try.prog 39 #[.agg #[.string (strB x.1), .string (strB x.2)], .agg #[.string (strB y.1), .string (strB y.2)]] w fun r w' => ∃ z : Int, r = .returned (.int .i64 z) ∧ z < 0 ∧ Pair4 w0 g i j x y w' :=
  (cmp_any x.1 x.2 y.1 y.2 w).mono fun _ _ ⟨hr, hb⟩ => ⟨_, hr, of_decide_eq_true hl, h.below hb⟩
theorem cmp_ge {w0 : World} {g i j : Nat} {x y : List UInt8 × List UInt8} {w : World} (h : Pair4 w0 g i j x y w) (hl : ltK x.1 y.1 = false) :
    Calls Try.prog 39 #[.agg #[.string (strB x.1), .string (strB x.2)], .agg #[.string (strB y.1), .string (strB y.2)]] w fun r w' => ∃ z : Int, r = .returned (.int .i64 z) ∧ 0 ≤ z ∧ Pair4 w0 g i j x y w' :=
  (cmp_any x.1 x.2 y.1 y.2 w).mono fun _ _ ⟨hr, hb⟩ => ⟨_, hr, by have := of_decide_eq_false hl; omega, h.below hb⟩

theorem ins_srt {Z1 Z2 : Flds} {x : List UInt8 × List UInt8} (h : Srt (Z1 ++ Z2)) (h1 : ∀ z ∈ Z1, leK z.1 x.1) (h2 : ∀ z ∈ Z2, ltK x.1 z.1 = true) : Srt (Z1 ++ x :: Z2) := by
  refine h.left.app (List.pairwise_cons.2 ⟨fun z hz => lt_le (h2 z hz), h.right⟩) fun p hp q hq => ?_
  rcases List.mem_cons.1 hq with rfl | hq
  · exact h1 p hp
  · exact h.cross p hp q hq
theorem ins_same {Z1 Z2 T : Flds} {x : List UInt8 × List UInt8} (h : SameF (Z1 ++ Z2) T) (h2 : ∀ z ∈ Z2, ltK x.1 z.1 = true) : SameF (Z1 ++ x :: Z2) (T ++ [x]) := by
  have e : SameF ([x] ++ Z2) (Z2 ++ [x]) := SameF.swap fun p hp q hq he => by
    simp at hq; subst hq
    have := h2 p hp
    rw [he, lt_irrefl'] at this; cases this
  have h3 : SameF (Z1 ++ ([x] ++ Z2)) (Z1 ++ (Z2 ++ [x])) := (SameF.refl Z1).app e
  have h4 : SameF ((Z1 ++ Z2) ++ [x]) (T ++ [x]) := h.app (SameF.refl [x])
  rw [List.append_assoc] at h4
  exact h3.trans h4
theorem last_le {Z1 : Flds} {x y : List UInt8 × List UInt8} (h : Srt (Z1 ++ [y])) (hy : leK y.1 x.1) : ∀ z ∈ Z1 ++ [y], leK z.1 x.1 := by
  intro z hz
  rcases List.mem_append.1 hz with hz | hz
  · exact le_trans' (h.cross z hz y (List.mem_cons_self ..)) hy
  · simp at hz; subst hz; exact hy
theorem srt_take1 (X : Flds) : Srt (X.take 1) := by
  cases X with
  | nil => exact srt_nil
  | cons x r => exact srt_one x

set_option maxHeartbeats 4000000 in
set_option maxRecDepth 100000 in
theorem insertion_any (B g n cap a b : Nat) (P X S : Flds) (w : World) (h : OwnsP 42 B w (.slice (some ⟨g, 0, none⟩) n cap) (P ++ X ++ S)) (ha : a = P.length) (hb : b = a + X.length) (hn : n ≤ 1000000) :
    Calls Try.prog 47 #[.slice (some ⟨g, 0, none⟩) n cap, .int .i64 a, .int .i64 b, cmpV] w fun e w' => e = .returned (.tuple #[]) ∧
      ∃ Z, Srt Z ∧ SameF Z X ∧ OwnsP 42 B w' (.slice (some ⟨g, 0, none⟩) n cap) (P ++ Z ++ S) ∧ Below B w w' := by
  obtain ⟨hml, hBg, hgl, hmc⟩ := own_len h
  have hmle : P.length + X.length + S.length = n := by rw [hml]; simp; omega
  have hbn : b ≤ n := by omega
  have han : a ≤ n := by omega
  have hBw : B ≤ w.heap.size := by omega
  have h0 : OwnsP 42 B w (.slice (some ⟨g, 0, none⟩) n cap) (P ++ X.take 1 ++ X.drop 1 ++ S) := by
    rw [List.append_assoc P, List.take_append_drop]; exact h
  have H0 := Lib.hid h0
  have HA := Lib.hid ha
  have HB := Lib.hid hb
  clear h hml hmle ha hb h0
  go_enter Try.func47, Try.ntmps47
  go_wp2_with fail
  go_loopw [8] (fun i wr => ∃ (k : Nat) (Z : Flds), i = .int .i64 (a + 1 + k : Nat) ∧ Srt Z ∧ SameF Z (X.take (1 + k)) ∧ OwnsP 42 B wr (.slice (some ⟨g, 0, none⟩) n cap) (P ++ Z ++ X.drop (1 + k) ++ S) ∧ Below B w wr) (fun i _ => b + 1 - (intOf i).toNat)
  case atStart => exact ⟨0, X.take 1, by go_num, srt_take1 X, SameF.refl _, H0.out, Below.refl _ _⟩
  case round =>
    obtain ⟨k, Z, rfl, hS, hF, hO, hBr⟩ := hrel
    have hbr := hBr.size
    have HS := Lib.hid hS
    have HF := Lib.hid hF
    have HO := Lib.hid hO
    clear hS hF hO
    generalize hi : a + 1 + k = i
    have HI := Lib.hid hi
    clear hi
    by_cases hlt : i < b
    · obtain ⟨x, hx⟩ : ∃ x, X[1 + k]? = some x := ⟨X[1 + k]'(by have := HI.out; have := HB.out; omega), by simp⟩
      have hzl : Z.length = 1 + k := by
        rw [HF.out.length]; have := HI.out; have := HB.out; simp; omega
      have hst : OwnsP 42 B wr (.slice (some ⟨g, 0, none⟩) n cap) (P ++ Z ++ x :: ([] ++ X.drop (1 + k + 1) ++ S)) := by
        have := HO.out
        rw [drop_at hx] at this
        simpa using this
      have HX := Lib.hid hx
      have HZl := Lib.hid hzl
      have HSt := Lib.hid hst
      have hai : a ≤ i := by have := HI.out; omega
      clear hx hzl hst HO
      go_wp2_with fail
      go_loopw [9] (fun jv wi => ∃ (j : Nat) (Z1 Z2 : Flds), jv = .int .i64 j ∧ Z = Z1 ++ Z2 ∧ a + Z1.length = j ∧ j ≤ i ∧ (∀ z ∈ Z2, ltK x.1 z.1 = true) ∧ OwnsP 42 B wi (.slice (some ⟨g, 0, none⟩) n cap) (P ++ Z1 ++ x :: (Z2 ++ X.drop (1 + k + 1) ++ S)) ∧ Below B w wi) (fun jv _ => (intOf jv).toNat)
      case atStart => exact ⟨i, Z, [], rfl, by simp, by have := HI.out; have := HZl.out; omega, Nat.le_refl _, (fun z hz => by cases hz), HSt.out, hBr⟩
      case round =>
        obtain ⟨j, Z1, Z2, rfl, hZ, hZl, hji, hZ2, hOi, hBi⟩ := hrel
        have hbi := hBi.size
        have HZ := Lib.hid hZ
        have HZ2 := Lib.hid hZ2
        have HOi := Lib.hid hOi
        have HZ1 := Lib.hid hZl
        clear hZ hZ2 hOi hZl
        by_cases hja : a < j
        · obtain ⟨Y, y, hY⟩ : ∃ Y y, Z1 = Y ++ [y] := by
            rcases List.eq_nil_or_concat Z1 with h | ⟨Y, y, h⟩
            · have := HZ1.out; rw [h] at this; simp at this; omega
            · exact ⟨Y, y, by simpa using h⟩
          subst hY
          have hO2 : OwnsP 42 B wr (.slice (some ⟨g, 0, none⟩) n cap) (two (P ++ Y) y [] x (Z2 ++ X.drop (1 + k + 1) ++ S)) := by
            have := HOi.out; unfold two; simpa using this
          have e1 : j - 1 = (P ++ Y).length := by have := HZ1.out; have := HA.out; simp at *; omega
          have e2 : j = (P ++ Y).length + 1 + ([] : Flds).length := by have := HZ1.out; have := HA.out; simp at *; omega
          have g1 := two_1 (P ++ Y) [] (Z2 ++ X.drop (1 + k + 1) ++ S) y x
          have g2 := two_2 (P ++ Y) [] (Z2 ++ X.drop (1 + k + 1) ++ S) y x
          rw [← e1] at g1
          rw [← e2] at g2
          have hP := pair4_of hO2 g2 g1
          obtain ⟨_, _, f3, f4⟩ := own_at hO2 g1
          obtain ⟨_, _, f1, f2⟩ := own_at hO2 g2
          have HO2 := Lib.hid hO2
          have E1 := Lib.hid e1
          have E2 := Lib.hid e2
          have r1 : IntKind.i64.wrap ((j : Int) - 1) = (j : Int) - 1 := by rw [IntKind.wrap_i64]; omega
          have p1 : (0 : Int) ≤ (j : Int) - 1 := by omega
          have t1 : (j : Int) - 1 < (n : Int) := by omega
          have p3 : (1 : Int) ≤ (j : Int) := by omega
          have p4 : (0 : Int) < (j : Int) := by omega
          have p5 : 0 < j := by omega
          have p6 : 1 ≤ j := by omega
          have t3 : (j : Int) ≤ (n : Int) := by omega
          have t4 : j ≤ n := by omega
          have t2 : (j : Int) < (n : Int) := by omega
          have n1 : ((j : Int) - 1).toNat = j - 1 := by omega
          have hgd : decide ((a : Int) < (j : Int)) = true := by simp; omega
          have G1 := Lib.hid g1
          have G2 := Lib.hid g2
          clear hO2 e1 e2 g1 g2 HOi f1 f2 f3 f4
          cases hl : ltK x.1 y.1 with
          | true =>
            have HL := Lib.hid hl
            clear hl
            go_wp2_with fail
            go_region_held3 (fun w' => w'.cell? ⟨g, j * 2, none⟩ = some (.string (strB x.1)) ∧ w'.cell? ⟨g, j * 2 + 1, none⟩ = some (.string (strB x.2)) ∧ w'.cell? ⟨g, (j - 1) * 2, none⟩ = some (.string (strB y.1)) ∧ w'.cell? ⟨g, (j - 1) * 2 + 1, none⟩ = some (.string (strB y.2)) ∧ Below wr.heap.size wr w')
              (first | exact hP.drew | exact hP2)
              (first | (go_at_call 39; refine (cmp_lt (by assumption) HL.out).mono ?_; rintro e w2 ⟨z, rfl, hz, hP2⟩))
            have hO3 := OwnsP.below HO2.out hP2.2.2.2.2
            have hB3 := hBi.trans (hP2.2.2.2.2.mono (Nat.le_trans hBw hbi))
            obtain ⟨c3, c4, f3, f4⟩ := own_at hO3 G1.out
            obtain ⟨c1, c2, f1, f2⟩ := own_at hO3 G2.out
            have HO3 := Lib.hid hO3
            clear hO3 hP hP2
            go_wp2_with fail
            go_region
            go_wp2_with fail
            go_roundw
            case rel => exact ⟨j - 1, Y, y :: Z2, by congr 1; omega, by rw [HZ.out]; simp, by have := HZ1.out; simp at this; omega, by omega, fun z hz => by
              rcases List.mem_cons.1 hz with h | h
              · rw [h]; exact HL.out
              · exact HZ2.out z h, by
                have e : P ++ Y ++ x :: (y :: Z2 ++ X.drop (1 + k + 1) ++ S) = two (P ++ Y) x [] y (Z2 ++ X.drop (1 + k + 1) ++ S) := by unfold two; simp
                rw [e]
                exact World.ownsRow.drew (own_swap' HO3.out E1.out E2.out), (below_four hB3 hBg _ _ _ _ _ _ _ _).drew⟩
            case measure => simp [intOf]; omega
          | false =>
            have HL := Lib.hid hl
            clear hl
            go_wp2_with fail
            go_region_held3 (fun w' => w'.cell? ⟨g, j * 2, none⟩ = some (.string (strB x.1)) ∧ w'.cell? ⟨g, j * 2 + 1, none⟩ = some (.string (strB x.2)) ∧ w'.cell? ⟨g, (j - 1) * 2, none⟩ = some (.string (strB y.1)) ∧ w'.cell? ⟨g, (j - 1) * 2 + 1, none⟩ = some (.string (strB y.2)) ∧ Below wr.heap.size wr w')
              (first | exact hP.drew | exact hP2)
              (first | (go_at_call 39; refine (cmp_ge (by assumption) HL.out).mono ?_; rintro e w2 ⟨z, rfl, hz, hP2⟩))
            have hO3 := OwnsP.below HO2.out hP2.2.2.2.2
            have hB3 := hBi.trans (hP2.2.2.2.2.mono (Nat.le_trans hBw hbi))
            have hsz : Srt (Y ++ [y] ++ x :: Z2) := ins_srt (by rw [← HZ.out]; exact HS.out) (last_le (by have := HS.out; rw [HZ.out] at this; exact this.left) HL.out) HZ2.out
            have hsf : SameF (Y ++ [y] ++ x :: Z2) (X.take (1 + (k + 1))) := by
              have e : X.take (1 + (k + 1)) = X.take (1 + k) ++ [x] := by rw [show 1 + (k + 1) = (1 + k) + 1 by omega]; exact take_more HX.out
              rw [e]
              exact ins_same (by rw [← HZ.out]; exact HF.out) HZ2.out
            have hoz : OwnsP 42 B w2 (.slice (some ⟨g, 0, none⟩) n cap) (P ++ (Y ++ [y] ++ x :: Z2) ++ X.drop (1 + (k + 1)) ++ S) := by
              unfold two at hO3
              rw [show 1 + (k + 1) = 1 + k + 1 by omega]
              simpa using hO3
            have HSz := Lib.hid hsz
            have HSf := Lib.hid hsf
            have HOz := Lib.hid hoz
            clear hO3 hsz hsf hoz hP hP2
            go_wp2_with fail
            go_roundw
            case rel => exact ⟨k + 1, _, by have := HI.out; congr 1; omega, HSz.out, HSf.out, HOz.out, hB3⟩
            case measure => simp [intOf]; omega
        · have hz0 : Z1 = [] := List.eq_nil_of_length_eq_zero (by have := HZ1.out; omega)
          subst hz0
          have hgd : decide ((a : Int) < (j : Int)) = false := by simp; omega
          have hsz : Srt ([] ++ x :: Z2) := ins_srt (by rw [← HZ.out]; exact HS.out) (fun z hz => by cases hz) HZ2.out
          have hsf : SameF ([] ++ x :: Z2) (X.take (1 + (k + 1))) := by
            have e : X.take (1 + (k + 1)) = X.take (1 + k) ++ [x] := by rw [show 1 + (k + 1) = (1 + k) + 1 by omega]; exact take_more HX.out
            rw [e]
            exact ins_same (by rw [← HZ.out]; exact HF.out) HZ2.out
          have hoz : OwnsP 42 B wr (.slice (some ⟨g, 0, none⟩) n cap) (P ++ ([] ++ x :: Z2) ++ X.drop (1 + (k + 1)) ++ S) := by
            have := HOi.out
            rw [show 1 + (k + 1) = 1 + k + 1 by omega]
            simpa using this
          have HSz := Lib.hid hsz
          have HSf := Lib.hid hsf
          have HOz := Lib.hid hoz
          clear hsz hsf hoz HOi
          go_wp2_with fail
          go_quiet (fail)
          go_wp2_with fail
          go_roundw
          case rel => exact ⟨k + 1, _, by have := HI.out; congr 1; omega, HSz.out, HSf.out, OwnsP.below HOz.out (below_drewN (Below.refl _ _) _), below_drewN hBi _⟩
          case measure => simp [intOf]; omega
    · have hge : X.length ≤ 1 + k := by have := HI.out; have := HB.out; omega
      have hO := HO.out
      have hF := HF.out
      rw [List.drop_eq_nil_of_le hge, List.append_nil] at hO
      rw [List.take_of_length_le hge] at hF
      go_wp2_with fail
      go_end0
      exact ⟨rfl, Z, HS.out, hF, hO, hBr⟩
end Go.Proofs.Ythpjemihbobjfaa
