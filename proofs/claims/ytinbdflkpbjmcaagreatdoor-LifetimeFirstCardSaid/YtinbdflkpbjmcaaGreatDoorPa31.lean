import Derived.Test.YtinbdflkpbjmcaaGreatDoorPa20
import Derived.Test.YtinbdflkpbjmcaaGreatDoorPa9
import Derived.Test.YtinbdflkpbjmcaaGreatDoorPa26
import Derived.Test.YtinbdflkpbjmcaaGreatDoorPa28
/- What the statements' dated returns: three fields of dates. -/
namespace Go.Proofs.YtinbdflkpbjmcaaGreatDoor
open Go.RowKit

set_option maxHeartbeats 1000000 in
theorem lfClip_any (n a b : Int) (w : World) : Calls Tryz.prog 38 #[.int .i64 n, .int .i64 a, .int .i64 b] w fun e w' => e = .returned (.int .i64 (max a (min n b))) ∧ w = w' := by
  go_enter Tryz.func38, Tryz.ntmps38
  go_wp2
  all_goals
    go_ret
    exact ⟨ret_int (by omega), rfl⟩
abbrev dateF (a b c : List UInt8) : Flds := [(nDA, a), (nEX, b), (nLM, c)]
structure DatesAre (x y z : Int) (S B D : Nat) (G C : Int) (a b c : List UInt8) : Prop where
  hs : max 1073741824 (min x 4294967296) = (S : Int)
  hg : max (-1048576) (min y 1073741824) = G
  hc : max (-1048576) (min z 536870912) = C
  hb : (S : Int) + G = (B : Int)
  hd : (S : Int) - C = (D : Int)
  ta : isT S a
  tb : isT B b
  tc : isT D c
theorem dates_ex (x y z : Int) : ∃ S B D G C a b c, DatesAre x y z S B D G C a b c := by
  obtain ⟨S, hS⟩ : ∃ S : Nat, max 1073741824 (min x 4294967296) = (S : Int) := ⟨(max 1073741824 (min x 4294967296)).toNat, by omega⟩
  obtain ⟨G, hG⟩ : ∃ G : Int, max (-1048576) (min y 1073741824) = G := ⟨_, rfl⟩
  obtain ⟨C, hC⟩ : ∃ C : Int, max (-1048576) (min z 536870912) = C := ⟨_, rfl⟩
  obtain ⟨B, hB⟩ : ∃ B : Nat, (S : Int) + G = (B : Int) := ⟨((S : Int) + G).toNat, by omega⟩
  obtain ⟨D, hD⟩ : ∃ D : Nat, (S : Int) - C = (D : Int) := ⟨((S : Int) - C).toNat, by omega⟩
  obtain ⟨a, ha⟩ := isT_ex S (by omega)
  obtain ⟨b, hb⟩ := isT_ex B (by omega)
  obtain ⟨c, hc⟩ := isT_ex D (by omega)
  exact ⟨S, B, D, G, C, a, b, c, hS, hG, hC, hB, hD, ha, hb, hc⟩
theorem DatesAre.bd {x y z : Int} {S B D : Nat} {G C : Int} {a b c : List UInt8} (h : DatesAre x y z S B D G C a b c) :
    1073741824 ≤ S ∧ S ≤ 4294967296 ∧ -1048576 ≤ G ∧ G ≤ 1073741824 ∧ -1048576 ≤ C ∧ C ≤ 536870912 := by
  obtain ⟨h1, h2, h3, h4, h5, _⟩ := h
  omega
theorem own_lit3 (w : World) (a b c : List UInt8) : OwnsP 59 w.heap.size (w.alloc (.cells #[.string (strB nDA), .string (strB a), .string (strB nEX), .string (strB b), .string (strB nLM), .string (strB c)] 59)) (.slice (some ⟨w.heap.size, 0, none⟩) 3 3) (dateF a b c) :=
  own_lit w #[.string (strB nDA), .string (strB a), .string (strB nEX), .string (strB b), .string (strB nLM), .string (strB c)] _ 2 3 (by decide) rfl
theorem box3_new (w : World) (x y z : Int) (T : TypeId) : (w.alloc (.cells #[.int .i64 x, .int .i64 y, .int .i64 z] T)).cell? ⟨w.heap.size, 0, none⟩ = some (.int .i64 x) ∧ (w.alloc (.cells #[.int .i64 x, .int .i64 y, .int .i64 z] T)).cell? ⟨w.heap.size, 1, none⟩ = some (.int .i64 y) ∧ (w.alloc (.cells #[.int .i64 x, .int .i64 y, .int .i64 z] T)).cell? ⟨w.heap.size, 2, none⟩ = some (.int .i64 z) ∧ w.heap.size < (w.alloc (.cells #[.int .i64 x, .int .i64 y, .int .i64 z] T)).heap.size :=
  ⟨by rw [World.cell?_alloc_at _ _ _ _ rfl]; rfl, by rw [World.cell?_alloc_at _ _ _ _ rfl]; rfl, by rw [World.cell?_alloc_at _ _ _ _ rfl]; rfl, by simp⟩
set_option maxHeartbeats 8000000 in
set_option maxRecDepth 100000 in
theorem dated_any (x y z : Int) (S B D : Nat) (G C : Int) (a b c : List UInt8) (w : World) (hE : EnvL w) (hd : DatesAre x y z S B D G C a b c) :
    Calls Tryz.prog 21 #[.agg #[.int .i64 x, .int .i64 y, .int .i64 z]] w fun e w' => ∃ p n m, e = .returned (.tuple #[.slice p n m, .int .i64 G, .int .i64 C, .bool true]) ∧ OwnsP 59 w.heap.size w' (.slice p n m) (dateF a b c) ∧ Below w.heap.size w w' := by
  have hbd := hd.bd
  obtain ⟨h1, h2, h3, h4, h5, ta, tb, tc⟩ := hd
  have HX := Lib.hid (fun w => lfClip_any x 1073741824 4294967296 w)
  have HY := Lib.hid (Calls.quietly (fun w => lfClip_any y (-1048576) 1073741824 w))
  have HZ := Lib.hid (Calls.quietly (fun w => lfClip_any z (-1048576) 536870912 w))
  rw [h1] at HX
  rw [h2] at HY
  rw [h3] at HZ
  have HA := Lib.hid (fun (w : World) (hE : EnvH w) => format_yes S a w hE ta)
  have HB := Lib.hid (fun (w : World) (hE : EnvH w) => format_yes B b w hE tb)
  have HC := Lib.hid (fun (w : World) (hE : EnvH w) => format_yes D c w hE tc)
  have HE := Lib.hid hE
  have HN := Lib.hid (box3_new w x y z 37)
  have HB0 := Lib.hid (below_new w (.cells #[.int .i64 x, .int .i64 y, .int .i64 z] 37))
  clear h1 h2 h3 ta tb tc hE
  go_enter Tryz.func21, Tryz.ntmps21
  go_upto_region 1 with fail
  change Code.wp _ _ _ _ (w.alloc (.cells #[.int .i64 x, .int .i64 y, .int .i64 z] 37))
  generalize (w.alloc (.cells #[.int .i64 x, .int .i64 y, .int .i64 z] 37)) = W at *
  obtain ⟨c0, c1, c2, hlt⟩ := HN.out
  go_wp2_with fail
  refine (HX.out _).mono ?_
  rintro e w1 ⟨rfl, rfl⟩
  go_wp2_with fail
  go_quiet (first | with_reducible exact HY.out _ _ | with_reducible exact HZ.out _ _)
  have HB1 := Lib.hid (below_drewN HB0.out nq)
  generalize W.drewN nq = W2 at *
  clear c0 c1 c2 hlt HN HB0 HX HY HZ
  go_wp2_with fail
  refine (HA.out _ (HE.out.2.env.below HB1.out)).mono ?_
  rintro e w2 ⟨rfl, hB2⟩
  have HB2 := Lib.hid (HB1.out.trans (hB2.mono HB1.out.size))
  clear hB2
  go_wp2_with fail
  refine (HB.out _ (HE.out.2.env.below HB2.out)).mono ?_
  rintro e w3 ⟨rfl, hB3⟩
  have HB3 := Lib.hid (HB2.out.trans (hB3.mono HB2.out.size))
  clear hB3
  go_wp2_with fail
  refine (HC.out _ (HE.out.2.env.below HB3.out)).mono ?_
  rintro e w4 ⟨rfl, hB4⟩
  have HB4 := Lib.hid (HB3.out.trans (hB4.mono HB3.out.size))
  clear hB4
  have HO := Lib.hid (OwnsP.mono HB4.out.size (own_lit3 w4 a b c))
  have HB5 := Lib.hid (HB4.out.alloc HB4.out.size (.cells #[.string (strB nDA), .string (strB a), .string (strB nEX), .string (strB b), .string (strB nLM), .string (strB c)] 59))
  go_upto_region 7 with fail
  change Code.wp _ _ _ _ (w4.alloc (.cells #[.string (strB nDA), .string (strB a), .string (strB nEX), .string (strB b), .string (strB nLM), .string (strB c)] 59))
  generalize w4.heap.size = M at *
  generalize (w4.alloc (.cells #[.string (strB nDA), .string (strB a), .string (strB nEX), .string (strB b), .string (strB nLM), .string (strB c)] 59)) = W5 at *
  clear h4 h5 hbd
  go_wp2_with fail
  go_quiet (fail)
  go_wp2
  refine bodyPost_ret (v := .tuple #[.slice (some ⟨M, 0, none⟩) 3 3, .int .i64 G, .int .i64 C, .bool true]) (by simp [results, Tryz.results21, go_sem]) rfl ?_
  exact ⟨_, _, _, rfl, OwnsP.below HO.out (below_drewN (Below.refl _ _) _), below_drewN HB5.out _⟩
end Go.Proofs.YtinbdflkpbjmcaaGreatDoor

/- LifetimeDates: the walk. -/
namespace Go.Proofs.YtinbdflkpbjmcaaGreatDoor
open Go.RowKit

theorem dt_da (a b c : List UInt8) : allL (dateF a b c) nDA = [a] := by rfl
theorem dt_ex (a b c : List UInt8) : allL (dateF a b c) nEX = [b] := by rfl
theorem dt_lm (a b c : List UInt8) : allL (dateF a b c) nLM = [c] := by rfl
theorem dt_cc (a b c : List UInt8) : allL (dateF a b c) nCC = [] := by rfl
theorem dt_rem (a b c : List UInt8) : remL (dateF a b c) nEX = [(nDA, a), (nLM, c)] := by rfl
abbrev dateG (a c : List UInt8) : Flds := [(nDA, a), (nLM, c)]
theorem dg_da (a c : List UInt8) : allL (dateG a c) nDA = [a] := by rfl
theorem dg_ex (a c : List UInt8) : allL (dateG a c) nEX = [] := by rfl
theorem dg_lm (a c : List UInt8) : allL (dateG a c) nLM = [c] := by rfl
theorem dg_cc (a c : List UInt8) : allL (dateG a c) nCC = [] := by rfl
theorem isT_len {n : Nat} {l : List UInt8} (h : isT n l) : l.length = 29 := (isT_parts h).1
theorem fit_dt {a b c : List UInt8} (ha : a.length ≤ 90000) (hb : b.length ≤ 90000) (hc : c.length ≤ 90000) : FitL (dateF a b c) := by
  refine ⟨by simp, fun p hp => ?_⟩
  simp only [List.mem_cons, List.not_mem_nil, or_false] at hp
  have e1 : nDA.length = 4 := rfl
  have e2 : nEX.length = 7 := rfl
  have e3 : nLM.length = 13 := rfl
  rcases hp with rfl | rfl | rfl <;> simp only <;> omega
theorem fit_dg {a c : List UInt8} (ha : a.length ≤ 90000) (hc : c.length ≤ 90000) : FitL (dateG a c) := by
  refine ⟨by simp, fun p hp => ?_⟩
  simp only [List.mem_cons, List.not_mem_nil, or_false] at hp
  have e1 : nDA.length = 4 := rfl
  have e3 : nLM.length = 13 := rfl
  rcases hp with rfl | rfl <;> simp only <;> omega
theorem parse_nilD : parseD [] = noneD := rfl
theorem of_dt (s : Int) (_ : Bool) (dd de dl : Option Nat) : ofV s noneD true dd de dl = (betV dd de, 3) := of_exp (by decide) (by decide)
theorem bet_exp {S B : Nat} {G : Int} (h : (S : Int) + G = (B : Int)) : betV (some S) (some B) = 1000 * max 0 G := by
  unfold betV; show 1000 * max ((B : Int) - (S : Int)) 0 = _; omega
theorem bet_chg {S D : Nat} {C : Int} (h : (S : Int) - C = (D : Int)) : betV (some D) (some S) = 1000 * max 0 C := by
  unfold betV; show 1000 * max ((S : Int) - (D : Int)) 0 = _; omega
theorem heu_dt {s C : Int} {dl dd : Option Nat} (h : betV dl dd = 1000 * max 0 C) (hc : 0 < C) (hs : cacB s = true) : heuV s dl dd = (if 400 ≤ s then min (min (100 * C) 86400000) 10000 else min (100 * C) 86400000, 4) := by
  have hneg : negB s = decide (400 ≤ s) := by
    unfold cacB at hs
    cases hn : negB s with
    | true =>
      unfold negB at hn
      have := of_decide_eq_true hn
      exact (decide_eq_true (by omega)).symm
    | false =>
      rw [hn, Bool.or_false] at hs
      have := of_decide_eq_true hs
      exact (decide_eq_false (by omega)).symm
  unfold heuV
  rw [h, if_neg (by omega), hneg]
  congr 1
  by_cases h4 : 400 ≤ s
  · rw [if_pos (decide_eq_true h4), if_pos h4]; omega
  · rw [if_neg (by simp [h4]), if_neg h4]; omega
/-- What the program's Of returns of the three dates. -/
theorem lfOf_dt (s : Int) (v : Value) {S B D : Nat} {G C : Int} {a b c : List UInt8} {x y z : Int} (h : DatesAre x y z S B D G C a b c) (w : World) (hr : ReadsQ w v (dateF a b c)) (hE : EnvL w) :
    Calls Tryz.prog 13 #[.int .i64 s, v] w fun e w' => e = .returned (.tuple #[.int .i64 (1000 * max 0 G), .int .i64 3]) ∧ Below w.heap.size w w' := by
  have := lfOf_any s v (dateF a b c) (some S) (some B) (some D) w hr (fit_dt (by rw [isT_len h.ta]; decide) (by rw [isT_len h.tb]; decide) (by rw [isT_len h.tc]; decide))
    (by unfold DatF; rw [dt_da]; exact h.ta) (by unfold DatF; rw [dt_ex]; exact h.tb) (by unfold DatF; rw [dt_lm]; exact h.tc) hE
  rw [dt_cc, parse_nilD, show hasF (dateF a b c) nEX = true by unfold hasF; rw [dt_ex]; rfl, of_dt s true, bet_exp h.hb] at this
  exact this
theorem lfOf_dg (s : Int) (v : Value) {S B D : Nat} {G C : Int} {a b c : List UInt8} {x y z : Int} (h : DatesAre x y z S B D G C a b c) (w : World) (hr : ReadsQ w v (dateG a c)) (hE : EnvL w) :
    Calls Tryz.prog 13 #[.int .i64 s, v] w fun e w' => e = .returned (.tuple #[.int .i64 (ofV s noneD false (some S) none (some D)).1, .int .i64 (ofV s noneD false (some S) none (some D)).2]) ∧ Below w.heap.size w w' := by
  have := lfOf_any s v (dateG a c) (some S) none (some D) w hr (fit_dg (by rw [isT_len h.ta]; decide) (by rw [isT_len h.tc]; decide))
    (by unfold DatF; rw [dg_da]; exact h.ta) (by unfold DatF; rw [dg_ex]; rfl) (by unfold DatF; rw [dg_lm]; exact h.tc) hE
  rw [dg_cc, parse_nilD, show hasF (dateG a c) nEX = false by unfold hasF; rw [dg_ex]; rfl] at this
  exact this
set_option maxHeartbeats 8000000 in
set_option maxRecDepth 100000 in
theorem lf_dates_walk (x y z s : Int) (w : World) (hE : EnvL w) :
    Calls Tryz.prog 6 #[.agg #[.int .i64 x, .int .i64 y, .int .i64 z], .int .i64 s] w fun e w' => e = .returned (.bool true) ∧ Below w.heap.size w w' := by
  obtain ⟨S, B, D, G, C, a, b, c, hd⟩ := dates_ex x y z
  have hbd := hd.bd
  have HE := Lib.hid hE
  have HN := Lib.hid (box3_new w x y z 37)
  have HB0 := Lib.hid (below_new w (.cells #[.int .i64 x, .int .i64 y, .int .i64 z] 37))
  have HD := Lib.hid (fun (w : World) (hE : EnvL w) => dated_any x y z S B D G C a b c w hE hd)
  have HAw := Lib.hid (fun (w : World) (hE : EnvL w) => lfAwake_any w hE)
  have HO1 := Lib.hid (fun (v : Value) (w : World) (hr : ReadsQ w v (dateF a b c)) (hE : EnvL w) => lfOf_dt s v hd w hr hE)
  have HO2 := Lib.hid (fun (v : Value) (w : World) (hr : ReadsQ w v (dateG a c)) (hE : EnvL w) => lfOf_dg s v hd w hr hE)
  have HRm := Lib.hid (fun (v : Value) (w : World) (hr : ReadsQ w v (dateF a b c)) => remove_any v (dateF a b c) ⟨#[101, 120, 112, 105, 114, 101, 115]⟩ w hr (by decide) (by simp) (fit_dt (by rw [isT_len hd.ta]; decide) (by rw [isT_len hd.tb]; decide) (by rw [isT_len hd.tc]; decide)).each6)
  have hrm : remL (dateF a b c) (⟨#[101, 120, 112, 105, 114, 101, 115]⟩ : ByteArray).data.toList = dateG a c := dt_rem a b c
  rw [hrm] at HRm
  have HC := Lib.hid (fun (w : World) => cacheable_any s w)
  have hch := Lib.hid hd.hd
  generalize hY : ofV s noneD false (some S) none (some D) = Y at *
  have HY := Lib.hid hY
  clear hE hd hrm hY
  go_enter Tryz.func6, Tryz.ntmps6
  go_upto_region 1 with fail
  change Code.wp _ _ _ _ (w.alloc (.cells #[.int .i64 x, .int .i64 y, .int .i64 z] 37))
  generalize (w.alloc (.cells #[.int .i64 x, .int .i64 y, .int .i64 z] 37)) = W at *
  obtain ⟨c0, c1, c2, hlt⟩ := HN.out
  go_wp2_with fail
  refine (HD.out _ (HE.out.below HB0.out)).mono ?_
  rintro e w1 ⟨p, n, m, rfl, hO, hB1⟩
  have HB1 := Lib.hid (HB0.out.trans (hB1.mono HB0.out.size))
  have HQ := Lib.hid hO.q
  clear hB1 hO c0 c1 c2 hlt HN HB0
  go_wp2_with fail
  refine (HAw.out _ (HE.out.below HB1.out)).mono ?_
  rintro e w2 ⟨rfl, hB2⟩
  have HB2 := Lib.hid (HB1.out.trans (hB2.mono HB1.out.size))
  have HQ2 := Lib.hid (HQ.out.below hB2)
  clear hB2 HQ
  go_wp2_with fail
  refine (HO1.out _ _ HQ2.out (HE.out.below HB2.out)).mono ?_
  rintro e w3 ⟨rfl, hB3⟩
  have HB3 := Lib.hid (HB2.out.trans (hB3.mono HB2.out.size))
  have HQ3 := Lib.hid (HQ2.out.below hB3)
  clear hB3 HQ2
  go_wp2_with fail
  refine (HRm.out _ _ HQ3.out).mono ?_
  rintro e w4 ⟨v, rfl, hO4, hB4⟩
  have HB4 := Lib.hid (HB3.out.trans (hB4.mono HB3.out.size))
  have HQ4 := Lib.hid hO4.q
  clear hB4 hO4 HQ3
  go_wp2_with fail
  refine (HO2.out _ _ HQ4.out (HE.out.below HB4.out)).mono ?_
  rintro e w5 ⟨rfl, hB5⟩
  have HB5 := Lib.hid (HB4.out.trans (hB5.mono HB4.out.size))
  clear hB5 HQ4
  cases hc : cacB s with
  | false =>
    rw [hc] at HC
    obtain rfl : Y = (0, 5) := HY.out.symm.trans (of_non (by decide) (by decide) hc)
    clear hc HY
    go_wp2_with fail
    refine (HC.out _).mono ?_
    rintro e w6 ⟨rfl, rfl⟩
    go_wp2_with fail
    go_ret
    exact ⟨rfl, HB5.out⟩
  | true =>
    rw [hc] at HC
    have hYe := HY.out.symm.trans (of_heu (by decide) (by decide) hc)
    by_cases hcp : 0 < C
    · obtain rfl := hYe.trans (heu_dt (bet_chg hch.out) hcp hc)
      clear hYe HY
      by_cases h4 : 400 ≤ s
      · rw [if_pos h4]
        clear hc
        go_wp2_with fail
        refine (HC.out _).mono ?_
        rintro e w6 ⟨rfl, rfl⟩
        go_wp2_with fail
        go_ret
        exact ⟨retB (by simp), HB5.out⟩
      · rw [if_neg h4]
        clear hc
        go_wp2_with fail
        refine (HC.out _).mono ?_
        rintro e w6 ⟨rfl, rfl⟩
        go_wp2_with fail
        go_ret
        exact ⟨retB (by simp), HB5.out⟩
    · obtain rfl := hYe.trans (heu_zero (by rw [bet_chg hch.out]; omega))
      clear hc hYe HY
      go_wp2_with fail
      refine (HC.out _).mono ?_
      rintro e w6 ⟨rfl, rfl⟩
      go_wp2_with fail
      go_ret
      exact ⟨rfl, HB5.out⟩
end Go.Proofs.YtinbdflkpbjmcaaGreatDoor
