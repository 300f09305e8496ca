import Derived.Test.YtinbdflkpbjmcaaGreatDoorPa31
import Derived.Test.YtinbdflkpbjmcaaGreatDoorPa32
import Derived.Test.YtinbdflkpbjmcaaGreatDoorPa28
/- LifetimeBroken: the walk. -/
namespace Go.Proofs.YtinbdflkpbjmcaaGreatDoor
open Go.RowKit

theorem sb_da (a b c t : List UInt8) : setL (dateF a b c) nDA t = dateF t b c := by rfl
theorem sb_ex (a b c t : List UInt8) : setL (dateF a b c) nEX t = dateF a t c := by rfl
theorem sg_da (a c t : List UInt8) : setL (dateG a c) nDA t = dateG t c := by rfl
theorem sg_lm (a c t : List UInt8) : setL (dateG a c) nLM t = dateG a t := by rfl
theorem ab_da (a b c t : List UInt8) : addL (dateF a b c) nDA t = [(nDA, a), (nEX, b), (nLM, c), (nDA, t)] := by rfl
theorem ab_ex (a b c t : List UInt8) : addL (dateF a b c) nEX t = [(nDA, a), (nEX, b), (nLM, c), (nEX, t)] := by rfl
section
variable {a b c t : List UInt8}
theorem lf_no3 (s : Int) (v : Value) (ps : Flds) (w : World) (hr : ReadsQ w v ps) (hf : FitL ps) (hE : EnvL w) (hc : allL ps nCC = []) (hx : hasF ps nEX = true) (dd de : Option Nat) (h1 : DatF ps nDA dd) (h2 : DatF ps nEX de) (h0 : dd = none ∨ de = none) :
    Calls Tryz.prog 13 #[.int .i64 s, v] w fun e w' => e = .returned (.tuple #[.int .i64 0, .int .i64 3]) ∧ Below w.heap.size w w' := by
  obtain ⟨dl, h3⟩ := oneIs_ex (allL ps nLM)
  have := lfOf_any s v ps dd de dl w hr hf h1 h2 h3 hE
  have hz : betV dd de = 0 := by
    rcases h0 with rfl | rfl
    · rfl
    · exact bet_none _
  rw [hc, parse_nilD, hx, of_dt s true, hz] at this
  exact this
theorem lf_no5 (s : Int) (v : Value) (ps : Flds) (w : World) (hr : ReadsQ w v ps) (hf : FitL ps) (hE : EnvL w) (hc : allL ps nCC = []) (hx : allL ps nEX = []) (dd dl : Option Nat) (h1 : DatF ps nDA dd) (h2 : DatF ps nLM dl) (h0 : dd = none ∨ dl = none) :
    Calls Tryz.prog 13 #[.int .i64 s, v] w fun e w' => e = .returned (.tuple #[.int .i64 0, .int .i64 5]) ∧ Below w.heap.size w w' := by
  have h3 : DatF ps nEX none := by unfold DatF; rw [hx]; rfl
  have := lfOf_any s v ps dd none dl w hr hf h1 h3 h2 hE
  have hz : betV dl dd = 0 := by
    rcases h0 with rfl | rfl
    · exact bet_none _
    · rfl
  have ho : ofV s noneD false dd none dl = (0, 5) := by
    cases hc : cacB s with
    | false => exact of_non (by show ¬ 0 ≤ (-1 : Int); decide) (by show ¬ 0 ≤ (-1 : Int); decide) hc
    | true => exact (of_heu (by show ¬ 0 ≤ (-1 : Int); decide) (by show ¬ 0 ≤ (-1 : Int); decide) hc).trans (heu_zero hz)
  rw [hc, parse_nilD, show hasF ps nEX = false by unfold hasF; rw [hx]; rfl, ho] at this
  exact this
/-- The names of the first loop: what Set and Add make of the dates with a broken text. -/
theorem set3 (s : Int) {n : List UInt8} (hn : n = nDA ∨ n = nEX) (ha : a.length = 29) (hb : b.length = 29) (hc : c.length = 29) (ht : t.length ≤ 100) (hd : DateIs t none) (v : Value) (w : World) (hr : ReadsQ w v (setL (dateF a b c) n t)) (hE : EnvL w) :
    Calls Tryz.prog 13 #[.int .i64 s, v] w fun e w' => e = .returned (.tuple #[.int .i64 0, .int .i64 3]) ∧ Below w.heap.size w w' := by
  rcases hn with rfl | rfl
  · rw [sb_da] at hr
    obtain ⟨de, h2⟩ := date_ex b
    exact lf_no3 s v _ w hr (fit_dt (by omega) (by omega) (by omega)) hE (dt_cc _ _ _) (by unfold hasF; rw [dt_ex]; rfl) none de (by unfold DatF; rw [dt_da]; exact hd) (by unfold DatF; rw [dt_ex]; exact h2) (.inl rfl)
  · rw [sb_ex] at hr
    obtain ⟨dd, h2⟩ := date_ex a
    exact lf_no3 s v _ w hr (fit_dt (by omega) (by omega) (by omega)) hE (dt_cc _ _ _) (by unfold hasF; rw [dt_ex]; rfl) dd none (by unfold DatF; rw [dt_da]; exact h2) (by unfold DatF; rw [dt_ex]; exact hd) (.inr rfl)
theorem fit_four {n1 n2 n3 n4 a b c t : List UInt8} (h1 : n1.length + a.length ≤ 100000) (h2 : n2.length + b.length ≤ 100000) (h3 : n3.length + c.length ≤ 100000) (h4 : n4.length + t.length ≤ 100000) : FitL [(n1, a), (n2, b), (n3, c), (n4, t)] := by
  refine ⟨by simp, fun p hp => ?_⟩
  simp only [List.mem_cons, List.not_mem_nil, or_false] at hp
  rcases hp with rfl | rfl | rfl | rfl <;> assumption
theorem add3 (s : Int) {n : List UInt8} (hn : n = nDA ∨ n = nEX) (ha : a.length = 29) (hb : b.length = 29) (hc : c.length = 29) (ht : t.length ≤ 100) (v : Value) (w : World) (hr : ReadsQ w v (addL (dateF a b c) n t)) (hE : EnvL w) :
    Calls Tryz.prog 13 #[.int .i64 s, v] w fun e w' => e = .returned (.tuple #[.int .i64 0, .int .i64 3]) ∧ Below w.heap.size w w' := by
  have e1 : nDA.length = 4 := rfl
  have e2 : nEX.length = 7 := rfl
  have e3 : nLM.length = 13 := rfl
  rcases hn with rfl | rfl
  · rw [ab_da] at hr
    obtain ⟨de, h2⟩ := date_ex b
    exact lf_no3 s v _ w hr (fit_four (by omega) (by omega) (by omega) (by omega)) hE (by rfl) (by rfl) none de (by show OneIs [a, t] none; rfl) (by show OneIs [b] de; exact h2) (.inl rfl)
  · rw [ab_ex] at hr
    obtain ⟨dd, h2⟩ := date_ex a
    exact lf_no3 s v _ w hr (fit_four (by omega) (by omega) (by omega) (by omega)) hE (by rfl) (by rfl) dd none (by show OneIs [a] dd; exact h2) (by show OneIs [b, t] none; rfl) (.inr rfl)
theorem set5 (s : Int) {n : List UInt8} (hn : n = nDA ∨ n = nLM) (ha : a.length = 29) (hc : c.length = 29) (ht : t.length ≤ 100) (hd : DateIs t none) (v : Value) (w : World) (hr : ReadsQ w v (setL (dateG a c) n t)) (hE : EnvL w) :
    Calls Tryz.prog 13 #[.int .i64 s, v] w fun e w' => e = .returned (.tuple #[.int .i64 0, .int .i64 5]) ∧ Below w.heap.size w w' := by
  rcases hn with rfl | rfl
  · rw [sg_da] at hr
    obtain ⟨dl, h2⟩ := date_ex c
    exact lf_no5 s v _ w hr (fit_dg (by omega) (by omega)) hE (dg_cc _ _) (dg_ex _ _) none dl (by unfold DatF; rw [dg_da]; exact hd) (by unfold DatF; rw [dg_lm]; exact h2) (.inl rfl)
  · rw [sg_lm] at hr
    obtain ⟨dd, h2⟩ := date_ex a
    exact lf_no5 s v _ w hr (fit_dg (by omega) (by omega)) hE (dg_cc _ _) (dg_ex _ _) dd none (by unfold DatF; rw [dg_da]; exact h2) (by unfold DatF; rw [dg_lm]; exact hd) (.inr rfl)
end
/-- Two strings in a block. -/
structure TwoS (M : Nat) (w : World) (p q : List UInt8) : Prop where
  c0 : w.cell? ⟨M, 0, none⟩ = some (.string (strB p))
  c1 : w.cell? ⟨M, 1, none⟩ = some (.string (strB q))
  lt : M < w.heap.size
theorem TwoS.below {M : Nat} {w w' : World} {p q : List UInt8} (h : TwoS M w p q) (hb : Below w.heap.size w w') : TwoS M w' p q :=
  ⟨(hb.cell (p := ⟨M, 0, none⟩) h.lt).trans h.c0, (hb.cell (p := ⟨M, 1, none⟩) h.lt).trans h.c1, Nat.lt_of_lt_of_le h.lt hb.size⟩
theorem twoS_new (w : World) (p q : List UInt8) (T : TypeId) : TwoS w.heap.size (w.alloc (.cells #[.string (strB p), .string (strB q)] T)) p q :=
  ⟨by rw [World.cell?_alloc_at _ _ _ _ rfl]; rfl, by rw [World.cell?_alloc_at _ _ _ _ rfl]; rfl, by simp⟩
theorem TwoS.at {M : Nat} {w : World} {p q : List UInt8} (h : TwoS M w p q) {k : Nat} (hk : k < 2) : ∃ n, (n = p ∨ n = q) ∧ w.cell? ⟨M, k, none⟩ = some (.string (strB n)) := by
  have : k = 0 ∨ k = 1 := by omega
  rcases this with rfl | rfl
  · exact ⟨p, .inl rfl, h.c0⟩
  · exact ⟨q, .inr rfl, h.c1⟩
/-- What stays in a loop: what was there, the names, the fields. -/
structure BrI (w0 : World) (M : Nat) (p q : List UInt8) (f : Value) (ps : Flds) (w : World) : Prop where
  b : Below w0.heap.size w0 w
  a : TwoS M w p q
  q : ReadsQ w f ps
  e : EnvL w
theorem BrI.below {w0 : World} {M : Nat} {p q : List UInt8} {f : Value} {ps : Flds} {w w' : World} (h : BrI w0 M p q f ps w) (hb : Below w.heap.size w w') : BrI w0 M p q f ps w' :=
  ⟨h.b.trans (hb.mono h.b.size), h.a.below hb, h.q.below hb, h.e.below hb⟩
theorem name_len {n : List UInt8} (h : n = nDA ∨ n = nEX ∨ n = nLM) : n.length ≤ 20 := by
  rcases h with rfl | rfl | rfl <;> decide
set_option maxHeartbeats 8000000 in
set_option maxRecDepth 100000 in
theorem lf_broken_walk (x y z : Int) (T : ByteArray) (s : Int) (w : World) (hE : EnvL w) (hT : T.size ≤ 9223372036854775807) :
    Calls Tryz.prog 9 #[.agg #[.int .i64 x, .int .i64 y, .int .i64 z], .string T, .int .i64 s] w fun e w' => e = .returned (.bool true) ∧ Below w.heap.size w w' := by
  obtain ⟨S, B, D, G, C, a, b, c, hd⟩ := dates_ex x y z
  have HE := Lib.hid hE
  have HN := Lib.hid (box3_new w x y z 37)
  have HB0 := Lib.hid (below_new w (.cells #[.int .i64 x, .int .i64 y, .int .i64 z] 37))
  have HD := Lib.hid (fun (w : World) (hE : EnvL w) => dated_any x y z S B D G C a b c w hE hd)
  have HAw := Lib.hid (fun (w : World) (hE : EnvL w) => lfAwake_any w hE)
  have la := Lib.hid (isT_len hd.ta)
  have lb := Lib.hid (isT_len hd.tb)
  have lc := Lib.hid (isT_len hd.tc)
  have hfit := Lib.hid (fit_dt (a := a) (b := b) (c := c) (by rw [la.out]; decide) (by rw [lb.out]; decide) (by rw [lc.out]; decide))
  clear hE hd
  by_cases hbig : 100 < T.size
  · go_enter Tryz.func9, Tryz.ntmps9
    go_upto_region 1 with fail
    change Code.wp _ _ _ _ (w.alloc (.cells #[.int .i64 x, .int .i64 y, .int .i64 z] 37))
    generalize (w.alloc (.cells #[.int .i64 x, .int .i64 y, .int .i64 z] 37)) = W at *
    obtain ⟨c0, c1, c2, hlt⟩ := HN.out
    go_wp2_with fail
    refine (HD.out _ (HE.out.below HB0.out)).mono ?_
    rintro e w1 ⟨p, n, m, rfl, hO, hB1⟩
    have HB1 := Lib.hid (HB0.out.trans (hB1.mono HB0.out.size))
    clear hB1 hO
    go_wp2_with fail
    go_ret
    exact ⟨rfl, HB1.out⟩
  · obtain ⟨t, rfl⟩ : ∃ t, T = strB t := ⟨T.data.toList, (strB_of T).symm⟩
    have hlt : t.length ≤ 100 := by rw [strB_size] at hbig; omega
    have hsz : (strB t).size ≤ 100 := by omega
    obtain ⟨dt, hdt⟩ := date_ex t
    have HP := Lib.hid (fun (w : World) (hE : EnvP w) => hParse_any t dt hdt w hE (by omega))
    clear hbig hT
    go_enter Tryz.func9, Tryz.ntmps9
    go_upto_region 1 with fail
    change Code.wp _ _ _ _ (w.alloc (.cells #[.int .i64 x, .int .i64 y, .int .i64 z] 37))
    generalize (w.alloc (.cells #[.int .i64 x, .int .i64 y, .int .i64 z] 37)) = W at *
    obtain ⟨c0, c1, c2, hl0⟩ := HN.out
    go_wp2_with fail
    refine (HD.out _ (HE.out.below HB0.out)).mono ?_
    rintro e w1 ⟨p, n, m, rfl, hO, hB1⟩
    have HB1 := Lib.hid (HB0.out.trans (hB1.mono HB0.out.size))
    have HQ1 := Lib.hid hO.q
    clear hB1 hO c0 c1 c2 hl0 HN HB0
    go_wp2_with fail
    refine (HAw.out _ (HE.out.below HB1.out)).mono ?_
    rintro e w2 ⟨rfl, hB2⟩
    have HB2 := Lib.hid (HB1.out.trans (hB2.mono HB1.out.size))
    have HQ2 := Lib.hid (HQ1.out.below hB2)
    clear hB2 HQ1 HB1
    go_wp2_with fail
    refine (HP.out _ (HE.out.below HB2.out).2).mono ?_
    rintro e w3 ⟨rfl, hB3⟩
    have HB3 := Lib.hid (HB2.out.trans (hB3.mono HB2.out.size))
    have HQ3 := Lib.hid (HQ2.out.below hB3)
    clear hB3 HQ2 HB2 HP
    cases dt with
    | some k =>
      unfold dtV
      go_wp2_with fail
      go_ret
      exact ⟨rfl, HB3.out⟩
    | none =>
      unfold dtV
      have HBr := Lib.hid (show BrI w w3.heap.size nDA nEX (.slice p n m) (dateF a b c) (w3.alloc (.cells #[.string (strB nDA), .string (strB nEX)] 9)) from
        ⟨HB3.out.alloc HB3.out.size _, twoS_new _ _ _ _, HQ3.out.below (below_new _ _), HE.out.below (HB3.out.alloc HB3.out.size _)⟩)
      have HS3 := Lib.hid (fun (n : List UInt8) (hn : n = nDA ∨ n = nEX) (v : Value) (w : World) (hr : ReadsQ w v (setL (dateF a b c) n t)) (hE : EnvL w) => set3 s hn la.out lb.out lc.out hlt hdt v w hr hE)
      have HA3 := Lib.hid (fun (n : List UInt8) (hn : n = nDA ∨ n = nEX) (v : Value) (w : World) (hr : ReadsQ w v (addL (dateF a b c) n t)) (hE : EnvL w) => add3 s hn la.out lb.out lc.out hlt v w hr hE)
      have HS5 := Lib.hid (fun (n : List UInt8) (hn : n = nDA ∨ n = nLM) (v : Value) (w : World) (hr : ReadsQ w v (setL (dateG a c) n t)) (hE : EnvL w) => set5 s hn la.out lc.out hlt hdt v w hr hE)
      go_upto_region 8 with fail
      change Code.wp _ _ _ _ (w3.alloc (.cells #[.string (strB nDA), .string (strB nEX)] 9))
      generalize w3.heap.size = M at *
      generalize (w3.alloc (.cells #[.string (strB nDA), .string (strB nEX)] 9)) = W4 at *
      clear HQ3 HB3
      go_loopw [56] (fun i wr => ∃ k : Nat, i = .int .i64 k ∧ k ≤ 2 ∧ BrI w M nDA nEX (.slice p n m) (dateF a b c) wr) (fun i _ => 2 - (intOf i).toNat)
      case atStart => exact ⟨0, rfl, Nat.zero_le _, HBr.out⟩
      case round =>
        obtain ⟨k, rfl, hk, hI⟩ := hrel
        have HI := Lib.hid hI
        clear hI
        by_cases hk2 : k < 2
        · obtain ⟨nm, hnm, hcell⟩ := HI.out.a.at hk2
          have HNm := Lib.hid hnm
          have hnl := name_len (by rcases hnm with h | h <;> simp [h] : nm = nDA ∨ nm = nEX ∨ nm = nLM)
          clear hnm
          have HSet := Lib.hid (fun (w : World) (hr : ReadsQ w (.slice p n m) (dateF a b c)) => set_any (.slice p n m) (dateF a b c) nm t w hr (by omega) (by omega) (by simp) hfit.out.each6)
          have HAdd := Lib.hid (fun (w : World) (hr : ReadsQ w (.slice p n m) (dateF a b c)) => add_any (.slice p n m) (dateF a b c) nm t w hr (by omega) (by omega) (by simp))
          go_wp2_with fail
          refine (HSet.out _ HI.out.q).mono ?_
          rintro e w5 ⟨v5, rfl, hO5, hB5⟩
          have HI5 := Lib.hid (HI.out.below hB5)
          have HQ5 := Lib.hid hO5.q
          clear hB5 hO5 HI hcell
          go_wp2_with fail
          refine (HS3.out nm HNm.out _ _ HQ5.out HI5.out.e).mono ?_
          rintro e w6 ⟨rfl, hB6⟩
          have HI6 := Lib.hid (HI5.out.below hB6)
          clear hB6 HI5 HQ5
          go_wp2_with fail
          refine (HAdd.out _ HI6.out.q).mono ?_
          rintro e w7 ⟨v7, rfl, hO7, hB7⟩
          have HI7 := Lib.hid (HI6.out.below hB7)
          have HQ7 := Lib.hid hO7.q
          clear hB7 hO7 HI6
          go_wp2_with fail
          refine (HA3.out nm HNm.out _ _ HQ7.out HI7.out.e).mono ?_
          rintro e w8 ⟨rfl, hB8⟩
          have HI8 := Lib.hid (HI7.out.below hB8)
          clear hB8 HI7 HQ7
          go_wp2_with fail
          go_roundw
          case rel => exact ⟨k + 1, by go_num, by omega, HI8.out⟩
          case measure => simp [intOf]; omega
        · have HRm := Lib.hid (fun (w : World) (hr : ReadsQ w (.slice p n m) (dateF a b c)) => remove_any (.slice p n m) (dateF a b c) ⟨#[101, 120, 112, 105, 114, 101, 115]⟩ w hr (by decide) (by simp) hfit.out.each6)
          have hrm : remL (dateF a b c) (⟨#[101, 120, 112, 105, 114, 101, 115]⟩ : ByteArray).data.toList = dateG a c := dt_rem a b c
          rw [hrm] at HRm
          clear hrm
          go_wp2_with fail
          refine (HRm.out _ HI.out.q).mono ?_
          rintro e w5 ⟨v5, rfl, hO5, hB5⟩
          have HI5 := Lib.hid (HI.out.below hB5)
          have HQ5 := Lib.hid hO5.q
          have hv5 := hO5
          clear hB5 hO5 HI
          have HBs := Lib.hid (show BrI w w5.heap.size nDA nLM v5 (dateG a c) (w5.alloc (.cells #[.string (strB nDA), .string (strB nLM)] 9)) from
            ⟨HI5.out.b.alloc HI5.out.b.size _, twoS_new _ _ _ _, HQ5.out.below (below_new _ _), HI5.out.e.below (below_new _ _)⟩)
          clear hv5
          have hfitg := Lib.hid (fit_dg (a := a) (c := c) (by rw [la.out]; decide) (by rw [lc.out]; decide))
          go_upto_region 17 with fail
          change Code.wp _ _ _ _ (w5.alloc (.cells #[.string (strB nDA), .string (strB nLM)] 9))
          generalize w5.heap.size = M5 at *
          generalize (w5.alloc (.cells #[.string (strB nDA), .string (strB nLM)] 9)) = W6 at *
          clear HI5 HQ5
          go_loopw [97] (fun i wr => ∃ k : Nat, i = .int .i64 k ∧ k ≤ 2 ∧ BrI w M5 nDA nLM v5 (dateG a c) wr) (fun i _ => 2 - (intOf i).toNat)
          case atStart => exact ⟨0, rfl, Nat.zero_le _, HBs.out⟩
          case round =>
            obtain ⟨j, rfl, hj, hI⟩ := hrel
            have HI := Lib.hid hI
            clear hI
            by_cases hj2 : j < 2
            · obtain ⟨nm, hnm, hcell⟩ := HI.out.a.at hj2
              have HNm := Lib.hid hnm
              have hnl := name_len (by rcases hnm with h | h <;> simp [h] : nm = nDA ∨ nm = nEX ∨ nm = nLM)
              clear hnm
              have HSet := Lib.hid (fun (w : World) (hr : ReadsQ w v5 (dateG a c)) => set_any v5 (dateG a c) nm t w hr (by omega) (by omega) (by simp) hfitg.out.each6)
              go_wp2_with fail
              refine (HSet.out _ HI.out.q).mono ?_
              rintro e w7 ⟨v7, rfl, hO7, hB7⟩
              have HI7 := Lib.hid (HI.out.below hB7)
              have HQ7 := Lib.hid hO7.q
              clear hB7 hO7 HI hcell
              go_wp2_with fail
              refine (HS5.out nm HNm.out _ _ HQ7.out HI7.out.e).mono ?_
              rintro e w8 ⟨rfl, hB8⟩
              have HI8 := Lib.hid (HI7.out.below hB8)
              clear hB8 HI7 HQ7
              go_wp2_with fail
              go_roundw
              case rel => exact ⟨j + 1, by go_num, by omega, HI8.out⟩
              case measure => simp [intOf]; omega
            · go_wp2_with fail
              (try simp only [Exit.inBlock, Exit.then])
              go_ret
              exact ⟨rfl, HI.out.b⟩
end Go.Proofs.YtinbdflkpbjmcaaGreatDoor
