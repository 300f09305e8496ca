import Derived.Test.YtinbdflkpbjmcaaGreatDoorPa18
import Derived.Deep.RegionHeld3
import Derived.Test.YtinbdflkpbjmcaaGreatDoorPa9
import Derived.Test.YtinbdflkpbjmcaaGreatDoorPa4
/- What Cacheable, explicit, heuristic, Of, Explicit, Allowance return. -/
namespace Go.Proofs.YtinbdflkpbjmcaaGreatDoor
open Go.RowKit

theorem retB {a b : Bool} (h : a = b) : Ending.returned (.bool a) = .returned (.bool b) := by rw [h]
set_option maxHeartbeats 1000000 in
theorem isNegative_any (s : Int) (w : World) :
    Calls Tryz.prog 34 #[.int .i64 s] w fun e w' => e = .returned (.bool (negB s)) ∧ w = w' := by
  go_enter Tryz.func34, Tryz.ntmps34
  go_wp2
  all_goals
    go_ret
    exact ⟨retB (by unfold negB; simp_all), rfl⟩
set_option maxHeartbeats 1000000 in
theorem cacheable_any (s : Int) (w : World) :
    Calls Tryz.prog 17 #[.int .i64 s] w fun e w' => e = .returned (.bool (cacB s)) ∧ w = w' := by
  go_enter Tryz.func17, Tryz.ntmps17
  go_wp2_with (go_at_call 34; refine (isNegative_any s _).mono ?_; rintro e w' ⟨rfl, rfl⟩)
  all_goals
    go_ret
    exact ⟨retB (by unfold cacB; simp_all), rfl⟩
set_option maxHeartbeats 4000000 in
set_option maxRecDepth 100000 in
theorem heuristic_any (s : Int) (fv : Value) (ps : Flds) (dl dd : Option Nat) (w : World) (hr : ReadsQ w fv ps) (hf : FitL ps) (hl : DatF ps nLM dl) (hd : DatF ps nDA dd) (hE : EnvP w) :
    Calls Tryz.prog 29 #[.int .i64 s, fv] w fun e w' => e = .returned (.tuple #[.int .i64 (heuV s dl dd).1, .int .i64 (heuV s dl dd).2]) ∧ Below w.heap.size w w' := by
  have HB := Lib.hid (between_any fv ps ⟨#[108, 97, 115, 116, 45, 109, 111, 100, 105, 102, 105, 101, 100]⟩ ⟨#[100, 97, 116, 101]⟩ dl dd w hr hf (by decide) (by decide) hl hd hE)
  have hnn := bet_nn dl dd
  have hle := bet_le (a := dl) (b := dd) (fun k hk => by subst hk; exact oneIs_le hd)
  have HV := Lib.hid (show heuV s dl dd = if betV dl dd = 0 then (0, 5) else (min (betV dl dd / 10) (if negB s = true then 10000 else 86400000), 4) from rfl)
  generalize betV dl dd = u at *
  generalize heuV s dl dd = H at *
  clear hr hf hl hd hE
  by_cases h0 : u = 0
  · have hb : (u == 0) = true := by simpa using h0
    have HV2 := HV.out
    rw [if_pos h0] at HV2
    subst HV2
    clear h0 HV
    go_enter Tryz.func29, Tryz.ntmps29
    go_wp2_with fail
    refine HB.out.mono ?_
    rintro e w1 ⟨rfl, hB1⟩
    go_wp2_with fail
    go_ret2
    exact ⟨rfl, hB1⟩
  · have hb : (u == 0) = false := by simpa using h0
    have HV2 := HV.out
    rw [if_neg h0] at HV2
    subst HV2
    clear h0 HV
    have hq : u.tdiv 10 = u / 10 := Int.tdiv_eq_ediv_of_nonneg hnn
    cases hn : negB s with
    | true =>
      have HN := Lib.hid (fun w => isNegative_any s w)
      rw [hn] at HN
      go_enter Tryz.func29, Tryz.ntmps29
      go_wp2_with fail
      refine HB.out.mono ?_
      rintro e w1 ⟨rfl, hB1⟩
      go_wp2_with fail
      refine (HN.out _).mono ?_
      rintro e w2 ⟨rfl, rfl⟩
      go_wp2_with fail
      go_ret2
      exact ⟨by first | rfl | simp, hB1⟩
    | false =>
      have HN := Lib.hid (fun w => isNegative_any s w)
      rw [hn] at HN
      go_enter Tryz.func29, Tryz.ntmps29
      go_wp2_with fail
      refine HB.out.mono ?_
      rintro e w1 ⟨rfl, hB1⟩
      go_wp2_with fail
      refine (HN.out _).mono ?_
      rintro e w2 ⟨rfl, rfl⟩
      go_wp2_with fail
      go_ret2
      exact ⟨by first | rfl | simp, hB1⟩
set_option maxHeartbeats 4000000 in
set_option maxRecDepth 100000 in
theorem explicit_any (fv : Value) (ps : Flds) (dd de : Option Nat) (w : World) (hr : ReadsQ w fv ps) (hf : FitL ps) (hd : DatF ps nDA dd) (he : DatF ps nEX de) (hE : EnvL w) :
    Calls Tryz.prog 28 #[fv] w fun e w' => e = .returned (.tuple #[.int .i64 (expV (parseD (allL ps nCC)) (hasF ps nEX) dd de).1, .int .i64 (expV (parseD (allL ps nCC)) (hasF ps nEX) dd de).2]) ∧ Below w.heap.size w w' := by
  have HP := Lib.hid (parse11_any fv ps w hr (by have := hf.len; omega) hf.each hE.1)
  have HG := Lib.hid (fun (w : World) (hr : ReadsQ w fv ps) => get_any fv ps ⟨#[101, 120, 112, 105, 114, 101, 115]⟩ w hr (by decide) (by have := hf.len; omega) hf.each6)
  have HB := Lib.hid (fun (w : World) (hr : ReadsQ w fv ps) (hE : EnvP w) => between_any fv ps ⟨#[100, 97, 116, 101]⟩ ⟨#[101, 120, 112, 105, 114, 101, 115]⟩ dd de w hr hf (by decide) (by decide) hd he hE)
  have HE := Lib.hid hE
  have HR := Lib.hid hr
  have hnor := nor_parse (allL ps nCC)
  generalize parseD (allL ps nCC) = D at *
  have hg : decide (0 < (allL ps (⟨#[101, 120, 112, 105, 114, 101, 115]⟩ : ByteArray).data.toList).length) = hasF ps nEX := rfl
  rw [hg] at HG
  generalize strB (getL (allL ps (⟨#[101, 120, 112, 105, 114, 101, 115]⟩ : ByteArray).data.toList)) = X at *
  generalize hasF ps nEX = x at *
  have HV := Lib.hid (show expV D x dd de = if 0 ≤ D.sa then (1000 * D.sa, 1) else if 0 ≤ D.ma then (1000 * D.ma, 2) else if x = true then (betV dd de, 3) else (0, 5) from rfl)
  generalize betV dd de = u at *
  generalize expV D x dd de = Y at *
  clear hr hf hd he hE hg
  have hsa := hnor.sa
  have hma := hnor.ma
  clear hnor
  have HTs := Lib.hid (fun (w : World) => ticksOf_any D.sa w (by omega) (by omega))
  have HTm := Lib.hid (fun (w : World) => ticksOf_any D.ma w (by omega) (by omega))
  have HIs := Lib.hid (fun (w : World) => isPresent_any D.sa w)
  have HIm := Lib.hid (fun (w : World) => isPresent_any D.ma w)
  go_enter Tryz.func28, Tryz.ntmps28
  go_wp2_with fail
  refine HP.out.mono ?_
  rintro e w1 ⟨rfl, hB1⟩
  have HB1 := Lib.hid (hB1.alloc hB1.size (.cells (dvC D) 45))
  have HN := Lib.hid (dvB_new w1 D 45)
  have hN1 := hB1.size
  clear hB1
  go_upto_region 2 with fail
  change Code.wp _ _ _ _ (w1.alloc (.cells (dvC D) 45))
  generalize w1.heap.size = M at *
  generalize (w1.alloc (.cells (dvC D) 45)) = W3 at *
  go_wp2_with fail
  refine (HG.out _ (HR.out.below HB1.out)).mono ?_
  rintro e w2 ⟨rfl, hB2⟩
  have HB2 := Lib.hid (HB1.out.trans (hB2.mono HB1.out.size))
  obtain ⟨c0, c1, c2, c3, c4, c5, c6, c7, c8, c9, c10, c11, fr, lt⟩ := HN.out.below hB2
  clear hB2 c0 c1 c2 c3 c4 c5 c8 c9 c10 c11
  by_cases h1 : 0 ≤ D.sa
  · have HV2 := HV.out
    rw [if_pos h1] at HV2
    subst HV2
    rw [decide_eq_true h1] at HIs
    have hmx : max D.sa 0 = D.sa := by omega
    rw [hmx] at HTs
    clear HV h1 hmx
    go_wp2_with fail
    refine (HIs.out _).mono ?_
    rintro e w3 ⟨rfl, rfl⟩
    go_wp2_with fail
    refine (HTs.out _).mono ?_
    rintro e w3 ⟨rfl, rfl⟩
    go_wp2_with fail
    go_ret2
    exact ⟨rfl, HB2.out⟩
  · have HV2 := HV.out
    rw [if_neg h1] at HV2
    rw [decide_eq_false h1] at HIs
    clear HV h1
    by_cases h2 : 0 ≤ D.ma
    · rw [if_pos h2] at HV2
      subst HV2
      rw [decide_eq_true h2] at HIm
      have hmx : max D.ma 0 = D.ma := by omega
      rw [hmx] at HTm
      clear h2 hmx
      go_wp2_with fail
      refine (HIs.out _).mono ?_
      rintro e w3 ⟨rfl, rfl⟩
      go_wp2_with fail
      refine (HIm.out _).mono ?_
      rintro e w3 ⟨rfl, rfl⟩
      go_wp2_with fail
      refine (HTm.out _).mono ?_
      rintro e w3 ⟨rfl, rfl⟩
      go_wp2_with fail
      go_ret2
      exact ⟨rfl, HB2.out⟩
    · rw [if_neg h2] at HV2
      rw [decide_eq_false h2] at HIm
      clear h2
      cases x with
      | true =>
        rw [if_pos rfl] at HV2
        subst HV2
        go_wp2_with fail
        refine (HIs.out _).mono ?_
        rintro e w3 ⟨rfl, rfl⟩
        go_wp2_with fail
        refine (HIm.out _).mono ?_
        rintro e w3 ⟨rfl, rfl⟩
        go_wp2_with fail
        refine (HB.out _ (HR.out.below HB2.out) (HE.out.2.below HB2.out)).mono ?_
        rintro e w3 ⟨rfl, hB3⟩
        have HB3 := Lib.hid (HB2.out.trans (hB3.mono HB2.out.size))
        clear hB3
        go_wp2_with fail
        go_ret2
        exact ⟨rfl, HB3.out⟩
      | false =>
        rw [if_neg (by decide)] at HV2
        subst HV2
        go_wp2_with fail
        refine (HIs.out _).mono ?_
        rintro e w3 ⟨rfl, rfl⟩
        go_wp2_with fail
        refine (HIm.out _).mono ?_
        rintro e w3 ⟨rfl, rfl⟩
        go_wp2_with fail
        go_ret2
        exact ⟨rfl, HB2.out⟩
set_option maxHeartbeats 4000000 in
set_option maxRecDepth 100000 in
theorem lfOf_any (s : Int) (fv : Value) (ps : Flds) (dd de dl : Option Nat) (w : World) (hr : ReadsQ w fv ps) (hf : FitL ps) (hd : DatF ps nDA dd) (he : DatF ps nEX de) (hl : DatF ps nLM dl) (hE : EnvL w) :
    Calls Tryz.prog 13 #[.int .i64 s, fv] w fun e w' => e = .returned (.tuple #[.int .i64 (ofV s (parseD (allL ps nCC)) (hasF ps nEX) dd de dl).1, .int .i64 (ofV s (parseD (allL ps nCC)) (hasF ps nEX) dd de dl).2]) ∧ Below w.heap.size w w' := by
  have HX := Lib.hid (explicit_any fv ps dd de w hr hf hd he hE)
  have HH := Lib.hid (fun (w : World) (hr : ReadsQ w fv ps) (hE : EnvP w) => heuristic_any s fv ps dl dd w hr hf hl hd hE)
  have HC := Lib.hid (fun (w : World) => cacheable_any s w)
  have HE := Lib.hid hE
  have HR := Lib.hid hr
  generalize parseD (allL ps nCC) = D at *
  generalize hasF ps nEX = x at *
  have HV := Lib.hid (show ofV s D x dd de dl = if (expV D x dd de).2 = 5 ∧ cacB s = true then heuV s dl dd else expV D x dd de from rfl)
  generalize heuV s dl dd = H at *
  generalize expV D x dd de = Y at *
  obtain ⟨a, k⟩ := Y
  clear hr hf hd he hE hl
  by_cases h5 : k = 5
  · subst h5
    cases hc : cacB s with
    | true =>
      rw [hc] at HC
      have HV2 := HV.out
      rw [if_pos ⟨rfl, hc⟩] at HV2
      rw [HV2]
      obtain ⟨p, q⟩ := H
      clear HV HV2 hc
      go_enter Tryz.func13, Tryz.ntmps13
      go_wp2_with fail
      refine HX.out.mono ?_
      rintro e w1 ⟨rfl, hB1⟩
      go_wp2_with fail
      refine (HC.out _).mono ?_
      rintro e w2 ⟨rfl, rfl⟩
      go_wp2_with fail
      refine (HH.out _ (HR.out.below hB1) (HE.out.2.below hB1)).mono ?_
      rintro e w2 ⟨rfl, hB2⟩
      go_wp2_with fail
      go_ret2
      exact ⟨rfl, hB1.trans (hB2.mono hB1.size)⟩
    | false =>
      rw [hc] at HC
      have HV2 := HV.out
      rw [if_neg (fun h => by rw [hc] at h; cases h.2)] at HV2
      rw [HV2]
      clear HV HV2 hc
      go_enter Tryz.func13, Tryz.ntmps13
      go_wp2_with fail
      refine HX.out.mono ?_
      rintro e w1 ⟨rfl, hB1⟩
      go_wp2_with fail
      refine (HC.out _).mono ?_
      rintro e w2 ⟨rfl, rfl⟩
      go_wp2_with fail
      go_ret2
      exact ⟨rfl, hB1⟩
  · have HV2 := HV.out
    rw [if_neg (fun h => h5 h.1)] at HV2
    rw [HV2]
    have hb : (k == 5) = false := by simpa using h5
    clear HV HV2 h5
    go_enter Tryz.func13, Tryz.ntmps13
    go_wp2_with fail
    refine HX.out.mono ?_
    rintro e w1 ⟨rfl, hB1⟩
    go_wp2_with fail
    go_ret2
    exact ⟨rfl, hB1⟩
set_option maxHeartbeats 4000000 in
set_option maxRecDepth 100000 in
theorem lfExplicit_any (fv : Value) (ps : Flds) (dd de : Option Nat) (w : World) (hr : ReadsQ w fv ps) (hf : FitL ps) (hd : DatF ps nDA dd) (he : DatF ps nEX de) (hE : EnvL w) :
    Calls Tryz.prog 15 #[fv] w fun e w' => e = .returned (.bool (decide ((expV (parseD (allL ps nCC)) (hasF ps nEX) dd de).2 ≠ 5))) ∧ Below w.heap.size w w' := by
  have HX := Lib.hid (explicit_any fv ps dd de w hr hf hd he hE)
  generalize expV (parseD (allL ps nCC)) (hasF ps nEX) dd de = Y at *
  obtain ⟨a, k⟩ := Y
  clear hr hf hd he hE
  go_enter Tryz.func15, Tryz.ntmps15
  go_wp2_with fail
  refine HX.out.mono ?_
  rintro e w1 ⟨rfl, hB1⟩
  go_wp2_with fail
  go_ret
  exact ⟨retB (by by_cases h : k = 5 <;> simp [h]), hB1⟩
set_option maxHeartbeats 4000000 in
set_option maxRecDepth 100000 in
theorem allowance_any (fv : Value) (ps : Flds) (w : World) (hr : ReadsQ w fv ps) (hf : FitL ps) (hE : EnvL w) :
    Calls Tryz.prog 19 #[fv] w fun e w' => e = .returned (.tuple #[.int .i64 (allowV (parseD (allL ps nCC))).1, .int .i64 (allowV (parseD (allL ps nCC))).2]) ∧ Below w.heap.size w w' := by
  have HP := Lib.hid (parse11_any fv ps w hr (by have := hf.len; omega) hf.each hE.1)
  have hnor := nor_parse (allL ps nCC)
  generalize parseD (allL ps nCC) = D at *
  have HV := Lib.hid (show allowV D = if (D.mr || D.nc || decide (0 ≤ D.sa)) = true then (0, 0) else (1000 * max D.ws 0, 1000 * max D.oe 0) from rfl)
  generalize allowV D = Y at *
  clear hr hf hE
  have hws := hnor.ws
  have hoe := hnor.oe
  clear hnor
  have HTs := Lib.hid (fun (w : World) => ticksOf_any D.ws w (by omega) (by omega))
  have HTm := Lib.hid (fun (w : World) => ticksOf_any D.oe w (by omega) (by omega))
  have HIs := Lib.hid (fun (w : World) => isPresent_any D.sa w)
  clear hws hoe
  go_enter Tryz.func19, Tryz.ntmps19
  go_wp2_with fail
  refine HP.out.mono ?_
  rintro e w1 ⟨rfl, hB1⟩
  have HB1 := Lib.hid (hB1.alloc hB1.size (.cells (dvC D) 45))
  have HN := Lib.hid (dvB_new w1 D 45)
  clear hB1
  go_upto_region 2 with fail
  change Code.wp _ _ _ _ (w1.alloc (.cells (dvC D) 45))
  generalize w1.heap.size = M at *
  generalize (w1.alloc (.cells (dvC D) 45)) = W3 at *
  obtain ⟨c0, c1, c2, c3, c4, c5, c6, c7, c8, c9, c10, c11, fr, lt⟩ := HN.out
  clear c0 c2 c3 c5 c6 c10 c11
  cases hm : D.mr with
  | true =>
    rw [hm] at c4 HV
    have HV2 := HV.out
    rw [if_pos (by simp)] at HV2
    subst HV2
    clear HV hm
    go_wp2_with fail
    go_ret2
    exact ⟨rfl, HB1.out⟩
  | false =>
    rw [hm] at c4 HV
    cases hn : D.nc with
    | true =>
      rw [hn] at c1 HV
      have HV2 := HV.out
      rw [if_pos (by simp)] at HV2
      subst HV2
      clear HV hm hn
      go_wp2_with fail
      go_ret2
      exact ⟨rfl, HB1.out⟩
    | false =>
      rw [hn] at c1 HV
      cases hs : decide (0 ≤ D.sa) with
      | true =>
        rw [hs] at HV HIs
        have HV2 := HV.out
        rw [if_pos (by simp)] at HV2
        subst HV2
        clear HV hm hn hs
        go_wp2_with fail
        refine (HIs.out _).mono ?_
        rintro e w3 ⟨rfl, rfl⟩
        go_wp2_with fail
        go_ret2
        exact ⟨rfl, HB1.out⟩
      | false =>
        rw [hs] at HV HIs
        have HV2 := HV.out
        rw [if_neg (by simp)] at HV2
        subst HV2
        clear HV hm hn hs
        have hT1 := Lib.hid (Calls.quietly HTs.out)
        have hT2 := Lib.hid (Calls.quietly HTm.out)
        go_wp2_with fail
        refine (HIs.out _).mono ?_
        rintro e w3 ⟨rfl, rfl⟩
        go_wp2_with fail
        go_quiet (first | with_reducible exact hT1.out _ _ | with_reducible exact hT2.out _ _)
        go_wp2
        go_ret2
        exact ⟨rfl, below_drewN HB1.out _⟩
end Go.Proofs.YtinbdflkpbjmcaaGreatDoor

/- Slices of fields that a call made, as slices that are read; appending one field. -/
namespace Go.Proofs.YtinbdflkpbjmcaaGreatDoor
open Go.RowKit

theorem ReadsP.q {w : World} {v : Value} {ps : Flds} (h : ReadsP w v ps) : ReadsQ w v ps := by
  obtain ⟨ao, cap, rfl, hc⟩ := h
  refine ⟨ao, cap, rfl, fun j p hj => ?_⟩
  obtain ⟨g, h1, h2, h3, h4⟩ := hc j p hj
  exact ⟨g, 0, h1, h2, by rw [Nat.zero_add]; exact h3, by rw [Nat.zero_add]; exact h4⟩
theorem OwnsP.q {T : TypeId} {B : Nat} {w : World} {v : Value} {ps : Flds} (h : OwnsP T B w v ps) : ReadsQ w v ps := h.reads.q
/-- A slice's length is within its room; a slice that is nil has none. -/
def Sane (v : Value) : Prop := ∀ a n c, v = .slice a n c → n ≤ c ∧ (a = none → c = 0)
theorem OwnsP.sane {T : TypeId} {B : Nat} {w : World} {v : Value} {ps : Flds} (h : OwnsP T B w v ps) : Sane v := by
  rcases h with ⟨hl, ⟨hv, hn⟩ | ⟨g, cap, cur, hv, hb, hg, hn, _⟩⟩
  · intro a n c e; rw [hv] at e; cases e; exact ⟨Nat.le_refl _, fun _ => rfl⟩
  · intro a n c e; rw [hv] at e; cases e; exact ⟨hn, fun h => by cases h⟩
theorem Tryz.infoF : (Tryz.prog.info? 59).map (fun i => (i.zero, i.size, i.bytes)) = some (some (.agg #[.string ByteArray.empty, .string ByteArray.empty]), 2, 32) := by kernel_rfl
theorem own_more {T : TypeId} {B : Nat} {w : World} {v : Value} {ps : Flds} {k : Nat} {p : List UInt8 × List UInt8} (hp : ps[k]? = some p)
    (h : w.ownsRow B T 2 v ((ps.take k).length + 1) (flatP (ps.take k) ++ [strV p.1, strV p.2])) : OwnsP T B w v (ps.take (k + 1)) := by
  have := OwnsP.snoc h
  rw [take_more hp]; exact this
theorem two_new (W : World) (a b : List UInt8) (T : TypeId) : ∀ (j : Nat) (u : Value), [strV a, strV b][j]? = some u →
    (W.alloc (.cells #[.string (strB a), .string (strB b)] T)).cell? ((⟨W.heap.size, 0, none⟩ : Addr).add j) = some u := by
  intro j u h
  rw [Addr.add_lit, Nat.zero_add, World.cell?_alloc_at _ _ _ _ rfl]
  match j, h with
  | 0, h => simpa using h
  | 1, h => simpa using h
  | j + 2, h => simp at h
theorem two_new' (W : World) (a b : List UInt8) (T T' : TypeId) : ∀ (j : Nat) (u : Value), [strV a, strV b][j]? = some u →
    ((W.alloc (.cells #[.string (strB a), .string (strB b)] T)).alloc (.cells #[.string (strB a), .string (strB b)] T')).cell? ((⟨W.heap.size + 1, 0, none⟩ : Addr).add j) = some u := by
  intro j u h
  have := two_new (W.alloc (.cells #[.string (strB a), .string (strB b)] T)) a b T' j u h
  simpa using this

end Go.Proofs.YtinbdflkpbjmcaaGreatDoor

/- What small and Fields return, for every list of the reference's fields. -/
namespace Go.Proofs.YtinbdflkpbjmcaaGreatDoor
open Go.RowKit

/-- How many bytes the names and values of a list have. -/
def totL (ps : Flds) : Nat := ps.foldr (fun p n => p.1.length + p.2.length + n) 0
def smallB (ps : Flds) : Bool := decide (ps.length ≤ 70 ∧ totL ps ≤ 6000)
theorem tot_app (ps qs : Flds) : totL (ps ++ qs) = totL ps + totL qs := by
  induction ps with
  | nil => simp [totL]
  | cons p r ih => unfold totL at *; rw [List.cons_append, List.foldr_cons, List.foldr_cons, ih]; omega
theorem tot_more {ps : Flds} {k : Nat} {p : List UInt8 × List UInt8} (h : ps[k]? = some p) : totL (ps.take (k + 1)) = totL (ps.take k) + (p.1.length + p.2.length) := by
  rw [take_more h, tot_app]; simp [totL]
theorem tot_le {ps : Flds} {M : Nat} (hb : ∀ p ∈ ps, p.1.length ≤ M ∧ p.2.length ≤ M) (k : Nat) : totL (ps.take k) ≤ k * (M + M) := by
  induction k with
  | zero => simp [totL]
  | succ k ih =>
    cases hp : ps[k]? with
    | none =>
      have e : ps.take (k + 1) = ps.take k := by rw [List.take_add_one, hp]; simp
      rw [e]; exact Nat.le_trans ih (Nat.mul_le_mul_right _ (Nat.le_succ k))
    | some p =>
      rw [tot_more hp, Nat.succ_mul]
      have := hb p (List.mem_of_getElem? hp)
      omega
theorem tot_mem {ps : Flds} {p : List UInt8 × List UInt8} (h : p ∈ ps) : p.1.length + p.2.length ≤ totL ps := by
  induction ps with
  | nil => cases h
  | cons q r ih =>
    have e : totL (q :: r) = q.1.length + q.2.length + totL r := rfl
    rcases List.mem_cons.1 h with rfl | h
    · omega
    · have := ih h; omega
/-- What a small list is: few fields, and none is long. -/
theorem small_yes {ps : Flds} (h : smallB ps = true) : ps.length ≤ 70 ∧ ∀ p ∈ ps, p.1.length + p.2.length ≤ 6000 := by
  have := of_decide_eq_true h
  exact ⟨this.1, fun p hp => Nat.le_trans (tot_mem hp) this.2⟩

set_option maxHeartbeats 2000000 in
set_option maxRecDepth 100000 in
theorem fields_any (lv : Value) (ps : Flds) (w : World) (hr : ReadsQ w lv ps) (hl : ps.length ≤ 10000) (hb : ∀ p ∈ ps, p.1.length + p.2.length ≤ 1000000) :
    Calls Tryz.prog 12 #[lv] w fun e w' => ∃ v, e = .returned v ∧ OwnsP 59 w.heap.size w' v ps ∧ Below w.heap.size w w' := by
  obtain ⟨i0, hi, hz0, hz1, hz2⟩ := info_parts Tryz.infoF
  obtain ⟨ao, cap, rfl, hc⟩ := hr
  have HC := Lib.hid hc
  have HBig := Lib.hid hb
  clear hc hb
  go_enter Tryz.func12, Tryz.ntmps12
  go_wp2_with fail
  go_loopw [3, 8] (fun v i wr => ∃ k : Nat, i = .int .i64 k ∧ k ≤ ps.length ∧ OwnsP 59 w.heap.size wr v (ps.take k) ∧ Below w.heap.size w wr) (fun _ i _ => ps.length - (intOf i).toNat)
  case atStart => exact ⟨0, rfl, Nat.zero_le _, OwnsP.nil _ _ _, Below.refl _ _⟩
  case round =>
    obtain ⟨k, rfl, hk, hO, hBr⟩ := hrel
    have hbr := hBr.size
    by_cases hlt : k < ps.length
    · obtain ⟨p, hp⟩ : ∃ p, ps[k]? = some p := ⟨ps[k], by simp [hlt]⟩
      obtain ⟨g, off, rfl, hg1, h1, h2⟩ := HC.out k p hp
      have hc1 : wr.cell? ⟨g, off + k * 2, none⟩ = some (.string (strB p.1)) := (hBr.cell (p := ⟨g, off + k * 2, none⟩) hg1).trans h1
      have hc2 : wr.cell? ⟨g, off + k * 2 + 1, none⟩ = some (.string (strB p.2)) := (hBr.cell (p := ⟨g, off + k * 2 + 1, none⟩) hg1).trans h2
      have HP := Lib.hid hp
      clear hp h1 h2
      have hlen : (ps.take k).length = k := by simp; omega
      have HLen := Lib.hid hlen
      clear hlen
      go_wp2_with (at_builtin; refine wpList_append_own _ rfl _ _ 26 rfl w.heap.size 59 i0 (.agg #[.string ByteArray.empty, .string ByteArray.empty]) 2 32 Tryz.underlying26 hi hz0 hz1 hz2 rfl (by decide) _ _ _ rfl ((World.ownsRow.alloc hO _).alloc _) ⟨wr.heap.size + 1, 0, none⟩ 1 1 [strV p.1, strV p.2] rfl rfl (two_new' wr p.1 p.2 _ _) (fun u hu => by simp at hu; rcases hu with rfl | rfl <;> rfl) (by rw [HLen.out]; unfold maxLen; omega) (by rw [HLen.out]; omega) (by simp; omega) ?_; intro v' w4 hown' hgrow _)
      go_roundw
      case rel => exact ⟨k + 1, by go_num, by omega, own_more HP.out hown', below_appendP hBr hbr (below_new wr _) hO hgrow⟩
      case measure => simp [intOf]; omega
    · have htk : ps.take k = ps := List.take_of_length_le (by omega)
      rw [htk] at hO
      go_wp2_with fail
      go_ret
      exact ⟨_, rfl, hO, hBr⟩
end Go.Proofs.YtinbdflkpbjmcaaGreatDoor
