import Derived.Test.YtoiampkdmjpljaaGreatDoorPa23
import Derived.Deep.RegionHeld3
import Derived.Test.YtoiampkdmjpljaaGreatDoorPa16
import Derived.Test.YtoiampkdmjpljaaGreatDoorPa0
import Derived.Test.YtoiampkdmjpljaaGreatDoorPa8
import Derived.Test.YtoiampkdmjpljaaGreatDoorPa1
import Derived.Test.YtoiampkdmjpljaaGreatDoorPa21
/- What Cacheable, explicit, heuristic, Of, Explicit, Allowance return. -/
namespace Go.Proofs.YtoiampkdmjpljaaGreatDoor
open Go.RowKit

theorem retB {a b : Bool} (h : a = b) : Ending.returned (.bool a) = .returned (.bool b) := by rw [h]
set_option maxHeartbeats 1000000 in
theorem isNegative_any (s : Int) (w : World) :
    Calls Tryz.prog 79 #[.int .i64 s] w fun e w' => e = .returned (.bool (negB s)) ∧ w = w' := by
  go_enter Tryz.func79, Tryz.ntmps79
  go_wp2
  all_goals
    go_ret
    exact ⟨retB (by unfold negB; simp_all), rfl⟩
set_option maxHeartbeats 1000000 in
theorem cacheable_any (s : Int) (w : World) :
    Calls Tryz.prog 53 #[.int .i64 s] w fun e w' => e = .returned (.bool (cacB s)) ∧ w = w' := by
  go_enter Tryz.func53, Tryz.ntmps53
  go_wp2_with (go_at_call 79; refine (isNegative_any s _).mono ?_; rintro e w' ⟨rfl, rfl⟩)
  all_goals
    go_ret
    exact ⟨retB (by unfold cacB; simp_all), rfl⟩
set_option maxHeartbeats 4000000 in
set_option maxRecDepth 100000 in
theorem heuristic_any (s : Int) (fv : Value) (ps : Flds) (dl dd : Option Nat) (w : World) (hr : ReadsQ w fv ps) (hf : FitL ps) (hl : DatF ps nLM dl) (hd : DatF ps nDA dd) (hE : EnvP w) :
    Calls Tryz.prog 107 #[.int .i64 s, fv] w fun e w' => e = .returned (.tuple #[.int .i64 (heuV s dl dd).1, .int .i64 (heuV s dl dd).2]) ∧ Below w.heap.size w w' := by
  have HB := Lib.hid (between_any fv ps ⟨#[108, 97, 115, 116, 45, 109, 111, 100, 105, 102, 105, 101, 100]⟩ ⟨#[100, 97, 116, 101]⟩ dl dd w hr hf (by decide) (by decide) hl hd hE)
  have hnn := bet_nn dl dd
  have hle := bet_le (a := dl) (b := dd) (fun k hk => by subst hk; exact oneIs_le hd)
  have HV := Lib.hid (show heuV s dl dd = if betV dl dd = 0 then (0, 5) else (min (betV dl dd / 10) (if negB s = true then 10000 else 86400000), 4) from rfl)
  generalize betV dl dd = u at *
  generalize heuV s dl dd = H at *
  clear hr hf hl hd hE
  by_cases h0 : u = 0
  · have hb : (u == 0) = true := by simpa using h0
    have HV2 := HV.out
    rw [if_pos h0] at HV2
    subst HV2
    clear h0 HV
    go_enter Tryz.func107, Tryz.ntmps107
    go_wp2_with fail
    refine HB.out.mono ?_
    rintro e w1 ⟨rfl, hB1⟩
    go_wp2_with fail
    go_ret2
    exact ⟨rfl, hB1⟩
  · have hb : (u == 0) = false := by simpa using h0
    have HV2 := HV.out
    rw [if_neg h0] at HV2
    subst HV2
    clear h0 HV
    have hq : u.tdiv 10 = u / 10 := Int.tdiv_eq_ediv_of_nonneg hnn
    cases hn : negB s with
    | true =>
      have HN := Lib.hid (fun w => isNegative_any s w)
      rw [hn] at HN
      go_enter Tryz.func107, Tryz.ntmps107
      go_wp2_with fail
      refine HB.out.mono ?_
      rintro e w1 ⟨rfl, hB1⟩
      go_wp2_with fail
      refine (HN.out _).mono ?_
      rintro e w2 ⟨rfl, rfl⟩
      go_wp2_with fail
      go_ret2
      exact ⟨by first | rfl | simp, hB1⟩
    | false =>
      have HN := Lib.hid (fun w => isNegative_any s w)
      rw [hn] at HN
      go_enter Tryz.func107, Tryz.ntmps107
      go_wp2_with fail
      refine HB.out.mono ?_
      rintro e w1 ⟨rfl, hB1⟩
      go_wp2_with fail
      refine (HN.out _).mono ?_
      rintro e w2 ⟨rfl, rfl⟩
      go_wp2_with fail
      go_ret2
      exact ⟨by first | rfl | simp, hB1⟩
set_option maxHeartbeats 4000000 in
set_option maxRecDepth 100000 in
theorem explicit_any (fv : Value) (ps : Flds) (dd de : Option Nat) (w : World) (hr : ReadsQ w fv ps) (hf : FitL ps) (hd : DatF ps nDA dd) (he : DatF ps nEX de) (hE : EnvL w) :
    Calls Tryz.prog 80 #[fv] w fun e w' => e = .returned (.tuple #[.int .i64 (expV (parseD (allL ps nCC)) (hasF ps nEX) dd de).1, .int .i64 (expV (parseD (allL ps nCC)) (hasF ps nEX) dd de).2]) ∧ Below w.heap.size w w' := by
  have HP := Lib.hid (parse11_any fv ps w hr (by have := hf.len; omega) hf.each hE.1)
  have HG := Lib.hid (fun (w : World) (hr : ReadsQ w fv ps) => get_any fv ps ⟨#[101, 120, 112, 105, 114, 101, 115]⟩ w hr (by decide) (by have := hf.len; omega) hf.each6)
  have HB := Lib.hid (fun (w : World) (hr : ReadsQ w fv ps) (hE : EnvP w) => between_any fv ps ⟨#[100, 97, 116, 101]⟩ ⟨#[101, 120, 112, 105, 114, 101, 115]⟩ dd de w hr hf (by decide) (by decide) hd he hE)
  have HE := Lib.hid hE
  have HR := Lib.hid hr
  have hnor := nor_parse (allL ps nCC)
  generalize parseD (allL ps nCC) = D at *
  have hg : decide (0 < (allL ps (⟨#[101, 120, 112, 105, 114, 101, 115]⟩ : ByteArray).data.toList).length) = hasF ps nEX := rfl
  rw [hg] at HG
  generalize strB (getL (allL ps (⟨#[101, 120, 112, 105, 114, 101, 115]⟩ : ByteArray).data.toList)) = X at *
  generalize hasF ps nEX = x at *
  have HV := Lib.hid (show expV D x dd de = if 0 ≤ D.sa then (1000 * D.sa, 1) else if 0 ≤ D.ma then (1000 * D.ma, 2) else if x = true then (betV dd de, 3) else (0, 5) from rfl)
  generalize betV dd de = u at *
  generalize expV D x dd de = Y at *
  clear hr hf hd he hE hg
  have hsa := hnor.sa
  have hma := hnor.ma
  clear hnor
  have HTs := Lib.hid (fun (w : World) => ticksOf_any D.sa w (by omega) (by omega))
  have HTm := Lib.hid (fun (w : World) => ticksOf_any D.ma w (by omega) (by omega))
  have HIs := Lib.hid (fun (w : World) => isPresent_any D.sa w)
  have HIm := Lib.hid (fun (w : World) => isPresent_any D.ma w)
  go_enter Tryz.func80, Tryz.ntmps80
  go_wp2_with fail
  refine HP.out.mono ?_
  rintro e w1 ⟨rfl, hB1⟩
  have HB1 := Lib.hid (hB1.alloc hB1.size (.cells (dvC D) 81))
  have HN := Lib.hid (dvB_new w1 D 81)
  have hN1 := hB1.size
  clear hB1
  go_upto_region 2 with fail
  change Code.wp _ _ _ _ (w1.alloc (.cells (dvC D) 81))
  generalize w1.heap.size = M at *
  generalize (w1.alloc (.cells (dvC D) 81)) = W3 at *
  go_wp2_with fail
  refine (HG.out _ (HR.out.below HB1.out)).mono ?_
  rintro e w2 ⟨rfl, hB2⟩
  have HB2 := Lib.hid (HB1.out.trans (hB2.mono HB1.out.size))
  obtain ⟨c0, c1, c2, c3, c4, c5, c6, c7, c8, c9, c10, c11, fr, lt⟩ := HN.out.below hB2
  clear hB2 c0 c1 c2 c3 c4 c5 c8 c9 c10 c11
  by_cases h1 : 0 ≤ D.sa
  · have HV2 := HV.out
    rw [if_pos h1] at HV2
    subst HV2
    rw [decide_eq_true h1] at HIs
    have hmx : max D.sa 0 = D.sa := by omega
    rw [hmx] at HTs
    clear HV h1 hmx
    go_wp2_with fail
    refine (HIs.out _).mono ?_
    rintro e w3 ⟨rfl, rfl⟩
    go_wp2_with fail
    refine (HTs.out _).mono ?_
    rintro e w3 ⟨rfl, rfl⟩
    go_wp2_with fail
    go_ret2
    exact ⟨rfl, HB2.out⟩
  · have HV2 := HV.out
    rw [if_neg h1] at HV2
    rw [decide_eq_false h1] at HIs
    clear HV h1
    by_cases h2 : 0 ≤ D.ma
    · rw [if_pos h2] at HV2
      subst HV2
      rw [decide_eq_true h2] at HIm
      have hmx : max D.ma 0 = D.ma := by omega
      rw [hmx] at HTm
      clear h2 hmx
      go_wp2_with fail
      refine (HIs.out _).mono ?_
      rintro e w3 ⟨rfl, rfl⟩
      go_wp2_with fail
      refine (HIm.out _).mono ?_
      rintro e w3 ⟨rfl, rfl⟩
      go_wp2_with fail
      refine (HTm.out _).mono ?_
      rintro e w3 ⟨rfl, rfl⟩
      go_wp2_with fail
      go_ret2
      exact ⟨rfl, HB2.out⟩
    · rw [if_neg h2] at HV2
      rw [decide_eq_false h2] at HIm
      clear h2
      cases x with
      | true =>
        rw [if_pos rfl] at HV2
        subst HV2
        go_wp2_with fail
        refine (HIs.out _).mono ?_
        rintro e w3 ⟨rfl, rfl⟩
        go_wp2_with fail
        refine (HIm.out _).mono ?_
        rintro e w3 ⟨rfl, rfl⟩
        go_wp2_with fail
        refine (HB.out _ (HR.out.below HB2.out) (HE.out.2.below HB2.out)).mono ?_
        rintro e w3 ⟨rfl, hB3⟩
        have HB3 := Lib.hid (HB2.out.trans (hB3.mono HB2.out.size))
        clear hB3
        go_wp2_with fail
        go_ret2
        exact ⟨rfl, HB3.out⟩
      | false =>
        rw [if_neg (by decide)] at HV2
        subst HV2
        go_wp2_with fail
        refine (HIs.out _).mono ?_
        rintro e w3 ⟨rfl, rfl⟩
        go_wp2_with fail
        refine (HIm.out _).mono ?_
        rintro e w3 ⟨rfl, rfl⟩
        go_wp2_with fail
        go_ret2
        exact ⟨rfl, HB2.out⟩
set_option maxHeartbeats 4000000 in
set_option maxRecDepth 100000 in
theorem lfOf_any (s : Int) (fv : Value) (ps : Flds) (dd de dl : Option Nat) (w : World) (hr : ReadsQ w fv ps) (hf : FitL ps) (hd : DatF ps nDA dd) (he : DatF ps nEX de) (hl : DatF ps nLM dl) (hE : EnvL w) :
    Calls Tryz.prog 84 #[.int .i64 s, fv] w fun e w' => e = .returned (.tuple #[.int .i64 (ofV s (parseD (allL ps nCC)) (hasF ps nEX) dd de dl).1, .int .i64 (ofV s (parseD (allL ps nCC)) (hasF ps nEX) dd de dl).2]) ∧ Below w.heap.size w w' := by
  have HX := Lib.hid (explicit_any fv ps dd de w hr hf hd he hE)
  have HH := Lib.hid (fun (w : World) (hr : ReadsQ w fv ps) (hE : EnvP w) => heuristic_any s fv ps dl dd w hr hf hl hd hE)
  have HC := Lib.hid (fun (w : World) => cacheable_any s w)
  have HE := Lib.hid hE
  have HR := Lib.hid hr
  generalize parseD (allL ps nCC) = D at *
  generalize hasF ps nEX = x at *
  have HV := Lib.hid (show ofV s D x dd de dl = if (expV D x dd de).2 = 5 ∧ cacB s = true then heuV s dl dd else expV D x dd de from rfl)
  generalize heuV s dl dd = H at *
  generalize expV D x dd de = Y at *
  obtain ⟨a, k⟩ := Y
  clear hr hf hd he hE hl
  by_cases h5 : k = 5
  · subst h5
    cases hc : cacB s with
    | true =>
      rw [hc] at HC
      have HV2 := HV.out
      rw [if_pos ⟨rfl, hc⟩] at HV2
      rw [HV2]
      obtain ⟨p, q⟩ := H
      clear HV HV2 hc
      go_enter Tryz.func84, Tryz.ntmps84
      go_wp2_with fail
      refine HX.out.mono ?_
      rintro e w1 ⟨rfl, hB1⟩
      go_wp2_with fail
      refine (HC.out _).mono ?_
      rintro e w2 ⟨rfl, rfl⟩
      go_wp2_with fail
      refine (HH.out _ (HR.out.below hB1) (HE.out.2.below hB1)).mono ?_
      rintro e w2 ⟨rfl, hB2⟩
      go_wp2_with fail
      go_ret2
      exact ⟨rfl, hB1.trans (hB2.mono hB1.size)⟩
    | false =>
      rw [hc] at HC
      have HV2 := HV.out
      rw [if_neg (fun h => by rw [hc] at h; cases h.2)] at HV2
      rw [HV2]
      clear HV HV2 hc
      go_enter Tryz.func84, Tryz.ntmps84
      go_wp2_with fail
      refine HX.out.mono ?_
      rintro e w1 ⟨rfl, hB1⟩
      go_wp2_with fail
      refine (HC.out _).mono ?_
      rintro e w2 ⟨rfl, rfl⟩
      go_wp2_with fail
      go_ret2
      exact ⟨rfl, hB1⟩
  · have HV2 := HV.out
    rw [if_neg (fun h => h5 h.1)] at HV2
    rw [HV2]
    have hb : (k == 5) = false := by simpa using h5
    clear HV HV2 h5
    go_enter Tryz.func84, Tryz.ntmps84
    go_wp2_with fail
    refine HX.out.mono ?_
    rintro e w1 ⟨rfl, hB1⟩
    go_wp2_with fail
    go_ret2
    exact ⟨rfl, hB1⟩
set_option maxHeartbeats 4000000 in
set_option maxRecDepth 100000 in
theorem lfExplicit_any (fv : Value) (ps : Flds) (dd de : Option Nat) (w : World) (hr : ReadsQ w fv ps) (hf : FitL ps) (hd : DatF ps nDA dd) (he : DatF ps nEX de) (hE : EnvL w) :
    Calls Tryz.prog 54 #[fv] w fun e w' => e = .returned (.bool (decide ((expV (parseD (allL ps nCC)) (hasF ps nEX) dd de).2 ≠ 5))) ∧ Below w.heap.size w w' := by
  have HX := Lib.hid (explicit_any fv ps dd de w hr hf hd he hE)
  generalize expV (parseD (allL ps nCC)) (hasF ps nEX) dd de = Y at *
  obtain ⟨a, k⟩ := Y
  clear hr hf hd he hE
  go_enter Tryz.func54, Tryz.ntmps54
  go_wp2_with fail
  refine HX.out.mono ?_
  rintro e w1 ⟨rfl, hB1⟩
  go_wp2_with fail
  go_ret
  exact ⟨retB (by by_cases h : k = 5 <;> simp [h]), hB1⟩
end Go.Proofs.YtoiampkdmjpljaaGreatDoor

/- Slices of tags (structs of a bool and a string) in memory: those that a call makes, and those that it reads. -/
namespace Go.Proofs.YtoiampkdmjpljaaGreatDoor
open Go.RowKit

def encT (t : Tg) : List Value := [.bool t.1, strV t.2]
abbrev tgV (t : Tg) : Value := .agg #[.bool t.1, strV t.2]
def flatT (ps : List Tg) : List Value := ps.flatMap encT
theorem flatT_cons (p : Tg) (r : List Tg) : flatT (p :: r) = .bool p.1 :: strV p.2 :: flatT r := rfl
theorem flatT_len (ps : List Tg) : (flatT ps).length = ps.length * 2 := by
  induction ps with
  | nil => rfl
  | cons p r ih => rw [flatT_cons, List.length_cons, List.length_cons, ih, List.length_cons]; omega
theorem flatT_app (a b : List Tg) : flatT (a ++ b) = flatT a ++ flatT b := by simp [flatT]
theorem flatT_at : ∀ (ps : List Tg) (j : Nat) (p : Tg), ps[j]? = some p → (flatT ps)[j * 2]? = some (.bool p.1) ∧ (flatT ps)[j * 2 + 1]? = some (strV p.2) := by
  intro ps
  induction ps with
  | nil => intro j p h; simp at h
  | cons q r ih =>
    intro j p h
    cases j with
    | zero => simp at h; subst h; exact ⟨rfl, rfl⟩
    | succ j =>
      have := ih j p (by simpa using h)
      rw [flatT_cons, show (j + 1) * 2 = j * 2 + 1 + 1 by omega]
      exact ⟨by simpa using this.1, by simpa using this.2⟩
/-- The value v is a slice of the call's own, of tags of type T, that holds ps. -/
def OwnsT (T : TypeId) (B : Nat) (w : World) (v : Value) (ps : List Tg) : Prop := w.ownsRow B T 2 v ps.length (flatT ps)
theorem OwnsT.nil (T : TypeId) (B : Nat) (w : World) : OwnsT T B w (.slice none 0 0) [] := World.ownsRow_nil _ _ _ _
theorem OwnsT.below {T : TypeId} {B : Nat} {w w' : World} {v : Value} {ps : List Tg} (h : OwnsT T B w v ps) (hb : Below w.heap.size w w') : OwnsT T B w' v ps :=
  World.ownsRow.kept h (grown_of_below hb none) (by cases hv : v.ownBlock <;> simp)
theorem OwnsT.mono {T : TypeId} {B C : Nat} {w : World} {v : Value} {ps : List Tg} (hBC : B ≤ C) (h : OwnsT T C w v ps) : OwnsT T B w v ps := by
  rcases h with ⟨hl, hv | ⟨g, cap, cur, hv, hb, hg, hn, hm, hs, ht⟩⟩
  · exact ⟨hl, .inl hv⟩
  · exact ⟨hl, .inr ⟨g, cap, cur, hv, Nat.le_trans hBC hb, hg, hn, hm, hs, ht⟩⟩
theorem OwnsT.snoc {T : TypeId} {B : Nat} {w : World} {v : Value} {ps : List Tg} {p : Tg} (h : w.ownsRow B T 2 v (ps.length + 1) (flatT ps ++ [.bool p.1, strV p.2])) : OwnsT T B w v (ps ++ [p]) := by
  unfold OwnsT
  rw [flatT_app, List.length_append]; exact h
theorem below_appendT {T : TypeId} {B : Nat} {a w w1 w2 : World} {v : Value} {ps : List Tg} {o : Obj} (hB : Below B a w) (hBs : B ≤ w.heap.size) (hb1 : Below w.heap.size w w1) (hown : OwnsT T B w v ps)
    (hgrow : (w1.alloc o).grownBy w2 v.ownBlock) : Below B a w2 :=
  ((hB.trans (hb1.mono hBs)).alloc (by have := hb1.size; omega) o).grown hgrow (by have := hb1.size; simp; omega) (fun q hq => (World.ownsRow.lt hown q hq).1)
/-- The value v is a slice of tags that reads as ps in the world w. -/
def ReadsT (w : World) (v : Value) (ps : List Tg) : Prop :=
  ∃ ao cap, v = .slice ao ps.length cap ∧ ∀ j p, ps[j]? = some p → ∃ g off, ao = some ⟨g, off, none⟩ ∧ g < w.heap.size ∧ w.cell? ⟨g, off + j * 2, none⟩ = some (.bool p.1) ∧ w.cell? ⟨g, off + j * 2 + 1, none⟩ = some (.string (strB p.2))
theorem ReadsT.below {w w' : World} {v : Value} {ps : List Tg} (h : ReadsT w v ps) (hb : Below w.heap.size w w') : ReadsT w' v ps := by
  obtain ⟨ao, cap, rfl, hc⟩ := h
  refine ⟨ao, cap, rfl, fun j p hj => ?_⟩
  obtain ⟨g, off, h1, h2, h3, h4⟩ := hc j p hj
  exact ⟨g, off, h1, Nat.lt_of_lt_of_le h2 hb.size, (hb.cell (p := ⟨g, off + j * 2, none⟩) h2).trans h3, (hb.cell (p := ⟨g, off + j * 2 + 1, none⟩) h2).trans h4⟩
theorem OwnsT.reads {T : TypeId} {B : Nat} {w : World} {v : Value} {ps : List Tg} (h : OwnsT T B w v ps) : ReadsT w v ps := by
  have h0 := h
  rcases h with ⟨hl, ⟨hv, hn⟩ | ⟨g, cap, cur, hv, hb, hg, hn, hm, hs, ht⟩⟩
  · have : ps = [] := List.eq_nil_of_length_eq_zero hn
    subst this
    exact ⟨none, 0, hv, fun j p h => by simp at h⟩
  · refine ⟨_, cap, hv, fun j p hj => ⟨g, 0, rfl, ?_, ?_, ?_⟩⟩
    · exact (World.ownsRow.lt h0 g (by rw [hv]; rfl)).2
    all_goals
      subst hv
      have hj' : j < ps.length := (List.getElem?_eq_some_iff.mp hj).1
      have hf := flatT_at ps j p hj
      rw [Nat.zero_add]
    · rw [World.ownsRow.cellAt h0 (j * 2) (by omega), hf.1]
    · rw [World.ownsRow.cellAt h0 (j * 2 + 1) (by omega), hf.2]
theorem info_tag {P : Program} {T : TypeId} (h : (P.info? T).map (fun i => (i.zero, i.size, i.bytes)) = some (some (.agg #[.bool false, .string ByteArray.empty]), 2, 24)) :
    ∃ i0, P.info? T = some i0 ∧ i0.zero = some (.agg #[.bool false, .string ByteArray.empty]) ∧ i0.size = 2 ∧ i0.bytes = 24 := by
  cases hi : P.info? T with
  | none => rw [hi] at h; cases h
  | some i0 =>
    rw [hi] at h
    simp only [Option.map_some, Option.some.injEq, Prod.mk.injEq] at h
    exact ⟨i0, rfl, h.1, h.2.1, h.2.2⟩
theorem new_tg (w : World) (x : Bool) (y : List UInt8) (T : TypeId) : ∀ j u, [Value.bool x, strV y][j]? = some u → (w.alloc (.cells #[.bool x, strV y] T)).cell? ((⟨w.heap.size, 0, none⟩ : Addr).add j) = some u := by
  intro j u hj
  rw [Addr.add_lit, Nat.zero_add]
  match j, hj with
  | 0, hj => rw [World.cell?_alloc_at _ _ _ _ rfl]; simpa using hj
  | 1, hj => rw [World.cell?_alloc_at _ _ _ _ rfl]; simpa using hj
  | j + 2, hj => simp at hj
end Go.Proofs.YtoiampkdmjpljaaGreatDoor

/- The library's Cut and CutPrefix in plain words, in a world in which MaxLen is an int. -/
namespace Go.Proofs.YtoiampkdmjpljaaGreatDoor
open Go.RowKit

theorem cutR_any (c : UInt8) (s : ByteArray) (w : World) (hM : MaxIs w) (hs : s.size ≤ 100000000) {a b : List UInt8} {f : Bool} (h : cut9 c s.data.toList = (a, b, f)) :
    Calls Tryz.prog 99 #[.string s, .string ⟨#[c]⟩] w fun e w' => e = .returned (.tuple #[.string (strB a), .string (strB b), .bool f]) ∧ ∃ n, w' = w.drewN n := by
  obtain ⟨m, hm⟩ := hM
  refine (Tryz.strings_Cut s ⟨#[c]⟩ m w (by omega) hm).mono ?_
  rintro e w' ⟨he, hn⟩
  have hc : Lib.cut s.data.toList (⟨#[c]⟩ : ByteArray).data.toList = cut9 c s.data.toList := cut_cut9 c _
  rw [hc, h] at he
  exact ⟨he, hn⟩
theorem cut9_sizes {c : UInt8} {s : ByteArray} {a b : List UInt8} {f : Bool} (h : cut9 c s.data.toList = (a, b, f)) : (strB a).size ≤ s.size ∧ (strB b).size ≤ s.size := by
  have := cut9_len c s.data.toList
  rw [h] at this
  rw [strB_size, strB_size]
  have hl : s.data.toList.length = s.size := by simp
  simp only at this
  omega
theorem cutPre_any (s p : ByteArray) (w : World) {b : Bool} (h : p.data.toList.isPrefixOf s.data.toList = b) :
    Calls Tryz.prog 139 #[.string s, .string p] w fun e w' => e = .returned (.tuple #[.string (strB (if b then s.data.toList.drop p.size else s.data.toList)), .bool b]) ∧ w = w' := by
  refine (Tryz.strings_CutPrefix s p w).mono ?_
  rintro e w' ⟨rfl, rfl⟩
  refine ⟨?_, rfl⟩
  have e1 : Lib.hasPrefix s.data.toList p.data.toList = b := h
  unfold Lib.trimPrefix
  rw [e1]
  have hl : p.data.toList.length = p.size := by simp
  rw [hl]; rfl
end Go.Proofs.YtoiampkdmjpljaaGreatDoor
