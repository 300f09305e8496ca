import Derived.Test.YtoiampkdmjpljaaGreatDoorPa18
import Derived.Test.YtoiampkdmjpljaaGreatDoorPa25
import Derived.Deep.DeepCutAuto
import Derived.Deep.CutBlock
import Derived.Test.YtoiampkdmjpljaaGreatDoorPa22
import Derived.Test.YtoiampkdmjpljaaGreatDoorPa10
/- Two directives' cells in memory, and what else is as it was. -/
namespace Go.Proofs.YtoiampkdmjpljaaGreatDoor
open Go.RowKit

/-- Both directives' cells. -/
structure TwS (N M : Nat) (d e : Dv) (w w' : World) : Prop where
  a : DvB N w' d
  b : DvB M w' e
  l : Below w.heap.size w w'
theorem TwS.below {N M : Nat} {d e : Dv} {w w1 w2 : World} (h : TwS N M d e w w1) (hb : Below w1.heap.size w1 w2) : TwS N M d e w w2 := ⟨h.a.below hb, h.b.below hb, h.l.trans (hb.mono h.l.size)⟩
theorem twS_all {N M : Nat} {d e : Dv} {w w' : World} (h : TwS N M d e w w') : w'.cell? ⟨N, 0, none⟩ = some (.bool d.ns) ∧ w'.cell? ⟨N, 1, none⟩ = some (.bool d.nc) ∧ w'.cell? ⟨N, 2, none⟩ = some (.bool d.pr) ∧ w'.cell? ⟨N, 3, none⟩ = some (.bool d.pu) ∧ w'.cell? ⟨N, 4, none⟩ = some (.bool d.mr) ∧ w'.cell? ⟨N, 5, none⟩ = some (.bool d.oc) ∧ w'.cell? ⟨N, 6, none⟩ = some (.int .i64 d.ma) ∧ w'.cell? ⟨N, 7, none⟩ = some (.int .i64 d.sa) ∧ w'.cell? ⟨N, 8, none⟩ = some (.int .i64 d.ws) ∧ w'.cell? ⟨N, 9, none⟩ = some (.int .i64 d.oe) ∧ w'.cell? ⟨N, 10, none⟩ = some (.int .i64 d.ms) ∧ w'.cell? ⟨N, 11, none⟩ = some (.int .i64 d.mf) ∧ w'.cell? ⟨M, 0, none⟩ = some (.bool e.ns) ∧ w'.cell? ⟨M, 1, none⟩ = some (.bool e.nc) ∧ w'.cell? ⟨M, 2, none⟩ = some (.bool e.pr) ∧ w'.cell? ⟨M, 3, none⟩ = some (.bool e.pu) ∧ w'.cell? ⟨M, 4, none⟩ = some (.bool e.mr) ∧ w'.cell? ⟨M, 5, none⟩ = some (.bool e.oc) ∧ w'.cell? ⟨M, 6, none⟩ = some (.int .i64 e.ma) ∧ w'.cell? ⟨M, 7, none⟩ = some (.int .i64 e.sa) ∧ w'.cell? ⟨M, 8, none⟩ = some (.int .i64 e.ws) ∧ w'.cell? ⟨M, 9, none⟩ = some (.int .i64 e.oe) ∧ w'.cell? ⟨M, 10, none⟩ = some (.int .i64 e.ms) ∧ w'.cell? ⟨M, 11, none⟩ = some (.int .i64 e.mf) ∧ TwS N M d e w w' :=
  ⟨h.a.c0, h.a.c1, h.a.c2, h.a.c3, h.a.c4, h.a.c5, h.a.c6, h.a.c7, h.a.c8, h.a.c9, h.a.c10, h.a.c11, h.b.c0, h.b.c1, h.b.c2, h.b.c3, h.b.c4, h.b.c5, h.b.c6, h.b.c7, h.b.c8, h.b.c9, h.b.c10, h.b.c11, h⟩
end Go.Proofs.YtoiampkdmjpljaaGreatDoor

/- What storable.isUseful and storable.Of return. -/
namespace Go.Proofs.YtoiampkdmjpljaaGreatDoor
open Go.RowKit

set_option maxHeartbeats 4000000 in
set_option maxRecDepth 100000 in
theorem isUseful_any (s : Int) (fv : Value) (ps : Flds) (dd de dl : Option Nat) (w : World) (hr : ReadsQ w fv ps) (hf : FitL ps) (hd : DatF ps nDA dd) (he : DatF ps nEX de) (hl : DatF ps nLM dl) (hE : EnvL w) :
    Calls Tryz.prog 58 #[.int .i64 s, fv] w fun e w' => e = .returned (.bool (!whyU ps s dd de dl)) ∧ Below w.heap.size w w' := by
  have HO := Lib.hid (lfOf_any s fv ps dd de dl w hr hf hd he hl hE)
  have HT := Lib.hid (fun (w : World) (hr : ReadsQ w fv ps) (hE : EnvL w) => tagOf_any fv ps w hr hf hE.1)
  have HD := Lib.hid (fun (w : World) (hr : ReadsQ w fv ps) (hE : EnvL w) => isDated_any fv ps dl w hr hf hl hE.2)
  have HE := Lib.hid hE
  have HR := Lib.hid hr
  have HV := Lib.hid (show (!whyU ps s dd de dl) = !(decide ((ofV s (parseD (allL ps nCC)) (hasF ps nEX) dd de dl).2 = 5) && ((tagO (allL ps nET)).isNone && dl.isNone)) from rfl)
  generalize (!whyU ps s dd de dl) = res at *
  generalize ofV s (parseD (allL ps nCC)) (hasF ps nEX) dd de dl = Y at *
  generalize tagO (allL ps nET) = t at *
  obtain ⟨a, k⟩ := Y
  clear hr hf hd he hl hE
  cases t with
  | some t =>
    have HV2 := Lib.hid (show res = true by rw [HV.out]; simp)
    unfold tgB at HT
    by_cases h5 : k = 5
    · subst h5
      clear HV
      go_enter Tryz.func58, Tryz.ntmps58
      go_wp2_with fail
      refine HO.out.mono ?_
      rintro e w1 ⟨rfl, hB1⟩
      go_wp2_with fail
      refine (HT.out _ (HR.out.below hB1) (HE.out.below hB1)).mono ?_
      rintro e w2 ⟨rfl, hB2⟩
      have HB2 := Lib.hid (hB1.trans (hB2.mono hB1.size))
      have hs := HB2.out.size
      clear hB1 hB2
      go_wp2_with fail
      go_ret
      exact ⟨retB HV2.out.symm, HB2.out.alloc hs _⟩
    · have hb : (k != 5) = true := by simpa using h5
      clear HV h5
      go_enter Tryz.func58, Tryz.ntmps58
      go_wp2_with fail
      refine HO.out.mono ?_
      rintro e w1 ⟨rfl, hB1⟩
      go_wp2_with fail
      refine (HT.out _ (HR.out.below hB1) (HE.out.below hB1)).mono ?_
      rintro e w2 ⟨rfl, hB2⟩
      have HB2 := Lib.hid (hB1.trans (hB2.mono hB1.size))
      have hs := HB2.out.size
      clear hB1 hB2
      go_wp2_with fail
      go_ret
      exact ⟨retB HV2.out.symm, HB2.out.alloc hs _⟩
  | none =>
    unfold tgB at HT
    by_cases h5 : k = 5
    · subst h5
      have HV2 := Lib.hid (show res = dl.isSome by rw [HV.out]; cases dl <;> rfl)
      clear HV
      go_enter Tryz.func58, Tryz.ntmps58
      go_wp2_with fail
      refine HO.out.mono ?_
      rintro e w1 ⟨rfl, hB1⟩
      go_wp2_with fail
      refine (HT.out _ (HR.out.below hB1) (HE.out.below hB1)).mono ?_
      rintro e w2 ⟨rfl, hB2⟩
      have hs := Nat.le_trans hB1.size hB2.size
      have HB2 := Lib.hid ((hB1.trans (hB2.mono hB1.size)).alloc hs (.cells #[.bool false, .string (strB [])] 94))
      clear hB1 hB2
      go_wp2_with fail
      refine (HD.out _ (HR.out.below HB2.out) (HE.out.below HB2.out)).mono ?_
      rintro e w3 ⟨rfl, hB3⟩
      go_wp2_with fail
      go_ret
      exact ⟨retB HV2.out.symm, HB2.out.trans (hB3.mono HB2.out.size)⟩
    · have HV2 := Lib.hid (show res = true by rw [HV.out]; simp [h5])
      have hb : (k != 5) = true := by simpa using h5
      clear HV h5
      go_enter Tryz.func58, Tryz.ntmps58
      go_wp2_with fail
      refine HO.out.mono ?_
      rintro e w1 ⟨rfl, hB1⟩
      go_wp2_with fail
      refine (HT.out _ (HR.out.below hB1) (HE.out.below hB1)).mono ?_
      rintro e w2 ⟨rfl, hB2⟩
      have HB2 := Lib.hid (hB1.trans (hB2.mono hB1.size))
      have hs := HB2.out.size
      clear hB1 hB2
      go_wp2_with fail
      go_ret
      exact ⟨retB HV2.out.symm, HB2.out.alloc hs _⟩
theorem twS_new (w : World) (d e : Dv) (T : TypeId) : TwS w.heap.size (w.heap.size + 1) d e w ((w.alloc (.cells (dvC d) T)).alloc (.cells (dvC e) T)) := by
  have h1 := dvB_new (w.alloc (.cells (dvC d) T)) e T
  have e1 : (w.alloc (.cells (dvC d) T)).heap.size = w.heap.size + 1 := by simp
  rw [e1] at h1
  exact ⟨(dvB_new w d T).below (below_new _ _), h1, (below_new w _).alloc (by simp) _⟩
theorem getM (m : List UInt8) : ((strB m).toList == [71, 69, 84]) = !decide (m ≠ mGET) := by
  rw [ByteArray.toList_eq, strB_list]
  by_cases h : m = mGET
  · subst h; rfl
  · have : decide (m ≠ mGET) = true := decide_eq_true h
    rw [this]
    simpa [mGET] using h
set_option maxHeartbeats 8000000 in
set_option maxRecDepth 100000 in
theorem storOf_any (m : List UInt8) (qv : Value) (q : Flds) (s : Int) (rv : Value) (r : Flds) (dd de dl : Option Nat) (w : World) (hq : ReadsQ w qv q) (hfq : FitL q) (hr : ReadsQ w rv r) (hf : FitL r)
    (hd : DatF r nDA dd) (he : DatF r nEX de) (hl : DatF r nLM dl) (hE : EnvL w) :
    Calls Tryz.prog 29 #[.string (strB m), qv, .int .i64 s, rv] w fun e w' => e = .returned (.int .i64 (storV m q r s dd de dl)) ∧ Below w.heap.size w w' := by
  have HPq := Lib.hid (parse11_any qv q w hq (by have := hfq.len; omega) hfq.each hE.1)
  have HPr := Lib.hid (fun (w : World) (hr : ReadsQ w rv r) (hE : EnvL w) => parse11_any rv r w hr (by have := hf.len; omega) hf.each hE.1)
  have HW := Lib.hid (fun (w : World) => isWhole_any s w)
  have HC := Lib.hid (fun (w : World) => cacheable_any s w)
  have HX := Lib.hid (fun (w : World) (hr : ReadsQ w rv r) (hE : EnvL w) => lfExplicit_any rv r dd de w hr hf hd he hE)
  have HS := Lib.hid (fun (w : World) (hr : ReadsQ w rv r) => has_any rv r (strB nSC) w hr hf (by decide))
  have HY := Lib.hid (fun (w : World) (hr : ReadsQ w rv r) => varies_any rv r w hr hf)
  have HA := Lib.hid (fun (w : World) (hq : ReadsQ w qv q) => has_any qv q (strB nAU) w hq hfq (by decide))
  have HP := Lib.hid (fun (w : World) => isForAll_any (parseD (allL r nCC)) w)
  have HU := Lib.hid (fun (w : World) (hr : ReadsQ w rv r) (hE : EnvL w) => isUseful_any s rv r dd de dl w hr hf hd he hl hE)
  have HE := Lib.hid hE
  have HR := Lib.hid hr
  have HQ := Lib.hid hq
  rw [strB_list] at HS HA
  have hm := getM m
  have HV := Lib.hid (show storV m q r s dd de dl = reaV (decide (m ≠ mGET)) (!wholeB s || (!cacB s && !decide ((expV (parseD (allL r nCC)) (hasF r nEX) dd de).2 ≠ 5))) ((parseD (allL q nCC)).ns || (parseD (allL r nCC)).ns) (parseD (allL r nCC)).pr (hasF r nSC) ((allL r nVY).any starV) (hasF q nAU && !permB (parseD (allL r nCC))) (!!whyU r s dd de dl) by
    unfold storV whyS
    simp)
  clear hq hfq hr hf hd he hl hE
  generalize storV m q r s dd de dl = res at *
  generalize decide ((expV (parseD (allL r nCC)) (hasF r nEX) dd de).2 ≠ 5) = bX at *
  generalize decide (m ≠ mGET) = b1 at *
  generalize (!whyU r s dd de dl) = bU at *
  generalize permB (parseD (allL r nCC)) = bP at *
  generalize hasF r nSC = bS at *
  generalize hasF q nAU = bA at *
  generalize (allL r nVY).any starV = bV at *
  generalize parseD (allL r nCC) = D2 at *
  generalize parseD (allL q nCC) = D1 at *
  generalize wholeB s = bW at *
  generalize cacB s = bC at *
  go_enter Tryz.func29, Tryz.ntmps29
  go_wp2_with fail
  refine HPq.out.mono ?_
  rintro e w1 ⟨rfl, hB1⟩
  have HB1 := Lib.hid hB1
  clear hB1
  go_wp2_with fail
  refine (HPr.out _ (HR.out.below HB1.out) (HE.out.below HB1.out)).mono ?_
  rintro e w2 ⟨rfl, hB2⟩
  have HB2 := Lib.hid (HB1.out.trans (hB2.mono HB1.out.size))
  have hs2 := HB2.out.size
  have HT2 := Lib.hid (twS_new w2 D1 D2 81)
  clear hB2 HB1
  go_upto_region 2 with fail
  change Code.wp _ _ _ _ ((w2.alloc (.cells (dvC D1) 81)).alloc (.cells (dvC D2) 81))
  have HB3 := Lib.hid ((HB2.out.alloc hs2 (.cells (dvC D1) 81)).alloc (Nat.le_trans hs2 (by simp)) (.cells (dvC D2) 81))
  have HA3 := Lib.hid HT2.out.a
  have HZ3 := Lib.hid HT2.out.b
  clear HT2 HB2 hs2
  generalize ((w2.alloc (.cells (dvC D1) 81)).alloc (.cells (dvC D2) 81)) = W at *
  generalize w2.heap.size = N at *
  cases b1 with
  | true =>
    go_wp2_with fail
    go_ret
    exact ⟨by rw [HV.out]; rfl, HB3.out⟩
  | false =>
  go_upto_region 4 with fail
  go_cut [18] (fun u wx => u = .bool (!bW || (!bC && !bX)) ∧ Below W.heap.size W wx)
  case first =>
    cases bW with
    | false =>
      go_wp2_with fail
      refine (HW.out _).mono ?_
      rintro e w3 ⟨rfl, rfl⟩
      go_wp2_with fail
      go_meet
      exact ⟨rfl, Below.refl _ _⟩
    | true =>
      cases bC with
      | true =>
        go_wp2_with fail
        refine (HW.out _).mono ?_
        rintro e w3 ⟨rfl, rfl⟩
        go_wp2_with fail
        refine (HC.out _).mono ?_
        rintro e w3 ⟨rfl, rfl⟩
        go_wp2_with fail
        go_meet
        exact ⟨rfl, Below.refl _ _⟩
      | false =>
        go_wp2_with fail
        refine (HW.out _).mono ?_
        rintro e w3 ⟨rfl, rfl⟩
        go_wp2_with fail
        refine (HC.out _).mono ?_
        rintro e w3 ⟨rfl, rfl⟩
        go_wp2_with fail
        refine (HX.out _ (HR.out.below HB3.out) (HE.out.below HB3.out)).mono ?_
        rintro e w3 ⟨rfl, hB4⟩
        go_wp2_with fail
        go_meet
        exact ⟨rfl, hB4⟩
  case rest =>
    obtain ⟨rfl, hBx⟩ := hcut
    have HB4 := Lib.hid (HB3.out.trans (hBx.mono HB3.out.size))
    have HA4 := Lib.hid (HA3.out.below hBx)
    have HZ4 := Lib.hid (HZ3.out.below hBx)
    clear hBx HB3 HA3 HZ3
    generalize (!bW || (!bC && !bX)) = b2 at *
    cases b2 with
    | true =>
      go_wp2_with fail
      go_ret
      exact ⟨by rw [HV.out]; rfl, HB4.out⟩
    | false =>
    have a0 := HA4.out.c0
    have z0 := HZ4.out.c0
    have z2 := HZ4.out.c2
    cases h1 : D1.ns with
    | true =>
      rw [h1] at a0 HV
      clear h1
      go_wp2_with fail
      go_ret
      exact ⟨by rw [HV.out]; rfl, HB4.out⟩
    | false =>
    rw [h1] at a0 HV
    cases h2 : D2.ns with
    | true =>
      rw [h2] at z0 HV
      clear h1 h2
      go_wp2_with fail
      go_ret
      exact ⟨by rw [HV.out]; rfl, HB4.out⟩
    | false =>
    rw [h2] at z0 HV
    cases h3 : D2.pr with
    | true =>
      rw [h3] at z2 HV
      clear h1 h2 h3
      go_wp2_with fail
      go_ret
      exact ⟨by rw [HV.out]; rfl, HB4.out⟩
    | false =>
    rw [h3] at z2 HV
    clear h1 h2 h3
    cases bS with
    | true =>
      go_wp2_with fail
      refine (HS.out _ (HR.out.below HB4.out)).mono ?_
      rintro e w5 ⟨rfl, hB5⟩
      go_wp2_with fail
      go_ret
      exact ⟨by rw [HV.out]; rfl, HB4.out.trans (hB5.mono HB4.out.size)⟩
    | false =>
    go_wp2_with fail
    refine (HS.out _ (HR.out.below HB4.out)).mono ?_
    rintro e w5 ⟨rfl, hB5⟩
    have HB5 := Lib.hid (HB4.out.trans (hB5.mono HB4.out.size))
    have HZ5 := Lib.hid (HZ4.out.below hB5)
    clear hB5 a0 z0 z2 HA4 HZ4 HB4
    cases bV with
    | true =>
      go_wp2_with fail
      refine (HY.out _ (HR.out.below HB5.out)).mono ?_
      rintro e w6 ⟨rfl, hB6⟩
      go_wp2_with fail
      go_ret
      exact ⟨by rw [HV.out]; rfl, HB5.out.trans (hB6.mono HB5.out.size)⟩
    | false =>
    go_wp2_with fail
    refine (HY.out _ (HR.out.below HB5.out)).mono ?_
    rintro e w6 ⟨rfl, hB6⟩
    have HB6 := Lib.hid (HB5.out.trans (hB6.mono HB5.out.size))
    have HZ6 := Lib.hid (HZ5.out.below hB6)
    clear hB6 HZ5 HB5
    go_upto_region 14 with fail
    go_cut [48] (fun u wx => u = .bool (bA && !bP) ∧ Below w6.heap.size w6 wx)
    case first =>
      cases bA with
      | false =>
        go_wp2_with fail
        refine (HA.out _ (HQ.out.below HB6.out)).mono ?_
        rintro e w7 ⟨rfl, hB7⟩
        go_wp2_with fail
        go_meet
        exact ⟨rfl, hB7⟩
      | true =>
        go_wp2_with fail
        refine (HA.out _ (HQ.out.below HB6.out)).mono ?_
        rintro e w7 ⟨rfl, hB7⟩
        obtain ⟨c0, c1, c2, c3, c4, c5, c6, c7, c8, c9, c10, c11, fr, lt⟩ := HZ6.out.below hB7
        have HB7 := Lib.hid hB7
        clear hB7
        go_wp2_with fail
        refine (HP.out _).mono ?_
        rintro e w8 ⟨rfl, hB8⟩
        go_wp2_with fail
        go_meet
        exact ⟨rfl, HB7.out.trans (hB8.mono HB7.out.size)⟩
    case rest =>
      obtain ⟨rfl, hBx⟩ := hcut
      have HB7 := Lib.hid (HB6.out.trans (hBx.mono HB6.out.size))
      clear hBx HB6 HZ6
      generalize (bA && !bP) = b7 at *
      cases b7 with
      | true =>
        go_wp2_with fail
        go_ret
        exact ⟨by rw [HV.out]; rfl, HB7.out⟩
      | false =>
      cases bU with
      | true =>
        go_wp2_with fail
        refine (HU.out _ (HR.out.below HB7.out) (HE.out.below HB7.out)).mono ?_
        rintro e w8 ⟨rfl, hB8⟩
        go_wp2_with fail
        go_ret
        exact ⟨by rw [HV.out]; rfl, HB7.out.trans (hB8.mono HB7.out.size)⟩
      | false =>
        go_wp2_with fail
        refine (HU.out _ (HR.out.below HB7.out) (HE.out.below HB7.out)).mono ?_
        rintro e w8 ⟨rfl, hB8⟩
        go_wp2_with fail
        go_ret
        exact ⟨by rw [HV.out]; rfl, HB7.out.trans (hB8.mono HB7.out.size)⟩
end Go.Proofs.YtoiampkdmjpljaaGreatDoor

/- What the statements' large, Fields, Plain, Program and awake return. -/
namespace Go.Proofs.YtoiampkdmjpljaaGreatDoor
open Go.RowKit

def totV : List (List UInt8) → Nat
  | [] => 0
  | v :: r => v.length + totV r
theorem totV_snoc (l : List (List UInt8)) (v : List UInt8) : totV (l ++ [v]) = totV l + v.length := by
  induction l with
  | nil => simp [totV]
  | cons u r ih => rw [List.cons_append, totV, totV, ih]; omega
theorem totV_more {l : List (List UInt8)} {k : Nat} {v : List UInt8} (h : l[k]? = some v) : totV (l.take (k + 1)) = totV (l.take k) + v.length := by
  rw [List.take_add_one, h]; exact totV_snoc _ _
theorem totV_take (l : List (List UInt8)) : ∀ k, totV (l.take k) ≤ totV l := by
  induction l with
  | nil => intro k; simp [totV]
  | cons u r ih =>
    intro k
    cases k with
    | zero => simp [totV]
    | succ k => rw [List.take_succ_cons, totV, totV]; have := ih k; omega
theorem totV_mem {l : List (List UInt8)} {v : List UInt8} (h : v ∈ l) : v.length ≤ totV l := by
  induction l with
  | nil => cases h
  | cons u r ih =>
    rw [totV]
    rcases List.mem_cons.1 h with e | e
    · subst e; omega
    · have := ih e; omega
def largeV (vs : List (List UInt8)) : Bool := decide (3000 < vs.length + totV vs)
def nXC : List UInt8 := [120, 45, 99, 97, 99, 104, 101, 45, 99, 111, 110, 116, 114, 111, 108]
def fldV (vs : List (List UInt8)) : Flds := (nXC, nNS) :: vs.map fun v => (nCC, v)
theorem fldV_snoc (vs : List (List UInt8)) (v : List UInt8) : fldV (vs ++ [v]) = fldV vs ++ [(nCC, v)] := by simp [fldV]
theorem fldV_len (vs : List (List UInt8)) : (fldV vs).length = vs.length + 1 := by simp [fldV]
theorem fldV_all (vs : List (List UInt8)) : allL (fldV vs) nCC = vs := by
  have h0 : ofN nCC (nXC, nNS) = false := by decide +kernel
  have h1 : ∀ v, ofN nCC (nCC, v) = true := fun v => by unfold ofN; exact decide_eq_true rfl
  unfold allL fldV
  rw [List.filter_cons_of_neg (by rw [h0]; decide)]
  induction vs with
  | nil => rfl
  | cons v r ih => rw [List.map_cons, List.filter_cons_of_pos (h1 v), List.map_cons, ih]
theorem fldV_big {vs : List (List UInt8)} (hv : ∀ v ∈ vs, v.length ≤ 90000) : ∀ p ∈ fldV vs, p.1.length + p.2.length ≤ 100000 := by
  intro p hp
  rcases List.mem_cons.1 hp with e | e
  · subst e; decide
  · obtain ⟨v, hv', rfl⟩ := List.mem_map.1 e
    have := hv v hv'
    show nCC.length + v.length ≤ _
    have : nCC.length = 13 := by decide
    omega
/-- A row that a literal makes is the call's own. -/
theorem own_lit (w : World) (cur : Array Value) (e : TypeId) (size n : Nat) (hm : n ≤ maxLen) (hs : cur.size = n * size) : (w.alloc (.cells cur e)).ownsRow w.heap.size e size (.slice (some ⟨w.heap.size, 0, none⟩) n n) n cur.toList :=
  ⟨by simp [hs], .inr ⟨w.heap.size, n, cur, rfl, Nat.le_refl _, heap_alloc_new w _, Nat.le_refl _, hm, hs, by rw [List.take_of_length_le (by simp [hs])]⟩⟩
theorem own_lit1 (w : World) (l : List UInt8) : OwnsS w.heap.size (w.alloc (.cells #[.string (strB l)] 9)) (.slice (some ⟨w.heap.size, 0, none⟩) 1 1) [l] :=
  own_lit w #[.string (strB l)] _ 1 1 (by decide) rfl
theorem own_litF (w : World) (a b : List UInt8) : OwnsP 58 w.heap.size (w.alloc (.cells #[.string (strB a), .string (strB b)] 58)) (.slice (some ⟨w.heap.size, 0, none⟩) 1 1) [(a, b)] :=
  own_lit w #[.string (strB a), .string (strB b)] _ 2 1 (by decide) rfl
/-- Parse of the statements' fields. -/
theorem parseF_any (v : Value) (vs : List (List UInt8)) {B : Nat} (w : World) (hO : OwnsP 58 B w v (fldV vs)) (hM : MaxIs w) (hl : vs.length ≤ 90000) (hb : ∀ x ∈ vs, x.length ≤ 90000) :
    Calls Tryz.prog 51 #[v] w fun e w' => e = .returned (dvV (parseD vs)) ∧ Below w.heap.size w w' := by
  have h := parse11_any v (fldV vs) w hO.q (by rw [fldV_len]; omega) (fldV_big hb) hM
  rw [fldV_all] at h
  exact h
def awk : List UInt8 := [109, 97, 120, 45, 97, 103, 101, 61, 54, 48, 44, 32, 80, 117, 98, 108, 105, 99]
theorem awk_parse : parseD [awk] = ⟨false, false, false, true, false, false, 60, -1, -1, -1, -1, -1⟩ := by decide +kernel
end Go.Proofs.YtoiampkdmjpljaaGreatDoor
