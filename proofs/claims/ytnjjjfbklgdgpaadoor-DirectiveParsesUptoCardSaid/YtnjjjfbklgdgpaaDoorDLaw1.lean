/- DirectiveParses: for every list of values (of bulk up to a bound) the statement's function returns true: the walk. -/
import Derived.Test.YtnjjjfbklgdgpaaDoorDFew
import Derived.Test.YtnjjjfbklgdgpaaDoorDRefParse
namespace Go.Proofs.YtnjjjfbklgdgpaaDoor
open Go.RowKit

theorem few_of {vs : List (List UInt8)} (h : largeV vs = false) : vs.length ≤ 3000 ∧ totV vs ≤ 3000 ∧ ∀ v ∈ vs, v.length ≤ 3000 := by
  have h1 := of_decide_eq_false h
  refine ⟨by omega, by omega, fun v hv => ?_⟩
  have := totV_mem hv
  omega
theorem parse_nil : parseD [] = noneD := rfl
theorem parseNil_any (w : World) (hM : MaxIs w) : Calls Tryd.prog 14 #[.slice none 0 0] w fun e w' => e = .returned (dvV noneD) ∧ Below w.heap.size w w' :=
  parse_any (.slice none 0 0) [] w ⟨none, 0, rfl, fun j p h => by simp at h⟩ (by decide) (by simp) hM
set_option maxHeartbeats 8000000 in
set_option maxRecDepth 100000 in
theorem parses_walk (vv : Value) (vs : List (List UInt8)) (w : World) (hM : MaxIs w) (hr : ReadsS w vv vs) (_hs : Sane vv) (hb : vs.length + totV vs ≤ 1048576) :
    Calls Tryd.prog 3 #[vv] w fun e w' => e = .returned (.bool true) ∧ Below w.heap.size w w' := by
  have HR := Lib.hid hr
  have HM := Lib.hid hM
  have HLg := Lib.hid (fun (w : World) (hr : ReadsS w vv vs) => large_any vv vs w hr hb)
  clear hr hM hb
  cases hl : largeV vs with
  | true =>
    rw [hl] at HLg
    go_enter Tryd.func3, Tryd.ntmps3
    go_wp2_with fail
    refine (HLg.out _ HR.out).mono ?_
    rintro e w' ⟨rfl, rfl⟩
    go_wp2_with fail
    refine (HLg.out _ HR.out).mono ?_
    rintro e w' ⟨rfl, rfl⟩
    go_wp2_with fail
    go_ret
    exact ⟨rfl, Below.refl _ _⟩
  | false =>
    rw [hl] at HLg
    obtain ⟨h1, h2, h3⟩ := few_of hl
    have H3 := Lib.hid h3
    clear hl h3
    go_enter Tryd.func3, Tryd.ntmps3
    go_wp2_with fail
    refine (HLg.out _ HR.out).mono ?_
    rintro e w' ⟨rfl, rfl⟩
    go_wp2_with fail
    refine (awake11_any _ HM.out).mono ?_
    rintro e w1 ⟨rfl, hB1⟩
    have HB1 := Lib.hid hB1
    clear hB1
    go_wp2_with fail
    refine (fields11_any _ vs _ (HR.out.below HB1.out) (by omega)).mono ?_
    rintro e w2 ⟨v, rfl, hO2, hB2⟩
    have HB2 := Lib.hid (HB1.out.trans (hB2.mono HB1.out.size))
    have HO2 := Lib.hid hO2
    clear hO2 hB2
    go_wp2_with fail
    refine (parseF_any _ vs _ HO2.out (HM.out.below HB2.out) (by omega) (fun x hx => by have := H3.out x hx; omega)).mono ?_
    rintro e w3 ⟨rfl, hB3⟩
    have HB3 := Lib.hid (HB2.out.trans (hB3.mono HB2.out.size))
    clear hB3
    go_wp2_with fail
    refine (plain_any _ _).mono ?_
    rintro e w4 ⟨rfl, hB4⟩
    have HB4 := Lib.hid (HB3.out.trans (hB4.mono HB3.out.size))
    clear hB4
    go_wp2_with fail
    refine (refParse11_any _ vs _ (HR.out.below HB4.out) (by omega) (fun x hx => by have := H3.out x hx; omega)).mono ?_
    rintro e w5 ⟨rfl, hB5⟩
    have HB5 := Lib.hid (HB4.out.trans (hB5.mono HB4.out.size))
    clear hB5
    generalize parseD vs = D
    go_wp2_with fail
    refine (parseNil_any _ (HM.out.below HB5.out)).mono ?_
    rintro e w6 ⟨rfl, hB6⟩
    have HB6 := Lib.hid (HB5.out.trans (hB6.mono HB5.out.size))
    clear hB6
    go_wp2_with fail
    refine (plain_any _ _).mono ?_
    rintro e w7 ⟨rfl, hB7⟩
    have HB7 := Lib.hid (HB6.out.trans (hB7.mono HB6.out.size))
    clear hB7
    go_wp2_with fail
    refine (refNone_any _).mono ?_
    rintro e w8 ⟨rfl, hB8⟩
    have HB8 := Lib.hid (HB7.out.trans (hB8.mono HB7.out.size))
    clear hB8
    go_wp2_with fail
    refine (none_any _).mono ?_
    rintro e w9 ⟨rfl, hB9⟩
    have HB9 := Lib.hid (HB8.out.trans (hB9.mono HB8.out.size))
    clear hB9
    go_wp2_with fail
    refine (plain_any _ _).mono ?_
    rintro e w10 ⟨rfl, hB10⟩
    have HB10 := Lib.hid (HB9.out.trans (hB10.mono HB9.out.size))
    clear hB10
    go_wp2_with fail
    refine (refNone_any _).mono ?_
    rintro e w11 ⟨rfl, hB11⟩
    have HB11 := Lib.hid (HB10.out.trans (hB11.mono HB10.out.size))
    clear hB11
    go_wp2_with fail
    go_ret
    exact ⟨rfl, HB11.out⟩
end Go.Proofs.YtnjjjfbklgdgpaaDoor
