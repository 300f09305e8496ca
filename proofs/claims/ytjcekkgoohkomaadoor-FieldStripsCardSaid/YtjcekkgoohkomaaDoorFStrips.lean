/- FieldStrips: for every list of fields the statement's function returns true: the walk. -/
import Derived.Test.YtjcekkgoohkomaaDoorRefStrip
import Derived.Test.YtjcekkgoohkomaaDoorFGet
namespace Go.Proofs.YtjcekkgoohkomaaDoor.strips
open Go.RowKit

theorem get_k (v : Value) (ps : Flds) (hl : ps.length ≤ 1000) (hb : ∀ p ∈ ps, p.1.length + p.2.length ≤ 1000000) (h : allL ps connN = []) (w : World) (hr : ReadsQ w v ps) :
    Calls Tryd.prog 42 #[v, .string ⟨#[99, 111, 110, 110, 101, 99, 116, 105, 111, 110]⟩] w fun e w' => e = .returned (.tuple #[.string (strB []), .bool false]) ∧ Below w.heap.size w w' := by
  have G := get_any v ps (strB connN) w hr (by decide) (by omega) hb
  rw [strB_list, h] at G
  exact G

set_option maxHeartbeats 4000000 in
set_option maxRecDepth 100000 in
theorem walk (lv : Value) (ps : Flds) (w : World) (hr : ReadsQ w lv ps) (hl : ps.length ≤ 9223372036854775807) (hb : ∀ p ∈ ps, p.1.length ≤ 140737488355328 ∧ p.2.length ≤ 140737488355328) (hsn : Sane lv) :
    Calls Tryd.prog 12 #[lv] w fun e w' => e = .returned (.bool true) ∧ Below w.heap.size w w' := by
  have S := fun w hr => small_any lv ps w hr hl hb
  have HR := Lib.hid hr
  clear hb
  cases hs : smallB ps with
  | false =>
    rw [hs] at S
    obtain ⟨ao, cap, rfl, hc⟩ := hr
    clear hc
    go_enter Tryd.func12, Tryd.ntmps12
    go_wp2_with fail
    refine (awake_any _).mono ?_
    rintro e w1 ⟨rfl, hB⟩
    go_wp2_with fail
    refine (S _ (HR.out.below hB)).mono ?_
    rintro e w2 ⟨rfl, hB2⟩
    go_wp2_with fail
    refine (awake_any _).mono ?_
    rintro e w3 ⟨rfl, hB3⟩
    go_wp2_with fail
    go_ret
    exact ⟨rfl, hB.trans ((hB2.trans (hB3.mono hB2.size)).mono hB.size)⟩
  | true =>
    rw [hs] at S
    obtain ⟨h70, h6⟩ := small_yes hs
    have hb6 : ∀ p ∈ ps, p.1.length + p.2.length ≤ 1000000 := fun p hp => by have := h6 p hp; omega
    have hsl := strip_len ps
    have hs6 : ∀ p ∈ stripL ps, p.1.length + p.2.length ≤ 6000 := fun p hp => h6 p (strip_mem hp)
    have hsb : ∀ p ∈ stripL ps, p.1.length + p.2.length ≤ 1000000 := fun p hp => hb6 p (strip_mem hp)
    have F := fun w hr => fields_any lv ps w hr (by omega) hb6
    have C1 := fun v w hr => strip_any v ps w hr (Nat.le_trans h70 (by decide)) h6
    have C2 := fun v w hr => strip_any v (stripL ps) w hr (by omega) hs6
    rw [strip_again] at C2
    have G := fun v w hr => get_k v (stripL ps) (by omega) hsb (strip_conn ps) w hr
    have R := fun w hr => refStrip_any lv ps w hr hsn (Nat.le_trans h70 (by decide)) h6
    have R2 := fun v w hr => ref_any v (stripL ps) w hr (by omega)
    have A := fun v v2 w h1 h2 => are_same v v2 (stripL ps) w h1 h2 (by omega)
    generalize stripL ps = l1 at C1 C2 G R R2 A
    have HS := Lib.hid S
    have HF := Lib.hid F
    have HC1 := Lib.hid C1
    have HC2 := Lib.hid C2
    have HG := Lib.hid G
    have HRs := Lib.hid R
    have HR2 := Lib.hid R2
    have HA := Lib.hid A
    clear hs h6 hb6 hs6 hsb S F C1 C2 G R R2 A hsn hsl
    obtain ⟨ao, cap, rfl, hc⟩ := hr
    clear hc
    go_enter Tryd.func12, Tryd.ntmps12
    go_wp2_with fail
    refine (awake_any _).mono ?_
    rintro e w1 ⟨rfl, hB⟩
    go_wp2_with fail
    refine (HS.out _ (HR.out.below hB)).mono ?_
    rintro e w2 ⟨rfl, hB2⟩
    have hB' := hB.trans (hB2.mono hB.size)
    clear hB hB2 HS
    go_wp2_with fail
    refine (HF.out _ (HR.out.below hB')).mono ?_
    rintro e w3 ⟨vf, rfl, hO, hB3⟩
    have hB3' := hB'.trans (hB3.mono hB'.size)
    go_wp2_with fail
    refine (HC1.out vf _ hO.q).mono ?_
    rintro e w4 ⟨v1, rfl, hO1, hB4⟩
    have hB4' := hB3'.trans (hB4.mono hB3'.size)
    have hq := hO1.q
    have HQ := Lib.hid hq
    clear hO hO1 hq hB' hB3 hB3' hB4 HF HC1
    go_wp2_with fail
    refine (HG.out v1 _ HQ.out).mono ?_
    rintro e w5 ⟨rfl, hB5⟩
    have hB5' := hB4'.trans (hB5.mono hB4'.size)
    have hq5 := HQ.out.below hB5
    have HQ := Lib.hid hq5
    clear hq5 hB5 hB4' HG
    go_wp2_with fail
    refine (HRs.out _ (HR.out.below hB5')).mono ?_
    rintro e w6 ⟨v2, rfl, hO2, hB6⟩
    have hB6' := hB5'.trans (hB6.mono hB5'.size)
    have hq6 := HQ.out.below hB6
    have HQ := Lib.hid hq6
    clear hq6 hB6 hB5' HRs
    go_wp2_with fail
    refine (HA.out v1 v2 _ HQ.out hO2.q).mono ?_
    rintro e w7 ⟨rfl, hB7⟩
    have hB7' := hB6'.trans (hB7.mono hB6'.size)
    have hq7 := HQ.out.below hB7
    have HQ := Lib.hid hq7
    clear hq7 hB7 hB6' hO2
    go_wp2_with fail
    refine (HC2.out v1 _ HQ.out).mono ?_
    rintro e w8 ⟨v3, rfl, hO3, hB8⟩
    have hB8' := hB7'.trans (hB8.mono hB7'.size)
    have hq8 := HQ.out.below hB8
    have HQ := Lib.hid hq8
    clear hq8 hB8 hB7' HC2
    go_wp2_with fail
    refine (HR2.out v1 _ HQ.out).mono ?_
    rintro e w9 ⟨v4, rfl, hO4, hB9⟩
    have hB9' := hB8'.trans (hB9.mono hB8'.size)
    have hO3' := OwnsP.below hO3 hB9
    clear hO3 hB9 hB8' HR2
    go_wp2_with fail
    refine (HA.out v3 v4 _ hO3'.q hO4.q).mono ?_
    rintro e w10 ⟨rfl, hB10⟩
    go_wp2_with fail
    go_ret
    exact ⟨rfl, hB9'.trans (hB10.mono hB9'.size)⟩
end Go.Proofs.YtjcekkgoohkomaaDoor.strips
