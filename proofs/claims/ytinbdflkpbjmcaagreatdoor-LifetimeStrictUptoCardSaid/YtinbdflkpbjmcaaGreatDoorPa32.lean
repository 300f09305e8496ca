import Derived.Test.YtinbdflkpbjmcaaGreatDoorPa20
import Derived.Test.YtinbdflkpbjmcaaGreatDoorPa29
import Derived.Test.YtinbdflkpbjmcaaGreatDoorPa1
import Derived.Test.YtinbdflkpbjmcaaGreatDoorPa19
import Derived.BigFrame
import Derived.Deep.RegionLaw
import Derived.Deep.AppendLies
/- LifetimeStrict: the walk. -/
namespace Go.Proofs.YtinbdflkpbjmcaaGreatDoor
open Go.RowKit

theorem all_addC (ps : Flds) (v : List UInt8) : allL (addL ps nCC v) nCC = allL ps nCC ++ [v] := by
  have h : ofN nCC (lowS nCC, v) = true := by unfold ofN; exact decide_eq_true (by show lowS (lowS nCC) = lowS nCC; decide)
  unfold allL addL
  rw [List.filter_append, List.filter_cons_of_pos h]
  simp
def sWords : List (List UInt8) := [nMR, nNC, [115, 45, 109, 97, 120, 97, 103, 101, 61, 53], nPX]
theorem val_mr (d : Dv) : valD d nMR = { d with mr := true } := by
  unfold valD; rw [show listO nMR = some [nMR] by decide +kernel]; simp only [List.foldl_cons, List.foldl_nil]
  unfold elemD; rw [show cutE nMR = none by decide +kernel]; simp only; rw [show lowS nMR = nMR by decide +kernel]
  unfold putD; rw [show kindL nMR = 4 by decide +kernel]; rfl
theorem val_nc (d : Dv) : valD d nNC = { d with nc := true } := by
  unfold valD; rw [show listO nNC = some [nNC] by decide +kernel]; simp only [List.foldl_cons, List.foldl_nil]
  unfold elemD; rw [show cutE nNC = none by decide +kernel]; simp only; rw [show lowS nNC = nNC by decide +kernel]
  unfold putD; rw [show kindL nNC = 1 by decide +kernel]; rfl
theorem val_px (d : Dv) : valD d nPX = { d with mr := true } := by
  unfold valD; rw [show listO nPX = some [nPX] by decide +kernel]; simp only [List.foldl_cons, List.foldl_nil]
  unfold elemD; rw [show cutE nPX = none by decide +kernel]; simp only; rw [show lowS nPX = nPX by decide +kernel]
  unfold putD; rw [show kindL nPX = 4 by decide +kernel]; rfl
def nS5 : List UInt8 := [115, 45, 109, 97, 120, 97, 103, 101, 61, 53]
theorem val_s5 (d : Dv) : valD d nS5 = { d with sa := leastD d.sa 5 } := by
  unfold valD; rw [show listO nS5 = some [nS5] by decide +kernel]; simp only [List.foldl_cons, List.foldl_nil]
  unfold elemD; rw [show cutE nS5 = some (nSA, [53]) by decide +kernel]; simp only; rw [show lowS nSA = nSA by decide +kernel]
  unfold putD; rw [show kindL nSA = 7 by decide +kernel, show argX (some [53]) = 5 by decide +kernel]; rfl
theorem strict_of (ps : Flds) {v : List UInt8} (h : v ∈ sWords) : allowV (parseD (allL (addL ps nCC v) nCC)) = (0, 0) := by
  rw [all_addC, parse_snoc]
  have hn := nor_parse (allL ps nCC)
  generalize parseD (allL ps nCC) = D at *
  unfold allowV
  rw [if_pos]
  unfold sWords at h
  simp only [List.mem_cons, List.not_mem_nil, or_false] at h
  rcases h with rfl | rfl | rfl | rfl
  · rw [val_mr]; simp
  · rw [val_nc]; simp
  · rw [show ([115, 45, 109, 97, 120, 97, 103, 101, 61, 53] : List UInt8) = nS5 from rfl, val_s5]
    have h5 : 0 ≤ leastD D.sa 5 := by unfold leastD; have := hn.sa; split <;> (try split) <;> omega
    simp [h5]
  · rw [val_px]; simp
theorem words_len : ∀ v ∈ sWords, v.length ≤ 20 := by decide
theorem fit_addC {ps : Flds} (h1 : ps.length ≤ 2000) (h2 : ∀ p ∈ ps, p.1.length + p.2.length ≤ 4000) {v : List UInt8} (hv : v.length ≤ 1000) : FitL (addL ps nCC v) := by
  refine ⟨by unfold addL; simp; omega, fun p hp => ?_⟩
  unfold addL at hp
  rcases List.mem_append.1 hp with h | h
  · have := h2 p h; omega
  · rw [List.mem_singleton.1 h]
    have : (lowS nCC).length = 13 := by decide
    show (lowS nCC).length + v.length ≤ _
    omega
abbrev wordsC : Array Value := #[.string ⟨#[109, 117, 115, 116, 45, 114, 101, 118, 97, 108, 105, 100, 97, 116, 101]⟩, .string ⟨#[110, 111, 45, 99, 97, 99, 104, 101]⟩, .string ⟨#[115, 45, 109, 97, 120, 97, 103, 101, 61, 53]⟩, .string ⟨#[112, 114, 111, 120, 121, 45, 114, 101, 118, 97, 108, 105, 100, 97, 116, 101]⟩]
set_option maxHeartbeats 4000000 in
set_option maxRecDepth 100000 in
/-- The walk for one of the four words. -/
theorem strict_at (j : Nat) (b : Nat) (hj : b % 4 = j) (word : List UInt8) (hw : sWords[j]? = some word) (hcell : ∀ w : World, (w.alloc (.cells wordsC 9)).cell? ⟨w.heap.size, j, none⟩ = some (.string (strB word)))
    (fv : Value) (ps : Flds) (w : World) (hE : EnvL w) (hr : ReadsQ w fv ps) (hl : lfLargeB ps = false) (hb2 : 2 * ps.length + totL ps ≤ 3000000) (_ : b < 256) (hj4 : j < 4) :
    Calls Tryz.prog 8 #[fv, .int .u8 b] w fun e w' => e = .returned (.bool true) ∧ Below w.heap.size w w' := by
  have HR := Lib.hid hr
  have HE := Lib.hid hE
  have HLg := Lib.hid (fun (w : World) (hr : ReadsQ w fv ps) => lfLarge_any fv ps w hr (by omega))
  have HAw := Lib.hid (fun (w : World) (hE : EnvL w) => lfAwake_any w hE)
  rw [hl] at HLg
  have hfit := lfFitL hl
  have hlen := (lfFit hl).1
  have hmem : word ∈ sWords := List.mem_of_getElem? hw
  have hwl := words_len word hmem
  have HF := Lib.hid (fun (w : World) (hr : ReadsQ w fv ps) => fields_any fv ps w hr (by omega) hfit.each6)
  have HAd := Lib.hid (fun (v : Value) (w : World) (hr : ReadsQ w v ps) => add_any v ps nCC word w hr (by decide) (by omega) (by omega))
  have HAl := Lib.hid (fun (v : Value) (w : World) (hr : ReadsQ w v (addL ps nCC word)) (hE : EnvL w) => allowance_any v (addL ps nCC word) w hr (fit_addC hlen (lfFit hl).2 (by omega)) hE)
  rw [strict_of ps hmem] at HAl
  have hm3 : ((b : Int).tmod 4) = (j : Int) := by show ((b % 4 : Nat) : Int) = _; omega
  have HC := Lib.hid hcell
  clear hr hE hl hfit hlen hmem hw hcell hj hb2 hwl
  go_enter Tryz.func8, Tryz.ntmps8
  go_wp2_with fail
  refine (HLg.out _ HR.out).mono ?_
  rintro e w1 ⟨rfl, hB1⟩
  have HB1 := Lib.hid hB1
  clear hB1
  go_wp2_with fail
  refine (HAw.out _ (HE.out.below HB1.out)).mono ?_
  rintro e w2 ⟨rfl, hB2⟩
  have HB2 := Lib.hid (HB1.out.trans (hB2.mono HB1.out.size))
  clear hB2
  have hcw : (w2.alloc (.cells #[.string ⟨#[109, 117, 115, 116, 45, 114, 101, 118, 97, 108, 105, 100, 97, 116, 101]⟩, .string ⟨#[110, 111, 45, 99, 97, 99, 104, 101]⟩, .string ⟨#[115, 45, 109, 97, 120, 97, 103, 101, 61, 53]⟩, .string ⟨#[112, 114, 111, 120, 121, 45, 114, 101, 118, 97, 108, 105, 100, 97, 116, 101]⟩] 9)).cell? ⟨w2.heap.size, j, none⟩ = some (.string (strB word)) := HC.out w2
  have HB3 := Lib.hid (show Below w.heap.size w (w2.alloc (.cells #[.string ⟨#[109, 117, 115, 116, 45, 114, 101, 118, 97, 108, 105, 100, 97, 116, 101]⟩, .string ⟨#[110, 111, 45, 99, 97, 99, 104, 101]⟩, .string ⟨#[115, 45, 109, 97, 120, 97, 103, 101, 61, 53]⟩, .string ⟨#[112, 114, 111, 120, 121, 45, 114, 101, 118, 97, 108, 105, 100, 97, 116, 101]⟩] 9)) from HB2.out.alloc HB2.out.size (.cells wordsC 9))
  have hlt : w2.heap.size < (w2.alloc (.cells #[.string ⟨#[109, 117, 115, 116, 45, 114, 101, 118, 97, 108, 105, 100, 97, 116, 101]⟩, .string ⟨#[110, 111, 45, 99, 97, 99, 104, 101]⟩, .string ⟨#[115, 45, 109, 97, 120, 97, 103, 101, 61, 53]⟩, .string ⟨#[112, 114, 111, 120, 121, 45, 114, 101, 118, 97, 108, 105, 100, 97, 116, 101]⟩] 9)).heap.size := by simp
  go_upto_region 4 with fail
  generalize (w2.alloc (.cells #[.string ⟨#[109, 117, 115, 116, 45, 114, 101, 118, 97, 108, 105, 100, 97, 116, 101]⟩, .string ⟨#[110, 111, 45, 99, 97, 99, 104, 101]⟩, .string ⟨#[115, 45, 109, 97, 120, 97, 103, 101, 61, 53]⟩, .string ⟨#[112, 114, 111, 120, 121, 45, 114, 101, 118, 97, 108, 105, 100, 97, 116, 101]⟩] 9)) = W at *
  clear hcw hlt hm3 hj4
  go_wp2_with fail
  refine (HF.out _ (HR.out.below HB3.out)).mono ?_
  rintro e w3 ⟨v, rfl, hO, hB4⟩
  have HB4 := Lib.hid (HB3.out.trans (hB4.mono HB3.out.size))
  have HQ := Lib.hid hO.q
  clear hB4 hO
  go_wp2_with fail
  refine (HAd.out _ _ HQ.out).mono ?_
  rintro e w5 ⟨v2, rfl, hO2, hB5⟩
  have HB5 := Lib.hid (HB4.out.trans (hB5.mono HB4.out.size))
  have HQ2 := Lib.hid hO2.q
  clear hB5 hO2
  go_wp2_with fail
  refine (HAl.out _ _ HQ2.out (HE.out.below HB5.out)).mono ?_
  rintro e w6 ⟨rfl, hB6⟩
  have HB6 := Lib.hid (HB5.out.trans (hB6.mono HB5.out.size))
  clear hB6
  go_wp2_with fail
  go_ret
  exact ⟨rfl, HB6.out⟩
theorem words_at (w : World) : ∀ (j : Nat) (v : List UInt8), sWords[j]? = some v → (w.alloc (.cells wordsC 9)).cell? ⟨w.heap.size, j, none⟩ = some (.string (strB v)) := by
  intro j v h
  rw [World.cell?_alloc_at _ _ _ _ rfl]
  have hk : j < 4 := (List.getElem?_eq_some_iff.mp h).1
  have : j = 0 ∨ j = 1 ∨ j = 2 ∨ j = 3 := by omega
  rcases this with rfl | rfl | rfl | rfl <;> (simp only [sWords, List.getElem?_cons_zero, List.getElem?_cons_succ, Option.some.injEq] at h; subst h; rfl)
set_option maxHeartbeats 4000000 in
set_option maxRecDepth 100000 in
theorem lf_strict_walk (fv : Value) (ps : Flds) (b : Nat) (w : World) (hE : EnvL w) (hr : ReadsQ w fv ps) (hb2 : 2 * ps.length + totL ps ≤ 3000000) (hb : b < 256) :
    Calls Tryz.prog 8 #[fv, .int .u8 b] w fun e w' => e = .returned (.bool true) ∧ Below w.heap.size w w' := by
  cases hl : lfLargeB ps with
  | true =>
    have HR := Lib.hid hr
    have HLg := Lib.hid (fun (w : World) (hr : ReadsQ w fv ps) => lfLarge_any fv ps w hr (by omega))
    rw [hl] at HLg
    clear hl hr hE hb2
    go_enter Tryz.func8, Tryz.ntmps8
    go_wp2_with fail
    refine (HLg.out _ HR.out).mono ?_
    rintro e w1 ⟨rfl, hB1⟩
    go_wp2_with fail
    refine (HLg.out _ (HR.out.below hB1)).mono ?_
    rintro e w2 ⟨rfl, hB2⟩
    go_wp2_with fail
    go_ret
    exact ⟨rfl, hB1.trans (hB2.mono hB1.size)⟩
  | false =>
    obtain ⟨word, hw⟩ : ∃ word, sWords[b % 4]? = some word := ⟨sWords[b % 4]'(by show b % 4 < 4; omega), by simp⟩
    exact strict_at (b % 4) b rfl word hw (fun w => words_at w _ _ hw) fv ps w hE hr hl hb2 hb (by omega)
end Go.Proofs.YtinbdflkpbjmcaaGreatDoor


/- Appends of strings that are read to a slice of strings that the call made. -/
namespace Go.Proofs.YtinbdflkpbjmcaaGreatDoor
open Go.RowKit

theorem saneS {B : Nat} {w : World} {v : Value} {ls : List (List UInt8)} (h : OwnsS B w v ls) : Sane v := by
  rcases h with ⟨hl, ⟨hv, hn⟩ | ⟨g, cap, cur, hv, hb, hg, hn, _⟩⟩
  · intro a n c e; rw [hv] at e; cases e; exact ⟨Nat.le_refl _, fun _ => rfl⟩
  · intro a n c e; rw [hv] at e; cases e; exact ⟨hn, fun h => by cases h⟩
theorem own_appS {B : Nat} {w : World} {v : Value} {ls ms : List (List UInt8)} (h : w.ownsRow B 9 1 v (ls.length + ms.length) (ls.map strV ++ ms.map strV)) : OwnsS B w v (ls ++ ms) := by
  unfold OwnsS; rw [List.length_append, List.map_append]; exact h
/-- An append of strings that are read to a slice that the call made, whatever the guard. -/
theorem wpList_appendS {B : Nat} {w : World} {ops : Array Oper} {rest : List Oper} {o : Oper} {a : Act} {Q : Exit → Act → World → Prop} (hw : Region.wanted o (yielded ops a.tmps) = true) (s x : Operand)
    (ho : o.op = .call { callee := .builtin .append, args := #[s, x], argTypes := #[50, 50] }) (v v2 : Value) (hs : a.eval s = v) (hx : a.eval x = v2) {ls ms : List (List UInt8)} (hown : OwnsS B w v ls) (hr : ReadsS w v2 ms) (hp : Sane v2)
    (hn : ls.length + ms.length ≤ 100000) (hB : B ≤ w.heap.size) (h : ∀ v' w', OwnsS B w' v' (ls ++ ms) → w.grownBy w' v.ownBlock → wpList Tryz.prog ops Q rest (a.put o.dst v') w') :
    wpList Tryz.prog ops Q (o :: rest) a w := by
  obtain ⟨i0, hi, hz0, hz1, hz2⟩ := info_parts Tryz.infoS
  refine BigFrame.wpList_want hw fun K hK => ?_
  obtain ⟨ao, cap, rfl, hc⟩ := hr
  cases ao with
  | none =>
    have hm : ms = [] := by
      cases ms with
      | nil => rfl
      | cons m r => obtain ⟨g, off, ha, _⟩ := hc 0 m rfl; cases ha
    subst hm
    obtain rfl := (hp _ _ _ rfl).2 rfl
    have hrun := run_append_owned_none (P := Tryz.prog) (w := w) B 50 o.type 9 i0 1 Tryz.underlying50 hi v ls.length (ls.map strV) hown
    unfold Oper.wp
    simp [execOp, ho, resolve, invoke, builtin, hs, hx, hrun, Result.andThen]
    exact hK _ _ (h v w (by rw [List.append_nil]; exact hown) ⟨rfl, rfl, rfl, Nat.le_refl _, fun _ _ _ => rfl⟩)
  | some ad =>
    refine wp_append_own w s x 50 ho B 9 i0 _ 1 16 Tryz.underlying50 hi hz0 hz1 hz2 rfl (by decide) v ls.length (ls.map strV) hs hown ad ms.length cap (ms.map strV) hx (by simp) (fun j u hj => ?_) (fun u hu => ?_) (by unfold maxLen; omega) (by omega) hB
      fun v' w' h1 h2 _ => hK _ _ (h v' w' (own_appS h1) h2)
    · rw [List.getElem?_map] at hj
      cases hm : ms[j]? with
      | none => rw [hm] at hj; cases hj
      | some m =>
        rw [hm] at hj
        simp only [Option.map_some, Option.some.injEq] at hj
        obtain ⟨g, off, ha, _, h1⟩ := hc j m hm
        obtain rfl : ad = ⟨g, off, none⟩ := Option.some.inj ha
        rw [Addr.add_lit, ← hj]; exact h1
    · obtain ⟨m, _, rfl⟩ := List.mem_map.mp hu; rfl
/-- What was there is as it was, behind an append that makes no new variable. -/
theorem below_appendS {B : Nat} {a w w2 : World} {v : Value} {ls : List (List UInt8)} (hB : Below B a w) (hBs : B ≤ w.heap.size) (hown : OwnsS B w v ls) (hgrow : w.grownBy w2 v.ownBlock) : Below B a w2 :=
  hB.grown hgrow hBs (fun q hq => (World.ownsRow.lt hown q hq).1)
/-- The end of a slice of strings. -/
theorem OwnsS.isSlice {B : Nat} {w : World} {v : Value} {ls : List (List UInt8)} (h : OwnsS B w v ls) : ∃ a c, v = .slice a ls.length c := by
  obtain ⟨ao, cap, rfl, _⟩ := h.reads; exact ⟨ao, cap, rfl⟩
end Go.Proofs.YtinbdflkpbjmcaaGreatDoor
