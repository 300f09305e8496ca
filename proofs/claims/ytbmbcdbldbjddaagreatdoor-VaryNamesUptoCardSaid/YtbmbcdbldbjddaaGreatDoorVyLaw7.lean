/- VaryNames: the walk. -/
import Derived.Test.YtbmbcdbldbjddaaGreatDoorVyFew
import Derived.Test.YtbmbcdbldbjddaaGreatDoorVyRefN
import Derived.Test.YtbmbcdbldbjddaaGreatDoorTexts
namespace Go.Proofs.YtbmbcdbldbjddaaGreatDoor
open Go.RowKit

theorem fieldsN_any (fa : Option Addr) (fc : Nat) (ps : Flds) (w : World) (hr : ReadsQ w (.slice fa ps.length fc) ps) (h : 2 * ps.length + totL ps ≤ 3000) :
    Calls Tryz.prog 7 #[.slice fa ps.length fc] w fun e w' => ∃ a c, e = .returned (.slice a ps.length c) ∧ ReadsQ w' (.slice a ps.length c) ps ∧ Below w.heap.size w w' := by
  refine (fields_any _ ps w hr (by omega) (fun p hp => by have := tot_mem hp; omega)).mono ?_
  rintro e w' ⟨v, rfl, hO, hB⟩
  obtain ⟨a, c, hv, _⟩ := id hO.q
  subst hv
  exact ⟨a, c, rfl, hO.q, hB⟩
/-- What large says of one list, in a slice that the call makes. -/
theorem largeN_any (v : Value) (ps : Flds) (w : World) (hr : ReadsQ w v ps) (hb : 2 * ps.length + totL ps ≤ 90000000) :
    Calls Tryz.prog 4 #[.slice (some ⟨w.heap.size, 0, none⟩) 1 1] (w.alloc (.cells #[v] 22)) fun e w' => e = .returned (.bool (lgV [(v, ps)])) ∧ Below w.heap.size w w' := by
  refine (large16_any _ [(v, ps)] _ (readsW_one 22 hr) (by simp) (by show 0 + (2 * ps.length + totL ps) ≤ _; omega)).mono ?_
  rintro e w' ⟨rfl, hB⟩
  exact ⟨rfl, (below_new w _).trans (hB.mono (by simp))⟩
set_option maxHeartbeats 8000000 in
set_option maxRecDepth 100000 in
theorem vy_names_walk (fa : Option Addr) (fc : Nat) (ps : Flds) (w : World) (hr : ReadsQ w (.slice fa ps.length fc) ps) (bf : 2 * ps.length + totL ps ≤ 90000000) :
    Calls Tryz.prog 3 #[.slice fa ps.length fc] w fun e w' => e = .returned (.bool true) ∧ Below w.heap.size w w' := by
  have HG := Lib.hid (fun (W : World) (hB : Below w.heap.size w W) => largeN_any _ ps W (hr.below hB) bf)
  have HA := Lib.hid (fun (W : World) => awake16_any W)
  have HR := Lib.hid hr
  clear hr bf
  cases h2 : lgV [(Value.slice fa ps.length fc, ps)] with
  | true =>
    rw [h2] at HG
    clear h2
    go_enter Tryz.func3, Tryz.ntmps3
    go_wp2_with fail
    refine (HG.out _ (Below.refl _ _)).mono ?_
    rintro e w2 ⟨rfl, hB2⟩
    go_wp2_with fail
    refine (HG.out _ hB2).mono ?_
    rintro e w4 ⟨rfl, hB4⟩
    go_wp2_with fail
    go_ret
    exact ⟨rfl, hB2.trans (hB4.mono hB2.size)⟩
  | false =>
    rw [h2] at HG
    have hb3 := lg_fit1 h2
    have hfk := fitK_of hb3
    have HF := Lib.hid (fun (W : World) (hB : Below w.heap.size w W) => fieldsN_any fa fc ps W (HR.out.below hB) hb3)
    have HK := Lib.hid (fun (W : World) (v : Value) (hq : ReadsQ W v ps) => vnames_any v ps W hq hfk)
    have HK2 := Lib.hid (fun (W : World) (hB : Below w.heap.size w W) => refNames_any _ ps W (HR.out.below hB) hfk)
    have hsu := sum_all ps nVy
    have hl1 := hfk.len
    have hl2 := hfk.tot
    have HNl := Lib.hid (show (namL (allL ps nVy)).length ≤ 40000 by have := nam_le (allL ps nVy); omega)
    unfold VnPost at HK
    unfold RnPost at HK2
    rw [show srtC (namL (allL ps nVy)) = insL (namL (allL ps nVy)) from names_same _] at HK
    have HIl := Lib.hid (show (insL (namL (allL ps nVy))).length ≤ 40000 from Nat.le_trans (insL_len _) HNl.out)
    generalize insL (namL (allL ps nVy)) = ns at *
    generalize (allL ps nVy).any badV = bad at *
    clear h2 hb3 hfk hsu hl1 hl2
    cases bad with
    | true =>
      simp only [if_true] at HK HK2
      have HT := Lib.hid (fun (W : World) => texts_any (.slice none 0 0) (.slice none 0 0) [] [] W ⟨none, 0, rfl, fun j l h => by simp at h⟩ ⟨none, 0, rfl, fun j l h => by simp at h⟩ (Nat.zero_le _) (Nat.zero_le _))
      go_enter Tryz.func3, Tryz.ntmps3
      go_wp2_with fail
      refine (HG.out _ (Below.refl _ _)).mono ?_
      rintro e w2 ⟨rfl, hB2⟩
      go_wp2_with fail
      refine (HA.out _).mono ?_
      rintro e w3 ⟨rfl, hB3⟩
      have HB3 := Lib.hid (hB2.trans (hB3.mono hB2.size))
      clear hB2 hB3
      go_wp2_with fail
      refine (HF.out _ HB3.out).mono ?_
      rintro e w4 ⟨a4, c4, rfl, hR4, hB4⟩
      have HB4 := Lib.hid (HB3.out.trans (hB4.mono HB3.out.size))
      have HR4 := Lib.hid hR4
      clear hB4 hR4
      go_wp2_with fail
      refine (HK.out _ _ HR4.out).mono ?_
      rintro e w5 ⟨hB5, rfl⟩
      have HB5 := Lib.hid (HB4.out.trans (hB5.mono HB4.out.size))
      clear hB5
      go_wp2_with fail
      refine (HK2.out _ HB5.out).mono ?_
      rintro e w6 ⟨hB6, rfl⟩
      have HB6 := Lib.hid (HB5.out.trans (hB6.mono HB5.out.size))
      clear hB6
      go_wp2_with fail
      refine (HT.out _).mono ?_
      rintro e w7 ⟨rfl, n, rfl⟩
      go_wp2_with fail
      go_ret
      exact ⟨by first | rfl | simp, below_drewN HB6.out n⟩
    | false =>
      simp only [Bool.false_eq_true, if_false] at HK HK2
      go_enter Tryz.func3, Tryz.ntmps3
      go_wp2_with fail
      refine (HG.out _ (Below.refl _ _)).mono ?_
      rintro e w2 ⟨rfl, hB2⟩
      go_wp2_with fail
      refine (HA.out _).mono ?_
      rintro e w3 ⟨rfl, hB3⟩
      have HB3 := Lib.hid (hB2.trans (hB3.mono hB2.size))
      clear hB2 hB3
      go_wp2_with fail
      refine (HF.out _ HB3.out).mono ?_
      rintro e w4 ⟨a4, c4, rfl, hR4, hB4⟩
      have HB4 := Lib.hid (HB3.out.trans (hB4.mono HB3.out.size))
      have HR4 := Lib.hid hR4
      clear hB4 hR4
      go_wp2_with fail
      refine (HK.out _ _ HR4.out).mono ?_
      rintro e w5 ⟨hB5, v5, rfl, hR5⟩
      have HB5 := Lib.hid (HB4.out.trans (hB5.mono HB4.out.size))
      have HR5 := Lib.hid hR5
      clear hB5 hR5
      go_wp2_with fail
      refine (HK2.out _ HB5.out).mono ?_
      rintro e w6 ⟨hB6, v6, rfl, hR6⟩
      have HB6 := Lib.hid (HB5.out.trans (hB6.mono HB5.out.size))
      have HT := Lib.hid (texts_any v5 v6 ns ns w6 (HR5.out.below hB6) hR6 (by have := HIl.out; omega) (by have := HIl.out; omega))
      clear hB6 hR6
      go_wp2_with fail
      refine (HT.out).mono ?_
      rintro e w7 ⟨rfl, n, rfl⟩
      go_wp2_with fail
      go_ret
      exact ⟨by first | rfl | simp, below_drewN HB6.out n⟩
end Go.Proofs.YtbmbcdbldbjddaaGreatDoor
