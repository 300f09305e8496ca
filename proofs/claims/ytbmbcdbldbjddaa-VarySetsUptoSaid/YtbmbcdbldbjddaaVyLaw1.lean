/- VaryKeys: the walk. -/
import Derived.Test.YtbmbcdbldbjddaaVyFew
import Derived.Test.YtbmbcdbldbjddaaVyRefK
namespace Go.Proofs.Ytbmbcdbldbjddaa
open Go.RowKit

theorem fieldsK_any (fa : Option Addr) (fc : Nat) (ps : Flds) (w : World) (hr : ReadsQ w (.slice fa ps.length fc) ps) (h : 2 * ps.length + totL ps ≤ 3000) :
    Calls Try.prog 13 #[.slice fa ps.length fc] w fun e w' => ∃ a c, e = .returned (.slice a ps.length c) ∧ ReadsQ w' (.slice a ps.length c) ps ∧ (∀ k, (Value.slice a ps.length c).ownBlock = some k → w.heap.size ≤ k ∧ k < w'.heap.size) ∧ Below w.heap.size w w' := by
  refine (fields_any _ ps w hr (by omega) (fun p hp => by have := tot_mem hp; omega)).mono ?_
  rintro e w' ⟨v, rfl, hO, hB⟩
  obtain ⟨a, c, hv, _⟩ := id hO.q
  have hb := fun k hk => World.ownsRow.lt hO k hk
  subst hv
  exact ⟨a, c, rfl, hO.q, hb, hB⟩
/-- What large says of one list, in a slice that the call makes. -/
theorem largeOne_any (v : Value) (ps : Flds) (w : World) (hr : ReadsQ w v ps) (hb : 2 * ps.length + totL ps ≤ 90000000) :
    Calls Try.prog 10 #[.slice (some ⟨w.heap.size, 0, none⟩) 1 1] (w.alloc (.cells #[v] 23)) fun e w' => e = .returned (.bool (lgV [(v, ps)])) ∧ Below w.heap.size w w' := by
  refine (large16_any _ [(v, ps)] _ (readsW_one 23 hr) (by simp) (by show 0 + (2 * ps.length + totL ps) ≤ _; omega)).mono ?_
  rintro e w' ⟨rfl, hB⟩
  exact ⟨rfl, (below_new w _).trans (hB.mono (by simp))⟩
set_option maxHeartbeats 8000000 in
set_option maxRecDepth 100000 in
theorem vy_keys_walk (na : Option Addr) (nc : Nat) (ns : List (List UInt8)) (fa : Option Addr) (fc : Nat) (ps : Flds) (w : World) (hn : ReadsS w (.slice na ns.length nc) ns) (hr : ReadsQ w (.slice fa ps.length fc) ps) (bn : ns.length + sumL ns ≤ 90000000) (bf : 2 * ps.length + totL ps ≤ 90000000) :
    Calls Try.prog 3 #[.slice na ns.length nc, .slice fa ps.length fc] w fun e w' => e = .returned (.bool true) ∧ Below w.heap.size w w' := by
  have HL := Lib.hid (fun (W : World) (hB : Below w.heap.size w W) => long16_any _ ns W (hn.below hB) bn)
  have HG := Lib.hid (fun (W : World) (hB : Below w.heap.size w W) => largeOne_any _ ps W (hr.below hB) bf)
  have HA := Lib.hid (fun (W : World) => awake16_any W)
  have HN := Lib.hid hn
  have HR := Lib.hid hr
  clear hn hr bn bf
  cases h1 : lonB ns with
  | true =>
    rw [h1] at HL
    clear h1
    go_enter Try.func3, Try.ntmps3
    go_wp2_with fail
    refine (HL.out _ (Below.refl _ _)).mono ?_
    rintro e w1 ⟨rfl, rfl⟩
    go_wp2_with fail
    refine (HL.out _ (Below.refl _ _)).mono ?_
    rintro e w2 ⟨rfl, rfl⟩
    go_wp2_with fail
    go_ret
    exact ⟨rfl, Below.refl _ _⟩
  | false =>
    rw [h1] at HL
    have hfn := lon_fit h1
    clear h1
    cases h2 : lgV [(Value.slice fa ps.length fc, ps)] with
    | true =>
      rw [h2] at HG
      clear h2
      go_enter Try.func3, Try.ntmps3
      go_wp2_with fail
      refine (HL.out _ (Below.refl _ _)).mono ?_
      rintro e w1 ⟨rfl, rfl⟩
      go_wp2_with fail
      refine (HG.out _ (Below.refl _ _)).mono ?_
      rintro e w2 ⟨rfl, hB2⟩
      go_wp2_with fail
      refine (HL.out _ hB2).mono ?_
      rintro e w3 ⟨rfl, rfl⟩
      go_wp2_with fail
      refine (HG.out _ hB2).mono ?_
      rintro e w4 ⟨rfl, hB4⟩
      go_wp2_with fail
      go_ret
      exact ⟨rfl, hB2.trans (hB4.mono hB2.size)⟩
    | false =>
      rw [h2] at HG
      have hb3 := lg_fit1 h2
      have hfk := fitK_of hb3
      have HF := Lib.hid (fun (W : World) (hB : Below w.heap.size w W) => fieldsK_any fa fc ps W (HR.out.below hB) hb3)
      have HK := Lib.hid (fun (W : World) (v : Value) (hB : Below w.heap.size w W) (hq : ReadsQ W v ps) => key_any _ ns v ps W (HN.out.below hB) hq hfn hfk)
      have HK2 := Lib.hid (fun (W : World) (hB : Below w.heap.size w W) => refKey_any _ ns _ ps W (HN.out.below hB) (HR.out.below hB) hfn hfk)
      have hkq := toList_same (a := keyL ns ps) rfl
      obtain ⟨key, hkey⟩ : ∃ key, keyL ns ps = key := ⟨_, rfl⟩
      rw [hkey] at HK HK2 hkq
      clear h2 hkey hb3
      go_enter Try.func3, Try.ntmps3
      go_wp2_with fail
      refine (HL.out _ (Below.refl _ _)).mono ?_
      rintro e w1 ⟨rfl, rfl⟩
      go_wp2_with fail
      refine (HG.out _ (Below.refl _ _)).mono ?_
      rintro e w2 ⟨rfl, hB2⟩
      go_wp2_with fail
      refine (HA.out _).mono ?_
      rintro e w3 ⟨rfl, hB3⟩
      have HB3 := Lib.hid (hB2.trans (hB3.mono hB2.size))
      clear hB2 hB3
      go_wp2_with fail
      refine (HF.out _ HB3.out).mono ?_
      rintro e w4 ⟨a4, c4, rfl, hR4, _, hB4⟩
      have HB4 := Lib.hid (HB3.out.trans (hB4.mono HB3.out.size))
      have HR4 := Lib.hid hR4
      clear hB4 hR4
      go_wp2_with fail
      refine (HK.out _ _ HB4.out HR4.out).mono ?_
      rintro e w5 ⟨rfl, hB5⟩
      have HB5 := Lib.hid (HB4.out.trans (hB5.mono HB4.out.size))
      clear hB5
      go_wp2_with fail
      refine (HK2.out _ HB5.out).mono ?_
      rintro e w6 ⟨rfl, hB6⟩
      have HB6 := Lib.hid (HB5.out.trans (hB6.mono HB5.out.size))
      clear hB6
      go_wp2_with fail
      go_ret
      exact ⟨by first | rfl | simp [hkq], HB6.out⟩
end Go.Proofs.Ytbmbcdbldbjddaa
