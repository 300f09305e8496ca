/- AddressArgs, the second form: the walk. -/
import Derived.Test.YtllkldbiagkbcaaDoorAOf
import Derived.Test.YtllkldbiagkbcaaDoorARefArg
import Derived.Test.YtllkldbiagkbcaaDoorTexts
import Derived.Deep.RegionHeld3
namespace Go.Proofs.YtllkldbiagkbcaaDoor.args
open Go.RowKit

theorem segs_in {a : Adr} {B : Nat} {w wr : World} (hE : Env w) (hp : a.p.length ≤ 10000000) (hS : wr.cell? ⟨B, 1, none⟩ = some (.string (strB a.p)) ∧ B < wr.heap.size ∧ Below w.heap.size w wr) :
    Calls Tryd.prog 22 #[.string (strB a.p)] wr fun e w' => ∃ v, e = .returned v ∧ ReadsS w' v (segL a.p) ∧ (w'.cell? ⟨B, 1, none⟩ = some (.string (strB a.p)) ∧ B < w'.heap.size ∧ Below w.heap.size w w') := by
  refine (segments_any (strB a.p) wr (hE.below hS.2.2) (by rw [strB_size]; exact hp)).mono ?_
  rintro e w' ⟨v, rfl, hv, hB⟩
  rw [strB_list] at hv
  exact ⟨v, rfl, hv.reads, (hB.cell (p := ⟨B, 1, none⟩) hS.2.1).trans hS.1, Nat.lt_of_lt_of_le hS.2.1 hB.size, hS.2.2.trans (hB.mono hS.2.2.size)⟩
theorem refSegs_in {a : Adr} {B : Nat} {w wr : World} (hp : a.p.length ≤ 10000000) {u : Value} (hu : ReadsS wr u (segL a.p)) (hS : wr.cell? ⟨B, 1, none⟩ = some (.string (strB a.p)) ∧ B < wr.heap.size ∧ Below w.heap.size w wr) :
    Calls Tryd.prog 26 #[.string (strB a.p)] wr fun e w' => ∃ v, e = .returned v ∧ ReadsS w' v (segL a.p) ∧ ReadsS w' u (segL a.p) ∧ (w'.cell? ⟨B, 1, none⟩ = some (.string (strB a.p)) ∧ B < w'.heap.size ∧ Below w.heap.size w w') := by
  refine (refSegments_any (strB a.p) wr (by rw [strB_size]; exact hp)).mono ?_
  rintro e w' ⟨v, rfl, hv, hB⟩
  rw [strB_list] at hv
  exact ⟨v, rfl, hv, hu.below hB, (hB.cell (p := ⟨B, 1, none⟩) hS.2.1).trans hS.1, Nat.lt_of_lt_of_le hS.2.1 hB.size, hS.2.2.trans (hB.mono hS.2.2.size)⟩
theorem texts_in {a : Adr} {B : Nat} {w wr : World} (hp : a.p.length ≤ 10000000) {u v : Value} (hu : ReadsS wr u (segL a.p)) (hv : ReadsS wr v (segL a.p)) (hS : wr.cell? ⟨B, 1, none⟩ = some (.string (strB a.p)) ∧ B < wr.heap.size ∧ Below w.heap.size w wr) :
    Calls Tryd.prog 25 #[u, v] wr fun e w' => e = .returned (.bool true) ∧ (w'.cell? ⟨B, 1, none⟩ = some (.string (strB a.p)) ∧ B < w'.heap.size ∧ Below w.heap.size w w') := by
  have hl := segL_len a.p
  refine (texts_big u v (segL a.p) (segL a.p) wr hu hv (by omega) (by omega)).mono ?_
  rintro e w' ⟨rfl, n, rfl⟩
  have hB : Below wr.heap.size wr (wr.drewN n) := below_drewN (Below.refl _ _) n
  exact ⟨by rw [decide_eq_true rfl], (hB.cell (p := ⟨B, 1, none⟩) hS.2.1).trans hS.1, Nat.lt_of_lt_of_le hS.2.1 hB.size, hS.2.2.trans (hB.mono hS.2.2.size)⟩
set_option maxHeartbeats 4000000 in
set_option maxRecDepth 100000 in
theorem walk (a : Adr) (n : ByteArray) (w : World) (hE : Env w) (ha0 : AdrLe 1048576 a) (hn0 : n.size ≤ 1048576) :
    Calls Tryd.prog 8 #[adrV a, .string n] w fun e w' => e = .returned (.bool true) ∧ Below w.heap.size w w' := by
  have ha : AdrLe 10000000 a := ⟨by have := ha0.1; omega, by have := ha0.2.1; omega, by have := ha0.2.2; omega⟩
  have hn : n.size ≤ 10000000 := by omega
  clear ha0 hn0
  have hF := adrAt_new a w 36
  have HE := Lib.hid hE
  have hql := ha.2.2
  have hpl := ha.2.1
  clear hE
  by_cases h1 : 1500 < (strB a.q).size + n.size
  · go_enter Tryd.func8, Tryd.ntmps8
    go_wp2_with fail
    generalize w.alloc (.cells #[.string (strB a.h), .string (strB a.p), .string (strB a.q), .bool a.b] 36) = w0 at *
    refine (awake_any _ (HE.out.below hF.2.2.2.2.2)).mono ?_
    rintro e w1 ⟨rfl, hB1⟩
    obtain ⟨c0, c1, c2, c3, hlt, hW⟩ := hF.below hB1
    have HW := Lib.hid hW
    clear hB1 hW
    go_wp2_with fail
    refine (awake_any _ (HE.out.below HW.out)).mono ?_
    rintro e w2 ⟨rfl, hB2⟩
    go_wp2_with fail
    go_ret
    exact ⟨rfl, HW.out.trans (hB2.mono HW.out.size)⟩
  · have hav : ∃ (v : List UInt8) (ok : Bool), argV a n.data.toList = .tuple #[.string (strB v), .bool ok] := by
      unfold argV; split
      · split <;> exact ⟨_, _, rfl⟩
      · exact ⟨_, _, rfl⟩
    obtain ⟨v, ok, hav⟩ := hav
    have HAV := Lib.hid hav
    have hqn : a.q.length ≤ 1000000 := by rw [strB_size] at h1; omega
    have hnn : n.size ≤ 1000000 := by omega
    have hpn : a.p.length ≤ 10000000 := by rw [strB_size] at hpl; exact hpl
    have HQ := Lib.hid hqn
    have HP := Lib.hid hpn
    clear hav hqn hpn
    go_enter Tryd.func8, Tryd.ntmps8
    go_wp2_with fail
    generalize w.alloc (.cells #[.string (strB a.h), .string (strB a.p), .string (strB a.q), .bool a.b] 36) = w0 at *
    refine (awake_any _ (HE.out.below hF.2.2.2.2.2)).mono ?_
    rintro e w1 ⟨rfl, hB1⟩
    have F1 := Lib.hid (hF.below hB1)
    obtain ⟨c0, c1, c2, c3, hlt, hW⟩ := F1.out
    clear hB1 hW hF
    go_wp2_with fail
    refine (of_any a _).mono ?_
    rintro e w2 ⟨rfl, hB2⟩
    have F2 := Lib.hid (F1.out.below hB2)
    clear hB2 c0 c1 c2 c3 hlt
    go_wp2_with fail
    refine (arg_any a n _ (HE.out.below F2.out.2.2.2.2.2) (by have := HQ.out; omega) hn).mono ?_
    rintro e w3 ⟨rfl, hB3⟩
    rw [HAV.out]
    have F3 := Lib.hid (F2.out.below hB3)
    obtain ⟨c0, c1, c2, c3, hlt, hW⟩ := F3.out
    clear hB3 hW
    go_wp2_with fail
    refine (refArg_any a n _ HQ.out hnn).mono ?_
    rintro e w4 ⟨rfl, hB4⟩
    rw [HAV.out]
    have F4 := Lib.hid (F3.out.below hB4)
    clear hB4 c0 c1 c2 c3 hlt
    have hS : w4.cell? ⟨w.heap.size, 1, none⟩ = some (.string (strB a.p)) ∧ w.heap.size < w4.heap.size ∧ Below w.heap.size w w4 := ⟨F4.out.2.1, F4.out.2.2.2.2.1, F4.out.2.2.2.2.2⟩
    have hSd : w4.drew.cell? ⟨w.heap.size, 1, none⟩ = some (.string (strB a.p)) ∧ w.heap.size < w4.drew.heap.size ∧ Below w.heap.size w w4.drew := ⟨F4.out.2.1, F4.out.2.2.2.2.1, F4.out.2.2.2.2.2.drew⟩
    go_wp2_with fail
    go_region_held3 (fun w' => w'.cell? ⟨w.heap.size, 1, none⟩ = some (.string (strB a.p)) ∧ w.heap.size < w'.heap.size ∧ Below w.heap.size w w')
      (first | (with_reducible exact h5) | (with_reducible exact hSd))
      (first
        | (go_at_call 22; refine (segs_in HE.out HP.out (by assumption)).mono ?_; rintro e w' ⟨u, rfl, hu, h5⟩)
        | (go_at_call 26; refine (refSegs_in HP.out hu (by assumption)).mono ?_; rintro e w' ⟨u2, rfl, hu2, hu1, h5⟩)
        | (go_at_call 25; refine (texts_in HP.out hu1 hu2 (by assumption)).mono ?_; rintro e w' ⟨rfl, h5⟩))
    go_wp2_with fail
    go_ret
    exact ⟨rfl, h5.2.2⟩
end Go.Proofs.YtllkldbiagkbcaaDoor.args
