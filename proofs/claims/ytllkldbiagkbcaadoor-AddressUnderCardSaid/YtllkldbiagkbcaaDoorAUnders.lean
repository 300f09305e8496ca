/- AddressUnder: for every two addresses the statement's function returns true: the walk. -/
import Derived.Test.YtllkldbiagkbcaaDoorARefUnder
import Derived.Deep.RegionHeld3
namespace Go.Proofs.YtllkldbiagkbcaaDoor.under
open Go.RowKit

theorem keep {a b : Adr} {w wr w2 : World} (hS : wr.cell? ⟨w.heap.size, 0, none⟩ = some (.string (strB a.h)) ∧ wr.cell? ⟨w.heap.size, 1, none⟩ = some (.string (strB a.p)) ∧ wr.cell? ⟨w.heap.size, 2, none⟩ = some (.string (strB a.q)) ∧ wr.cell? ⟨w.heap.size, 3, none⟩ = some (.bool a.b) ∧ wr.cell? ⟨w.heap.size + 1, 0, none⟩ = some (.string (strB b.h)) ∧ wr.cell? ⟨w.heap.size + 1, 1, none⟩ = some (.string (strB b.p)) ∧ wr.cell? ⟨w.heap.size + 1, 2, none⟩ = some (.string (strB b.q)) ∧ wr.cell? ⟨w.heap.size + 1, 3, none⟩ = some (.bool b.b) ∧ w.heap.size + 1 < wr.heap.size ∧ Below w.heap.size w wr) (hB : Below wr.heap.size wr w2) : w2.cell? ⟨w.heap.size, 0, none⟩ = some (.string (strB a.h)) ∧ w2.cell? ⟨w.heap.size, 1, none⟩ = some (.string (strB a.p)) ∧ w2.cell? ⟨w.heap.size, 2, none⟩ = some (.string (strB a.q)) ∧ w2.cell? ⟨w.heap.size, 3, none⟩ = some (.bool a.b) ∧ w2.cell? ⟨w.heap.size + 1, 0, none⟩ = some (.string (strB b.h)) ∧ w2.cell? ⟨w.heap.size + 1, 1, none⟩ = some (.string (strB b.p)) ∧ w2.cell? ⟨w.heap.size + 1, 2, none⟩ = some (.string (strB b.q)) ∧ w2.cell? ⟨w.heap.size + 1, 3, none⟩ = some (.bool b.b) ∧ w.heap.size + 1 < w2.heap.size ∧ Below w.heap.size w w2 := by
  obtain ⟨a0, a1, a2, a3, b0, b1, b2, b3, hz, hw⟩ := hS
  have c : ∀ k j : Nat, k ≤ w.heap.size + 1 → w2.cell? ⟨k, j, none⟩ = wr.cell? ⟨k, j, none⟩ := fun k j hk => hB.cell (p := ⟨k, j, none⟩) (by show k < _; omega)
  have h0 : w.heap.size ≤ w.heap.size + 1 := by omega
  exact ⟨by rw [c _ _ h0]; exact a0, by rw [c _ _ h0]; exact a1, by rw [c _ _ h0]; exact a2, by rw [c _ _ h0]; exact a3, by rw [c _ _ (Nat.le_refl _)]; exact b0, by rw [c _ _ (Nat.le_refl _)]; exact b1, by rw [c _ _ (Nat.le_refl _)]; exact b2, by rw [c _ _ (Nat.le_refl _)]; exact b3, Nat.lt_of_lt_of_le hz hB.size, hw.trans (hB.mono (by omega))⟩
theorem of_in {a b : Adr} {w wr : World} (x : Adr) (hS : wr.cell? ⟨w.heap.size, 0, none⟩ = some (.string (strB a.h)) ∧ wr.cell? ⟨w.heap.size, 1, none⟩ = some (.string (strB a.p)) ∧ wr.cell? ⟨w.heap.size, 2, none⟩ = some (.string (strB a.q)) ∧ wr.cell? ⟨w.heap.size, 3, none⟩ = some (.bool a.b) ∧ wr.cell? ⟨w.heap.size + 1, 0, none⟩ = some (.string (strB b.h)) ∧ wr.cell? ⟨w.heap.size + 1, 1, none⟩ = some (.string (strB b.p)) ∧ wr.cell? ⟨w.heap.size + 1, 2, none⟩ = some (.string (strB b.q)) ∧ wr.cell? ⟨w.heap.size + 1, 3, none⟩ = some (.bool b.b) ∧ w.heap.size + 1 < wr.heap.size ∧ Below w.heap.size w wr) : Calls Tryd.prog 20 #[adrV x] wr fun e w' => e = .returned (adrV x) ∧ (w'.cell? ⟨w.heap.size, 0, none⟩ = some (.string (strB a.h)) ∧ w'.cell? ⟨w.heap.size, 1, none⟩ = some (.string (strB a.p)) ∧ w'.cell? ⟨w.heap.size, 2, none⟩ = some (.string (strB a.q)) ∧ w'.cell? ⟨w.heap.size, 3, none⟩ = some (.bool a.b) ∧ w'.cell? ⟨w.heap.size + 1, 0, none⟩ = some (.string (strB b.h)) ∧ w'.cell? ⟨w.heap.size + 1, 1, none⟩ = some (.string (strB b.p)) ∧ w'.cell? ⟨w.heap.size + 1, 2, none⟩ = some (.string (strB b.q)) ∧ w'.cell? ⟨w.heap.size + 1, 3, none⟩ = some (.bool b.b) ∧ w.heap.size + 1 < w'.heap.size ∧ Below w.heap.size w w') :=
  (of_any x wr).mono fun e w' ⟨he, hB⟩ => ⟨he, keep hS hB⟩
theorem under_in {a b : Adr} {w wr : World} (x y : Adr) (hy : AdrLe 140737488355328 y) (hS : wr.cell? ⟨w.heap.size, 0, none⟩ = some (.string (strB a.h)) ∧ wr.cell? ⟨w.heap.size, 1, none⟩ = some (.string (strB a.p)) ∧ wr.cell? ⟨w.heap.size, 2, none⟩ = some (.string (strB a.q)) ∧ wr.cell? ⟨w.heap.size, 3, none⟩ = some (.bool a.b) ∧ wr.cell? ⟨w.heap.size + 1, 0, none⟩ = some (.string (strB b.h)) ∧ wr.cell? ⟨w.heap.size + 1, 1, none⟩ = some (.string (strB b.p)) ∧ wr.cell? ⟨w.heap.size + 1, 2, none⟩ = some (.string (strB b.q)) ∧ wr.cell? ⟨w.heap.size + 1, 3, none⟩ = some (.bool b.b) ∧ w.heap.size + 1 < wr.heap.size ∧ Below w.heap.size w wr) : Calls Tryd.prog 19 #[adrV x, adrV y] wr fun e w' => e = .returned (.bool (underB x y)) ∧ (w'.cell? ⟨w.heap.size, 0, none⟩ = some (.string (strB a.h)) ∧ w'.cell? ⟨w.heap.size, 1, none⟩ = some (.string (strB a.p)) ∧ w'.cell? ⟨w.heap.size, 2, none⟩ = some (.string (strB a.q)) ∧ w'.cell? ⟨w.heap.size, 3, none⟩ = some (.bool a.b) ∧ w'.cell? ⟨w.heap.size + 1, 0, none⟩ = some (.string (strB b.h)) ∧ w'.cell? ⟨w.heap.size + 1, 1, none⟩ = some (.string (strB b.p)) ∧ w'.cell? ⟨w.heap.size + 1, 2, none⟩ = some (.string (strB b.q)) ∧ w'.cell? ⟨w.heap.size + 1, 3, none⟩ = some (.bool b.b) ∧ w.heap.size + 1 < w'.heap.size ∧ Below w.heap.size w w') :=
  (under_any x y wr hy).mono fun e w' ⟨he, hB⟩ => ⟨he, keep hS hB⟩
theorem refUnder_in {a b : Adr} {w wr : World} (x y : Adr) (hx : AdrLe 140737488355328 x) (hy : AdrLe 140737488355328 y) (hS : wr.cell? ⟨w.heap.size, 0, none⟩ = some (.string (strB a.h)) ∧ wr.cell? ⟨w.heap.size, 1, none⟩ = some (.string (strB a.p)) ∧ wr.cell? ⟨w.heap.size, 2, none⟩ = some (.string (strB a.q)) ∧ wr.cell? ⟨w.heap.size, 3, none⟩ = some (.bool a.b) ∧ wr.cell? ⟨w.heap.size + 1, 0, none⟩ = some (.string (strB b.h)) ∧ wr.cell? ⟨w.heap.size + 1, 1, none⟩ = some (.string (strB b.p)) ∧ wr.cell? ⟨w.heap.size + 1, 2, none⟩ = some (.string (strB b.q)) ∧ wr.cell? ⟨w.heap.size + 1, 3, none⟩ = some (.bool b.b) ∧ w.heap.size + 1 < wr.heap.size ∧ Below w.heap.size w wr) : Calls Tryd.prog 21 #[adrV x, adrV y] wr fun e w' => e = .returned (.bool (underB x y)) ∧ (w'.cell? ⟨w.heap.size, 0, none⟩ = some (.string (strB a.h)) ∧ w'.cell? ⟨w.heap.size, 1, none⟩ = some (.string (strB a.p)) ∧ w'.cell? ⟨w.heap.size, 2, none⟩ = some (.string (strB a.q)) ∧ w'.cell? ⟨w.heap.size, 3, none⟩ = some (.bool a.b) ∧ w'.cell? ⟨w.heap.size + 1, 0, none⟩ = some (.string (strB b.h)) ∧ w'.cell? ⟨w.heap.size + 1, 1, none⟩ = some (.string (strB b.p)) ∧ w'.cell? ⟨w.heap.size + 1, 2, none⟩ = some (.string (strB b.q)) ∧ w'.cell? ⟨w.heap.size + 1, 3, none⟩ = some (.bool b.b) ∧ w.heap.size + 1 < w'.heap.size ∧ Below w.heap.size w w') :=
  (refUnder_any x y wr hx hy).mono fun e w' ⟨he, hB⟩ => ⟨he, keep hS hB⟩
theorem two_new (a b : Adr) (w : World) (T : TypeId) : ((w.alloc (.cells #[.string (strB a.h), .string (strB a.p), .string (strB a.q), .bool a.b] T)).alloc (.cells #[.string (strB b.h), .string (strB b.p), .string (strB b.q), .bool b.b] T)).cell? ⟨w.heap.size, 0, none⟩ = some (.string (strB a.h)) ∧ ((w.alloc (.cells #[.string (strB a.h), .string (strB a.p), .string (strB a.q), .bool a.b] T)).alloc (.cells #[.string (strB b.h), .string (strB b.p), .string (strB b.q), .bool b.b] T)).cell? ⟨w.heap.size, 1, none⟩ = some (.string (strB a.p)) ∧ ((w.alloc (.cells #[.string (strB a.h), .string (strB a.p), .string (strB a.q), .bool a.b] T)).alloc (.cells #[.string (strB b.h), .string (strB b.p), .string (strB b.q), .bool b.b] T)).cell? ⟨w.heap.size, 2, none⟩ = some (.string (strB a.q)) ∧ ((w.alloc (.cells #[.string (strB a.h), .string (strB a.p), .string (strB a.q), .bool a.b] T)).alloc (.cells #[.string (strB b.h), .string (strB b.p), .string (strB b.q), .bool b.b] T)).cell? ⟨w.heap.size, 3, none⟩ = some (.bool a.b) ∧ ((w.alloc (.cells #[.string (strB a.h), .string (strB a.p), .string (strB a.q), .bool a.b] T)).alloc (.cells #[.string (strB b.h), .string (strB b.p), .string (strB b.q), .bool b.b] T)).cell? ⟨w.heap.size + 1, 0, none⟩ = some (.string (strB b.h)) ∧ ((w.alloc (.cells #[.string (strB a.h), .string (strB a.p), .string (strB a.q), .bool a.b] T)).alloc (.cells #[.string (strB b.h), .string (strB b.p), .string (strB b.q), .bool b.b] T)).cell? ⟨w.heap.size + 1, 1, none⟩ = some (.string (strB b.p)) ∧ ((w.alloc (.cells #[.string (strB a.h), .string (strB a.p), .string (strB a.q), .bool a.b] T)).alloc (.cells #[.string (strB b.h), .string (strB b.p), .string (strB b.q), .bool b.b] T)).cell? ⟨w.heap.size + 1, 2, none⟩ = some (.string (strB b.q)) ∧ ((w.alloc (.cells #[.string (strB a.h), .string (strB a.p), .string (strB a.q), .bool a.b] T)).alloc (.cells #[.string (strB b.h), .string (strB b.p), .string (strB b.q), .bool b.b] T)).cell? ⟨w.heap.size + 1, 3, none⟩ = some (.bool b.b) ∧ w.heap.size + 1 < ((w.alloc (.cells #[.string (strB a.h), .string (strB a.p), .string (strB a.q), .bool a.b] T)).alloc (.cells #[.string (strB b.h), .string (strB b.p), .string (strB b.q), .bool b.b] T)).heap.size ∧ Below w.heap.size w ((w.alloc (.cells #[.string (strB a.h), .string (strB a.p), .string (strB a.q), .bool a.b] T)).alloc (.cells #[.string (strB b.h), .string (strB b.p), .string (strB b.q), .bool b.b] T)) := by
  have h1 := adrAt_new a w T
  have h2 := h1.below (below_new _ (.cells #[.string (strB b.h), .string (strB b.p), .string (strB b.q), .bool b.b] T))
  have h3 := adrAt_new b (w.alloc (.cells #[.string (strB a.h), .string (strB a.p), .string (strB a.q), .bool a.b] T)) T
  have e : (w.alloc (.cells #[.string (strB a.h), .string (strB a.p), .string (strB a.q), .bool a.b] T)).heap.size = w.heap.size + 1 := by simp
  rw [e] at h3
  exact ⟨h2.1, h2.2.1, h2.2.2.1, h2.2.2.2.1, h3.1, h3.2.1, h3.2.2.1, h3.2.2.2.1, h3.2.2.2.2.1, h2.2.2.2.2.2⟩
theorem under_self (a : Adr) : underB a a = true := by
  have : a.p.isPrefixOf a.p = true := by rw [List.isPrefixOf_iff_prefix]; exact List.prefix_refl _
  rw [under_rest rfl this, List.drop_length]; rfl
set_option maxHeartbeats 8000000 in
set_option maxRecDepth 100000 in
theorem walk (a b : Adr) (w : World) (hE : Env w) (ha : AdrLe 140737488355328 a) (hb : AdrLe 140737488355328 b) :
    Calls Tryd.prog 6 #[adrV a, adrV b] w fun e w' => e = .returned (.bool true) ∧ Below w.heap.size w w' := by
  have F0 := Lib.hid (two_new a b w 36)
  have HE := Lib.hid hE
  have hap := ha.2.1
  have hbp := hb.2.1
  have HA := Lib.hid ha
  have HB := Lib.hid hb
  clear hE ha hb
  have haa := under_self a
  have hbb := under_self b
  by_cases h1 : 1500 < (strB a.p).size + (strB b.p).size
  · go_enter Tryd.func6, Tryd.ntmps6
    go_wp2_with fail
    generalize (w.alloc (.cells #[.string (strB a.h), .string (strB a.p), .string (strB a.q), .bool a.b] 36)).alloc (.cells #[.string (strB b.h), .string (strB b.p), .string (strB b.q), .bool b.b] 36) = w0 at *
    refine (awake_any _ (HE.out.below F0.out.2.2.2.2.2.2.2.2.2)).mono ?_
    rintro e w1 ⟨rfl, hB1⟩
    have F1 := Lib.hid (keep F0.out hB1)
    obtain ⟨a0, a1, a2, a3, b0, b1, b2, b3, hz, hw⟩ := F1.out
    have HW := Lib.hid hw
    clear hB1 hw
    go_wp2_with fail
    refine (awake_any _ (HE.out.below HW.out)).mono ?_
    rintro e w2 ⟨rfl, hB2⟩
    go_wp2_with fail
    go_ret
    exact ⟨rfl, HW.out.trans (hB2.mono HW.out.size)⟩
  · go_enter Tryd.func6, Tryd.ntmps6
    go_wp2_with fail
    generalize (w.alloc (.cells #[.string (strB a.h), .string (strB a.p), .string (strB a.q), .bool a.b] 36)).alloc (.cells #[.string (strB b.h), .string (strB b.p), .string (strB b.q), .bool b.b] 36) = w0 at *
    refine (awake_any _ (HE.out.below F0.out.2.2.2.2.2.2.2.2.2)).mono ?_
    rintro e w1 ⟨rfl, hB1⟩
    have F1 := Lib.hid (keep F0.out hB1)
    have hSd := keep F1.out ((Below.refl w1.heap.size w1).drew)
    obtain ⟨a0, a1, a2, a3, b0, b1, b2, b3, hz, hw⟩ := F1.out
    clear hB1 hw
    go_wp2_with fail
    go_region_held3 (fun w' => w'.cell? ⟨w.heap.size, 0, none⟩ = some (.string (strB a.h)) ∧ w'.cell? ⟨w.heap.size, 1, none⟩ = some (.string (strB a.p)) ∧ w'.cell? ⟨w.heap.size, 2, none⟩ = some (.string (strB a.q)) ∧ w'.cell? ⟨w.heap.size, 3, none⟩ = some (.bool a.b) ∧ w'.cell? ⟨w.heap.size + 1, 0, none⟩ = some (.string (strB b.h)) ∧ w'.cell? ⟨w.heap.size + 1, 1, none⟩ = some (.string (strB b.p)) ∧ w'.cell? ⟨w.heap.size + 1, 2, none⟩ = some (.string (strB b.q)) ∧ w'.cell? ⟨w.heap.size + 1, 3, none⟩ = some (.bool b.b) ∧ w.heap.size + 1 < w'.heap.size ∧ Below w.heap.size w w')
      (first | (with_reducible exact h5) | (with_reducible exact hSd))
      (first
        | (go_at_call 20; refine (of_in _ (by assumption)).mono ?_; rintro e w' ⟨rfl, h5⟩)
        | (go_at_call 19; refine (under_in _ _ ?_ (by assumption)).mono ?_; (first | exact HB.out | exact HA.out); rintro e w' ⟨rfl, h5⟩)
        | (go_at_call 21; refine (refUnder_in _ _ HA.out HB.out (by assumption)).mono ?_; rintro e w' ⟨rfl, h5⟩))
    go_wp2_with fail
    go_ret
    exact ⟨rfl, h5.2.2.2.2.2.2.2.2.2⟩
end Go.Proofs.YtllkldbiagkbcaaDoor.under
