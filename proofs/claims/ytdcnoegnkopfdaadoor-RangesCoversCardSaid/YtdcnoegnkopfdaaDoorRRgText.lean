/- What the code's isProper, text and ContentRange return. -/
import Derived.Test.YtdcnoegnkopfdaaDoorRTab
import Derived.Test.YtdcnoegnkopfdaaDoorRNum
import Derived.Test.YtdcnoegnkopfdaaDoorRText
import Derived.Deep.RegionHeld3
import Derived.Deep.DeepCutAuto
namespace Go.Proofs.YtdcnoegnkopfdaaDoor
open Go.RowKit

/-- A range's box at block N, the table, and all that lay in w0. -/
@[reducible] def SH (N : Nat) (w0 : World) (a b : Int) (w' : World) : Prop :=
  w'.cell? ⟨N, 0, none⟩ = some (.int .i64 a) ∧ w'.cell? ⟨N, 1, none⟩ = some (.int .i64 b) ∧ HasTab w' ∧ Below w0.heap.size w0 w' ∧ N < w0.heap.size
theorem SH.below {N : Nat} {w0 w1 w2 : World} {a b : Int} (h : SH N w0 a b w1) (hb : Below w1.heap.size w1 w2) : SH N w0 a b w2 := by
  obtain ⟨h1, h2, h3, h4, h5⟩ := h
  have hs := h4.size
  exact ⟨(hb.cell (p := ⟨N, 0, none⟩) (by show N < _; omega)).trans h1, (hb.cell (p := ⟨N, 1, none⟩) (by show N < _; omega)).trans h2, h3.below hb, h4.trans (hb.mono hs), h5⟩
theorem SH.drew {N : Nat} {w0 w1 : World} {a b : Int} (h : SH N w0 a b w1) : SH N w0 a b w1.drew := SH.below h ((Below.refl _ _).drew)
theorem itoa_held {N : Nat} {w0 wr : World} {a b : Int} (n : Int) (h1 : 0 ≤ n) (h2 : n ≤ 999999999999999) {s : ByteArray} (hs : strB (decT n) = s)
    (hS : wr.cell? ⟨N, 0, none⟩ = some (.int .i64 a) ∧ wr.cell? ⟨N, 1, none⟩ = some (.int .i64 b) ∧ HasTab wr ∧ Below w0.heap.size w0 wr ∧ N < w0.heap.size) :
    Calls Tryd.prog 45 #[.int .i64 n] wr fun e w' => e = .returned (.string s) ∧ (w'.cell? ⟨N, 0, none⟩ = some (.int .i64 a) ∧ w'.cell? ⟨N, 1, none⟩ = some (.int .i64 b) ∧ HasTab w' ∧ Below w0.heap.size w0 w' ∧ N < w0.heap.size) := by
  refine (itoa_dec n h1 (by omega) wr hS.2.2.1).mono ?_
  rintro e w' ⟨rfl, hB⟩
  exact ⟨by rw [hs], SH.below hS hB⟩
theorem decT_size (n : Int) (h : n ≤ 999999999999999) : (strB (decT n)).size ≤ 20 := by
  rw [strB_size]; exact dec_size _ (by omega)
theorem text_eq (a b : Int) : strB (decT a) ++ (⟨#[45]⟩ : ByteArray) ++ strB (decT (b - 1)) = strB (textR (a, b)) := by
  apply ByteArray.ext; simp [strB, textR]
theorem sh_new (w : World) (a b : Int) (T : TypeId) (hT : HasTab w) : SH w.heap.size (w.alloc (.cells #[.int .i64 a, .int .i64 b] T)) a b (w.alloc (.cells #[.int .i64 a, .int .i64 b] T)) := by
  have h := twoI_new w a b T
  exact ⟨h.1, h.2.1, hT.below (below_new _ _), Below.refl _ _, h.2.2.2.2⟩
set_option maxHeartbeats 4000000 in
set_option maxRecDepth 100000 in
theorem text_any (r : Rg) (w : World) (hT : HasTab w) (hr : properR r) :
    Calls Tryd.prog 42 #[rgV r] w fun e w' => e = .returned (.string (strB (textR r))) ∧ Below w.heap.size w w' := by
  obtain ⟨a, b⟩ := r
  obtain ⟨h1, h2, h3⟩ := hr
  simp only at h1 h2 h3
  obtain ⟨s1, hs1⟩ : ∃ s, strB (decT a) = s := ⟨_, rfl⟩
  obtain ⟨s2, hs2⟩ : ∃ s, strB (decT (b - 1)) = s := ⟨_, rfl⟩
  have z1 := decT_size a (by omega)
  have z2 := decT_size (b - 1) (by omega)
  have HE := Lib.hid (text_eq a b)
  rw [hs1, hs2] at HE
  rw [hs1] at z1
  rw [hs2] at z2
  obtain ⟨s3, hs3⟩ : ∃ s, s1 ++ (⟨#[45]⟩ : ByteArray) = s := ⟨_, rfl⟩
  have z3 : s3.size ≤ 21 := by rw [← hs3, ByteArray.size_append]; show s1.size + 1 ≤ 21; omega
  have q1 : ∀ w : World, (Op.stringOp .add s1 ⟨#[45]⟩).run Tryd.prog w = .ok (.string s3) w := fun w => by rw [run_string_add_sum w _ _ (by show s1.size + 1 ≤ _; omega), hs3]
  have q2 : ∀ w : World, (Op.stringOp .add s3 s2).run Tryd.prog w = .ok (.string (s3 ++ s2)) w := fun w => run_string_add_sum w _ _ (by omega)
  rw [hs3] at HE
  clear hs3 z1 z2 z3
  have HI1 := Lib.hid (fun (w0 wr : World) (N : Nat) => itoa_held (N := N) (w0 := w0) (wr := wr) (a := a) (b := b) a h1 (by omega) hs1)
  have HI2 := Lib.hid (fun (w0 wr : World) (N : Nat) => itoa_held (N := N) (w0 := w0) (wr := wr) (a := a) (b := b) (b - 1) (by omega) (by omega) hs2)
  have HS0 := Lib.hid (sh_new w a b 46 hT)
  have HB0 := Lib.hid (below_new w (.cells #[.int .i64 a, .int .i64 b] 46))
  clear hs1 hs2
  go_enter Tryd.func42, Tryd.ntmps42
  go_upto_region 1 with fail
  generalize hN : w.heap.size = N at *
  generalize w.alloc (.cells #[.int .i64 a, .int .i64 b] 46) = w0 at *
  have hS := SH.drew HS0.out
  have hw : IntKind.i64.wrap (b - 1) = b - 1 := IntWalk.i64_in _ (by omega)
  go_region_held3 (fun w' => w'.cell? ⟨N, 0, none⟩ = some (.int .i64 a) ∧ w'.cell? ⟨N, 1, none⟩ = some (.int .i64 b) ∧ HasTab w' ∧ Below w0.heap.size w0 w' ∧ N < w0.heap.size)
    (first | (with_reducible exact h5) | (with_reducible exact hS))
    (first
      | (go_at_call_of 45 (Value.int .i64 a); refine (HI1.out _ _ _ (by assumption)).mono ?_; rintro e w' ⟨rfl, h5⟩)
      | (go_at_call 45; refine (HI2.out _ _ _ (by assumption)).mono ?_; rintro e w' ⟨rfl, h5⟩))
  have HB := Lib.hid (HB0.out.trans (h5.2.2.2.1.mono (by rw [← hN]; exact HB0.out.size)))
  go_wp2_with fail
  go_ret
  exact ⟨by rw [← HE.out]; rfl, by rw [hN]; exact HB.out⟩
set_option maxHeartbeats 2000000 in
theorem isProper_any (r : Rg) (w : World) :
    Calls Tryd.prog 41 #[rgV r] w fun e w' => e = .returned (.bool (decide (properR r))) ∧ Below w.heap.size w w' := by
  obtain ⟨a, b⟩ := r
  have HIE := Lib.hid (fun (w : World) => (show Calls Tryd.prog 38 #[.agg #[.int .i64 a, .int .i64 b]] w fun e w' => e = .returned (.bool (decide (b ≤ a))) ∧ Below w.heap.size w w' from isEmpty_any (a, b) w))
  by_cases h1 : 0 ≤ a
  · by_cases h2 : a < b
    · have hd : decide (b ≤ a) = false := decide_eq_false (by omega)
      go_enter Tryd.func41, Tryd.ntmps41
      go_wp2_with fail
      refine (HIE.out _).mono ?_
      rintro e w1 ⟨rfl, hB⟩
      have hT := (twoI_new w a b 46).below hB
      obtain ⟨c0, c1, f0, f1, hN⟩ := hT
      have HB := Lib.hid ((below_new w _).trans (hB.mono (by simp)))
      clear hB
      by_cases h3 : b ≤ 999999999999999
      · go_wp2_with fail
        go_ret
        exact ⟨by rw [decide_eq_true (show properR (a, b) from ⟨h1, h2, h3⟩)]; simp [h3], HB.out⟩
      · have h3' : 999999999999999 < b := by omega
        go_wp2_with fail
        go_ret
        exact ⟨by rw [decide_eq_false (show ¬ properR (a, b) from fun h => by unfold properR at h; simp only at h; omega)]; simp; omega, HB.out⟩
    · have hd : decide (b ≤ a) = true := decide_eq_true (by omega)
      go_enter Tryd.func41, Tryd.ntmps41
      go_wp2_with fail
      refine (HIE.out _).mono ?_
      rintro e w1 ⟨rfl, hB⟩
      have HB := Lib.hid ((below_new w _).trans (hB.mono (by simp)))
      clear hB
      go_wp2_with fail
      go_ret
      exact ⟨by rw [decide_eq_false (show ¬ properR (a, b) from fun h => by unfold properR at h; simp only at h; omega)]; rfl, HB.out⟩
  · have h1' : a < 0 := by omega
    go_enter Tryd.func41, Tryd.ntmps41
    go_wp2_with fail
    go_ret
    exact ⟨by rw [decide_eq_false (show ¬ properR (a, b) from fun h => by unfold properR at h; simp only at h; omega)]; rfl, below_new _ _⟩
theorem cr_yes {r : Rg} {n : Int} (h1 : properR r) (h2 : r.2 ≤ n) (h3 : n ≤ 999999999999999) : crR r n = some ([98, 121, 116, 101, 115, 32] ++ textR r ++ 47 :: decT n) := by unfold crR; rw [if_pos ⟨h1, h2, h3⟩]
theorem cr_no {r : Rg} {n : Int} (h : ¬ (properR r ∧ r.2 ≤ n ∧ n ≤ 999999999999999)) : crR r n = none := by unfold crR; rw [if_neg h]
theorem cr_eq (r : Rg) (n : Int) : (⟨#[98, 121, 116, 101, 115, 32]⟩ : ByteArray) ++ strB (textR r) ++ (⟨#[47]⟩ : ByteArray) ++ strB (decT n) = strB ([98, 121, 116, 101, 115, 32] ++ textR r ++ 47 :: decT n) := by
  apply ByteArray.ext; simp [strB]
theorem textR_size {r : Rg} (h : properR r) : (strB (textR r)).size ≤ 41 := by
  obtain ⟨h1, h2, h3⟩ := h
  have a := decT_size r.1 (by omega)
  have b := decT_size (r.2 - 1) (by omega)
  rw [strB_size] at *
  unfold textR; simp; omega
def crV : Option (List UInt8) → Value
  | none => .tuple #[.string ⟨#[]⟩, errForm']
  | some t => .tuple #[.string (strB t), .nilIface]
set_option maxHeartbeats 4000000 in
set_option maxRecDepth 100000 in
theorem contentRange_any (r : Rg) (n : Int) (w : World) (hT : HasTab w) :
    Calls Tryd.prog 19 #[rgV r, .int .i64 n] w fun e w' => e = .returned (crV (crR r n)) ∧ Below w.heap.size w w' := by
  have HIP := Lib.hid (fun (w : World) => isProper_any r w)
  have HT0 := Lib.hid hT
  clear hT
  by_cases h1 : properR r
  · have hd : decide (properR r) = true := decide_eq_true h1
    rw [hd] at HIP
    have h0 := h1
    obtain ⟨a, b⟩ := r
    obtain ⟨k1, k2, k3⟩ := h0
    simp only at k1 k2 k3
    clear hd
    go_enter Tryd.func19, Tryd.ntmps19
    go_wp2_with fail
    refine (HIP.out _).mono ?_
    rintro e w1 ⟨rfl, hB⟩
    have hT := (twoI_new w a b 46).below hB
    have hW := (below_new w (.cells #[.int .i64 a, .int .i64 b] 46)).trans (hB.mono (by simp))
    have HW := Lib.hid hW
    have HT1 := Lib.hid (HT0.out.below hW)
    obtain ⟨c0, c1, f0, f1, hN⟩ := hT
    clear hB hW
    by_cases h2 : b ≤ n
    · by_cases h3 : n ≤ 999999999999999
      · have HV := Lib.hid (show crV (crR (a, b) n) = .tuple #[.string ((⟨#[98, 121, 116, 101, 115, 32]⟩ : ByteArray) ++ strB (textR (a, b)) ++ (⟨#[47]⟩ : ByteArray) ++ strB (decT n)), .nilIface] by rw [cr_yes h1 h2 h3, cr_eq]; rfl)
        have HX := Lib.hid (fun (w : World) (hT : HasTab w) => text_any (a, b) w hT h1)
        have HI := Lib.hid (fun (w : World) (hT : HasTab w) => itoa_dec n (by omega) (by omega) w hT)
        have z1 := textR_size h1
        have z2 := decT_size n h3
        go_wp2_with fail
        refine (HX.out _ HT1.out).mono ?_
        rintro e w2 ⟨rfl, hB2⟩
        have HW2 := Lib.hid (HW.out.trans (hB2.mono HW.out.size))
        have HT2 := Lib.hid (HT1.out.below hB2)
        clear hB2 c0 c1 f0 f1 hN
        go_wp2_with fail
        refine (HI.out _ HT2.out).mono ?_
        rintro e w3 ⟨rfl, hB3⟩
        have HW3 := Lib.hid (HW2.out.trans (hB3.mono HW2.out.size))
        clear hB3
        go_wp2_with fail
        go_ret2
        exact ⟨by rw [HV.out]; rfl, HW3.out⟩
      · have h3' : 999999999999999 < n := by omega
        have HR := Lib.hid (cr_no (r := (a, b)) (n := n) (fun h => h3 h.2.2))
        go_wp2_with fail
        go_ret2
        exact ⟨by rw [HR.out]; rfl, HW.out⟩
    · have h2' : n < b := by omega
      have HR := Lib.hid (cr_no (r := (a, b)) (n := n) (fun h => h2 h.2.1))
      go_wp2_with fail
      go_ret2
      exact ⟨by rw [HR.out]; rfl, HW.out⟩
  · have hd : decide (properR r) = false := decide_eq_false h1
    rw [hd] at HIP
    have HR := Lib.hid (cr_no (n := n) (fun h => h1 h.1))
    obtain ⟨a, b⟩ := r
    clear hd h1
    go_enter Tryd.func19, Tryd.ntmps19
    go_wp2_with fail
    refine (HIP.out _).mono ?_
    rintro e w1 ⟨rfl, hB⟩
    have HW := Lib.hid ((below_new w (.cells #[.int .i64 a, .int .i64 b] 46)).trans (hB.mono (by simp)))
    clear hB
    go_wp2_with fail
    go_ret2
    exact ⟨by rw [HR.out]; rfl, HW.out⟩
end Go.Proofs.YtdcnoegnkopfdaaDoor
