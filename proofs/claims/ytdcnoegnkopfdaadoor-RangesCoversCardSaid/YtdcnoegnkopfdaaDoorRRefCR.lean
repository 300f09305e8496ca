/- What the reference's proper, ContentRange and ReadContentRange return. -/
import Derived.Test.YtdcnoegnkopfdaaDoorRRgText
import Derived.Test.YtdcnoegnkopfdaaDoorRRefElem
import Derived.Test.YtdcnoegnkopfdaaDoorRRefParse
import Derived.Test.YtdcnoegnkopfdaaDoorRBack
namespace Go.Proofs.YtdcnoegnkopfdaaDoor
open Go.RowKit

set_option maxHeartbeats 2000000 in
theorem proper_any (r : Rg) (w : World) :
    Calls Tryd.prog 44 #[rgV r] w fun e w' => e = .returned (.bool (decide (properR r))) ∧ Below w.heap.size w w' := by
  obtain ⟨a, b⟩ := r
  by_cases h1 : 0 ≤ a
  · by_cases h2 : a < b
    · by_cases h3 : b ≤ 999999999999999
      · go_enter Tryd.func44, Tryd.ntmps44
        go_wp2_with fail
        go_ret
        exact ⟨by rw [decide_eq_true (show properR (a, b) from ⟨h1, h2, h3⟩)]; simp [h3], below_new _ _⟩
      · have h3' : 999999999999999 < b := by omega
        go_enter Tryd.func44, Tryd.ntmps44
        go_wp2_with fail
        go_ret
        exact ⟨by rw [decide_eq_false (show ¬ properR (a, b) from fun h => by unfold properR at h; simp only at h; omega)]; simp <;> omega, below_new _ _⟩
    · have h2' : b ≤ a := by omega
      go_enter Tryd.func44, Tryd.ntmps44
      go_wp2_with fail
      go_ret
      exact ⟨by rw [decide_eq_false (show ¬ properR (a, b) from fun h => by unfold properR at h; simp only at h; omega)]; rfl, below_new _ _⟩
  · have h1' : a < 0 := by omega
    go_enter Tryd.func44, Tryd.ntmps44
    go_wp2_with fail
    go_ret
    exact ⟨by rw [decide_eq_false (show ¬ properR (a, b) from fun h => by unfold properR at h; simp only at h; omega)]; rfl, below_new _ _⟩
/-- A range's box at block N, and all that lay in w0. -/
@[reducible] def SB (N : Nat) (w0 : World) (a b : Int) (w' : World) : Prop :=
  w'.cell? ⟨N, 0, none⟩ = some (.int .i64 a) ∧ w'.cell? ⟨N, 1, none⟩ = some (.int .i64 b) ∧ Below w0.heap.size w0 w' ∧ N < w0.heap.size
theorem SB.below {N : Nat} {w0 w1 w2 : World} {a b : Int} (h : SB N w0 a b w1) (hb : Below w1.heap.size w1 w2) : SB N w0 a b w2 := by
  obtain ⟨h1, h2, h4, h5⟩ := h
  have hs := h4.size
  exact ⟨(hb.cell (p := ⟨N, 0, none⟩) (by show N < _; omega)).trans h1, (hb.cell (p := ⟨N, 1, none⟩) (by show N < _; omega)).trans h2, h4.trans (hb.mono hs), h5⟩
theorem text_held {N : Nat} {w0 wr : World} {a b : Int} (n : Int) (h1 : 0 ≤ n) (h2 : n ≤ 999999999999999) {s : ByteArray} (hs : strB (decT n) = s)
    (hS : wr.cell? ⟨N, 0, none⟩ = some (.int .i64 a) ∧ wr.cell? ⟨N, 1, none⟩ = some (.int .i64 b) ∧ Below w0.heap.size w0 wr ∧ N < w0.heap.size) :
    Calls Tryd.prog 33 #[.int .i64 n] wr fun e w' => e = .returned (.string s) ∧ (w'.cell? ⟨N, 0, none⟩ = some (.int .i64 a) ∧ w'.cell? ⟨N, 1, none⟩ = some (.int .i64 b) ∧ Below w0.heap.size w0 w' ∧ N < w0.heap.size) := by
  refine (refText9 n h1 (by omega) wr).mono ?_
  rintro e w' ⟨rfl, hB⟩
  exact ⟨by rw [hs], SB.below hS hB⟩
def crT : Option (List UInt8) → Value
  | none => .tuple #[.string ⟨#[]⟩, .bool false]
  | some t => .tuple #[.string (strB t), .bool true]
theorem cr_eq5 (r : Rg) (n : Int) : (⟨#[98, 121, 116, 101, 115, 32]⟩ : ByteArray) ++ strB (decT r.1) ++ (⟨#[45]⟩ : ByteArray) ++ strB (decT (r.2 - 1)) ++ (⟨#[47]⟩ : ByteArray) ++ strB (decT n) = strB ([98, 121, 116, 101, 115, 32] ++ textR r ++ 47 :: decT n) := by
  apply ByteArray.ext; simp [strB, textR]
theorem add_run {P : Program} {a b c : ByteArray} (h : a ++ b = c) (ha : a.size ≤ 1000000000) (hb : b.size ≤ 1000000000) (w : World) : (Op.stringOp .add a b).run P w = .ok (.string c) w := by rw [run_string_add_sum w a b (by omega), h]
set_option maxHeartbeats 8000000 in
set_option maxRecDepth 100000 in
theorem refCR_any (r : Rg) (n : Int) (w : World) :
    Calls Tryd.prog 20 #[rgV r, .int .i64 n] w fun e w' => e = .returned (crT (crR r n)) ∧ Below w.heap.size w w' := by
  have HIP := Lib.hid (fun (w : World) => proper_any r w)
  by_cases h1 : properR r
  · have hd : decide (properR r) = true := decide_eq_true h1
    rw [hd] at HIP
    have h0 := h1
    obtain ⟨a, b⟩ := r
    obtain ⟨k1, k2, k3⟩ := h0
    simp only at k1 k2 k3
    clear hd
    go_enter Tryd.func20, Tryd.ntmps20
    go_wp2_with fail
    refine (HIP.out _).mono ?_
    rintro e w1 ⟨rfl, hB⟩
    have hT := (twoI_new w a b 43).below hB
    have hW := (below_new w (.cells #[.int .i64 a, .int .i64 b] 43)).trans (hB.mono (by simp))
    have HW := Lib.hid hW
    obtain ⟨c0, c1, f0, f1, hN⟩ := hT
    clear hB hW
    by_cases h2 : b ≤ n
    · by_cases h3 : n ≤ 999999999999999
      · obtain ⟨s1, hs1⟩ : ∃ s, strB (decT a) = s := ⟨_, rfl⟩
        obtain ⟨s2, hs2⟩ : ∃ s, strB (decT (b - 1)) = s := ⟨_, rfl⟩
        obtain ⟨s3, hs3⟩ : ∃ s, strB (decT n) = s := ⟨_, rfl⟩
        obtain ⟨t1, ht1⟩ : ∃ s, (⟨#[98, 121, 116, 101, 115, 32]⟩ : ByteArray) ++ s1 = s := ⟨_, rfl⟩
        obtain ⟨t2, ht2⟩ : ∃ s, t1 ++ (⟨#[45]⟩ : ByteArray) = s := ⟨_, rfl⟩
        obtain ⟨t3, ht3⟩ : ∃ s, t2 ++ s2 = s := ⟨_, rfl⟩
        obtain ⟨t4, ht4⟩ : ∃ s, t3 ++ (⟨#[47]⟩ : ByteArray) = s := ⟨_, rfl⟩
        obtain ⟨t5, ht5⟩ : ∃ s, t4 ++ s3 = s := ⟨_, rfl⟩
        have z1 := decT_size a (by omega)
        have z2 := decT_size (b - 1) (by omega)
        have z3 := decT_size n (by omega)
        rw [hs1] at z1
        rw [hs2] at z2
        rw [hs3] at z3
        have y1 : t1.size ≤ 26 := by rw [← ht1, ByteArray.size_append]; show 6 + s1.size ≤ 26; omega
        have y2 : t2.size ≤ 27 := by rw [← ht2, ByteArray.size_append]; show t1.size + 1 ≤ 27; omega
        have y3 : t3.size ≤ 47 := by rw [← ht3, ByteArray.size_append]; omega
        have y4 : t4.size ≤ 48 := by rw [← ht4, ByteArray.size_append]; show t3.size + 1 ≤ 48; omega
        have HV := Lib.hid (show crT (crR (a, b) n) = .tuple #[.string t5, .bool true] by
          rw [cr_yes h1 h2 h3, ← ht5, ← ht4, ← ht3, ← ht2, ← ht1, ← hs1, ← hs2, ← hs3, cr_eq5 (a, b) n]; rfl)
        have q1 : ∀ w : World, _ := fun w => add_run (P := Tryd.prog) ht1 (by show 6 ≤ _; omega) (by omega) w
        have q2 : ∀ w : World, _ := fun w => add_run (P := Tryd.prog) ht2 (by omega) (by show 1 ≤ _; omega) w
        have q3 : ∀ w : World, _ := fun w => add_run (P := Tryd.prog) ht3 (by omega) (by omega) w
        have q4 : ∀ w : World, _ := fun w => add_run (P := Tryd.prog) ht4 (by omega) (by show 1 ≤ _; omega) w
        have q5 : ∀ w : World, _ := fun w => add_run (P := Tryd.prog) ht5 (by omega) (by omega) w
        have HI1 := Lib.hid (fun (w0 wr : World) (N : Nat) => text_held (N := N) (w0 := w0) (wr := wr) (a := a) (b := b) a k1 (by omega) hs1)
        have HI2 := Lib.hid (fun (w0 wr : World) (N : Nat) => text_held (N := N) (w0 := w0) (wr := wr) (a := a) (b := b) (b - 1) (by omega) (by omega) hs2)
        have HI3 := Lib.hid (fun (w0 wr : World) (N : Nat) => text_held (N := N) (w0 := w0) (wr := wr) (a := a) (b := b) n (by omega) h3 hs3)
        clear ht1 ht2 ht3 ht4 ht5 hs1 hs2 hs3 y1 y2 y3 y4 z1 z2 z3
        have hw : IntKind.i64.wrap (b - 1) = b - 1 := IntWalk.i64_in _ (by omega)
        go_upto_region 3 with fail
        have hS : SB w.heap.size w1 a b w1.drew := ⟨c0, c1, (Below.refl _ _).drew, hN⟩
        generalize hNN : w.heap.size = N at *
        clear c0 c1 f0 f1
        go_region_held3 (fun w' => w'.cell? ⟨N, 0, none⟩ = some (.int .i64 a) ∧ w'.cell? ⟨N, 1, none⟩ = some (.int .i64 b) ∧ Below w1.heap.size w1 w' ∧ N < w1.heap.size)
          (first | (with_reducible exact h5) | (with_reducible exact hS))
          (first
            | (go_at_call_of 33 (Value.int .i64 a); refine (HI1.out _ _ _ (by assumption)).mono ?_; rintro e w' ⟨rfl, h5⟩)
            | (go_at_call_of 33 (Value.int .i64 n); refine (HI3.out _ _ _ (by assumption)).mono ?_; rintro e w' ⟨rfl, h5⟩)
            | (go_at_call 33; refine (HI2.out _ _ _ (by assumption)).mono ?_; rintro e w' ⟨rfl, h5⟩))
        have HB := Lib.hid (HW.out.trans (h5.2.2.1.mono (by rw [← hNN]; exact HW.out.size)))
        go_wp2_with fail
        go_ret2
        exact ⟨by rw [HV.out]; rfl, by rw [hNN]; exact HB.out⟩
      · have h3' : 999999999999999 < n := by omega
        have HR := Lib.hid (cr_no (r := (a, b)) (n := n) (fun h => h3 h.2.2))
        go_wp2_with fail
        go_ret2
        exact ⟨by rw [HR.out]; rfl, HW.out⟩
    · have h2' : n < b := by omega
      have HR := Lib.hid (cr_no (r := (a, b)) (n := n) (fun h => h2 h.2.1))
      go_wp2_with fail
      go_ret2
      exact ⟨by rw [HR.out]; rfl, HW.out⟩
  · have hd : decide (properR r) = false := decide_eq_false h1
    rw [hd] at HIP
    have HR := Lib.hid (cr_no (n := n) (fun h => h1 h.1))
    obtain ⟨a, b⟩ := r
    clear hd h1
    go_enter Tryd.func20, Tryd.ntmps20
    go_wp2_with fail
    refine (HIP.out _).mono ?_
    rintro e w1 ⟨rfl, hB⟩
    have HW := Lib.hid ((below_new w (.cells #[.int .i64 a, .int .i64 b] 43)).trans (hB.mono (by simp)))
    clear hB
    go_wp2_with fail
    go_ret2
    exact ⟨by rw [HR.out]; rfl, HW.out⟩
end Go.Proofs.YtdcnoegnkopfdaaDoor
