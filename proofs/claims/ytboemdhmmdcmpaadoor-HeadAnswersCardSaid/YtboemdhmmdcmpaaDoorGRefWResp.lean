/- What the reference's WriteResponse returns. -/
import Derived.Test.YtboemdhmmdcmpaaDoorGRefReason
import Derived.Test.YtboemdhmmdcmpaaDoorGRefBodyO
import Derived.Test.YtboemdhmmdcmpaaDoorGWResp
import Derived.Deep.DeepCutAuto
namespace Go.Proofs.YtboemdhmmdcmpaaDoor
open Go.RowKit

theorem stN_le (st : Int) : stN st ≤ 599 := by unfold stN; split <;> omega
theorem startR_eq (st : Int) : (⟨#[72, 84, 84, 80, 47, 49, 46, 49, 32]⟩ : ByteArray) ++ strB (d3 (stN st)) ++ (⟨#[32]⟩ : ByteArray) ++ strB (reasonZ st) ++ (⟨#[13, 10]⟩ : ByteArray) = strB (startP st ++ [13, 10]) := by
  have e : reasonL (stN st) = reasonZ st := by
    unfold stN
    by_cases h : st < 100 ∨ 599 < st
    · rw [if_pos h, reasonZ_neg h]; decide +kernel
    · rw [if_neg h, ← reasonZ_nat, Int.toNat_of_nonneg (by omega)]
  unfold startP
  rw [e]
  apply ByteArray.ext; simp [strB, verL]
theorem headR_eq (s : List UInt8) (ls : List (List UInt8)) : strB (s ++ [13, 10]) ++ strB (flat ls ++ [13, 10]) = strB (enc (s :: ls)) := by
  rw [enc_cons]
  unfold enc
  apply ByteArray.ext; simp [strB]
def RefRPost (st : Int) (fs : Fs) (w : World) (e : Ending) (w' : World) : Prop := e = .returned (.tuple #[.string (strB (wrP st fs).2), .int .i64 ((wrP st fs).1 : Int)]) ∧ Below w.heap.size w w'
theorem refR_err {st : Int} {fs : Fs} {w w' : World} {c : Nat} (h : wrP st fs = (c, [])) (hB : Below w.heap.size w w') : RefRPost st fs w (.returned (.tuple #[.string ⟨#[]⟩, .int .i64 (c : Int)])) w' := ⟨by rw [h]; rfl, hB⟩
/-- A response's box, and all that lay in w0. -/
@[reducible] def SRb (N : Nat) (st : Int) (v : Value) (w0 w' : World) : Prop :=
  w'.cell? ⟨N, 0, none⟩ = some (.int .i64 st) ∧ w'.cell? ⟨N, 1, none⟩ = some v ∧ Below w0.heap.size w0 w' ∧ N < w0.heap.size
theorem SRb.below {N : Nat} {st : Int} {v : Value} {w0 w1 w2 : World} (h : SRb N st v w0 w1) (hb : Below w1.heap.size w1 w2) : SRb N st v w0 w2 := by
  obtain ⟨h1, h2, h4, h5⟩ := h
  have hs := h4.size
  exact ⟨(hb.cell (p := ⟨N, 0, none⟩) (by show N < _; omega)).trans h1, (hb.cell (p := ⟨N, 1, none⟩) (by show N < _; omega)).trans h2, h4.trans (hb.mono hs), h5⟩
theorem srb_new (w : World) (st : Int) (v : Value) (T : TypeId) : SRb w.heap.size st v (w.alloc (.cells #[.int .i64 st, v] T)) (w.alloc (.cells #[.int .i64 st, v] T)).drew :=
  ⟨by show (w.alloc (.cells #[.int .i64 st, v] T)).cell? _ = _; rw [World.cell?_alloc_at _ _ _ _ rfl]; rfl, by show (w.alloc (.cells #[.int .i64 st, v] T)).cell? _ = _; rw [World.cell?_alloc_at _ _ _ _ rfl]; rfl, (Below.refl _ _).drew, by simp⟩
theorem digR_held {N : Nat} {st : Int} {v : Value} {w0 wr : World} {t : ByteArray} (n : Nat) (h : n ≤ 999) (ht : strB (d3 n) = t) (hS : SRb N st v w0 wr) :
    Calls Tryd.prog 37 #[.int .i64 (n : Int)] wr fun e w' => e = .returned (.string t) ∧ (w'.cell? ⟨N, 0, none⟩ = some (.int .i64 st) ∧ w'.cell? ⟨N, 1, none⟩ = some v ∧ Below w0.heap.size w0 w' ∧ N < w0.heap.size) := by
  refine (refDigits3_any n h wr).mono ?_
  rintro e w' ⟨rfl, hB⟩
  exact ⟨by rw [ht], SRb.below hS hB⟩
theorem reasR_held {N : Nat} {st : Int} {v : Value} {w0 wr : World} {t : ByteArray} (ht : strB (reasonZ st) = t) (hS : SRb N st v w0 wr) :
    Calls Tryd.prog 15 #[.int .i64 st] wr fun e w' => e = .returned (.string t) ∧ (w'.cell? ⟨N, 0, none⟩ = some (.int .i64 st) ∧ w'.cell? ⟨N, 1, none⟩ = some v ∧ Below w0.heap.size w0 w' ∧ N < w0.heap.size) := by
  refine (refReason_any st wr).mono ?_
  rintro e w' ⟨rfl, hB⟩
  exact ⟨by rw [ht], SRb.below hS hB⟩
theorem addR_run {P : Program} {a b c : ByteArray} (h : a ++ b = c) (ha : a.size ≤ 1000000000) (hb : b.size ≤ 1000000000) (w : World) : (Op.stringOp .add a b).run P w = .ok (.string c) w := by rw [run_string_add_sum w a b (by omega), h]
set_option maxHeartbeats 8000000 in
set_option maxRecDepth 100000 in
theorem refWriteResponse_any (st : Int) (fv : Value) (fs : Fs) (w : World) (hr : ReadsQ w fv fs) (hl : fs.length ≤ 1000) (hb : ∀ p ∈ fs, p.1.length + p.2.length ≤ 1000000) :
    Calls Tryd.prog 12 #[.agg #[.int .i64 st, fv]] w (RefRPost st fs w) := by
  have HR := Lib.hid hr
  have BO := Lib.hid (fun w (hr : ReadsQ w fv fs) => refBody_any fv fs w hr hl hb)
  have H5 := Lib.hid (fun h => wrP_large (st := st) (fs := fs) h)
  have H2 := Lib.hid (fun h => wrP_form (st := st) (fs := fs) h)
  have HR0 := Lib.hid (fun h => wrP_rest (st := st) (fs := fs) h)
  have hrl := reasonZ_len st
  obtain ⟨ao, cap, rfl, hc⟩ := hr
  have hB0 : Below w.heap.size w (w.alloc (.cells #[.int .i64 st, .slice ao fs.length cap] 24)) := below_new _ _
  have hrz : (strB (flat (fs.map (lineW nmO)) ++ [13, 10])).size = sizL fs + 2 := by rw [strB_size, List.length_append, sizL_lines]; rfl
  have hzl : sizL fs ≤ 1100000000 := by
    have h1 := sizL_le (M := 1000000) hb
    have h3 : fs.length * (1000000 + 4) ≤ 1000 * (1000000 + 4) := Nat.mul_le_mul_right _ hl
    omega
  clear hc hb
  obtain ⟨s1, hs1⟩ : ∃ s, strB (d3 (stN st)) = s := ⟨_, rfl⟩
  obtain ⟨s2, hs2⟩ : ∃ s, strB (reasonZ st) = s := ⟨_, rfl⟩
  obtain ⟨u1, hu1⟩ : ∃ s, (⟨#[72, 84, 84, 80, 47, 49, 46, 49, 32]⟩ : ByteArray) ++ s1 = s := ⟨_, rfl⟩
  obtain ⟨u2, hu2⟩ : ∃ s, u1 ++ (⟨#[32]⟩ : ByteArray) = s := ⟨_, rfl⟩
  obtain ⟨u3, hu3⟩ : ∃ s, u2 ++ s2 = s := ⟨_, rfl⟩
  obtain ⟨s4, hs4⟩ : ∃ s, u3 ++ (⟨#[13, 10]⟩ : ByteArray) = s := ⟨_, rfl⟩
  have z1 : s1.size = 3 := by rw [← hs1, strB_size]; rfl
  have z2 : s2.size = (reasonZ st).length := by rw [← hs2, strB_size]
  have y1 : u1.size = 12 := by rw [← hu1, ByteArray.size_append]; show 9 + s1.size = 12; omega
  have y2 : u2.size = 13 := by rw [← hu2, ByteArray.size_append]; show u1.size + 1 = 13; omega
  have y3 : u3.size = 13 + (reasonZ st).length := by rw [← hu3, ByteArray.size_append]; omega
  have hsz4 : s4.size = 13 + (reasonZ st).length + 2 := by rw [← hs4, ByteArray.size_append]; show u3.size + 2 = _; omega
  have HFIN := Lib.hid (show s4 ++ strB (flat (fs.map (lineW nmO)) ++ [13, 10]) = strB (enc (startP st :: fs.map (lineW nmO))) by
    rw [← hs4, ← hu3, ← hu2, ← hu1, ← hs1, ← hs2, startR_eq, headR_eq])
  have q1 : ∀ w : World, _ := fun w => addR_run (P := Tryd.prog) hu1 (by show 9 ≤ _; omega) (by omega) w
  have q2 : ∀ w : World, _ := fun w => addR_run (P := Tryd.prog) hu2 (by omega) (by show 1 ≤ _; omega) w
  have q3 : ∀ w : World, _ := fun w => addR_run (P := Tryd.prog) hu3 (by omega) (by omega) w
  have q4 : ∀ w : World, _ := fun w => addR_run (P := Tryd.prog) hs4 (by omega) (by show 2 ≤ _; omega) w
  clear hu1 hu2 hu3 hs4 z1 z2 y1 y2 y3
  by_cases hlo : st < 100
  · have HN := Lib.hid (show ((stN st : Nat) : Int) = 0 by unfold stN; rw [if_pos (.inl hlo)]; rfl)
    have HST := Lib.hid (show stB st = false by unfold stB; rw [decide_eq_false (by omega)]; rfl)
    go_enter Tryd.func12, Tryd.ntmps12
    have HD := Lib.hid (fun (w0 wr : World) (h : SRb w.heap.size st (.slice ao fs.length cap) w0 wr) => digR_held (w0 := w0) (wr := wr) (N := w.heap.size) (st := st) (v := .slice ao fs.length cap) (stN st) (by have := stN_le st; omega) hs1 h)
    have HRE := Lib.hid (fun (w0 wr : World) (h : SRb w.heap.size st (.slice ao fs.length cap) w0 wr) => reasR_held (w0 := w0) (wr := wr) (N := w.heap.size) (st := st) (v := .slice ao fs.length cap) hs2 h)
    rw [HN.out] at HD
    clear hs1 hs2
    go_upto_region 4 with fail
    have hS0 : SRb w.heap.size st (.slice ao fs.length cap) (w.alloc (.cells #[.int .i64 st, .slice ao fs.length cap] 24)) (w.alloc (.cells #[.int .i64 st, .slice ao fs.length cap] 24)).drew := srb_new _ _ _ _
    generalize hW : w.alloc (.cells #[.int .i64 st, .slice ao fs.length cap] 24) = W at *
    generalize hNN : w.heap.size = NN at *
    go_region_held3 (fun w' => w'.cell? ⟨NN, 0, none⟩ = some (.int .i64 st) ∧ w'.cell? ⟨NN, 1, none⟩ = some (.slice ao fs.length cap) ∧ Below W.heap.size W w' ∧ NN < W.heap.size)
      (first | (with_reducible exact h6) | (with_reducible exact h5) | (with_reducible exact hS0))
      (first
        | (go_at_call 37; refine (HD.out _ _ (by assumption)).mono ?_; rintro e w' ⟨rfl, h5⟩)
        | (go_at_call 15; refine (HRE.out _ _ (by assumption)).mono ?_; rintro e w' ⟨rfl, h6⟩))
    obtain ⟨b0, b1, hB6, hNW⟩ := h6
    subst hNN
    have HBW := Lib.hid (hB0.trans (hB6.mono hB0.size))
    clear q1 q2 q3 q4 hS0
    go_wp2_with fail
    refine (BO.out _ (HR.out.below HBW.out)).mono ?_
    rintro e w7 ⟨rfl, hB7⟩
    have b1 := (hB7.cell (p := ⟨w.heap.size, 1, none⟩) (by show w.heap.size < _; have := hB6.size; omega)).trans b1
    have HB7 := Lib.hid (HBW.out.trans (hB7.mono HBW.out.size))
    clear b0 hB7 hB6
    generalize hRB : strB (flat (fs.map (lineW nmO)) ++ [13, 10]) = RB at *
    have HRB := Lib.hid hRB
    clear hRB
    by_cases h0 : sizeC (13 + (reasonZ st).length) fs = 0
    · have hs0 : fs.length ≤ 64 ∧ 13 + (reasonZ st).length + 4 + sizL fs ≤ 8192 := by
        unfold sizeC at h0
        by_cases h1 : 64 < fs.length ∨ 8192 < 13 + (reasonZ st).length + 4 + sizL fs
        · rw [if_pos h1] at h0; exact absurd h0 (by decide)
        · omega
      obtain ⟨hs1, hs2⟩ := hs0
      have HE := Lib.hid (H2.out h0 HST.out)
      clear h0
      go_wp2_with fail
      go_ret2
      exact refR_err HE.out HB7.out
    · obtain ⟨h5, h6⟩ := H5.out h0
      have HE := Lib.hid h6
      have hs0 : 64 < fs.length ∨ 8192 < 13 + (reasonZ st).length + 4 + sizL fs := by
        unfold sizeC at h0
        by_cases h1 : 64 < fs.length ∨ 8192 < 13 + (reasonZ st).length + 4 + sizL fs
        · exact h1
        · rw [if_neg h1] at h0; exact absurd rfl h0
      clear h0 h5 h6
      by_cases h64 : 64 < fs.length
      · clear hs0
        go_wp2_with fail
        go_ret2
        exact refR_err HE.out HB7.out
      · have hs1 : 8192 < 13 + (reasonZ st).length + 4 + sizL fs := by omega
        clear hs0
        go_wp2_with fail
        go_ret2
        exact refR_err HE.out HB7.out
  · by_cases hhi : 599 < st
    · have HN := Lib.hid (show ((stN st : Nat) : Int) = 0 by unfold stN; rw [if_pos (.inr hhi)]; rfl)
      have HST := Lib.hid (show stB st = false by unfold stB; rw [decide_eq_false (by omega : ¬ st ≤ 599), Bool.and_false])
      have hlo' : 100 ≤ st := by omega
      clear hlo
      go_enter Tryd.func12, Tryd.ntmps12
      have HD := Lib.hid (fun (w0 wr : World) (h : SRb w.heap.size st (.slice ao fs.length cap) w0 wr) => digR_held (w0 := w0) (wr := wr) (N := w.heap.size) (st := st) (v := .slice ao fs.length cap) (stN st) (by have := stN_le st; omega) hs1 h)
      have HRE := Lib.hid (fun (w0 wr : World) (h : SRb w.heap.size st (.slice ao fs.length cap) w0 wr) => reasR_held (w0 := w0) (wr := wr) (N := w.heap.size) (st := st) (v := .slice ao fs.length cap) hs2 h)
      rw [HN.out] at HD
      clear hs1 hs2
      go_upto_region 4 with fail
      have hS0 : SRb w.heap.size st (.slice ao fs.length cap) (w.alloc (.cells #[.int .i64 st, .slice ao fs.length cap] 24)) (w.alloc (.cells #[.int .i64 st, .slice ao fs.length cap] 24)).drew := srb_new _ _ _ _
      generalize hW : w.alloc (.cells #[.int .i64 st, .slice ao fs.length cap] 24) = W at *
      generalize hNN : w.heap.size = NN at *
      go_region_held3 (fun w' => w'.cell? ⟨NN, 0, none⟩ = some (.int .i64 st) ∧ w'.cell? ⟨NN, 1, none⟩ = some (.slice ao fs.length cap) ∧ Below W.heap.size W w' ∧ NN < W.heap.size)
        (first | (with_reducible exact h6) | (with_reducible exact h5) | (with_reducible exact hS0))
        (first
          | (go_at_call 37; refine (HD.out _ _ (by assumption)).mono ?_; rintro e w' ⟨rfl, h5⟩)
          | (go_at_call 15; refine (HRE.out _ _ (by assumption)).mono ?_; rintro e w' ⟨rfl, h6⟩))
      obtain ⟨b0, b1, hB6, hNW⟩ := h6
      subst hNN
      have HBW := Lib.hid (hB0.trans (hB6.mono hB0.size))
      clear q1 q2 q3 q4 hS0
      go_wp2_with fail
      refine (BO.out _ (HR.out.below HBW.out)).mono ?_
      rintro e w7 ⟨rfl, hB7⟩
      have b1 := (hB7.cell (p := ⟨w.heap.size, 1, none⟩) (by show w.heap.size < _; have := hB6.size; omega)).trans b1
      have HB7 := Lib.hid (HBW.out.trans (hB7.mono HBW.out.size))
      clear b0 hB7 hB6
      generalize hRB : strB (flat (fs.map (lineW nmO)) ++ [13, 10]) = RB at *
      have HRB := Lib.hid hRB
      clear hRB
      by_cases h0 : sizeC (13 + (reasonZ st).length) fs = 0
      · have hs0 : fs.length ≤ 64 ∧ 13 + (reasonZ st).length + 4 + sizL fs ≤ 8192 := by
          unfold sizeC at h0
          by_cases h1 : 64 < fs.length ∨ 8192 < 13 + (reasonZ st).length + 4 + sizL fs
          · rw [if_pos h1] at h0; exact absurd h0 (by decide)
          · omega
        obtain ⟨hs1, hs2⟩ := hs0
        have HE := Lib.hid (H2.out h0 HST.out)
        clear h0
        go_wp2_with fail
        go_ret2
        exact refR_err HE.out HB7.out
      · obtain ⟨h5, h6⟩ := H5.out h0
        have HE := Lib.hid h6
        have hs0 : 64 < fs.length ∨ 8192 < 13 + (reasonZ st).length + 4 + sizL fs := by
          unfold sizeC at h0
          by_cases h1 : 64 < fs.length ∨ 8192 < 13 + (reasonZ st).length + 4 + sizL fs
          · exact h1
          · rw [if_neg h1] at h0; exact absurd rfl h0
        clear h0 h5 h6
        by_cases h64 : 64 < fs.length
        · clear hs0
          go_wp2_with fail
          go_ret2
          exact refR_err HE.out HB7.out
        · have hs1 : 8192 < 13 + (reasonZ st).length + 4 + sizL fs := by omega
          clear hs0
          go_wp2_with fail
          go_ret2
          exact refR_err HE.out HB7.out
    · have HN := Lib.hid (show ((stN st : Nat) : Int) = st by unfold stN; rw [if_neg (by omega)]; omega)
      have HST := Lib.hid (show stB st = true by unfold stB; rw [decide_eq_true (by omega), decide_eq_true (by omega)]; rfl)
      have hlo' : 100 ≤ st := by omega
      have hhi' : st ≤ 599 := by omega
      have hnz : (st == 0) = false := by rw [beq_eq_false_iff_ne]; omega
      clear hlo hhi
      go_enter Tryd.func12, Tryd.ntmps12
      have HD := Lib.hid (fun (w0 wr : World) (h : SRb w.heap.size st (.slice ao fs.length cap) w0 wr) => digR_held (w0 := w0) (wr := wr) (N := w.heap.size) (st := st) (v := .slice ao fs.length cap) (stN st) (by have := stN_le st; omega) hs1 h)
      have HRE := Lib.hid (fun (w0 wr : World) (h : SRb w.heap.size st (.slice ao fs.length cap) w0 wr) => reasR_held (w0 := w0) (wr := wr) (N := w.heap.size) (st := st) (v := .slice ao fs.length cap) hs2 h)
      rw [HN.out] at HD
      clear hs1 hs2
      go_upto_region 4 with fail
      have hS0 : SRb w.heap.size st (.slice ao fs.length cap) (w.alloc (.cells #[.int .i64 st, .slice ao fs.length cap] 24)) (w.alloc (.cells #[.int .i64 st, .slice ao fs.length cap] 24)).drew := srb_new _ _ _ _
      generalize hW : w.alloc (.cells #[.int .i64 st, .slice ao fs.length cap] 24) = W at *
      generalize hNN : w.heap.size = NN at *
      go_region_held3 (fun w' => w'.cell? ⟨NN, 0, none⟩ = some (.int .i64 st) ∧ w'.cell? ⟨NN, 1, none⟩ = some (.slice ao fs.length cap) ∧ Below W.heap.size W w' ∧ NN < W.heap.size)
        (first | (with_reducible exact h6) | (with_reducible exact h5) | (with_reducible exact hS0))
        (first
          | (go_at_call 37; refine (HD.out _ _ (by assumption)).mono ?_; rintro e w' ⟨rfl, h5⟩)
          | (go_at_call 15; refine (HRE.out _ _ (by assumption)).mono ?_; rintro e w' ⟨rfl, h6⟩))
      obtain ⟨b0, b1, hB6, hNW⟩ := h6
      subst hNN
      have HBW := Lib.hid (hB0.trans (hB6.mono hB0.size))
      clear q1 q2 q3 q4 hS0
      go_wp2_with fail
      refine (BO.out _ (HR.out.below HBW.out)).mono ?_
      rintro e w7 ⟨rfl, hB7⟩
      have b1 := (hB7.cell (p := ⟨w.heap.size, 1, none⟩) (by show w.heap.size < _; have := hB6.size; omega)).trans b1
      have HB7 := Lib.hid (HBW.out.trans (hB7.mono HBW.out.size))
      clear b0 hB7 hB6
      generalize hRB : strB (flat (fs.map (lineW nmO)) ++ [13, 10]) = RB at *
      have HRB := Lib.hid hRB
      clear hRB
      by_cases h0 : sizeC (13 + (reasonZ st).length) fs = 0
      · have hs0 : fs.length ≤ 64 ∧ 13 + (reasonZ st).length + 4 + sizL fs ≤ 8192 := by
          unfold sizeC at h0
          by_cases h1 : 64 < fs.length ∨ 8192 < 13 + (reasonZ st).length + 4 + sizL fs
          · rw [if_pos h1] at h0; exact absurd h0 (by decide)
          · omega
        obtain ⟨hs1, hs2⟩ := hs0
        have HE := Lib.hid (HR0.out h0 HST.out)
        clear h0
        cases hg : goodB nmO vlO fs with
        | false =>
          have HE2 := Lib.hid (show wrP st fs = (25, []) by rw [HE.out, if_pos hg])
          clear hg
          go_wp2_with fail
          go_ret2
          exact refR_err HE2.out HB7.out
        | true =>
          have HE2 := Lib.hid (show wrP st fs = (0, enc (startP st :: fs.map (lineW nmO))) by rw [HE.out, if_neg (by rw [hg]; simp)])
          clear hg
          go_wp2_with fail
          refine bodyPost_ret (v := .tuple #[.string (s4 ++ RB), .int .i64 0]) (by simp [results, Tryd.results12, go_sem]) rfl ?_
          exact ⟨by rw [HE2.out, ← HFIN.out]; rfl, HB7.out⟩
      · obtain ⟨h5, h6⟩ := H5.out h0
        have HE := Lib.hid h6
        have hs0 : 64 < fs.length ∨ 8192 < 13 + (reasonZ st).length + 4 + sizL fs := by
          unfold sizeC at h0
          by_cases h1 : 64 < fs.length ∨ 8192 < 13 + (reasonZ st).length + 4 + sizL fs
          · exact h1
          · rw [if_neg h1] at h0; exact absurd rfl h0
        clear h0 h5 h6
        by_cases h64 : 64 < fs.length
        · clear hs0
          go_wp2_with fail
          go_ret2
          exact refR_err HE.out HB7.out
        · have hs1 : 8192 < 13 + (reasonZ st).length + 4 + sizL fs := by omega
          clear hs0
          go_wp2_with fail
          go_ret2
          exact refR_err HE.out HB7.out
end Go.Proofs.YtboemdhmmdcmpaaDoor
