/- What the reference's digits and Reason return. -/
import Derived.Test.YtboemdhmmdcmpaaDoorGReason
import Derived.Deep.QuietTactic
import Derived.BigQuiet
import Derived.IntWalk
import Derived.Deep.RegionHeld3
import Derived.Laws.IdiomStrings
namespace Go.Proofs.YtboemdhmmdcmpaaDoor
open Go.RowKit

theorem conv3g (a b c : Int) (x y z : UInt8) (ha : a = (x.toNat : Int)) (hb : b = (y.toNat : Int)) (hc : c = (z.toNat : Int)) (W : World) :
    (convert 27 9 (.slice (some ⟨W.heap.size, 0, none⟩) 3 3)).run Tryd.prog (W.alloc (.cells #[.int .u8 a, .int .u8 b, .int .u8 c] 5)) = .ok (.string ⟨#[x, y, z]⟩) (W.alloc (.cells #[.int .u8 a, .int .u8 b, .int .u8 c] 5)) :=
  run_convert_bytes_back _ _ _ 5 ⟨W.heap.size, 0, none⟩ 3 [x, y, z] Tryd.underlying27 Tryd.underlying5 Tryd.underlying9 (fun j hj => by
    subst ha hb hc
    match j, hj with
    | 0, _ => simp [Addr.add]
    | 1, _ => simp [Addr.add]
    | 2, _ => simp [Addr.add])
set_option maxHeartbeats 2000000 in
set_option maxRecDepth 100000 in
theorem refDigits3_any (n : Nat) (h : n ≤ 999) (w : World) :
    Calls Tryd.prog 37 #[.int .i64 (n : Int)] w fun e w' => e = .returned (.string (strB (d3 n))) ∧ Below w.heap.size w w' := by
  obtain ⟨x, hx⟩ : ∃ x, x = UInt8.ofNat (48 + n / 100) := ⟨_, rfl⟩
  obtain ⟨y, hy⟩ : ∃ x, x = UInt8.ofNat (48 + n / 10 % 10) := ⟨_, rfl⟩
  obtain ⟨z, hz⟩ : ∃ x, x = UInt8.ofNat (48 + n % 10) := ⟨_, rfl⟩
  have hxn : x.toNat = 48 + n / 100 := by rw [hx]; simp; omega
  have hyn : y.toNat = 48 + n / 10 % 10 := by rw [hy]; simp; omega
  have hzn : z.toNat = 48 + n % 10 := by rw [hz]; simp; omega
  have HV := Lib.hid (show d3 n = [x, y, z] by unfold d3; rw [hx, hy, hz])
  have hcv := fun W => conv3g (48 + (n : Int) / 100) (48 + (n : Int) / 10 % 10) (48 + (n : Int) % 10) x y z (by omega) (by omega) (by omega) W
  clear hx hy hz hxn hyn hzn
  go_enter Tryd.func37, Tryd.ntmps37
  go_wp2
  go_ret
  exact ⟨by rw [HV.out]; rfl, below_new _ _⟩
/-- The rows of the reference's list. -/
def rowR (p : Nat × List UInt8) : List UInt8 := d3 p.1 ++ 32 :: p.2
theorem phr_ok : (phrases.all fun p => decide (reasonL p.1 = p.2)) = true := by decide +kernel
theorem phr_code : (phrases.all fun p => decide (100 ≤ p.1) && decide (p.1 ≤ 599)) = true := by decide +kernel
theorem d3_inj {a b : Nat} (ha : a ≤ 999) (hb : b ≤ 999) (h : d3 a = d3 b) : a = b := by
  unfold d3 at h
  simp only [List.cons.injEq, and_true] at h
  obtain ⟨h1, h2, h3⟩ := h
  have e1 := congrArg UInt8.toNat h1
  have e2 := congrArg UInt8.toNat h2
  have e3 := congrArg UInt8.toNat h3
  rw [UInt8.toNat_ofNat', UInt8.toNat_ofNat'] at e1 e2 e3
  omega
theorem row_len (p : Nat × List UInt8) : (strB (rowR p)).size = 4 + p.2.length := by rw [strB_size]; simp [rowR, d3]; omega
theorem row_head (p : Nat × List UInt8) : (strB (rowR p)).extract 0 3 = strB (d3 p.1) := strB_ext (by rw [seg_list, strB_list]; simp [rowR, d3])
theorem row_tail (p : Nat × List UInt8) : (strB (rowR p)).extract 4 (strB (rowR p)).size = strB p.2 := strB_ext (by
  rw [row_len, seg_list, strB_list, List.take_of_length_le (by simp [rowR, d3])]; simp [rowR, d3])
theorem reason_hit {n k : Nat} {p : Nat × List UInt8} (hp : phrases[k]? = some p) (h : d3 p.1 = d3 n) (hn : n ≤ 599) : reasonZ (n : Int) = p.2 := by
  have h1 := List.all_eq_true.1 phr_code p (List.mem_of_getElem? hp)
  have h2 := List.all_eq_true.1 phr_ok p (List.mem_of_getElem? hp)
  simp only [Bool.and_eq_true, decide_eq_true_eq] at h1 h2
  have := d3_inj (by omega) (by omega) h
  rw [reasonZ_nat, ← this]; exact h2
theorem reason_miss {n : Nat} (h : ∀ p ∈ phrases, d3 p.1 ≠ d3 n) : reasonZ (n : Int) = [] := by
  rw [reasonZ_nat]
  unfold reasonL
  have : phrases.find? (fun p => decide (p.1 = n)) = none := by
    rw [List.find?_eq_none]
    intro p hp
    have := h p hp
    simp only [decide_eq_true_eq]
    intro e; exact this (by rw [e])
  rw [this]; rfl
theorem phr_len : phrases.length = 34 := by decide +kernel
/-- The reference's loop over the phrases. -/
def RzRel (z : Int) (N : Nat) (w : World) (i : Value) (wr : World) : Prop :=
  ∃ k : Nat, i = .int .i64 k ∧ k ≤ 34 ∧ (∀ j p, phrases[j]? = some p → wr.cell? ⟨N, j, none⟩ = some (.string (strB (rowR p)))) ∧ N < wr.heap.size ∧ (∀ p ∈ phrases.take k, 100 ≤ z → z ≤ 599 → d3 p.1 ≠ d3 z.toNat) ∧ Below w.heap.size w wr
theorem cells_row (w : World) (cs : Array Value) (T : TypeId) (h : cs = (phrases.map fun p => Value.string (strB (rowR p))).toArray) : ∀ j p, phrases[j]? = some p → (w.alloc (.cells cs T)).cell? ⟨w.heap.size, j, none⟩ = some (.string (strB (rowR p))) := by
  intro j p hj
  rw [World.cell?_alloc_at _ _ _ _ rfl, h]
  simp [hj]
theorem take_phr {k : Nat} {p : Nat × List UInt8} (hp : phrases[k]? = some p) : phrases.take (k + 1) = phrases.take k ++ [p] := by rw [List.take_add_one, hp]; rfl
theorem phr_step {k : Nat} {p : Nat × List UInt8} {z : Int} (hp : phrases[k]? = some p) (h : ∀ p ∈ phrases.take k, 100 ≤ z → z ≤ 599 → d3 p.1 ≠ d3 z.toNat) (hn : 100 ≤ z → z ≤ 599 → d3 p.1 ≠ d3 z.toNat) : ∀ p ∈ phrases.take (k + 1), 100 ≤ z → z ≤ 599 → d3 p.1 ≠ d3 z.toNat := by
  rw [take_phr hp]
  intro q hq
  rcases List.mem_append.mp hq with hq | hq
  · exact h q hq
  · simp at hq; subst hq; exact hn
theorem dig_held {N k : Nat} {w0 wr : World} {s t : ByteArray} (n : Nat) (h : n ≤ 999) (ht : strB (d3 n) = t) (hS : wr.cell? ⟨N, k, none⟩ = some (.string s) ∧ Below w0.heap.size w0 wr ∧ N < w0.heap.size) :
    Calls Tryd.prog 37 #[.int .i64 (n : Int)] wr fun e w' => e = .returned (.string t) ∧ (w'.cell? ⟨N, k, none⟩ = some (.string s) ∧ Below w0.heap.size w0 w' ∧ N < w0.heap.size) := by
  refine (refDigits3_any n h wr).mono ?_
  rintro e w' ⟨rfl, hB⟩
  have := hS.2.1.size
  exact ⟨by rw [ht], (hB.cell (p := ⟨N, k, none⟩) (by show N < _; have := hS.2.2; omega)).trans hS.1, hS.2.1.trans (hB.mono this), hS.2.2⟩
set_option maxHeartbeats 8000000 in
set_option maxRecDepth 100000 in
theorem refReason_any (z : Int) (w : World) :
    Calls Tryd.prog 15 #[.int .i64 z] w fun e w' => e = .returned (.string (strB (reasonZ z))) ∧ Below w.heap.size w w' := by
  go_enter Tryd.func15, Tryd.ntmps15
  go_wp2
  go_loopw [4] (fun i wr => RzRel z w.heap.size w i wr) (fun i _ => 34 - (intOf i).toNat)
  case atStart =>
    refine ⟨0, rfl, by omega, cells_row w _ _ ?_, by simp, (fun p hp => by simp at hp), below_new _ _⟩
    kernel_rfl
  case round =>
    obtain ⟨k, rfl, hk, hc, hN, hm, hBr⟩ := hrel
    have hbr := hBr.size
    have HBR := Lib.hid hBr
    have HC := Lib.hid hc
    have HMM := Lib.hid hm
    clear hBr hc hm
    by_cases hlt : k < 34
    · obtain ⟨p, hp⟩ : ∃ p, phrases[k]? = some p := ⟨phrases[k]'(by rw [phr_len]; exact hlt), by simp⟩
      have HP := Lib.hid hp
      by_cases h1 : 100 ≤ z
      · by_cases h2 : z ≤ 599
        · obtain ⟨n, rfl⟩ : ∃ n : Nat, z = n := ⟨z.toNat, by omega⟩
          have hn : n ≤ 599 := by omega
          have hcell := HC.out k p hp
          obtain ⟨s, hs⟩ : ∃ s, strB (rowR p) = s := ⟨_, rfl⟩
          have hz : s.size = 4 + p.2.length := by rw [← hs]; exact row_len p
          have hz4 : 4 ≤ s.size := by omega
          have HH := Lib.hid (show s.extract 0 3 = strB (d3 p.1) by rw [← hs]; exact row_head p)
          have HTL := Lib.hid (show s.extract 4 s.size = strB p.2 by rw [← hs]; exact row_tail p)
          rw [hs] at hcell
          obtain ⟨t1, ht1⟩ : ∃ t, strB (d3 p.1) = t := ⟨_, rfl⟩
          obtain ⟨t2, ht2⟩ : ∃ t, strB (d3 n) = t := ⟨_, rfl⟩
          have q1 : ∀ w : World, (Instr.slice 9 (.string s) none (some (.int .i64 3)) none).run Tryd.prog w = .ok (.string t1) w := fun w => by
            rw [run_slice_string_h w 9 s Tryd.underlying9 .i64 3 (by omega) (by omega)]
            rw [← ht1, ← HH.out]; rfl
          have HD := Lib.hid (fun (w0 wr : World) (N k : Nat) => dig_held (N := N) (k := k) (w0 := w0) (wr := wr) (s := s) n (by omega) ht2)
          have hS : wr.drew.cell? ⟨w.heap.size, k, none⟩ = some (.string s) ∧ Below wr.heap.size wr wr.drew ∧ w.heap.size < wr.heap.size := ⟨hcell, (Below.refl _ _).drew, hN⟩
          by_cases hd : d3 p.1 = d3 n
          · have heq : (t1.toList == t2.toList) = true := by rw [← ht1, ← ht2, hd]; exact beq_self_eq_true _
            have HR := Lib.hid (reason_hit HP.out hd hn)
            clear hs hz hd ht1 ht2 hp hcell
            generalize hNN : w.heap.size = NN at *
            go_wp2_with fail
            go_region_held3 (fun w' => w'.cell? ⟨NN, k, none⟩ = some (.string s) ∧ Below wr.heap.size wr w' ∧ NN < wr.heap.size)
              (first | (with_reducible exact h5) | (with_reducible exact hS))
              ((go_at_call 37; refine (HD.out _ _ _ _ (by assumption)).mono ?_; rintro e w' ⟨rfl, h5⟩))
            have hcell := h5.1
            have HB5 := Lib.hid h5.2.1
            clear q1
            go_wp2_with fail
            go_ret
            subst hNN
            exact ⟨by rw [HR.out, ← HTL.out]; rfl, HBR.out.trans (HB5.out.mono hbr)⟩
          · have heq : (t1.toList == t2.toList) = false := by
              rw [← ht1, ← ht2, ByteArray.toList_eq, ByteArray.toList_eq, strB_list, strB_list]; simpa using hd
            have HN2 := Lib.hid (phr_step (z := (n : Int)) HP.out HMM.out (fun _ _ => by simpa using hd))
            clear hs hz hd ht1 ht2 hp hcell
            generalize hNN : w.heap.size = NN at *
            go_wp2_with fail
            go_region_held3 (fun w' => w'.cell? ⟨NN, k, none⟩ = some (.string s) ∧ Below wr.heap.size wr w' ∧ NN < wr.heap.size)
              (first | (with_reducible exact h5) | (with_reducible exact hS))
              ((go_at_call 37; refine (HD.out _ _ _ _ (by assumption)).mono ?_; rintro e w' ⟨rfl, h5⟩))
            have HB5 := Lib.hid h5.2.1
            clear q1
            go_wp2_with fail
            go_roundw
            case rel =>
              subst hNN
              exact ⟨k + 1, by go_num, by omega, fun j p hj => (HB5.out.cell (p := ⟨w.heap.size, j, none⟩) hN).trans (HC.out j p hj), Nat.lt_of_lt_of_le hN HB5.out.size, HN2.out, HBR.out.trans (HB5.out.mono hbr)⟩
            case measure => simp [intOf]; omega
        · have hd : decide (z ≤ 599) = false := decide_eq_false h2
          have HN2 := Lib.hid (phr_step HP.out HMM.out (fun _ h => absurd h h2))
          clear h2 hp
          go_wp2_with fail
          go_quiet (fail)
          go_wp2_with fail
          go_roundw
          case rel => exact ⟨k + 1, by go_num, by omega, fun j p hj => HC.out j p hj, hN, HN2.out, below_drewN HBR.out _⟩
          case measure => simp [intOf]; omega
      · have hd : decide (100 ≤ z) = false := decide_eq_false h1
        have HN2 := Lib.hid (phr_step HP.out HMM.out (fun h _ => absurd h h1))
        clear h1 hp
        go_wp2_with fail
        go_quiet (fail)
        go_wp2_with fail
        go_roundw
        case rel => exact ⟨k + 1, by go_num, by omega, fun j p hj => HC.out j p hj, hN, HN2.out, below_drewN HBR.out _⟩
        case measure => simp [intOf]; omega
    · have HR := Lib.hid (show reasonZ z = [] by
        by_cases h1 : 100 ≤ z
        · by_cases h2 : z ≤ 599
          · obtain ⟨n, rfl⟩ : ∃ n : Nat, z = n := ⟨z.toNat, by omega⟩
            refine reason_miss fun p hp => ?_
            have := HMM.out p (by rw [List.take_of_length_le (by rw [phr_len]; omega)]; exact hp) h1 h2
            simpa using this
          · exact reasonZ_neg (by omega)
        · exact reasonZ_neg (by omega))
      go_wp2_with fail
      go_ret
      exact ⟨by rw [HR.out]; rfl, HBR.out⟩
end Go.Proofs.YtboemdhmmdcmpaaDoor
