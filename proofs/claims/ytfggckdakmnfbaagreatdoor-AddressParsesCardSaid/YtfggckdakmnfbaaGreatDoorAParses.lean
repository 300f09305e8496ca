/- AddressParses: for every host and target the statement's function returns true: the walk. -/
import Derived.Test.YtfggckdakmnfbaaGreatDoorARefParse
import Derived.Test.YtfggckdakmnfbaaGreatDoorAAwake
import Derived.Test.YtfggckdakmnfbaaGreatDoorAReadS
import Derived.Test.YtfggckdakmnfbaaGreatDoorAValid
import Derived.Deep.RegionHeld3
import Derived.Deep.RegionWith
namespace Go.Proofs.YtfggckdakmnfbaaGreatDoor.parses
open Go.RowKit

abbrev cellsA (x : Adr) : Obj := .cells #[.string (strB x.h), .string (strB x.p), .string (strB x.q), .bool x.b] 24
abbrev cellsR (x : Adr) : Obj := .cells #[.string (strB x.h), .string (strB x.p), .string (strB x.q), .bool x.b] 29
theorem keep {x : Adr} {M N : Nat} {w wr w2 : World} (hS : wr.cell? ⟨M, 0, none⟩ = some (.string (strB x.h)) ∧ wr.cell? ⟨M, 1, none⟩ = some (.string (strB x.p)) ∧ wr.cell? ⟨M, 2, none⟩ = some (.string (strB x.q)) ∧ wr.cell? ⟨M, 3, none⟩ = some (.bool x.b) ∧ wr.cell? ⟨N, 0, none⟩ = some (.string (strB x.h)) ∧ wr.cell? ⟨N, 1, none⟩ = some (.string (strB x.p)) ∧ wr.cell? ⟨N, 2, none⟩ = some (.string (strB x.q)) ∧ wr.cell? ⟨N, 3, none⟩ = some (.bool x.b) ∧ M < wr.heap.size ∧ N < wr.heap.size ∧ Below w.heap.size w wr) (hB : Below wr.heap.size wr w2) :
    w2.cell? ⟨M, 0, none⟩ = some (.string (strB x.h)) ∧ w2.cell? ⟨M, 1, none⟩ = some (.string (strB x.p)) ∧ w2.cell? ⟨M, 2, none⟩ = some (.string (strB x.q)) ∧ w2.cell? ⟨M, 3, none⟩ = some (.bool x.b) ∧ w2.cell? ⟨N, 0, none⟩ = some (.string (strB x.h)) ∧ w2.cell? ⟨N, 1, none⟩ = some (.string (strB x.p)) ∧ w2.cell? ⟨N, 2, none⟩ = some (.string (strB x.q)) ∧ w2.cell? ⟨N, 3, none⟩ = some (.bool x.b) ∧ M < w2.heap.size ∧ N < w2.heap.size ∧ Below w.heap.size w w2 := by
  obtain ⟨a0, a1, a2, a3, b0, b1, b2, b3, hm, hn, hw⟩ := hS
  have c : ∀ k j : Nat, k < wr.heap.size → w2.cell? ⟨k, j, none⟩ = wr.cell? ⟨k, j, none⟩ := fun k j hk => hB.cell (p := ⟨k, j, none⟩) hk
  exact ⟨by rw [c _ _ hm]; exact a0, by rw [c _ _ hm]; exact a1, by rw [c _ _ hm]; exact a2, by rw [c _ _ hm]; exact a3, by rw [c _ _ hn]; exact b0, by rw [c _ _ hn]; exact b1, by rw [c _ _ hn]; exact b2, by rw [c _ _ hn]; exact b3, Nat.lt_of_lt_of_le hm hB.size, Nat.lt_of_lt_of_le hn hB.size, hw.trans (hB.mono hw.size)⟩
theorem code_of (h t : List UInt8) : (parseA h t).1 = 0 ∨ (parseA h t).1 = 5 ∨ (parseA h t).1 = 8 ∨ (parseA h t).1 = 27 := by
  unfold parseA
  split
  · simp
  · split
    · split <;> simp
    · simp
theorem num_any (n : Nat) (w : World) : Calls Tryz.prog 7 #[if n = 0 then .nilIface else errA n] w fun e w' => e = .returned (.int .i64 (n : Nat)) ∧ Below w.heap.size w w' := by
  by_cases h : n = 0
  · subst h
    exact (num_nil w).mono fun e w' ⟨he, hw⟩ => ⟨he, hw ▸ Below.refl _ _⟩
  · rw [if_neg h]
    exact (num_errno (n : Int) w).mono fun e w' ⟨he, hw⟩ => ⟨he, hw ▸ Below.refl _ _⟩
theorem num_in {x : Adr} {M N : Nat} {w wr : World} (n : Nat) (z : Int) (hz : z = n) (ev : Value) (hev : ev = if n = 0 then .nilIface else errA n) (hS : wr.cell? ⟨M, 0, none⟩ = some (.string (strB x.h)) ∧ wr.cell? ⟨M, 1, none⟩ = some (.string (strB x.p)) ∧ wr.cell? ⟨M, 2, none⟩ = some (.string (strB x.q)) ∧ wr.cell? ⟨M, 3, none⟩ = some (.bool x.b) ∧ wr.cell? ⟨N, 0, none⟩ = some (.string (strB x.h)) ∧ wr.cell? ⟨N, 1, none⟩ = some (.string (strB x.p)) ∧ wr.cell? ⟨N, 2, none⟩ = some (.string (strB x.q)) ∧ wr.cell? ⟨N, 3, none⟩ = some (.bool x.b) ∧ M < wr.heap.size ∧ N < wr.heap.size ∧ Below w.heap.size w wr) :
    Calls Tryz.prog 7 #[ev] wr fun e w' => e = .returned (.int .i64 z) ∧ w'.cell? ⟨M, 0, none⟩ = some (.string (strB x.h)) ∧ w'.cell? ⟨M, 1, none⟩ = some (.string (strB x.p)) ∧ w'.cell? ⟨M, 2, none⟩ = some (.string (strB x.q)) ∧ w'.cell? ⟨M, 3, none⟩ = some (.bool x.b) ∧ w'.cell? ⟨N, 0, none⟩ = some (.string (strB x.h)) ∧ w'.cell? ⟨N, 1, none⟩ = some (.string (strB x.p)) ∧ w'.cell? ⟨N, 2, none⟩ = some (.string (strB x.q)) ∧ w'.cell? ⟨N, 3, none⟩ = some (.bool x.b) ∧ M < w'.heap.size ∧ N < w'.heap.size ∧ Below w.heap.size w w' := by
  rw [hev, hz]
  exact (num_any n wr).mono fun e w' ⟨he, hB⟩ => ⟨he, keep hS hB⟩
theorem ref_in {x : Adr} {M N : Nat} {w wr : World} (hS : wr.cell? ⟨M, 0, none⟩ = some (.string (strB x.h)) ∧ wr.cell? ⟨M, 1, none⟩ = some (.string (strB x.p)) ∧ wr.cell? ⟨M, 2, none⟩ = some (.string (strB x.q)) ∧ wr.cell? ⟨M, 3, none⟩ = some (.bool x.b) ∧ wr.cell? ⟨N, 0, none⟩ = some (.string (strB x.h)) ∧ wr.cell? ⟨N, 1, none⟩ = some (.string (strB x.p)) ∧ wr.cell? ⟨N, 2, none⟩ = some (.string (strB x.q)) ∧ wr.cell? ⟨N, 3, none⟩ = some (.bool x.b) ∧ M < wr.heap.size ∧ N < wr.heap.size ∧ Below w.heap.size w wr) :
    Calls Tryz.prog 8 #[adrV x] wr fun e w' => e = .returned (adrV x) ∧ w'.cell? ⟨M, 0, none⟩ = some (.string (strB x.h)) ∧ w'.cell? ⟨M, 1, none⟩ = some (.string (strB x.p)) ∧ w'.cell? ⟨M, 2, none⟩ = some (.string (strB x.q)) ∧ w'.cell? ⟨M, 3, none⟩ = some (.bool x.b) ∧ w'.cell? ⟨N, 0, none⟩ = some (.string (strB x.h)) ∧ w'.cell? ⟨N, 1, none⟩ = some (.string (strB x.p)) ∧ w'.cell? ⟨N, 2, none⟩ = some (.string (strB x.q)) ∧ w'.cell? ⟨N, 3, none⟩ = some (.bool x.b) ∧ M < w'.heap.size ∧ N < w'.heap.size ∧ Below w.heap.size w w' :=
  (ref_any x wr).mono fun e w' ⟨he, hB⟩ => ⟨he, keep hS hB⟩
theorem valid_in {x : Adr} {M N : Nat} {w wr : World} (hE : Env w) (hx : AdrLe 10000 x) (hv : validA x = true) (hS : wr.cell? ⟨M, 0, none⟩ = some (.string (strB x.h)) ∧ wr.cell? ⟨M, 1, none⟩ = some (.string (strB x.p)) ∧ wr.cell? ⟨M, 2, none⟩ = some (.string (strB x.q)) ∧ wr.cell? ⟨M, 3, none⟩ = some (.bool x.b) ∧ wr.cell? ⟨N, 0, none⟩ = some (.string (strB x.h)) ∧ wr.cell? ⟨N, 1, none⟩ = some (.string (strB x.p)) ∧ wr.cell? ⟨N, 2, none⟩ = some (.string (strB x.q)) ∧ wr.cell? ⟨N, 3, none⟩ = some (.bool x.b) ∧ M < wr.heap.size ∧ N < wr.heap.size ∧ Below w.heap.size w wr) :
    Calls Tryz.prog 9 #[adrV x] wr fun e w' => e = .returned (.bool true) ∧ w'.cell? ⟨M, 0, none⟩ = some (.string (strB x.h)) ∧ w'.cell? ⟨M, 1, none⟩ = some (.string (strB x.p)) ∧ w'.cell? ⟨M, 2, none⟩ = some (.string (strB x.q)) ∧ w'.cell? ⟨M, 3, none⟩ = some (.bool x.b) ∧ w'.cell? ⟨N, 0, none⟩ = some (.string (strB x.h)) ∧ w'.cell? ⟨N, 1, none⟩ = some (.string (strB x.p)) ∧ w'.cell? ⟨N, 2, none⟩ = some (.string (strB x.q)) ∧ w'.cell? ⟨N, 3, none⟩ = some (.bool x.b) ∧ M < w'.heap.size ∧ N < w'.heap.size ∧ Below w.heap.size w w' :=
  (valid_any x wr (hE.below hS.2.2.2.2.2.2.2.2.2.2) hx).mono fun e w' ⟨he, hB⟩ => ⟨by rw [he, hv], keep hS hB⟩
set_option maxHeartbeats 4000000 in
set_option maxRecDepth 100000 in
theorem walk (s t : ByteArray) (w : World) (hE : Env w) (hs : s.size ≤ 140737488355328) (ht : t.size ≤ 140737488355328) :
    Calls Tryz.prog 3 #[.string s, .string t] w fun e w' => e = .returned (.bool true) ∧ Below w.heap.size w w' := by
  have HE := Lib.hid hE
  have HM := Lib.hid (show s.size ≤ maxLen by unfold maxLen; omega)
  clear hE
  by_cases h1 : 1500 < s.size + t.size
  · go_enter Tryz.func3, Tryz.ntmps3
    go_wp2_with fail
    refine (awake_any _ HE.out).mono ?_
    rintro e w1 ⟨rfl, hB1⟩
    have HB1 := Lib.hid hB1
    clear hB1
    go_wp2_with fail
    refine (awake_any _ (HE.out.below HB1.out)).mono ?_
    rintro e w2 ⟨rfl, hB2⟩
    go_wp2_with fail
    go_ret
    exact ⟨rfl, HB1.out.trans (hB2.mono HB1.out.size)⟩
  · obtain ⟨n, x, hx⟩ : ∃ n x, parseA s.data.toList t.data.toList = (n, x) := ⟨_, _, rfl⟩
    obtain ⟨ev, hev⟩ : ∃ ev : Value, ev = if n = 0 then .nilIface else errA n := ⟨_, rfl⟩
    have HP := Lib.hid (show parseV s.data.toList t.data.toList = .tuple #[adrV x, ev] by rw [parseV_of hx, hev])
    obtain ⟨z, hz⟩ : ∃ z : Int, z = (n : Int) := ⟨_, rfl⟩
    have HQ := Lib.hid (refParseV_of hx)
    rw [← hz] at HQ
    have HZ := Lib.hid hz
    clear hz
    have HEV := Lib.hid hev
    have hle : AdrLe 2000 x := by have := parse_le s.data.toList t.data.toList; rw [hx] at this; exact this
    have HLE := Lib.hid (show AdrLe 10000 x from ⟨by have := hle.1; omega, by have := hle.2.1; omega, by have := hle.2.2; omega⟩)
    have HV := Lib.hid (fun (h : n = 0) => validA_of (show parseA s.data.toList t.data.toList = (0, x) by rw [hx, h]))
    have hcode : n = 0 ∨ n = 5 ∨ n = 8 ∨ n = 27 := by have := code_of s.data.toList t.data.toList; rw [hx] at this; exact this
    have HCODE := Lib.hid hcode
    clear hx hle hev hcode
    go_enter Tryz.func3, Tryz.ntmps3
    go_wp2_with fail
    refine (awake_any _ HE.out).mono ?_
    rintro e w1 ⟨rfl, hB1⟩
    have HB1 := Lib.hid hB1
    clear hB1
    go_wp2_with fail
    refine (parse_any s t _ (HE.out.below HB1.out) HM.out (by omega)).mono ?_
    rintro e w2 ⟨rfl, hB2⟩
    rw [HP.out]
    have HB2 := Lib.hid (HB1.out.trans (hB2.mono HB1.out.size))
    clear hB2
    go_wp2_with fail
    have HB3 := Lib.hid (HB2.out.alloc HB2.out.size (cellsA x))
    have F1 := Lib.hid (four_new w2 (.string (strB x.h)) (.string (strB x.p)) (.string (strB x.q)) (.bool x.b) 24)
    generalize w2.alloc (.cells #[.string (strB x.h), .string (strB x.p), .string (strB x.q), .bool x.b] 24) = w3 at *
    generalize w2.heap.size = M at *
    refine (refParse_any s t _ (by omega) (by omega)).mono ?_
    rintro e w4 ⟨rfl, hB4⟩
    rw [HQ.out]
    have HB4 := Lib.hid (HB3.out.trans (hB4.mono HB3.out.size))
    have F2 := Lib.hid (F1.out.below hB4)
    clear hB4 F1
    go_upto_region 5 with fail
    have HB5 := Lib.hid (HB4.out.alloc HB4.out.size (cellsR x))
    have F3 := Lib.hid (F2.out.below (below_new w4 (cellsR x)))
    have G1 := Lib.hid (four_new w4 (.string (strB x.h)) (.string (strB x.p)) (.string (strB x.q)) (.bool x.b) 29)
    generalize w4.alloc (.cells #[.string (strB x.h), .string (strB x.p), .string (strB x.q), .bool x.b] 29) = w5 at *
    generalize w4.heap.size = N at *
    have hS : w5.cell? ⟨M, 0, none⟩ = some (.string (strB x.h)) ∧ w5.cell? ⟨M, 1, none⟩ = some (.string (strB x.p)) ∧ w5.cell? ⟨M, 2, none⟩ = some (.string (strB x.q)) ∧ w5.cell? ⟨M, 3, none⟩ = some (.bool x.b) ∧ w5.cell? ⟨N, 0, none⟩ = some (.string (strB x.h)) ∧ w5.cell? ⟨N, 1, none⟩ = some (.string (strB x.p)) ∧ w5.cell? ⟨N, 2, none⟩ = some (.string (strB x.q)) ∧ w5.cell? ⟨N, 3, none⟩ = some (.bool x.b) ∧ M < w5.heap.size ∧ N < w5.heap.size ∧ Below w.heap.size w w5 :=
      ⟨F3.out.1, F3.out.2.1, F3.out.2.2.1, F3.out.2.2.2.1, G1.out.1, G1.out.2.1, G1.out.2.2.1, G1.out.2.2.2.1, F3.out.2.2.2.2.2.2.2.2, G1.out.2.2.2.2.2.2.2.2, HB5.out⟩
    have hSd := keep hS ((Below.refl w5.heap.size w5).drew)
    clear F2 F3 G1 HB1 HB2 HB3 HB4 HB5
    rcases HCODE.out with hn | hn | hn | hn
    · have HVT := Lib.hid (HV.out hn)
      obtain rfl : z = 0 := by rw [HZ.out, hn]; rfl
      clear hn
      go_region_held3 (fun w' => w'.cell? ⟨M, 0, none⟩ = some (.string (strB x.h)) ∧ w'.cell? ⟨M, 1, none⟩ = some (.string (strB x.p)) ∧ w'.cell? ⟨M, 2, none⟩ = some (.string (strB x.q)) ∧ w'.cell? ⟨M, 3, none⟩ = some (.bool x.b) ∧ w'.cell? ⟨N, 0, none⟩ = some (.string (strB x.h)) ∧ w'.cell? ⟨N, 1, none⟩ = some (.string (strB x.p)) ∧ w'.cell? ⟨N, 2, none⟩ = some (.string (strB x.q)) ∧ w'.cell? ⟨N, 3, none⟩ = some (.bool x.b) ∧ M < w'.heap.size ∧ N < w'.heap.size ∧ Below w.heap.size w w')
        (first | (with_reducible exact h5) | (with_reducible exact hSd))
        (first
          | (go_at_call 7; refine (num_in n _ HZ.out ev HEV.out (by assumption)).mono ?_; rintro e w' ⟨rfl, h5⟩)
          | (go_at_call 8; refine (ref_in (by assumption)).mono ?_; rintro e w' ⟨rfl, h5⟩)
          | (go_at_call 9; refine (valid_in HE.out HLE.out HVT.out (by assumption)).mono ?_; rintro e w' ⟨rfl, h5⟩))
      go_wp2_with fail
      go_ret
      exact ⟨rfl, h5.2.2.2.2.2.2.2.2.2.2⟩
    · have HVT := HV
      obtain rfl : z = 5 := by rw [HZ.out, hn]; rfl
      clear hn
      go_region_with (first
          | (go_at_call 7; refine (num_in n _ HZ.out ev HEV.out hSd).mono ?_; rintro e w6 ⟨rfl, h5⟩; have h6 := h5; obtain ⟨q0, q1, q2, q3, q4, q5, q6, q7, q8, q9, q10⟩ := h6)
          | (go_at_call 8; refine (ref_in h5).mono ?_; rintro e w7 ⟨rfl, h7⟩; have h8 := h7; obtain ⟨r0, r1, r2, r3, r4, r5, r6, r7, r8, r9, r10⟩ := h8))
      all_goals
        go_wp2_with fail
        go_ret
        exact ⟨rfl, r10⟩
    · have HVT := HV
      obtain rfl : z = 8 := by rw [HZ.out, hn]; rfl
      clear hn
      go_region_with (first
          | (go_at_call 7; refine (num_in n _ HZ.out ev HEV.out hSd).mono ?_; rintro e w6 ⟨rfl, h5⟩; have h6 := h5; obtain ⟨q0, q1, q2, q3, q4, q5, q6, q7, q8, q9, q10⟩ := h6)
          | (go_at_call 8; refine (ref_in h5).mono ?_; rintro e w7 ⟨rfl, h7⟩; have h8 := h7; obtain ⟨r0, r1, r2, r3, r4, r5, r6, r7, r8, r9, r10⟩ := h8))
      all_goals
        go_wp2_with fail
        go_ret
        exact ⟨rfl, r10⟩
    · have HVT := HV
      obtain rfl : z = 27 := by rw [HZ.out, hn]; rfl
      clear hn
      go_region_with (first
          | (go_at_call 7; refine (num_in n _ HZ.out ev HEV.out hSd).mono ?_; rintro e w6 ⟨rfl, h5⟩; have h6 := h5; obtain ⟨q0, q1, q2, q3, q4, q5, q6, q7, q8, q9, q10⟩ := h6)
          | (go_at_call 8; refine (ref_in h5).mono ?_; rintro e w7 ⟨rfl, h7⟩; have h8 := h7; obtain ⟨r0, r1, r2, r3, r4, r5, r6, r7, r8, r9, r10⟩ := h8))
      all_goals
        go_wp2_with fail
        go_ret
        exact ⟨rfl, r10⟩
end Go.Proofs.YtfggckdakmnfbaaGreatDoor.parses
