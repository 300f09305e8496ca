import Derived.Test.YtieolalohindgaaGreatDoorPa14
import Derived.Test.YtieolalohindgaaGreatDoorPa16
import Derived.Deep.RegionWith
/- What add does to directives: an element of a list. -/
namespace Go.Proofs.YtieolalohindgaaGreatDoor
open Go.RowKit

theorem sw_any (m x : List UInt8) : ((strB m).toList == x) = decide (m = x) := by
  rw [ByteArray.toList_eq, strB_list]
  by_cases h : m = x
  · subst h; simp
  · simp [h]
/-- What Cut makes of an element: name, argument, whether there is one. -/
def CutD (e nm ar : List UInt8) (fd : Bool) : Prop :=
  nm.length ≤ e.length ∧ ar.length ≤ e.length ∧ (∀ d, elemD d e = putD d (lowS nm) (if fd = true then some ar else none)) ∧ (fd = false → ar = []) ∧
  ∀ w, MaxIs w → Calls Tryz.prog 79 #[.string (strB e), .string ⟨#[61]⟩] w fun en w' => en = .returned (.tuple #[.string (strB nm), .string (strB ar), .bool fd]) ∧ Below w.heap.size w w'
theorem cutD_ex (e : List UInt8) (he : e.length ≤ 1000000) : ∃ nm ar fd, CutD e nm ar fd := by
  cases hc : cutE e with
  | none =>
    refine ⟨e, [], false, Nat.le_refl _, by simp, fun d => ?_, fun _ => rfl, fun w hM => ?_⟩
    · unfold elemD; rw [hc]; rfl
    · obtain ⟨m, hm⟩ := hM
      refine (cutNone_any (strB e) m w (by rw [strB_size]; exact he) hm (by rw [strB_list]; exact hc)).mono ?_
      rintro en w' ⟨rfl, n, rfl⟩
      exact ⟨rfl, below_drewN (Below.refl _ _) n⟩
  | some p =>
    obtain ⟨a, b⟩ := p
    have hl := cutE_len hc
    refine ⟨a, b, true, by omega, by omega, fun d => ?_, (fun h => by cases h), fun w hM => ?_⟩
    · unfold elemD; rw [hc]; rfl
    · obtain ⟨m, hm⟩ := hM
      refine (cutSome_any (strB e) m w (by rw [strB_size]; exact he) hm (by rw [strB_list]; exact hc)).mono ?_
      rintro en w' ⟨rfl, n, rfl⟩
      exact ⟨rfl, below_drewN (Below.refl _ _) n⟩
theorem sec_none (c : Int) : (secL []).getD c = c := rfl
theorem argX_of {ar : List UInt8} {fd : Bool} (h : fd = false → ar = []) : argX (if fd = true then some ar else none) = (secL ar).getD 0 := by
  cases fd
  · rw [h rfl]; rfl
  · rfl
theorem argZ_of {ar : List UInt8} {fd : Bool} (h : fd = false → ar = []) : argZ (if fd = true then some ar else none) = (secL ar).getD 2147483647 := by
  cases fd
  · rw [h rfl]; rfl
  · rfl
theorem kind_big {m : List UInt8} (h0 : m ≠ nNS) (h1 : m ≠ nNC) (h2 : m ≠ nPR) (h3 : m ≠ nPU) (h4 : m ≠ nMR) (h5 : m ≠ nPX) (h6 : m ≠ nOC) (h7 : m ≠ nMA) (h8 : m ≠ nSA) (h9 : m ≠ nWS) (h10 : m ≠ nOE) (h11 : m ≠ nMS) (h12 : m ≠ nMF) : kindL m = 12 := by
  unfold kindL
  rw [if_neg h0, if_neg h1, if_neg h2, if_neg h3, if_neg h4, if_neg h5, if_neg h6, if_neg h7, if_neg h8, if_neg h9, if_neg h10, if_neg h11, if_neg h12]
def AddPost (N : Nat) (d : Dv) (w : World) (e : Ending) (w' : World) : Prop := e = .returned (.tuple #[]) ∧ DvB N w' d ∧ Only (· = N) w w'
/-- The world behind Cut and Lower, with the directives' cells. -/
theorem only_set {N : Nat} {w w1 : World} (h : Below w.heap.size w w1) (i : Nat) (v : Value) : Only (· = N) w (w1.setCell ⟨N, i, none⟩ v) :=
  (Only.below h).trans' (Only.set (X := (· = N)) rfl _ i v)
set_option maxHeartbeats 8000000 in
set_option maxRecDepth 100000 in
theorem add_nNS (N : Nat) (d : Dv) (e nm ar m : List UInt8) (fd : Bool) (w : World) (hC : CutD e nm ar fd) (hm : lowS nm = m) (h0 : m = nNS) (hD : DvB N w d) (_hN : Nor d) (hM : MaxIs w) (he : e.length ≤ 1000000) :
    Calls Tryz.prog 53 #[.pointer (some ⟨N, 0, none⟩), .string (strB e)] w fun en w' => AddPost N (elemD d e) w en w' := by
  obtain ⟨hl1, hl2, hel, hfd, hcc⟩ := hC
  have HC := Lib.hid hcc
  have HM := Lib.hid hM
  have HD := Lib.hid hD
  have hel1 := hel d
  rw [hm] at hel1
  have HL := Lib.hid (fun w => lower_any (strB nm) w (by rw [strB_size]; omega))
  rw [strB_list, hm] at HL
  have s0 : ((strB m).toList == [110, 111, 45, 115, 116, 111, 114, 101]) = true := by rw [sw_any]; exact decide_eq_true h0
  have hk : kindL m = 0 := by rw [h0]; decide
  have HE := Lib.hid (show elemD d e = { d with ns := true } by rw [hel1]; unfold putD; rw [hk]; rfl)
  clear hel1 hel hcc hM hD hm h0 hk
  clear _hN
  go_enter Tryz.func53, Tryz.ntmps53
  go_wp2_with fail
  refine (HC.out _ HM.out).mono ?_
  rintro en w0 ⟨rfl, hB0⟩
  have HB0 := Lib.hid hB0
  clear hB0
  go_wp2_with fail
  refine (HL.out _).mono ?_
  rintro en w1 ⟨rfl, hB1⟩
  have HB1 := Lib.hid (HB0.out.trans (hB1.mono HB0.out.size))
  have HD1 := Lib.hid (HD.out.below HB1.out)
  clear hB1
  obtain ⟨a0, a1, a2, a3, a4, a5, a6, a7, a8, a9, a10, a11, fa, la⟩ := HD1.out
  have fj := fa 0
  clear a1 a2 a3 a4 a5 a6 a7 a8 a9 a10 a11
  go_wp2_with fail
  go_end0
  exact ⟨rfl, by rw [HE.out]; exact HD1.out.set0 true, only_set HB1.out 0 _⟩
set_option maxHeartbeats 8000000 in
set_option maxRecDepth 100000 in
theorem add_nNC (N : Nat) (d : Dv) (e nm ar m : List UInt8) (fd : Bool) (w : World) (hC : CutD e nm ar fd) (hm : lowS nm = m) (h0 : m ≠ nNS) (h1 : m = nNC) (hD : DvB N w d) (_hN : Nor d) (hM : MaxIs w) (he : e.length ≤ 1000000) :
    Calls Tryz.prog 53 #[.pointer (some ⟨N, 0, none⟩), .string (strB e)] w fun en w' => AddPost N (elemD d e) w en w' := by
  obtain ⟨hl1, hl2, hel, hfd, hcc⟩ := hC
  have HC := Lib.hid hcc
  have HM := Lib.hid hM
  have HD := Lib.hid hD
  have hel1 := hel d
  rw [hm] at hel1
  have HL := Lib.hid (fun w => lower_any (strB nm) w (by rw [strB_size]; omega))
  rw [strB_list, hm] at HL
  have s0 : ((strB m).toList == [110, 111, 45, 115, 116, 111, 114, 101]) = false := by rw [sw_any]; exact decide_eq_false h0
  have s1 : ((strB m).toList == [110, 111, 45, 99, 97, 99, 104, 101]) = true := by rw [sw_any]; exact decide_eq_true h1
  have hk : kindL m = 1 := by rw [h1]; decide
  have HE := Lib.hid (show elemD d e = { d with nc := true } by rw [hel1]; unfold putD; rw [hk]; rfl)
  clear hel1 hel hcc hM hD hm h0 h1 hk
  clear _hN
  go_enter Tryz.func53, Tryz.ntmps53
  go_wp2_with fail
  refine (HC.out _ HM.out).mono ?_
  rintro en w0 ⟨rfl, hB0⟩
  have HB0 := Lib.hid hB0
  clear hB0
  go_wp2_with fail
  refine (HL.out _).mono ?_
  rintro en w1 ⟨rfl, hB1⟩
  have HB1 := Lib.hid (HB0.out.trans (hB1.mono HB0.out.size))
  have HD1 := Lib.hid (HD.out.below HB1.out)
  clear hB1
  obtain ⟨a0, a1, a2, a3, a4, a5, a6, a7, a8, a9, a10, a11, fa, la⟩ := HD1.out
  have fj := fa 1
  clear a0 a2 a3 a4 a5 a6 a7 a8 a9 a10 a11
  go_wp2_with fail
  go_end0
  exact ⟨rfl, by rw [HE.out]; exact HD1.out.set1 true, only_set HB1.out 1 _⟩
set_option maxHeartbeats 8000000 in
set_option maxRecDepth 100000 in
theorem add_nPR (N : Nat) (d : Dv) (e nm ar m : List UInt8) (fd : Bool) (w : World) (hC : CutD e nm ar fd) (hm : lowS nm = m) (h0 : m ≠ nNS) (h1 : m ≠ nNC) (h2 : m = nPR) (hD : DvB N w d) (_hN : Nor d) (hM : MaxIs w) (he : e.length ≤ 1000000) :
    Calls Tryz.prog 53 #[.pointer (some ⟨N, 0, none⟩), .string (strB e)] w fun en w' => AddPost N (elemD d e) w en w' := by
  obtain ⟨hl1, hl2, hel, hfd, hcc⟩ := hC
  have HC := Lib.hid hcc
  have HM := Lib.hid hM
  have HD := Lib.hid hD
  have hel1 := hel d
  rw [hm] at hel1
  have HL := Lib.hid (fun w => lower_any (strB nm) w (by rw [strB_size]; omega))
  rw [strB_list, hm] at HL
  have s0 : ((strB m).toList == [110, 111, 45, 115, 116, 111, 114, 101]) = false := by rw [sw_any]; exact decide_eq_false h0
  have s1 : ((strB m).toList == [110, 111, 45, 99, 97, 99, 104, 101]) = false := by rw [sw_any]; exact decide_eq_false h1
  have s2 : ((strB m).toList == [112, 114, 105, 118, 97, 116, 101]) = true := by rw [sw_any]; exact decide_eq_true h2
  have hk : kindL m = 2 := by rw [h2]; decide
  have HE := Lib.hid (show elemD d e = { d with pr := true } by rw [hel1]; unfold putD; rw [hk]; rfl)
  clear hel1 hel hcc hM hD hm h0 h1 h2 hk
  clear _hN
  go_enter Tryz.func53, Tryz.ntmps53
  go_wp2_with fail
  refine (HC.out _ HM.out).mono ?_
  rintro en w0 ⟨rfl, hB0⟩
  have HB0 := Lib.hid hB0
  clear hB0
  go_wp2_with fail
  refine (HL.out _).mono ?_
  rintro en w1 ⟨rfl, hB1⟩
  have HB1 := Lib.hid (HB0.out.trans (hB1.mono HB0.out.size))
  have HD1 := Lib.hid (HD.out.below HB1.out)
  clear hB1
  obtain ⟨a0, a1, a2, a3, a4, a5, a6, a7, a8, a9, a10, a11, fa, la⟩ := HD1.out
  have fj := fa 2
  clear a0 a1 a3 a4 a5 a6 a7 a8 a9 a10 a11
  go_wp2_with fail
  go_end0
  exact ⟨rfl, by rw [HE.out]; exact HD1.out.set2 true, only_set HB1.out 2 _⟩
set_option maxHeartbeats 8000000 in
set_option maxRecDepth 100000 in
theorem add_nPU (N : Nat) (d : Dv) (e nm ar m : List UInt8) (fd : Bool) (w : World) (hC : CutD e nm ar fd) (hm : lowS nm = m) (h0 : m ≠ nNS) (h1 : m ≠ nNC) (h2 : m ≠ nPR) (h3 : m = nPU) (hD : DvB N w d) (_hN : Nor d) (hM : MaxIs w) (he : e.length ≤ 1000000) :
    Calls Tryz.prog 53 #[.pointer (some ⟨N, 0, none⟩), .string (strB e)] w fun en w' => AddPost N (elemD d e) w en w' := by
  obtain ⟨hl1, hl2, hel, hfd, hcc⟩ := hC
  have HC := Lib.hid hcc
  have HM := Lib.hid hM
  have HD := Lib.hid hD
  have hel1 := hel d
  rw [hm] at hel1
  have HL := Lib.hid (fun w => lower_any (strB nm) w (by rw [strB_size]; omega))
  rw [strB_list, hm] at HL
  have s0 : ((strB m).toList == [110, 111, 45, 115, 116, 111, 114, 101]) = false := by rw [sw_any]; exact decide_eq_false h0
  have s1 : ((strB m).toList == [110, 111, 45, 99, 97, 99, 104, 101]) = false := by rw [sw_any]; exact decide_eq_false h1
  have s2 : ((strB m).toList == [112, 114, 105, 118, 97, 116, 101]) = false := by rw [sw_any]; exact decide_eq_false h2
  have s3 : ((strB m).toList == [112, 117, 98, 108, 105, 99]) = true := by rw [sw_any]; exact decide_eq_true h3
  have hk : kindL m = 3 := by rw [h3]; decide
  have HE := Lib.hid (show elemD d e = { d with pu := true } by rw [hel1]; unfold putD; rw [hk]; rfl)
  clear hel1 hel hcc hM hD hm h0 h1 h2 h3 hk
  clear _hN
  go_enter Tryz.func53, Tryz.ntmps53
  go_wp2_with fail
  refine (HC.out _ HM.out).mono ?_
  rintro en w0 ⟨rfl, hB0⟩
  have HB0 := Lib.hid hB0
  clear hB0
  go_wp2_with fail
  refine (HL.out _).mono ?_
  rintro en w1 ⟨rfl, hB1⟩
  have HB1 := Lib.hid (HB0.out.trans (hB1.mono HB0.out.size))
  have HD1 := Lib.hid (HD.out.below HB1.out)
  clear hB1
  obtain ⟨a0, a1, a2, a3, a4, a5, a6, a7, a8, a9, a10, a11, fa, la⟩ := HD1.out
  have fj := fa 3
  clear a0 a1 a2 a4 a5 a6 a7 a8 a9 a10 a11
  go_wp2_with fail
  go_end0
  exact ⟨rfl, by rw [HE.out]; exact HD1.out.set3 true, only_set HB1.out 3 _⟩
set_option maxHeartbeats 8000000 in
set_option maxRecDepth 100000 in
theorem add_nMR (N : Nat) (d : Dv) (e nm ar m : List UInt8) (fd : Bool) (w : World) (hC : CutD e nm ar fd) (hm : lowS nm = m) (h0 : m ≠ nNS) (h1 : m ≠ nNC) (h2 : m ≠ nPR) (h3 : m ≠ nPU) (h4 : m = nMR) (hD : DvB N w d) (_hN : Nor d) (hM : MaxIs w) (he : e.length ≤ 1000000) :
    Calls Tryz.prog 53 #[.pointer (some ⟨N, 0, none⟩), .string (strB e)] w fun en w' => AddPost N (elemD d e) w en w' := by
  obtain ⟨hl1, hl2, hel, hfd, hcc⟩ := hC
  have HC := Lib.hid hcc
  have HM := Lib.hid hM
  have HD := Lib.hid hD
  have hel1 := hel d
  rw [hm] at hel1
  have HL := Lib.hid (fun w => lower_any (strB nm) w (by rw [strB_size]; omega))
  rw [strB_list, hm] at HL
  have s0 : ((strB m).toList == [110, 111, 45, 115, 116, 111, 114, 101]) = false := by rw [sw_any]; exact decide_eq_false h0
  have s1 : ((strB m).toList == [110, 111, 45, 99, 97, 99, 104, 101]) = false := by rw [sw_any]; exact decide_eq_false h1
  have s2 : ((strB m).toList == [112, 114, 105, 118, 97, 116, 101]) = false := by rw [sw_any]; exact decide_eq_false h2
  have s3 : ((strB m).toList == [112, 117, 98, 108, 105, 99]) = false := by rw [sw_any]; exact decide_eq_false h3
  have s4 : ((strB m).toList == [109, 117, 115, 116, 45, 114, 101, 118, 97, 108, 105, 100, 97, 116, 101]) = true := by rw [sw_any]; exact decide_eq_true h4
  have hk : kindL m = 4 := by rw [h4]; decide
  have HE := Lib.hid (show elemD d e = { d with mr := true } by rw [hel1]; unfold putD; rw [hk]; rfl)
  clear hel1 hel hcc hM hD hm h0 h1 h2 h3 h4 hk
  clear _hN
  go_enter Tryz.func53, Tryz.ntmps53
  go_wp2_with fail
  refine (HC.out _ HM.out).mono ?_
  rintro en w0 ⟨rfl, hB0⟩
  have HB0 := Lib.hid hB0
  clear hB0
  go_wp2_with fail
  refine (HL.out _).mono ?_
  rintro en w1 ⟨rfl, hB1⟩
  have HB1 := Lib.hid (HB0.out.trans (hB1.mono HB0.out.size))
  have HD1 := Lib.hid (HD.out.below HB1.out)
  clear hB1
  obtain ⟨a0, a1, a2, a3, a4, a5, a6, a7, a8, a9, a10, a11, fa, la⟩ := HD1.out
  have fj := fa 4
  clear a0 a1 a2 a3 a5 a6 a7 a8 a9 a10 a11
  go_wp2_with fail
  go_end0
  exact ⟨rfl, by rw [HE.out]; exact HD1.out.set4 true, only_set HB1.out 4 _⟩
set_option maxHeartbeats 8000000 in
set_option maxRecDepth 100000 in
theorem add_nPX (N : Nat) (d : Dv) (e nm ar m : List UInt8) (fd : Bool) (w : World) (hC : CutD e nm ar fd) (hm : lowS nm = m) (h0 : m ≠ nNS) (h1 : m ≠ nNC) (h2 : m ≠ nPR) (h3 : m ≠ nPU) (h4 : m ≠ nMR) (h5 : m = nPX) (hD : DvB N w d) (_hN : Nor d) (hM : MaxIs w) (he : e.length ≤ 1000000) :
    Calls Tryz.prog 53 #[.pointer (some ⟨N, 0, none⟩), .string (strB e)] w fun en w' => AddPost N (elemD d e) w en w' := by
  obtain ⟨hl1, hl2, hel, hfd, hcc⟩ := hC
  have HC := Lib.hid hcc
  have HM := Lib.hid hM
  have HD := Lib.hid hD
  have hel1 := hel d
  rw [hm] at hel1
  have HL := Lib.hid (fun w => lower_any (strB nm) w (by rw [strB_size]; omega))
  rw [strB_list, hm] at HL
  have s0 : ((strB m).toList == [110, 111, 45, 115, 116, 111, 114, 101]) = false := by rw [sw_any]; exact decide_eq_false h0
  have s1 : ((strB m).toList == [110, 111, 45, 99, 97, 99, 104, 101]) = false := by rw [sw_any]; exact decide_eq_false h1
  have s2 : ((strB m).toList == [112, 114, 105, 118, 97, 116, 101]) = false := by rw [sw_any]; exact decide_eq_false h2
  have s3 : ((strB m).toList == [112, 117, 98, 108, 105, 99]) = false := by rw [sw_any]; exact decide_eq_false h3
  have s4 : ((strB m).toList == [109, 117, 115, 116, 45, 114, 101, 118, 97, 108, 105, 100, 97, 116, 101]) = false := by rw [sw_any]; exact decide_eq_false h4
  have s5 : ((strB m).toList == [112, 114, 111, 120, 121, 45, 114, 101, 118, 97, 108, 105, 100, 97, 116, 101]) = true := by rw [sw_any]; exact decide_eq_true h5
  have hk : kindL m = 4 := by rw [h5]; decide
  have HE := Lib.hid (show elemD d e = { d with mr := true } by rw [hel1]; unfold putD; rw [hk]; rfl)
  clear hel1 hel hcc hM hD hm h0 h1 h2 h3 h4 h5 hk
  clear _hN
  go_enter Tryz.func53, Tryz.ntmps53
  go_wp2_with fail
  refine (HC.out _ HM.out).mono ?_
  rintro en w0 ⟨rfl, hB0⟩
  have HB0 := Lib.hid hB0
  clear hB0
  go_wp2_with fail
  refine (HL.out _).mono ?_
  rintro en w1 ⟨rfl, hB1⟩
  have HB1 := Lib.hid (HB0.out.trans (hB1.mono HB0.out.size))
  have HD1 := Lib.hid (HD.out.below HB1.out)
  clear hB1
  obtain ⟨a0, a1, a2, a3, a4, a5, a6, a7, a8, a9, a10, a11, fa, la⟩ := HD1.out
  have fj := fa 4
  clear a0 a1 a2 a3 a5 a6 a7 a8 a9 a10 a11
  go_wp2_with fail
  go_end0
  exact ⟨rfl, by rw [HE.out]; exact HD1.out.set4 true, only_set HB1.out 4 _⟩
set_option maxHeartbeats 8000000 in
set_option maxRecDepth 100000 in
theorem add_nOC (N : Nat) (d : Dv) (e nm ar m : List UInt8) (fd : Bool) (w : World) (hC : CutD e nm ar fd) (hm : lowS nm = m) (h0 : m ≠ nNS) (h1 : m ≠ nNC) (h2 : m ≠ nPR) (h3 : m ≠ nPU) (h4 : m ≠ nMR) (h5 : m ≠ nPX) (h6 : m = nOC) (hD : DvB N w d) (_hN : Nor d) (hM : MaxIs w) (he : e.length ≤ 1000000) :
    Calls Tryz.prog 53 #[.pointer (some ⟨N, 0, none⟩), .string (strB e)] w fun en w' => AddPost N (elemD d e) w en w' := by
  obtain ⟨hl1, hl2, hel, hfd, hcc⟩ := hC
  have HC := Lib.hid hcc
  have HM := Lib.hid hM
  have HD := Lib.hid hD
  have hel1 := hel d
  rw [hm] at hel1
  have HL := Lib.hid (fun w => lower_any (strB nm) w (by rw [strB_size]; omega))
  rw [strB_list, hm] at HL
  have s0 : ((strB m).toList == [110, 111, 45, 115, 116, 111, 114, 101]) = false := by rw [sw_any]; exact decide_eq_false h0
  have s1 : ((strB m).toList == [110, 111, 45, 99, 97, 99, 104, 101]) = false := by rw [sw_any]; exact decide_eq_false h1
  have s2 : ((strB m).toList == [112, 114, 105, 118, 97, 116, 101]) = false := by rw [sw_any]; exact decide_eq_false h2
  have s3 : ((strB m).toList == [112, 117, 98, 108, 105, 99]) = false := by rw [sw_any]; exact decide_eq_false h3
  have s4 : ((strB m).toList == [109, 117, 115, 116, 45, 114, 101, 118, 97, 108, 105, 100, 97, 116, 101]) = false := by rw [sw_any]; exact decide_eq_false h4
  have s5 : ((strB m).toList == [112, 114, 111, 120, 121, 45, 114, 101, 118, 97, 108, 105, 100, 97, 116, 101]) = false := by rw [sw_any]; exact decide_eq_false h5
  have s6 : ((strB m).toList == [111, 110, 108, 121, 45, 105, 102, 45, 99, 97, 99, 104, 101, 100]) = true := by rw [sw_any]; exact decide_eq_true h6
  have hk : kindL m = 5 := by rw [h6]; decide
  have HE := Lib.hid (show elemD d e = { d with oc := true } by rw [hel1]; unfold putD; rw [hk]; rfl)
  clear hel1 hel hcc hM hD hm h0 h1 h2 h3 h4 h5 h6 hk
  clear _hN
  go_enter Tryz.func53, Tryz.ntmps53
  go_wp2_with fail
  refine (HC.out _ HM.out).mono ?_
  rintro en w0 ⟨rfl, hB0⟩
  have HB0 := Lib.hid hB0
  clear hB0
  go_wp2_with fail
  refine (HL.out _).mono ?_
  rintro en w1 ⟨rfl, hB1⟩
  have HB1 := Lib.hid (HB0.out.trans (hB1.mono HB0.out.size))
  have HD1 := Lib.hid (HD.out.below HB1.out)
  clear hB1
  obtain ⟨a0, a1, a2, a3, a4, a5, a6, a7, a8, a9, a10, a11, fa, la⟩ := HD1.out
  have fj := fa 5
  clear a0 a1 a2 a3 a4 a6 a7 a8 a9 a10 a11
  go_wp2_with fail
  go_end0
  exact ⟨rfl, by rw [HE.out]; exact HD1.out.set5 true, only_set HB1.out 5 _⟩
end Go.Proofs.YtieolalohindgaaGreatDoor

/- What add does to directives, continued. -/
namespace Go.Proofs.YtieolalohindgaaGreatDoor
open Go.RowKit

set_option maxHeartbeats 8000000 in
set_option maxRecDepth 100000 in
theorem add_nMA (N : Nat) (d : Dv) (e nm ar m : List UInt8) (fd : Bool) (w : World) (hC : CutD e nm ar fd) (hm : lowS nm = m) (h0 : m ≠ nNS) (h1 : m ≠ nNC) (h2 : m ≠ nPR) (h3 : m ≠ nPU) (h4 : m ≠ nMR) (h5 : m ≠ nPX) (h6 : m ≠ nOC) (h7 : m = nMA) (hD : DvB N w d) (hN : Nor d) (hM : MaxIs w) (he : e.length ≤ 1000000) :
    Calls Tryz.prog 53 #[.pointer (some ⟨N, 0, none⟩), .string (strB e)] w fun en w' => AddPost N (elemD d e) w en w' := by
  obtain ⟨hl1, hl2, hel, hfd, hcc⟩ := hC
  have HC := Lib.hid hcc
  have HM := Lib.hid hM
  have HD := Lib.hid hD
  have hel1 := hel d
  rw [hm] at hel1
  have HL := Lib.hid (fun w => lower_any (strB nm) w (by rw [strB_size]; omega))
  rw [strB_list, hm] at HL
  have s0 : ((strB m).toList == [110, 111, 45, 115, 116, 111, 114, 101]) = false := by rw [sw_any]; exact decide_eq_false h0
  have s1 : ((strB m).toList == [110, 111, 45, 99, 97, 99, 104, 101]) = false := by rw [sw_any]; exact decide_eq_false h1
  have s2 : ((strB m).toList == [112, 114, 105, 118, 97, 116, 101]) = false := by rw [sw_any]; exact decide_eq_false h2
  have s3 : ((strB m).toList == [112, 117, 98, 108, 105, 99]) = false := by rw [sw_any]; exact decide_eq_false h3
  have s4 : ((strB m).toList == [109, 117, 115, 116, 45, 114, 101, 118, 97, 108, 105, 100, 97, 116, 101]) = false := by rw [sw_any]; exact decide_eq_false h4
  have s5 : ((strB m).toList == [112, 114, 111, 120, 121, 45, 114, 101, 118, 97, 108, 105, 100, 97, 116, 101]) = false := by rw [sw_any]; exact decide_eq_false h5
  have s6 : ((strB m).toList == [111, 110, 108, 121, 45, 105, 102, 45, 99, 97, 99, 104, 101, 100]) = false := by rw [sw_any]; exact decide_eq_false h6
  have s7 : ((strB m).toList == [109, 97, 120, 45, 97, 103, 101]) = true := by rw [sw_any]; exact decide_eq_true h7
  have hk : kindL m = 6 := by rw [h7]; decide
  have HE := Lib.hid (show elemD d e = { d with ma := leastD d.ma ((secL ar).getD 0) } by rw [hel1]; unfold putD; rw [hk, argX_of hfd]; rfl)
  clear hel1 hel hcc hM hD hm h0 h1 h2 h3 h4 h5 h6 h7 hk
  have hNb := hN.ma
  clear hN
  go_enter Tryz.func53, Tryz.ntmps53
  go_wp2_with fail
  refine (HC.out _ HM.out).mono ?_
  rintro en w0 ⟨rfl, hB0⟩
  have HB0 := Lib.hid hB0
  clear hB0
  go_wp2_with fail
  refine (HL.out _).mono ?_
  rintro en w1 ⟨rfl, hB1⟩
  have HB1 := Lib.hid (HB0.out.trans (hB1.mono HB0.out.size))
  have HD1 := Lib.hid (HD.out.below HB1.out)
  clear hB1
  obtain ⟨a0, a1, a2, a3, a4, a5, a6, a7, a8, a9, a10, a11, fa, la⟩ := HD1.out
  have fj := fa 6
  clear a0 a1 a2 a3 a4 a5 a7 a8 a9 a10 a11
  have hsb := sec_bdD ar 0 (by omega)
  go_upto_region 16 with fail
  go_region_with (first
    | (go_at_call 80; refine (seconds_any ar 0 _ (by omega)).mono ?_; rintro en w2 ⟨rfl, hB2⟩; have b6 := (hB2.cell (p := ⟨N, 6, none⟩) (by simpa using la)).trans (by simpa using a6); have g6 := (hB2.frozen (p := ⟨N, 6, none⟩) (by simpa using la)).trans (by simpa using fj))
    | (go_at_call 55; refine (least_any d.ma ((secL ar).getD 0) _ ⟨by omega, by omega⟩ ⟨by omega, by omega⟩).mono ?_; rintro en w' ⟨rfl, rfl⟩))
  all_goals
    have HB2 := Lib.hid ((HB1.out.trans ((Below.refl _ _).drew.mono HB1.out.size)).trans (hB2.mono (by simpa using HB1.out.size)))
    have HD2 := Lib.hid ((HD1.out.below (Below.refl _ _).drew).below hB2)
    clear hB2
    go_wp2_with fail
    go_end0
    exact ⟨rfl, by rw [HE.out]; exact HD2.out.set6 (leastD d.ma ((secL ar).getD 0)), only_set HB2.out 6 _⟩
set_option maxHeartbeats 8000000 in
set_option maxRecDepth 100000 in
theorem add_nSA (N : Nat) (d : Dv) (e nm ar m : List UInt8) (fd : Bool) (w : World) (hC : CutD e nm ar fd) (hm : lowS nm = m) (h0 : m ≠ nNS) (h1 : m ≠ nNC) (h2 : m ≠ nPR) (h3 : m ≠ nPU) (h4 : m ≠ nMR) (h5 : m ≠ nPX) (h6 : m ≠ nOC) (h7 : m ≠ nMA) (h8 : m = nSA) (hD : DvB N w d) (hN : Nor d) (hM : MaxIs w) (he : e.length ≤ 1000000) :
    Calls Tryz.prog 53 #[.pointer (some ⟨N, 0, none⟩), .string (strB e)] w fun en w' => AddPost N (elemD d e) w en w' := by
  obtain ⟨hl1, hl2, hel, hfd, hcc⟩ := hC
  have HC := Lib.hid hcc
  have HM := Lib.hid hM
  have HD := Lib.hid hD
  have hel1 := hel d
  rw [hm] at hel1
  have HL := Lib.hid (fun w => lower_any (strB nm) w (by rw [strB_size]; omega))
  rw [strB_list, hm] at HL
  have s0 : ((strB m).toList == [110, 111, 45, 115, 116, 111, 114, 101]) = false := by rw [sw_any]; exact decide_eq_false h0
  have s1 : ((strB m).toList == [110, 111, 45, 99, 97, 99, 104, 101]) = false := by rw [sw_any]; exact decide_eq_false h1
  have s2 : ((strB m).toList == [112, 114, 105, 118, 97, 116, 101]) = false := by rw [sw_any]; exact decide_eq_false h2
  have s3 : ((strB m).toList == [112, 117, 98, 108, 105, 99]) = false := by rw [sw_any]; exact decide_eq_false h3
  have s4 : ((strB m).toList == [109, 117, 115, 116, 45, 114, 101, 118, 97, 108, 105, 100, 97, 116, 101]) = false := by rw [sw_any]; exact decide_eq_false h4
  have s5 : ((strB m).toList == [112, 114, 111, 120, 121, 45, 114, 101, 118, 97, 108, 105, 100, 97, 116, 101]) = false := by rw [sw_any]; exact decide_eq_false h5
  have s6 : ((strB m).toList == [111, 110, 108, 121, 45, 105, 102, 45, 99, 97, 99, 104, 101, 100]) = false := by rw [sw_any]; exact decide_eq_false h6
  have s7 : ((strB m).toList == [109, 97, 120, 45, 97, 103, 101]) = false := by rw [sw_any]; exact decide_eq_false h7
  have s8 : ((strB m).toList == [115, 45, 109, 97, 120, 97, 103, 101]) = true := by rw [sw_any]; exact decide_eq_true h8
  have hk : kindL m = 7 := by rw [h8]; decide
  have HE := Lib.hid (show elemD d e = { d with sa := leastD d.sa ((secL ar).getD 0) } by rw [hel1]; unfold putD; rw [hk, argX_of hfd]; rfl)
  clear hel1 hel hcc hM hD hm h0 h1 h2 h3 h4 h5 h6 h7 h8 hk
  have hNb := hN.sa
  clear hN
  go_enter Tryz.func53, Tryz.ntmps53
  go_wp2_with fail
  refine (HC.out _ HM.out).mono ?_
  rintro en w0 ⟨rfl, hB0⟩
  have HB0 := Lib.hid hB0
  clear hB0
  go_wp2_with fail
  refine (HL.out _).mono ?_
  rintro en w1 ⟨rfl, hB1⟩
  have HB1 := Lib.hid (HB0.out.trans (hB1.mono HB0.out.size))
  have HD1 := Lib.hid (HD.out.below HB1.out)
  clear hB1
  obtain ⟨a0, a1, a2, a3, a4, a5, a6, a7, a8, a9, a10, a11, fa, la⟩ := HD1.out
  have fj := fa 7
  clear a0 a1 a2 a3 a4 a5 a6 a8 a9 a10 a11
  have hsb := sec_bdD ar 0 (by omega)
  go_upto_region 18 with fail
  go_region_with (first
    | (go_at_call 80; refine (seconds_any ar 0 _ (by omega)).mono ?_; rintro en w2 ⟨rfl, hB2⟩; have b7 := (hB2.cell (p := ⟨N, 7, none⟩) (by simpa using la)).trans (by simpa using a7); have g7 := (hB2.frozen (p := ⟨N, 7, none⟩) (by simpa using la)).trans (by simpa using fj))
    | (go_at_call 55; refine (least_any d.sa ((secL ar).getD 0) _ ⟨by omega, by omega⟩ ⟨by omega, by omega⟩).mono ?_; rintro en w' ⟨rfl, rfl⟩))
  all_goals
    have HB2 := Lib.hid ((HB1.out.trans ((Below.refl _ _).drew.mono HB1.out.size)).trans (hB2.mono (by simpa using HB1.out.size)))
    have HD2 := Lib.hid ((HD1.out.below (Below.refl _ _).drew).below hB2)
    clear hB2
    go_wp2_with fail
    go_end0
    exact ⟨rfl, by rw [HE.out]; exact HD2.out.set7 (leastD d.sa ((secL ar).getD 0)), only_set HB2.out 7 _⟩
set_option maxHeartbeats 8000000 in
set_option maxRecDepth 100000 in
theorem add_nWS (N : Nat) (d : Dv) (e nm ar m : List UInt8) (fd : Bool) (w : World) (hC : CutD e nm ar fd) (hm : lowS nm = m) (h0 : m ≠ nNS) (h1 : m ≠ nNC) (h2 : m ≠ nPR) (h3 : m ≠ nPU) (h4 : m ≠ nMR) (h5 : m ≠ nPX) (h6 : m ≠ nOC) (h7 : m ≠ nMA) (h8 : m ≠ nSA) (h9 : m = nWS) (hD : DvB N w d) (hN : Nor d) (hM : MaxIs w) (he : e.length ≤ 1000000) :
    Calls Tryz.prog 53 #[.pointer (some ⟨N, 0, none⟩), .string (strB e)] w fun en w' => AddPost N (elemD d e) w en w' := by
  obtain ⟨hl1, hl2, hel, hfd, hcc⟩ := hC
  have HC := Lib.hid hcc
  have HM := Lib.hid hM
  have HD := Lib.hid hD
  have hel1 := hel d
  rw [hm] at hel1
  have HL := Lib.hid (fun w => lower_any (strB nm) w (by rw [strB_size]; omega))
  rw [strB_list, hm] at HL
  have s0 : ((strB m).toList == [110, 111, 45, 115, 116, 111, 114, 101]) = false := by rw [sw_any]; exact decide_eq_false h0
  have s1 : ((strB m).toList == [110, 111, 45, 99, 97, 99, 104, 101]) = false := by rw [sw_any]; exact decide_eq_false h1
  have s2 : ((strB m).toList == [112, 114, 105, 118, 97, 116, 101]) = false := by rw [sw_any]; exact decide_eq_false h2
  have s3 : ((strB m).toList == [112, 117, 98, 108, 105, 99]) = false := by rw [sw_any]; exact decide_eq_false h3
  have s4 : ((strB m).toList == [109, 117, 115, 116, 45, 114, 101, 118, 97, 108, 105, 100, 97, 116, 101]) = false := by rw [sw_any]; exact decide_eq_false h4
  have s5 : ((strB m).toList == [112, 114, 111, 120, 121, 45, 114, 101, 118, 97, 108, 105, 100, 97, 116, 101]) = false := by rw [sw_any]; exact decide_eq_false h5
  have s6 : ((strB m).toList == [111, 110, 108, 121, 45, 105, 102, 45, 99, 97, 99, 104, 101, 100]) = false := by rw [sw_any]; exact decide_eq_false h6
  have s7 : ((strB m).toList == [109, 97, 120, 45, 97, 103, 101]) = false := by rw [sw_any]; exact decide_eq_false h7
  have s8 : ((strB m).toList == [115, 45, 109, 97, 120, 97, 103, 101]) = false := by rw [sw_any]; exact decide_eq_false h8
  have s9 : ((strB m).toList == [115, 116, 97, 108, 101, 45, 119, 104, 105, 108, 101, 45, 114, 101, 118, 97, 108, 105, 100, 97, 116, 101]) = true := by rw [sw_any]; exact decide_eq_true h9
  have hk : kindL m = 8 := by rw [h9]; decide
  have HE := Lib.hid (show elemD d e = { d with ws := leastD d.ws ((secL ar).getD 0) } by rw [hel1]; unfold putD; rw [hk, argX_of hfd]; rfl)
  clear hel1 hel hcc hM hD hm h0 h1 h2 h3 h4 h5 h6 h7 h8 h9 hk
  have hNb := hN.ws
  clear hN
  go_enter Tryz.func53, Tryz.ntmps53
  go_wp2_with fail
  refine (HC.out _ HM.out).mono ?_
  rintro en w0 ⟨rfl, hB0⟩
  have HB0 := Lib.hid hB0
  clear hB0
  go_wp2_with fail
  refine (HL.out _).mono ?_
  rintro en w1 ⟨rfl, hB1⟩
  have HB1 := Lib.hid (HB0.out.trans (hB1.mono HB0.out.size))
  have HD1 := Lib.hid (HD.out.below HB1.out)
  clear hB1
  obtain ⟨a0, a1, a2, a3, a4, a5, a6, a7, a8, a9, a10, a11, fa, la⟩ := HD1.out
  have fj := fa 8
  clear a0 a1 a2 a3 a4 a5 a6 a7 a9 a10 a11
  have hsb := sec_bdD ar 0 (by omega)
  go_upto_region 20 with fail
  go_region_with (first
    | (go_at_call 80; refine (seconds_any ar 0 _ (by omega)).mono ?_; rintro en w2 ⟨rfl, hB2⟩; have b8 := (hB2.cell (p := ⟨N, 8, none⟩) (by simpa using la)).trans (by simpa using a8); have g8 := (hB2.frozen (p := ⟨N, 8, none⟩) (by simpa using la)).trans (by simpa using fj))
    | (go_at_call 55; refine (least_any d.ws ((secL ar).getD 0) _ ⟨by omega, by omega⟩ ⟨by omega, by omega⟩).mono ?_; rintro en w' ⟨rfl, rfl⟩))
  all_goals
    have HB2 := Lib.hid ((HB1.out.trans ((Below.refl _ _).drew.mono HB1.out.size)).trans (hB2.mono (by simpa using HB1.out.size)))
    have HD2 := Lib.hid ((HD1.out.below (Below.refl _ _).drew).below hB2)
    clear hB2
    go_wp2_with fail
    go_end0
    exact ⟨rfl, by rw [HE.out]; exact HD2.out.set8 (leastD d.ws ((secL ar).getD 0)), only_set HB2.out 8 _⟩
set_option maxHeartbeats 8000000 in
set_option maxRecDepth 100000 in
theorem add_nOE (N : Nat) (d : Dv) (e nm ar m : List UInt8) (fd : Bool) (w : World) (hC : CutD e nm ar fd) (hm : lowS nm = m) (h0 : m ≠ nNS) (h1 : m ≠ nNC) (h2 : m ≠ nPR) (h3 : m ≠ nPU) (h4 : m ≠ nMR) (h5 : m ≠ nPX) (h6 : m ≠ nOC) (h7 : m ≠ nMA) (h8 : m ≠ nSA) (h9 : m ≠ nWS) (h10 : m = nOE) (hD : DvB N w d) (hN : Nor d) (hM : MaxIs w) (he : e.length ≤ 1000000) :
    Calls Tryz.prog 53 #[.pointer (some ⟨N, 0, none⟩), .string (strB e)] w fun en w' => AddPost N (elemD d e) w en w' := by
  obtain ⟨hl1, hl2, hel, hfd, hcc⟩ := hC
  have HC := Lib.hid hcc
  have HM := Lib.hid hM
  have HD := Lib.hid hD
  have hel1 := hel d
  rw [hm] at hel1
  have HL := Lib.hid (fun w => lower_any (strB nm) w (by rw [strB_size]; omega))
  rw [strB_list, hm] at HL
  have s0 : ((strB m).toList == [110, 111, 45, 115, 116, 111, 114, 101]) = false := by rw [sw_any]; exact decide_eq_false h0
  have s1 : ((strB m).toList == [110, 111, 45, 99, 97, 99, 104, 101]) = false := by rw [sw_any]; exact decide_eq_false h1
  have s2 : ((strB m).toList == [112, 114, 105, 118, 97, 116, 101]) = false := by rw [sw_any]; exact decide_eq_false h2
  have s3 : ((strB m).toList == [112, 117, 98, 108, 105, 99]) = false := by rw [sw_any]; exact decide_eq_false h3
  have s4 : ((strB m).toList == [109, 117, 115, 116, 45, 114, 101, 118, 97, 108, 105, 100, 97, 116, 101]) = false := by rw [sw_any]; exact decide_eq_false h4
  have s5 : ((strB m).toList == [112, 114, 111, 120, 121, 45, 114, 101, 118, 97, 108, 105, 100, 97, 116, 101]) = false := by rw [sw_any]; exact decide_eq_false h5
  have s6 : ((strB m).toList == [111, 110, 108, 121, 45, 105, 102, 45, 99, 97, 99, 104, 101, 100]) = false := by rw [sw_any]; exact decide_eq_false h6
  have s7 : ((strB m).toList == [109, 97, 120, 45, 97, 103, 101]) = false := by rw [sw_any]; exact decide_eq_false h7
  have s8 : ((strB m).toList == [115, 45, 109, 97, 120, 97, 103, 101]) = false := by rw [sw_any]; exact decide_eq_false h8
  have s9 : ((strB m).toList == [115, 116, 97, 108, 101, 45, 119, 104, 105, 108, 101, 45, 114, 101, 118, 97, 108, 105, 100, 97, 116, 101]) = false := by rw [sw_any]; exact decide_eq_false h9
  have s10 : ((strB m).toList == [115, 116, 97, 108, 101, 45, 105, 102, 45, 101, 114, 114, 111, 114]) = true := by rw [sw_any]; exact decide_eq_true h10
  have hk : kindL m = 9 := by rw [h10]; decide
  have HE := Lib.hid (show elemD d e = { d with oe := leastD d.oe ((secL ar).getD 0) } by rw [hel1]; unfold putD; rw [hk, argX_of hfd]; rfl)
  clear hel1 hel hcc hM hD hm h0 h1 h2 h3 h4 h5 h6 h7 h8 h9 h10 hk
  have hNb := hN.oe
  clear hN
  go_enter Tryz.func53, Tryz.ntmps53
  go_wp2_with fail
  refine (HC.out _ HM.out).mono ?_
  rintro en w0 ⟨rfl, hB0⟩
  have HB0 := Lib.hid hB0
  clear hB0
  go_wp2_with fail
  refine (HL.out _).mono ?_
  rintro en w1 ⟨rfl, hB1⟩
  have HB1 := Lib.hid (HB0.out.trans (hB1.mono HB0.out.size))
  have HD1 := Lib.hid (HD.out.below HB1.out)
  clear hB1
  obtain ⟨a0, a1, a2, a3, a4, a5, a6, a7, a8, a9, a10, a11, fa, la⟩ := HD1.out
  have fj := fa 9
  clear a0 a1 a2 a3 a4 a5 a6 a7 a8 a10 a11
  have hsb := sec_bdD ar 0 (by omega)
  go_upto_region 22 with fail
  go_region_with (first
    | (go_at_call 80; refine (seconds_any ar 0 _ (by omega)).mono ?_; rintro en w2 ⟨rfl, hB2⟩; have b9 := (hB2.cell (p := ⟨N, 9, none⟩) (by simpa using la)).trans (by simpa using a9); have g9 := (hB2.frozen (p := ⟨N, 9, none⟩) (by simpa using la)).trans (by simpa using fj))
    | (go_at_call 55; refine (least_any d.oe ((secL ar).getD 0) _ ⟨by omega, by omega⟩ ⟨by omega, by omega⟩).mono ?_; rintro en w' ⟨rfl, rfl⟩))
  all_goals
    have HB2 := Lib.hid ((HB1.out.trans ((Below.refl _ _).drew.mono HB1.out.size)).trans (hB2.mono (by simpa using HB1.out.size)))
    have HD2 := Lib.hid ((HD1.out.below (Below.refl _ _).drew).below hB2)
    clear hB2
    go_wp2_with fail
    go_end0
    exact ⟨rfl, by rw [HE.out]; exact HD2.out.set9 (leastD d.oe ((secL ar).getD 0)), only_set HB2.out 9 _⟩
end Go.Proofs.YtieolalohindgaaGreatDoor

/- What add does to directives, continued. -/
namespace Go.Proofs.YtieolalohindgaaGreatDoor
open Go.RowKit

set_option maxHeartbeats 8000000 in
set_option maxRecDepth 100000 in
theorem add_nMS (N : Nat) (d : Dv) (e nm ar m : List UInt8) (fd : Bool) (w : World) (hC : CutD e nm ar fd) (hm : lowS nm = m) (h0 : m ≠ nNS) (h1 : m ≠ nNC) (h2 : m ≠ nPR) (h3 : m ≠ nPU) (h4 : m ≠ nMR) (h5 : m ≠ nPX) (h6 : m ≠ nOC) (h7 : m ≠ nMA) (h8 : m ≠ nSA) (h9 : m ≠ nWS) (h10 : m ≠ nOE) (h11 : m = nMS) (hD : DvB N w d) (hN : Nor d) (hM : MaxIs w) (he : e.length ≤ 1000000) :
    Calls Tryz.prog 53 #[.pointer (some ⟨N, 0, none⟩), .string (strB e)] w fun en w' => AddPost N (elemD d e) w en w' := by
  obtain ⟨hl1, hl2, hel, hfd, hcc⟩ := hC
  have HC := Lib.hid hcc
  have HM := Lib.hid hM
  have HD := Lib.hid hD
  have hel1 := hel d
  rw [hm] at hel1
  have HL := Lib.hid (fun w => lower_any (strB nm) w (by rw [strB_size]; omega))
  rw [strB_list, hm] at HL
  have s0 : ((strB m).toList == [110, 111, 45, 115, 116, 111, 114, 101]) = false := by rw [sw_any]; exact decide_eq_false h0
  have s1 : ((strB m).toList == [110, 111, 45, 99, 97, 99, 104, 101]) = false := by rw [sw_any]; exact decide_eq_false h1
  have s2 : ((strB m).toList == [112, 114, 105, 118, 97, 116, 101]) = false := by rw [sw_any]; exact decide_eq_false h2
  have s3 : ((strB m).toList == [112, 117, 98, 108, 105, 99]) = false := by rw [sw_any]; exact decide_eq_false h3
  have s4 : ((strB m).toList == [109, 117, 115, 116, 45, 114, 101, 118, 97, 108, 105, 100, 97, 116, 101]) = false := by rw [sw_any]; exact decide_eq_false h4
  have s5 : ((strB m).toList == [112, 114, 111, 120, 121, 45, 114, 101, 118, 97, 108, 105, 100, 97, 116, 101]) = false := by rw [sw_any]; exact decide_eq_false h5
  have s6 : ((strB m).toList == [111, 110, 108, 121, 45, 105, 102, 45, 99, 97, 99, 104, 101, 100]) = false := by rw [sw_any]; exact decide_eq_false h6
  have s7 : ((strB m).toList == [109, 97, 120, 45, 97, 103, 101]) = false := by rw [sw_any]; exact decide_eq_false h7
  have s8 : ((strB m).toList == [115, 45, 109, 97, 120, 97, 103, 101]) = false := by rw [sw_any]; exact decide_eq_false h8
  have s9 : ((strB m).toList == [115, 116, 97, 108, 101, 45, 119, 104, 105, 108, 101, 45, 114, 101, 118, 97, 108, 105, 100, 97, 116, 101]) = false := by rw [sw_any]; exact decide_eq_false h9
  have s10 : ((strB m).toList == [115, 116, 97, 108, 101, 45, 105, 102, 45, 101, 114, 114, 111, 114]) = false := by rw [sw_any]; exact decide_eq_false h10
  have s11 : ((strB m).toList == [109, 97, 120, 45, 115, 116, 97, 108, 101]) = true := by rw [sw_any]; exact decide_eq_true h11
  have hk : kindL m = 10 := by rw [h11]; decide
  have HE := Lib.hid (show elemD d e = { d with ms := leastD d.ms (argY (if fd = true then some ar else none)) } by rw [hel1]; unfold putD; rw [hk]; rfl)
  clear hel1 hel hcc hM hD hm h0 h1 h2 h3 h4 h5 h6 h7 h8 h9 h10 h11 hk
  have hNb := hN.ms
  clear hN
  have hY : fd = true ∨ fd = false := by cases fd <;> simp
  rcases hY with rfl | rfl
  · have hsb := sec_bdD ar 0 (by omega)
    go_enter Tryz.func53, Tryz.ntmps53
    go_wp2_with fail
    refine (HC.out _ HM.out).mono ?_
    rintro en w0 ⟨rfl, hB0⟩
    have HB0 := Lib.hid hB0
    clear hB0
    go_wp2_with fail
    refine (HL.out _).mono ?_
    rintro en w1 ⟨rfl, hB1⟩
    have HB1 := Lib.hid (HB0.out.trans (hB1.mono HB0.out.size))
    have HD1 := Lib.hid (HD.out.below HB1.out)
    clear hB1
    obtain ⟨a0, a1, a2, a3, a4, a5, a6, a7, a8, a9, a10, a11, fa, la⟩ := HD1.out
    have fj := fa 10
    go_wp2_with fail
    refine (seconds_any ar 0 _ (by omega)).mono ?_
    rintro en w2 ⟨rfl, hB2⟩
    have b10 := (hB2.cell (p := ⟨N, 10, none⟩) la).trans a10
    have g10 := (hB2.frozen (p := ⟨N, 10, none⟩) la).trans fj
    have HB2 := Lib.hid (HB1.out.trans (hB2.mono HB1.out.size))
    have HD2 := Lib.hid (HD1.out.below hB2)
    clear hB2
    go_wp2_with fail
    refine (least_any d.ms ((secL ar).getD 0) _ ⟨by omega, by omega⟩ ⟨by omega, by omega⟩).mono ?_
    rintro en w' ⟨rfl, rfl⟩
    go_wp2_with fail
    go_end0
    exact ⟨rfl, by rw [HE.out]; exact HD2.out.set10 (leastD d.ms ((secL ar).getD 0)), only_set HB2.out 10 _⟩
  · have hz : ar = [] := hfd rfl
    go_enter Tryz.func53, Tryz.ntmps53
    go_wp2_with fail
    refine (HC.out _ HM.out).mono ?_
    rintro en w0 ⟨rfl, hB0⟩
    have HB0 := Lib.hid hB0
    clear hB0
    go_wp2_with fail
    refine (HL.out _).mono ?_
    rintro en w1 ⟨rfl, hB1⟩
    have HB1 := Lib.hid (HB0.out.trans (hB1.mono HB0.out.size))
    have HD1 := Lib.hid (HD.out.below HB1.out)
    clear hB1
    obtain ⟨a0, a1, a2, a3, a4, a5, a6, a7, a8, a9, a10, a11, fa, la⟩ := HD1.out
    have fj := fa 10
    go_wp2_with fail
    refine (least_any d.ms 2147483647 _ ⟨by omega, by omega⟩ ⟨by omega, by omega⟩).mono ?_
    rintro en w' ⟨rfl, rfl⟩
    go_wp2_with fail
    go_end0
    exact ⟨rfl, by rw [HE.out]; exact HD1.out.set10 (leastD d.ms 2147483647), only_set HB1.out 10 _⟩
set_option maxHeartbeats 8000000 in
set_option maxRecDepth 100000 in
theorem add_nMF (N : Nat) (d : Dv) (e nm ar m : List UInt8) (fd : Bool) (w : World) (hC : CutD e nm ar fd) (hm : lowS nm = m) (h0 : m ≠ nNS) (h1 : m ≠ nNC) (h2 : m ≠ nPR) (h3 : m ≠ nPU) (h4 : m ≠ nMR) (h5 : m ≠ nPX) (h6 : m ≠ nOC) (h7 : m ≠ nMA) (h8 : m ≠ nSA) (h9 : m ≠ nWS) (h10 : m ≠ nOE) (h11 : m ≠ nMS) (h12 : m = nMF) (hD : DvB N w d) (hN : Nor d) (hM : MaxIs w) (he : e.length ≤ 1000000) :
    Calls Tryz.prog 53 #[.pointer (some ⟨N, 0, none⟩), .string (strB e)] w fun en w' => AddPost N (elemD d e) w en w' := by
  obtain ⟨hl1, hl2, hel, hfd, hcc⟩ := hC
  have HC := Lib.hid hcc
  have HM := Lib.hid hM
  have HD := Lib.hid hD
  have hel1 := hel d
  rw [hm] at hel1
  have HL := Lib.hid (fun w => lower_any (strB nm) w (by rw [strB_size]; omega))
  rw [strB_list, hm] at HL
  have s0 : ((strB m).toList == [110, 111, 45, 115, 116, 111, 114, 101]) = false := by rw [sw_any]; exact decide_eq_false h0
  have s1 : ((strB m).toList == [110, 111, 45, 99, 97, 99, 104, 101]) = false := by rw [sw_any]; exact decide_eq_false h1
  have s2 : ((strB m).toList == [112, 114, 105, 118, 97, 116, 101]) = false := by rw [sw_any]; exact decide_eq_false h2
  have s3 : ((strB m).toList == [112, 117, 98, 108, 105, 99]) = false := by rw [sw_any]; exact decide_eq_false h3
  have s4 : ((strB m).toList == [109, 117, 115, 116, 45, 114, 101, 118, 97, 108, 105, 100, 97, 116, 101]) = false := by rw [sw_any]; exact decide_eq_false h4
  have s5 : ((strB m).toList == [112, 114, 111, 120, 121, 45, 114, 101, 118, 97, 108, 105, 100, 97, 116, 101]) = false := by rw [sw_any]; exact decide_eq_false h5
  have s6 : ((strB m).toList == [111, 110, 108, 121, 45, 105, 102, 45, 99, 97, 99, 104, 101, 100]) = false := by rw [sw_any]; exact decide_eq_false h6
  have s7 : ((strB m).toList == [109, 97, 120, 45, 97, 103, 101]) = false := by rw [sw_any]; exact decide_eq_false h7
  have s8 : ((strB m).toList == [115, 45, 109, 97, 120, 97, 103, 101]) = false := by rw [sw_any]; exact decide_eq_false h8
  have s9 : ((strB m).toList == [115, 116, 97, 108, 101, 45, 119, 104, 105, 108, 101, 45, 114, 101, 118, 97, 108, 105, 100, 97, 116, 101]) = false := by rw [sw_any]; exact decide_eq_false h9
  have s10 : ((strB m).toList == [115, 116, 97, 108, 101, 45, 105, 102, 45, 101, 114, 114, 111, 114]) = false := by rw [sw_any]; exact decide_eq_false h10
  have s11 : ((strB m).toList == [109, 97, 120, 45, 115, 116, 97, 108, 101]) = false := by rw [sw_any]; exact decide_eq_false h11
  have s12 : ((strB m).toList == [109, 105, 110, 45, 102, 114, 101, 115, 104]) = true := by rw [sw_any]; exact decide_eq_true h12
  have hk : kindL m = 11 := by rw [h12]; decide
  have HE := Lib.hid (show elemD d e = { d with mf := max d.mf ((secL ar).getD 2147483647) } by rw [hel1]; unfold putD; rw [hk, argZ_of hfd]; rfl)
  clear hel1 hel hcc hM hD hm h0 h1 h2 h3 h4 h5 h6 h7 h8 h9 h10 h11 h12 hk
  have hNb := hN.mf
  clear hN
  go_enter Tryz.func53, Tryz.ntmps53
  go_wp2_with fail
  refine (HC.out _ HM.out).mono ?_
  rintro en w0 ⟨rfl, hB0⟩
  have HB0 := Lib.hid hB0
  clear hB0
  go_wp2_with fail
  refine (HL.out _).mono ?_
  rintro en w1 ⟨rfl, hB1⟩
  have HB1 := Lib.hid (HB0.out.trans (hB1.mono HB0.out.size))
  have HD1 := Lib.hid (HD.out.below HB1.out)
  clear hB1
  obtain ⟨a0, a1, a2, a3, a4, a5, a6, a7, a8, a9, a10, a11, fa, la⟩ := HD1.out
  have fj := fa 11
  clear a0 a1 a2 a3 a4 a5 a6 a7 a8 a9 a10
  have hsb := sec_bdD ar 2147483647 (by omega)
  go_upto_region 29 with fail
  go_region_with (first
    | (go_at_call 80; refine (seconds_any ar 2147483647 _ (by omega)).mono ?_; rintro en w2 ⟨rfl, hB2⟩; have b11 := (hB2.cell (p := ⟨N, 11, none⟩) (by simpa using la)).trans (by simpa using a11); have g11 := (hB2.frozen (p := ⟨N, 11, none⟩) (by simpa using la)).trans (by simpa using fj)))
  all_goals
    have HB2 := Lib.hid ((HB1.out.trans ((Below.refl _ _).drew.mono HB1.out.size)).trans (hB2.mono (by simpa using HB1.out.size)))
    have HD2 := Lib.hid ((HD1.out.below (Below.refl _ _).drew).below hB2)
    clear hB2
    go_wp2_with fail
    go_end0
    exact ⟨rfl, by rw [HE.out]; exact HD2.out.set11 (max d.mf ((secL ar).getD 2147483647)), only_set HB2.out 11 _⟩
set_option maxHeartbeats 8000000 in
set_option maxRecDepth 100000 in
theorem add_other (N : Nat) (d : Dv) (e nm ar m : List UInt8) (fd : Bool) (w : World) (hC : CutD e nm ar fd) (hm : lowS nm = m) (h0 : m ≠ nNS) (h1 : m ≠ nNC) (h2 : m ≠ nPR) (h3 : m ≠ nPU) (h4 : m ≠ nMR) (h5 : m ≠ nPX) (h6 : m ≠ nOC) (h7 : m ≠ nMA) (h8 : m ≠ nSA) (h9 : m ≠ nWS) (h10 : m ≠ nOE) (h11 : m ≠ nMS) (h12 : m ≠ nMF) (hD : DvB N w d) (_hN : Nor d) (hM : MaxIs w) (he : e.length ≤ 1000000) :
    Calls Tryz.prog 53 #[.pointer (some ⟨N, 0, none⟩), .string (strB e)] w fun en w' => AddPost N (elemD d e) w en w' := by
  obtain ⟨hl1, hl2, hel, hfd, hcc⟩ := hC
  have HC := Lib.hid hcc
  have HM := Lib.hid hM
  have HD := Lib.hid hD
  have hel1 := hel d
  rw [hm] at hel1
  have HL := Lib.hid (fun w => lower_any (strB nm) w (by rw [strB_size]; omega))
  rw [strB_list, hm] at HL
  have s0 : ((strB m).toList == [110, 111, 45, 115, 116, 111, 114, 101]) = false := by rw [sw_any]; exact decide_eq_false h0
  have s1 : ((strB m).toList == [110, 111, 45, 99, 97, 99, 104, 101]) = false := by rw [sw_any]; exact decide_eq_false h1
  have s2 : ((strB m).toList == [112, 114, 105, 118, 97, 116, 101]) = false := by rw [sw_any]; exact decide_eq_false h2
  have s3 : ((strB m).toList == [112, 117, 98, 108, 105, 99]) = false := by rw [sw_any]; exact decide_eq_false h3
  have s4 : ((strB m).toList == [109, 117, 115, 116, 45, 114, 101, 118, 97, 108, 105, 100, 97, 116, 101]) = false := by rw [sw_any]; exact decide_eq_false h4
  have s5 : ((strB m).toList == [112, 114, 111, 120, 121, 45, 114, 101, 118, 97, 108, 105, 100, 97, 116, 101]) = false := by rw [sw_any]; exact decide_eq_false h5
  have s6 : ((strB m).toList == [111, 110, 108, 121, 45, 105, 102, 45, 99, 97, 99, 104, 101, 100]) = false := by rw [sw_any]; exact decide_eq_false h6
  have s7 : ((strB m).toList == [109, 97, 120, 45, 97, 103, 101]) = false := by rw [sw_any]; exact decide_eq_false h7
  have s8 : ((strB m).toList == [115, 45, 109, 97, 120, 97, 103, 101]) = false := by rw [sw_any]; exact decide_eq_false h8
  have s9 : ((strB m).toList == [115, 116, 97, 108, 101, 45, 119, 104, 105, 108, 101, 45, 114, 101, 118, 97, 108, 105, 100, 97, 116, 101]) = false := by rw [sw_any]; exact decide_eq_false h9
  have s10 : ((strB m).toList == [115, 116, 97, 108, 101, 45, 105, 102, 45, 101, 114, 114, 111, 114]) = false := by rw [sw_any]; exact decide_eq_false h10
  have s11 : ((strB m).toList == [109, 97, 120, 45, 115, 116, 97, 108, 101]) = false := by rw [sw_any]; exact decide_eq_false h11
  have s12 : ((strB m).toList == [109, 105, 110, 45, 102, 114, 101, 115, 104]) = false := by rw [sw_any]; exact decide_eq_false h12
  have HE := Lib.hid (show elemD d e = d by rw [hel1]; unfold putD; rw [kind_big h0 h1 h2 h3 h4 h5 h6 h7 h8 h9 h10 h11 h12]; rfl)
  clear hel1 hel hcc hM hD hm h0 h1 h2 h3 h4 h5 h6 h7 h8 h9 h10 h11 h12
  clear _hN
  go_enter Tryz.func53, Tryz.ntmps53
  go_wp2_with fail
  refine (HC.out _ HM.out).mono ?_
  rintro en w0 ⟨rfl, hB0⟩
  have HB0 := Lib.hid hB0
  clear hB0
  go_wp2_with fail
  refine (HL.out _).mono ?_
  rintro en w1 ⟨rfl, hB1⟩
  have HB1 := Lib.hid (HB0.out.trans (hB1.mono HB0.out.size))
  have HD1 := Lib.hid (HD.out.below HB1.out)
  clear hB1
  go_wp2_with fail
  go_end0
  exact ⟨rfl, by rw [HE.out]; exact HD1.out, Only.below HB1.out⟩
end Go.Proofs.YtieolalohindgaaGreatDoor
