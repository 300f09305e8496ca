import Derived.Test.YtfmgfcddnnggeaaGreatDoorPa38
import Derived.Test.YtfmgfcddnnggeaaGreatDoorPa36
/- ConnCloses: for every input the statement's function returns true: the walk. -/
namespace Go.Proofs.YtfmgfcddnnggeaaGreatDoor
open Go.RowKit

theorem sane_lit (a : Addr) (n : Nat) : Sane (.slice (some a) n n) := fun x m c e => by cases e; exact ⟨Nat.le_refl _, fun h => by cases h⟩
theorem reads_lit1 (w : World) (s : ByteArray) (l : List UInt8) (hs : s = strB l) : ReadsS (w.alloc (.cells #[.string s] 9)) (.slice (some ⟨w.heap.size, 0, none⟩) 1 1) [l] := by
  subst hs
  refine ⟨_, 1, rfl, fun j x hj => ⟨w.heap.size, 0, rfl, by simp, ?_⟩⟩
  rw [World.cell?_alloc_at _ _ _ _ rfl]
  match j, hj with
  | 0, hj => simp at hj; subst hj; rfl
  | j + 1, hj => simp at hj
set_option maxHeartbeats 8000000 in
set_option maxRecDepth 100000 in
theorem cn_closes_walk (s : ByteArray) (k : Nat) (w : World) (hM : HasMax w) (hk : k ≤ 255) :
    Calls Tryz.prog 4 #[.string s, .int .u8 k] w fun e w' => e = .returned (.bool true) ∧ Below w.heap.size w w' := by
  have HM := Lib.hid hM
  obtain ⟨j, hj⟩ : ∃ j : Nat, (k : Int) % 51 = (j : Int) := ⟨k % 51, by omega⟩
  have hj50 : j ≤ 50 := by omega
  have HJ := Lib.hid hj
  clear hM hj
  by_cases hs : 2000 < s.size
  · go_enter Tryz.func4, Tryz.ntmps4
    go_wp2_with fail
    refine (awake8_any w HM.out).mono ?_
    rintro e w1 ⟨rfl, hB⟩
    have HB := Lib.hid hB
    have HM1 := Lib.hid (HM.out.below hB)
    clear hB
    go_wp2_with fail
    refine (awake8_any w1 HM1.out).mono ?_
    rintro e w2 ⟨rfl, hB⟩
    have HB2 := Lib.hid (HB.out.trans (hB.mono HB.out.size))
    clear hB
    go_wp2_with fail
    go_ret
    exact ⟨rfl, HB2.out⟩
  · have hcb := fun (W : World) (s : ByteArray) => run_bytes_of_string (P := Tryz.prog) W 9 30 5 s Tryz.underlying9 Tryz.underlying30 Tryz.underlying5
    have kc := fun (w : World) (C : Array Value) (n c : Nat) => Lib.run_convert_bytes_const (P := Tryz.prog) w 30 5 C n c Tryz.underlying30 Tryz.underlying5
    obtain ⟨T, hT⟩ : ∃ T, (⟨#[72, 84, 84, 80, 47, 49, 46, 49, 32, 50, 48, 48, 32, 79, 75, 13, 10, 13, 10]⟩ : ByteArray) ++ s = T := ⟨_, rfl⟩
    have hTs : T.size ≤ 3000 := by rw [← hT, ByteArray.size_append]; have : ByteArray.size ⟨#[72, 84, 84, 80, 47, 49, 46, 49, 32, 50, 48, 48, 32, 79, 75, 13, 10, 13, 10]⟩ = 19 := rfl; omega
    have HTl := Lib.hid (show T.data.toList = okR ++ s.data.toList by rw [← hT]; simp [okR])
    go_enter Tryz.func4, Tryz.ntmps4
    go_wp2_with fail
    refine (awake8_any w HM.out).mono ?_
    rintro e w1 ⟨rfl, hB⟩
    have HB := Lib.hid hB
    have HM1 := Lib.hid (HM.out.below hB)
    clear hB
    have HRe := Lib.hid (responses_any (.slice (some ⟨w1.heap.size, 0, none⟩) 1 1) [getM] (w1.alloc (.cells #[.string ⟨#[71, 69, 84]⟩] 9)) (reads_lit1 w1 _ getM rfl) (sane_lit _ _) (by decide))
    go_wp2_with fail
    refine HRe.out.mono ?_
    rintro e w2 ⟨P, X, rfl, hC, hB⟩
    have HB2 := Lib.hid ((HB.out.alloc HB.out.size (.cells #[.string ⟨#[71, 69, 84]⟩] 9)).trans (hB.mono (by have := HB.out.size; simp; omega)))
    have HC := Lib.hid hC
    have hb1 : w.heap.size ≤ (w1.alloc (.cells #[.string ⟨#[71, 69, 84]⟩] 9)).heap.size := by have := HB.out.size; simp; omega
    have HX := Lib.hid (fun i hi => Nat.le_trans hb1 (hC.lt.2.2 i hi).1)
    have HM2 := Lib.hid (HM1.out.below (below_new w1 (.cells #[.string ⟨#[71, 69, 84]⟩] 9)))
    have hB2' := hB
    clear hC hB HRe hb1
    go_wp2_with fail
    refine (write_str T T.size w2 w2.heap.size rfl rfl HC.out (ok_resps _) ((MaxB.of HM2.out).to hB2') (by omega)).mono ?_
    intro en w3 hp
    rw [HTl.out] at hp
    obtain ⟨v, X3, B3, rfl, hX3, hC3, hL3, hO3⟩ := hp.of (okC_run s.data.toList) (okC_join _) (ev := .nilIface) rfl
    have HX3 := Lib.hid (show ∀ i, X3 i → w.heap.size ≤ i from fun i hi => (hX3 i hi).elim (HX.out i) (fun a => Nat.le_trans HB2.out.size a))
    have HB3 := Lib.hid (HB2.out.trans (hO3.to HX.out HB2.out.size))
    have HM3 := Lib.hid (((MaxB.of HM2.out).to hB2').to (hO3.to (fun i hi => (HC.out.lt.2.2 i hi).1) hB2'.size))
    have CL := Lib.hid (cnClose_any w3 hC3 (ok_to _ (ok_resps _) (okC_run s.data.toList)))
    have hX3l := fun i hi => (hC3.lt.2.2 i hi).2
    have HL3 := Lib.hid hL3
    obtain ⟨va, vc, rfl⟩ := hL3.isSlice
    clear hp hX3 hC3 hL3 hO3 hB2' HB2 HX HC HTl HM2 hTs
    generalize (w1.alloc (.cells #[.string ⟨#[71, 69, 84]⟩] 9)).heap.size = B at *
    go_wp2_with fail
    refine CL.out.mono ?_
    intro en w4 hp
    obtain ⟨v4, B4, rfl, hC4, hL4, hO4⟩ := close_of hp hX3l okC_close (ev := .nilIface) rfl
    have HL34 := HL3.out.only hO4
    have HB4 := Lib.hid (HB3.out.trans (hO4.to HX3.out HB3.out.size))
    have HC4 := Lib.hid hC4
    have HM4 := Lib.hid (HM3.out.to (hO4.to (fun i hi => (hC4.lt.2.2 i hi).1) (by have := hC4.lt.2.2 P hC4.lt.2.1; have := hX3l P hC4.lt.2.1; omega)))
    obtain ⟨g4, c4, rfl, hg4, h4⟩ := hL4.at (by simp)
    obtain ⟨q4, p4, d4, t4, e4, _, _, _, r4⟩ := h4 0 (endE okC) rfl
    obtain ⟨ta, tc, rfl, _⟩ := r4
    have f0 : w4.cell? ⟨g4, 0, none⟩ = some (.int .i64 3) := e4 0 _ rfl
    have f7 : w4.cell? ⟨g4, 7, none⟩ = some (.slice ta 0 tc) := e4 7 _ rfl
    obtain ⟨g3, c3, hv3, hg3, h3⟩ := HL34.at (by simp)
    by_cases hd : s.data.toList = []
    · have hl1 : (datL s.data.toList).length = 0 := by rw [hd]; rfl
      have e1 : s.toList.isEmpty = true := by rw [ByteArray.toList_eq, hd]; rfl
      obtain ⟨rfl, rfl⟩ : va = some ⟨g3, 0, none⟩ ∧ vc = c3 := by
        simp only [Value.slice.injEq] at hv3
        exact ⟨hv3.1, hv3.2.2⟩
      clear hp hC4 hL4 hO4 HL34 h4 e4 h3 hv3 hX3l CL HL3
      go_wp2_with fail
      refine (write_lit [120] 1 w4 rfl HC4.out okE_ok HM4.out (by decide)).mono ?_
      intro en w5 hp
      obtain ⟨v5, X5, B5, rfl, hX5, hC5, hL5, hO5⟩ := hp.of (okE_run 120 []) rfl (ev := .iface 32 (.int .i64 6)) rfl
      obtain ⟨va5, vc5, rfl⟩ := hL5.isSlice
      have HB5 := Lib.hid (HB4.out.trans (hO5.to HX3.out HB4.out.size))
      have HM5 := Lib.hid (HM.out.below HB5.out)
      clear hp hX5 hC5 hL5 hO5 HC4 HM4 HB4 HX3 HB3 HM3 hg3 hg4 f0 f7
      go_wp2_with fail
      refine (isErr_any 6 (by decide) _).mono ?_
      rintro e w' ⟨rfl, rfl⟩
      go_wp2_with fail
      rw [HJ.out]
      refine (requests_any w5).mono ?_
      rintro e w6 ⟨rfl, hC6, hB6⟩
      have HC6 := Lib.hid hC6
      have HB6 := Lib.hid (HB5.out.trans (hB6.mono HB5.out.size))
      have HM6 := Lib.hid ((MaxB.of HM5.out).to hB6)
      clear hC6 hB6 hl1 e1
      rcases (show j = 0 ∨ j = 50 ∨ (j ≠ 0 ∧ j ≠ 50) by omega) with rfl | rfl | ⟨n0, n50⟩
      · have hj1 : (cutW 0).er = 0 := (cutW_all 0 (by decide)).1
        have hc2 := len0 (cutW_all 0 (by decide)).2.1
        have hc3 : (closeC (cutW 0)).1.er = 0 := (cutW_all 0 (by decide)).2.2.1
        have hc4 := len0 (cutW_all 0 (by decide)).2.2.2.1
        have hc5 : (closeC (closeC (cutW 0)).1).1.er = 0 := (cutW_all 0 (by decide)).2.2.2.2 (by decide)
        have HC1' := Lib.hid hj1
        have HC2' := Lib.hid hc2
        have HC3' := Lib.hid hc3
        have HC4' := Lib.hid hc4
        have HC5' := Lib.hid hc5
        clear hc4 hc5
        clear hj1 hc2 hc3
        go_wp2_with fail
        refine (write_str (whlB.extract 0 0) 0 w6 w6.heap.size (by rw [ByteArray.size_extract, whlB_size]; omega) rfl HC6.out ok_reqs HM6.out (by rw [ByteArray.size_extract, whlB_size]; omega)).mono ?_
        intro en w7 hp
        rw [show (whlB.extract 0 0).data.toList = whl.take 0 by rw [seg_list, whlB_list]; rfl] at hp
        obtain ⟨v7, X7, B7, rfl, hX7, hC7, hL7, hO7⟩ := hp.of (s' := cutW 0) (Prod.ext rfl rfl) rfl (ev := .nilIface) (by rw [HC1'.out]; rfl)
        have HX7 := Lib.hid (show ∀ i, X7 i → w.heap.size ≤ i from fun i hi => (hX7 i hi).elim (fun a => by have := HB5.out.size; omega) (fun a => Nat.le_trans HB6.out.size a))
        have HB7 := Lib.hid (HB6.out.trans (hO7.to (B := w.heap.size) (fun i hi => by have := HB5.out.size; omega) HB6.out.size))
        have HM7 := Lib.hid (HM6.out.to (hO7.to (B := w5.heap.size) (fun i hi => Nat.le_of_eq hi.symm) (by have := HC6.out.lt.1; omega)))
        have CL7 := Lib.hid (cnClose_any w7 hC7 (cutW_ok 0))
        have hX7l := fun i hi => (hC7.lt.2.2 i hi).2
        obtain ⟨va7, vc7, rfl⟩ := hL7.isSlice
        generalize (joinE (runC Cn.reqs (whl.take 0)).2).length = n7 at *
        clear hp hX7 hC7 hL7 hO7 HC6 HM6 HB6 HC1'
        go_wp2_with fail
        refine CL7.out.mono ?_
        intro en w8 hp
        obtain ⟨v8, B8, rfl, hC8, hL8, hO8⟩ := close_of hp hX7l (s' := (closeC (cutW 0)).1) (os := []) (Prod.ext rfl HC2'.out) (ev := .nilIface) (by rw [HC3'.out]; rfl)
        obtain ⟨va8, vc8, rfl⟩ := hL8.isSlice
        have HB8 := Lib.hid (HB7.out.trans (hO8.to HX7.out HB7.out.size))
        have hX8l := fun i hi => (hC8.lt.2.2 i hi).2
        have CL8 := Lib.hid (cnClose_any w8 hC8 (ok_closeC (cutW_ok 0)))
        clear hp hX7l hC8 hL8 hO8 CL7 HB7
        go_wp2_with fail
        refine CL8.out.mono ?_
        intro en w9 hp
        obtain ⟨v9, B9, rfl, hC9, hL9, hO9⟩ := close_of hp hX8l (s' := (closeC (closeC (cutW 0)).1).1) (os := []) (Prod.ext rfl HC4'.out) (ev := .nilIface) (by rw [HC5'.out]; rfl)
        obtain ⟨va9, vc9, rfl⟩ := hL9.isSlice
        have HB9 := Lib.hid (HB8.out.trans (hO9.to HX7.out HB8.out.size))
        clear hp hC9 hL9 hO9 hX8l CL8
        go_wp2_with fail
        go_ret
        exact ⟨rfl, HB9.out⟩
      · have hj1 : (cutW 50).er = 0 := (cutW_all 50 (by decide)).1
        have hc2 := len0 (cutW_all 50 (by decide)).2.1
        have hc3 : (closeC (cutW 50)).1.er = 0 := (cutW_all 50 (by decide)).2.2.1
        have hc4 := len0 (cutW_all 50 (by decide)).2.2.2.1
        have hc5 : (closeC (closeC (cutW 50)).1).1.er = 0 := (cutW_all 50 (by decide)).2.2.2.2 (by decide)
        have HC1' := Lib.hid hj1
        have HC2' := Lib.hid hc2
        have HC3' := Lib.hid hc3
        have HC4' := Lib.hid hc4
        have HC5' := Lib.hid hc5
        clear hc4 hc5
        clear hj1 hc2 hc3
        go_wp2_with fail
        refine (write_str (whlB.extract 0 50) 50 w6 w6.heap.size (by rw [ByteArray.size_extract, whlB_size]; omega) rfl HC6.out ok_reqs HM6.out (by rw [ByteArray.size_extract, whlB_size]; omega)).mono ?_
        intro en w7 hp
        rw [show (whlB.extract 0 50).data.toList = whl.take 50 by rw [seg_list, whlB_list]; rfl] at hp
        obtain ⟨v7, X7, B7, rfl, hX7, hC7, hL7, hO7⟩ := hp.of (s' := cutW 50) (Prod.ext rfl rfl) rfl (ev := .nilIface) (by rw [HC1'.out]; rfl)
        have HX7 := Lib.hid (show ∀ i, X7 i → w.heap.size ≤ i from fun i hi => (hX7 i hi).elim (fun a => by have := HB5.out.size; omega) (fun a => Nat.le_trans HB6.out.size a))
        have HB7 := Lib.hid (HB6.out.trans (hO7.to (B := w.heap.size) (fun i hi => by have := HB5.out.size; omega) HB6.out.size))
        have HM7 := Lib.hid (HM6.out.to (hO7.to (B := w5.heap.size) (fun i hi => Nat.le_of_eq hi.symm) (by have := HC6.out.lt.1; omega)))
        have CL7 := Lib.hid (cnClose_any w7 hC7 (cutW_ok 50))
        have hX7l := fun i hi => (hC7.lt.2.2 i hi).2
        obtain ⟨va7, vc7, rfl⟩ := hL7.isSlice
        generalize (joinE (runC Cn.reqs (whl.take 50)).2).length = n7 at *
        clear hp hX7 hC7 hL7 hO7 HC6 HM6 HB6 HC1'
        go_wp2_with fail
        refine CL7.out.mono ?_
        intro en w8 hp
        obtain ⟨v8, B8, rfl, hC8, hL8, hO8⟩ := close_of hp hX7l (s' := (closeC (cutW 50)).1) (os := []) (Prod.ext rfl HC2'.out) (ev := .nilIface) (by rw [HC3'.out]; rfl)
        obtain ⟨va8, vc8, rfl⟩ := hL8.isSlice
        have HB8 := Lib.hid (HB7.out.trans (hO8.to HX7.out HB7.out.size))
        have hX8l := fun i hi => (hC8.lt.2.2 i hi).2
        have CL8 := Lib.hid (cnClose_any w8 hC8 (ok_closeC (cutW_ok 50)))
        clear hp hX7l hC8 hL8 hO8 CL7 HB7
        go_wp2_with fail
        refine CL8.out.mono ?_
        intro en w9 hp
        obtain ⟨v9, B9, rfl, hC9, hL9, hO9⟩ := close_of hp hX8l (s' := (closeC (closeC (cutW 50)).1).1) (os := []) (Prod.ext rfl HC4'.out) (ev := .nilIface) (by rw [HC5'.out]; rfl)
        obtain ⟨va9, vc9, rfl⟩ := hL9.isSlice
        have HB9 := Lib.hid (HB8.out.trans (hO9.to HX7.out HB8.out.size))
        clear hp hC9 hL9 hO9 hX8l CL8
        go_wp2_with fail
        go_ret
        exact ⟨rfl, HB9.out⟩
      · have hj1 : (cutW j).er = 0 := (cutW_all j (by omega)).1
        have hc2 := len0 (cutW_all j (by omega)).2.1
        have hc3 : (closeC (cutW j)).1.er = 21 := by rw [(cutW_all j (by omega)).2.2.1, if_neg (by omega)]
        have z0 : ((j : Int) == 0) = false := by simp; omega
        have z50 : ((j : Int) == 50) = false := by simp; omega
        have HC1' := Lib.hid hj1
        have HC2' := Lib.hid hc2
        have HC3' := Lib.hid hc3
        clear hj1 hc2 hc3
        go_wp2_with fail
        refine (write_str (whlB.extract 0 j) j w6 w6.heap.size (by rw [ByteArray.size_extract, whlB_size]; omega) rfl HC6.out ok_reqs HM6.out (by rw [ByteArray.size_extract, whlB_size]; omega)).mono ?_
        intro en w7 hp
        rw [show (whlB.extract 0 j).data.toList = whl.take j by rw [seg_list, whlB_list]; rfl] at hp
        obtain ⟨v7, X7, B7, rfl, hX7, hC7, hL7, hO7⟩ := hp.of (s' := cutW j) (Prod.ext rfl rfl) rfl (ev := .nilIface) (by rw [HC1'.out]; rfl)
        have HX7 := Lib.hid (show ∀ i, X7 i → w.heap.size ≤ i from fun i hi => (hX7 i hi).elim (fun a => by have := HB5.out.size; omega) (fun a => Nat.le_trans HB6.out.size a))
        have HB7 := Lib.hid (HB6.out.trans (hO7.to (B := w.heap.size) (fun i hi => by have := HB5.out.size; omega) HB6.out.size))
        have HM7 := Lib.hid (HM6.out.to (hO7.to (B := w5.heap.size) (fun i hi => Nat.le_of_eq hi.symm) (by have := HC6.out.lt.1; omega)))
        have CL7 := Lib.hid (cnClose_any w7 hC7 (cutW_ok j))
        have hX7l := fun i hi => (hC7.lt.2.2 i hi).2
        obtain ⟨va7, vc7, rfl⟩ := hL7.isSlice
        generalize (joinE (runC Cn.reqs (whl.take j)).2).length = n7 at *
        clear hp hX7 hC7 hL7 hO7 HC6 HM6 HB6 HC1'
        go_wp2_with fail
        refine CL7.out.mono ?_
        intro en w8 hp
        obtain ⟨v8, B8, rfl, hC8, hL8, hO8⟩ := close_of hp hX7l (s' := (closeC (cutW j)).1) (os := []) (Prod.ext rfl HC2'.out) (ev := (.iface 32 (.int .i64 21))) (by rw [HC3'.out]; rfl)
        obtain ⟨va8, vc8, rfl⟩ := hL8.isSlice
        have HB8 := Lib.hid (HB7.out.trans (hO8.to HX7.out HB7.out.size))
        have hX8l := fun i hi => (hC8.lt.2.2 i hi).2
        have HC8 := Lib.hid hC8
        have HM8 := Lib.hid (HM7.out.to (hO8.to (B := w5.heap.size) (fun i hi => (hC8.lt.2.2 i hi).1) (by have := hC8.lt.2.2 _ hC8.lt.2.1; have := hX7l _ hC8.lt.2.1; omega)))
        clear hp hX7l hX8l hC8 hL8 hO8 CL7 HB7
        go_wp2_with fail
        refine (write_str (whlB.extract j 50) (50 - j) w8 w8.heap.size (by rw [ByteArray.size_extract, whlB_size]; omega) rfl HC8.out (ok_closeC (cutW_ok j)) HM8.out (by rw [ByteArray.size_extract, whlB_size]; omega)).mono ?_
        intro en w9 hp
        obtain ⟨v9, X9, B9, rfl, hX9, hC9, hL9, hO9⟩ := hp.of (runC_stop (by rw [HC3'.out]; decide) _) rfl (ev := (.iface 32 (.int .i64 21))) (by rw [HC3'.out]; rfl)
        obtain ⟨va9, vc9, rfl⟩ := hL9.isSlice
        have HB9 := Lib.hid (HB8.out.trans (hO9.to HX7.out HB8.out.size))
        clear hp hX9 hC9 hL9 hO9
        go_wp2_with fail
        refine (isErr_any 21 (by decide) _).mono ?_
        rintro e w' ⟨rfl, rfl⟩
        go_wp2_with fail
        refine (isErr_any 21 (by decide) _).mono ?_
        rintro e w' ⟨rfl, rfl⟩
        go_wp2_with fail
        go_ret
        exact ⟨rfl, HB9.out⟩
    · have hdl : datL s.data.toList = [dat s.data.toList] := if_neg hd
      have hl1 : (datL s.data.toList).length = 1 := by rw [hdl]; rfl
      have e1 : s.toList.isEmpty = false := by rw [ByteArray.toList_eq]; simpa using hd
      obtain ⟨q3, p3, d3, t3, e3, _, _, r3, _⟩ := h3 1 (dat s.data.toList) (by rw [hdl]; rfl)
      obtain ⟨da, dn, dc, hd3⟩ : ∃ a n c, d3 = .slice a n c := by obtain ⟨a, c, h, _⟩ := r3; exact ⟨a, _, c, h⟩
      have hcv : (convert 30 9 d3).run Tryz.prog w4 = .ok (.string s) w4 := (convB r3).trans (by rw [show strB (dat s.data.toList).d = s from strB_of s])
      have f3 : w4.cell? ⟨g3, 14, none⟩ = some d3 := e3 6 _ rfl
      subst hd3
      clear r3
      obtain ⟨rfl, rfl⟩ : va = some ⟨g3, 0, none⟩ ∧ vc = c3 := by
        simp only [Value.slice.injEq] at hv3
        exact ⟨hv3.1, hv3.2.2⟩
      clear hp hC4 hL4 hO4 HL34 h4 e4 h3 hv3 hX3l CL HL3
      go_wp2_with fail
      refine (write_lit [120] 1 w4 rfl HC4.out okE_ok HM4.out (by decide)).mono ?_
      intro en w5 hp
      obtain ⟨v5, X5, B5, rfl, hX5, hC5, hL5, hO5⟩ := hp.of (okE_run 120 []) rfl (ev := .iface 32 (.int .i64 6)) rfl
      obtain ⟨va5, vc5, rfl⟩ := hL5.isSlice
      have HB5 := Lib.hid (HB4.out.trans (hO5.to HX3.out HB4.out.size))
      have HM5 := Lib.hid (HM.out.below HB5.out)
      clear hp hX5 hC5 hL5 hO5 HC4 HM4 HB4 HX3 HB3 HM3 hg3 hg4 f0 f7
      go_wp2_with fail
      refine (isErr_any 6 (by decide) _).mono ?_
      rintro e w' ⟨rfl, rfl⟩
      go_wp2_with fail
      rw [HJ.out]
      refine (requests_any w5).mono ?_
      rintro e w6 ⟨rfl, hC6, hB6⟩
      have HC6 := Lib.hid hC6
      have HB6 := Lib.hid (HB5.out.trans (hB6.mono HB5.out.size))
      have HM6 := Lib.hid ((MaxB.of HM5.out).to hB6)
      clear hC6 hB6 hl1 e1
      rcases (show j = 0 ∨ j = 50 ∨ (j ≠ 0 ∧ j ≠ 50) by omega) with rfl | rfl | ⟨n0, n50⟩
      · have hj1 : (cutW 0).er = 0 := (cutW_all 0 (by decide)).1
        have hc2 := len0 (cutW_all 0 (by decide)).2.1
        have hc3 : (closeC (cutW 0)).1.er = 0 := (cutW_all 0 (by decide)).2.2.1
        have hc4 := len0 (cutW_all 0 (by decide)).2.2.2.1
        have hc5 : (closeC (closeC (cutW 0)).1).1.er = 0 := (cutW_all 0 (by decide)).2.2.2.2 (by decide)
        have HC1' := Lib.hid hj1
        have HC2' := Lib.hid hc2
        have HC3' := Lib.hid hc3
        have HC4' := Lib.hid hc4
        have HC5' := Lib.hid hc5
        clear hc4 hc5
        clear hj1 hc2 hc3
        go_wp2_with fail
        refine (write_str (whlB.extract 0 0) 0 w6 w6.heap.size (by rw [ByteArray.size_extract, whlB_size]; omega) rfl HC6.out ok_reqs HM6.out (by rw [ByteArray.size_extract, whlB_size]; omega)).mono ?_
        intro en w7 hp
        rw [show (whlB.extract 0 0).data.toList = whl.take 0 by rw [seg_list, whlB_list]; rfl] at hp
        obtain ⟨v7, X7, B7, rfl, hX7, hC7, hL7, hO7⟩ := hp.of (s' := cutW 0) (Prod.ext rfl rfl) rfl (ev := .nilIface) (by rw [HC1'.out]; rfl)
        have HX7 := Lib.hid (show ∀ i, X7 i → w.heap.size ≤ i from fun i hi => (hX7 i hi).elim (fun a => by have := HB5.out.size; omega) (fun a => Nat.le_trans HB6.out.size a))
        have HB7 := Lib.hid (HB6.out.trans (hO7.to (B := w.heap.size) (fun i hi => by have := HB5.out.size; omega) HB6.out.size))
        have HM7 := Lib.hid (HM6.out.to (hO7.to (B := w5.heap.size) (fun i hi => Nat.le_of_eq hi.symm) (by have := HC6.out.lt.1; omega)))
        have CL7 := Lib.hid (cnClose_any w7 hC7 (cutW_ok 0))
        have hX7l := fun i hi => (hC7.lt.2.2 i hi).2
        obtain ⟨va7, vc7, rfl⟩ := hL7.isSlice
        generalize (joinE (runC Cn.reqs (whl.take 0)).2).length = n7 at *
        clear hp hX7 hC7 hL7 hO7 HC6 HM6 HB6 HC1'
        go_wp2_with fail
        refine CL7.out.mono ?_
        intro en w8 hp
        obtain ⟨v8, B8, rfl, hC8, hL8, hO8⟩ := close_of hp hX7l (s' := (closeC (cutW 0)).1) (os := []) (Prod.ext rfl HC2'.out) (ev := .nilIface) (by rw [HC3'.out]; rfl)
        obtain ⟨va8, vc8, rfl⟩ := hL8.isSlice
        have HB8 := Lib.hid (HB7.out.trans (hO8.to HX7.out HB7.out.size))
        have hX8l := fun i hi => (hC8.lt.2.2 i hi).2
        have CL8 := Lib.hid (cnClose_any w8 hC8 (ok_closeC (cutW_ok 0)))
        clear hp hX7l hC8 hL8 hO8 CL7 HB7
        go_wp2_with fail
        refine CL8.out.mono ?_
        intro en w9 hp
        obtain ⟨v9, B9, rfl, hC9, hL9, hO9⟩ := close_of hp hX8l (s' := (closeC (closeC (cutW 0)).1).1) (os := []) (Prod.ext rfl HC4'.out) (ev := .nilIface) (by rw [HC5'.out]; rfl)
        obtain ⟨va9, vc9, rfl⟩ := hL9.isSlice
        have HB9 := Lib.hid (HB8.out.trans (hO9.to HX7.out HB8.out.size))
        clear hp hC9 hL9 hO9 hX8l CL8
        go_wp2_with fail
        go_ret
        exact ⟨rfl, HB9.out⟩
      · have hj1 : (cutW 50).er = 0 := (cutW_all 50 (by decide)).1
        have hc2 := len0 (cutW_all 50 (by decide)).2.1
        have hc3 : (closeC (cutW 50)).1.er = 0 := (cutW_all 50 (by decide)).2.2.1
        have hc4 := len0 (cutW_all 50 (by decide)).2.2.2.1
        have hc5 : (closeC (closeC (cutW 50)).1).1.er = 0 := (cutW_all 50 (by decide)).2.2.2.2 (by decide)
        have HC1' := Lib.hid hj1
        have HC2' := Lib.hid hc2
        have HC3' := Lib.hid hc3
        have HC4' := Lib.hid hc4
        have HC5' := Lib.hid hc5
        clear hc4 hc5
        clear hj1 hc2 hc3
        go_wp2_with fail
        refine (write_str (whlB.extract 0 50) 50 w6 w6.heap.size (by rw [ByteArray.size_extract, whlB_size]; omega) rfl HC6.out ok_reqs HM6.out (by rw [ByteArray.size_extract, whlB_size]; omega)).mono ?_
        intro en w7 hp
        rw [show (whlB.extract 0 50).data.toList = whl.take 50 by rw [seg_list, whlB_list]; rfl] at hp
        obtain ⟨v7, X7, B7, rfl, hX7, hC7, hL7, hO7⟩ := hp.of (s' := cutW 50) (Prod.ext rfl rfl) rfl (ev := .nilIface) (by rw [HC1'.out]; rfl)
        have HX7 := Lib.hid (show ∀ i, X7 i → w.heap.size ≤ i from fun i hi => (hX7 i hi).elim (fun a => by have := HB5.out.size; omega) (fun a => Nat.le_trans HB6.out.size a))
        have HB7 := Lib.hid (HB6.out.trans (hO7.to (B := w.heap.size) (fun i hi => by have := HB5.out.size; omega) HB6.out.size))
        have HM7 := Lib.hid (HM6.out.to (hO7.to (B := w5.heap.size) (fun i hi => Nat.le_of_eq hi.symm) (by have := HC6.out.lt.1; omega)))
        have CL7 := Lib.hid (cnClose_any w7 hC7 (cutW_ok 50))
        have hX7l := fun i hi => (hC7.lt.2.2 i hi).2
        obtain ⟨va7, vc7, rfl⟩ := hL7.isSlice
        generalize (joinE (runC Cn.reqs (whl.take 50)).2).length = n7 at *
        clear hp hX7 hC7 hL7 hO7 HC6 HM6 HB6 HC1'
        go_wp2_with fail
        refine CL7.out.mono ?_
        intro en w8 hp
        obtain ⟨v8, B8, rfl, hC8, hL8, hO8⟩ := close_of hp hX7l (s' := (closeC (cutW 50)).1) (os := []) (Prod.ext rfl HC2'.out) (ev := .nilIface) (by rw [HC3'.out]; rfl)
        obtain ⟨va8, vc8, rfl⟩ := hL8.isSlice
        have HB8 := Lib.hid (HB7.out.trans (hO8.to HX7.out HB7.out.size))
        have hX8l := fun i hi => (hC8.lt.2.2 i hi).2
        have CL8 := Lib.hid (cnClose_any w8 hC8 (ok_closeC (cutW_ok 50)))
        clear hp hX7l hC8 hL8 hO8 CL7 HB7
        go_wp2_with fail
        refine CL8.out.mono ?_
        intro en w9 hp
        obtain ⟨v9, B9, rfl, hC9, hL9, hO9⟩ := close_of hp hX8l (s' := (closeC (closeC (cutW 50)).1).1) (os := []) (Prod.ext rfl HC4'.out) (ev := .nilIface) (by rw [HC5'.out]; rfl)
        obtain ⟨va9, vc9, rfl⟩ := hL9.isSlice
        have HB9 := Lib.hid (HB8.out.trans (hO9.to HX7.out HB8.out.size))
        clear hp hC9 hL9 hO9 hX8l CL8
        go_wp2_with fail
        go_ret
        exact ⟨rfl, HB9.out⟩
      · have hj1 : (cutW j).er = 0 := (cutW_all j (by omega)).1
        have hc2 := len0 (cutW_all j (by omega)).2.1
        have hc3 : (closeC (cutW j)).1.er = 21 := by rw [(cutW_all j (by omega)).2.2.1, if_neg (by omega)]
        have z0 : ((j : Int) == 0) = false := by simp; omega
        have z50 : ((j : Int) == 50) = false := by simp; omega
        have HC1' := Lib.hid hj1
        have HC2' := Lib.hid hc2
        have HC3' := Lib.hid hc3
        clear hj1 hc2 hc3
        go_wp2_with fail
        refine (write_str (whlB.extract 0 j) j w6 w6.heap.size (by rw [ByteArray.size_extract, whlB_size]; omega) rfl HC6.out ok_reqs HM6.out (by rw [ByteArray.size_extract, whlB_size]; omega)).mono ?_
        intro en w7 hp
        rw [show (whlB.extract 0 j).data.toList = whl.take j by rw [seg_list, whlB_list]; rfl] at hp
        obtain ⟨v7, X7, B7, rfl, hX7, hC7, hL7, hO7⟩ := hp.of (s' := cutW j) (Prod.ext rfl rfl) rfl (ev := .nilIface) (by rw [HC1'.out]; rfl)
        have HX7 := Lib.hid (show ∀ i, X7 i → w.heap.size ≤ i from fun i hi => (hX7 i hi).elim (fun a => by have := HB5.out.size; omega) (fun a => Nat.le_trans HB6.out.size a))
        have HB7 := Lib.hid (HB6.out.trans (hO7.to (B := w.heap.size) (fun i hi => by have := HB5.out.size; omega) HB6.out.size))
        have HM7 := Lib.hid (HM6.out.to (hO7.to (B := w5.heap.size) (fun i hi => Nat.le_of_eq hi.symm) (by have := HC6.out.lt.1; omega)))
        have CL7 := Lib.hid (cnClose_any w7 hC7 (cutW_ok j))
        have hX7l := fun i hi => (hC7.lt.2.2 i hi).2
        obtain ⟨va7, vc7, rfl⟩ := hL7.isSlice
        generalize (joinE (runC Cn.reqs (whl.take j)).2).length = n7 at *
        clear hp hX7 hC7 hL7 hO7 HC6 HM6 HB6 HC1'
        go_wp2_with fail
        refine CL7.out.mono ?_
        intro en w8 hp
        obtain ⟨v8, B8, rfl, hC8, hL8, hO8⟩ := close_of hp hX7l (s' := (closeC (cutW j)).1) (os := []) (Prod.ext rfl HC2'.out) (ev := (.iface 32 (.int .i64 21))) (by rw [HC3'.out]; rfl)
        obtain ⟨va8, vc8, rfl⟩ := hL8.isSlice
        have HB8 := Lib.hid (HB7.out.trans (hO8.to HX7.out HB7.out.size))
        have hX8l := fun i hi => (hC8.lt.2.2 i hi).2
        have HC8 := Lib.hid hC8
        have HM8 := Lib.hid (HM7.out.to (hO8.to (B := w5.heap.size) (fun i hi => (hC8.lt.2.2 i hi).1) (by have := hC8.lt.2.2 _ hC8.lt.2.1; have := hX7l _ hC8.lt.2.1; omega)))
        clear hp hX7l hX8l hC8 hL8 hO8 CL7 HB7
        go_wp2_with fail
        refine (write_str (whlB.extract j 50) (50 - j) w8 w8.heap.size (by rw [ByteArray.size_extract, whlB_size]; omega) rfl HC8.out (ok_closeC (cutW_ok j)) HM8.out (by rw [ByteArray.size_extract, whlB_size]; omega)).mono ?_
        intro en w9 hp
        obtain ⟨v9, X9, B9, rfl, hX9, hC9, hL9, hO9⟩ := hp.of (runC_stop (by rw [HC3'.out]; decide) _) rfl (ev := (.iface 32 (.int .i64 21))) (by rw [HC3'.out]; rfl)
        obtain ⟨va9, vc9, rfl⟩ := hL9.isSlice
        have HB9 := Lib.hid (HB8.out.trans (hO9.to HX7.out HB8.out.size))
        clear hp hX9 hC9 hL9 hO9
        go_wp2_with fail
        refine (isErr_any 21 (by decide) _).mono ?_
        rintro e w' ⟨rfl, rfl⟩
        go_wp2_with fail
        refine (isErr_any 21 (by decide) _).mono ?_
        rintro e w' ⟨rfl, rfl⟩
        go_wp2_with fail
        go_ret
        exact ⟨rfl, HB9.out⟩
end Go.Proofs.YtfmgfcddnnggeaaGreatDoor
