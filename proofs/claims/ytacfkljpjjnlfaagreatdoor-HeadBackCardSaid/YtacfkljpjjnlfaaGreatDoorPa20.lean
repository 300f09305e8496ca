import Derived.Test.YtacfkljpjjnlfaaGreatDoorPa19
import Derived.Great.BuildSlice
import Derived.Deep.RegionWith
import Derived.BigRegion
/- HeadPrefixes: for every text, place and byte the statement's function returns true: the walk. -/
namespace Go.Proofs.YtacfkljpjjnlfaaGreatDoor
open Go.RowKit

set_option maxHeartbeats 400000 in
set_option maxRecDepth 100000 in
theorem isE_errno (a : Int) (ha : (a != 0) = true) (w : World) : Calls Tryz.prog 25 #[.iface 64 (.int .i64 a), .int .i64 a] w fun e w' => e = .returned (.bool true) ∧ w = w' := by
  go_enter Tryz.func25, Tryz.ntmps25
  go_wp2_with (go_at_call 12; refine (num_errno _ _).mono ?_; rintro e w' ⟨rfl, rfl⟩)
  go_ret
  exact ⟨rfl, rfl⟩
/-- A row of bytes that is made of a string reads as it. -/
theorem bytes_conv (s : ByteArray) (w : World) :
    Below w.heap.size w (w.alloc (.cells (bytesRow s (grownCap w s.size 0 5)) 5 ((bytesRow s (grownCap w s.size 0 5)).size, (bytesRow s (grownCap w s.size 0 5)).size + 1))).drew ∧
    ReadsB (w.alloc (.cells (bytesRow s (grownCap w s.size 0 5)) 5 ((bytesRow s (grownCap w s.size 0 5)).size, (bytesRow s (grownCap w s.size 0 5)).size + 1))).drew (.slice (some ⟨w.heap.size, 0, none⟩) s.size (grownCap w s.size 0 5)) s.data.toList := by
  have hsl : s.data.toList.length = s.size := by rw [Array.length_toList]; rfl
  refine ⟨below_bytes s w _ _, _, _, by rw [hsl], by rw [hsl]; exact grownCap_ge w s.size 0 5, .inr ⟨_, _, rfl, ?_, (bytes_new s w _ 5 (bytesRow_size _ _)).1⟩⟩
  show w.heap.size < (w.heap.push _).size; simp
theorem bytes_conv' (s : ByteArray) (w : World) (g : Nat) (hg : g = w.heap.size) :
    Below w.heap.size w (w.alloc (.cells (bytesRow s (grownCap w s.size 0 5)) 5 ((bytesRow s (grownCap w s.size 0 5)).size, (bytesRow s (grownCap w s.size 0 5)).size + 1))).drew ∧
    ReadsB (w.alloc (.cells (bytesRow s (grownCap w s.size 0 5)) 5 ((bytesRow s (grownCap w s.size 0 5)).size, (bytesRow s (grownCap w s.size 0 5)).size + 1))).drew (.slice (some ⟨g, 0, none⟩) s.size (grownCap w s.size 0 5)) s.data.toList := by
  subst hg; exact bytes_conv s w
theorem rdQ_at {l m t : List UInt8} {fs : Fs} {n : Nat} (h : rdQ l = (0, (m, t, fs), n)) : 1 ≤ n ∧ n ≤ l.length ∧ n ≤ 8192 := by
  obtain ⟨_, _, ls, fs0, _, _, _, _, h7, h8, h9, _⟩ := readQ_some h
  refine ⟨?_, h8, h9⟩
  rw [h7, enc_cons, List.length_append, List.length_cons]; omega
/-- A request, read from a string's bytes. -/
theorem read_conv (s : ByteArray) (W : World) (g : Nat) (hg : g = W.heap.size) (hM : HasMax W) (hl : s.size ≤ 100000) :
    Calls Tryz.prog 10 #[.slice (some ⟨g, 0, none⟩) s.size (grownCap W s.size 0 5)]
      (W.alloc (.cells (bytesRow s (grownCap W s.size 0 5)) 5 ((bytesRow s (grownCap W s.size 0 5)).size, (bytesRow s (grownCap W s.size 0 5)).size + 1))).drew
      fun e w' => ∃ m t a n c z, e = .returned (.tuple #[.agg #[.string m, .string t, .slice a n c], .int .i64 z, errV (rdQ s.data.toList).1]) ∧ Below W.heap.size W w' := by
  obtain ⟨hB, hr⟩ := bytes_conv' s W g hg
  have hsl : s.data.toList.length = s.size := by rw [Array.length_toList]; rfl
  refine (readRequest_any _ _ _ hr (hM.below hB) (by omega)).mono ?_
  rintro e w' ⟨v, rfl, hO, hB2⟩
  obtain ⟨ao, cap, rfl, _⟩ := hO.reads
  exact ⟨_, _, _, _, _, _, rfl, hB.trans (hB2.mono hB.size)⟩
theorem read_conv2 (s : ByteArray) (z : Nat) (W : World) (g : Nat) (hz : z = s.size) (hg : g = W.heap.size) (hM : HasMax W) (hl : s.size ≤ 100000) (hne : (rdQ s.data.toList).1 ≠ 0) :
    Calls Tryz.prog 10 #[.slice (some ⟨g, 0, none⟩) z (grownCap W.drew z 0 5)]
      (W.alloc (.cells (bytesRow s (grownCap W.drew z 0 5)) 5 ((bytesRow s (grownCap W.drew z 0 5)).size, (bytesRow s (grownCap W.drew z 0 5)).size + 1))).drew.drew
      fun e w' => ∃ m t a n c y k, e = .returned (.tuple #[.agg #[.string m, .string t, .slice a n c], .int .i64 y, .iface 64 (.int .i64 k)]) ∧ Below W.heap.size W w' := by
  subst hz
  refine (read_conv s W.drew g hg (hM.below (Below.refl _ _).drew) hl).mono ?_
  rintro e w' ⟨m, t, a, n, c, y, rfl, hB⟩
  exact ⟨m, t, a, n, c, y, _, by rw [errV_no hne], (Below.refl _ _).drew.trans hB⟩
theorem slice_mid (s : ByteArray) (i n : Nat) (hi : i ≤ n) (hn : n ≤ s.size) (w : World) : (Instr.slice 9 (.string s) (some (.int .i64 (i : Int))) (some (.int .i64 (n : Int))) none).run Tryz.prog w = .ok (.string (strB ((s.data.toList.take n).drop i))) w := by
  rw [run_slice_string w 9 s .i64 .i64 (i : Int) (n : Int) Tryz.underlying9 (by omega) (by omega) (by omega)]
  rw [Int.toNat_natCast, Int.toNat_natCast, ext_strB s i n ((s.data.toList.take n).drop i) (by rw [List.drop_take])]
theorem one_conv (W : World) (g : Nat) (z : UInt8) (h : W.cell? ⟨g, 0, none⟩ = some (.int .u8 (z.toNat : Int))) :
    (convert 23 9 (.slice (some ⟨g, 0, none⟩) 1 1)).run Tryz.prog W = .ok (.string (strB [z])) W :=
  conv_own W g 1 [z] (fun i hi => by
    have : i = 0 := by simp at hi; omega
    subst this; exact h)
set_option maxHeartbeats 8000000 in
set_option maxRecDepth 100000 in
theorem prefixes_walk (s : ByteArray) (a b : Nat) (w : World) (hM : HasMax w) (hT : HasTab w) (hs : s.size ≤ 9223372036854775807) (ha : a < 65536) (_ : b < 256) :
    Calls Tryz.prog 8 #[.string s, .int .u16 a, .int .u8 b] w fun e w' => e = .returned (.bool true) ∧ Below w.heap.size w w' := by
  have HM := Lib.hid hM
  have HT := Lib.hid hT
  clear hM hT
  by_cases hbig : 2000 < s.size
  · go_enter Tryz.func8, Tryz.ntmps8
    go_wp2_with fail
    refine (awake_any _ HT.out).mono ?_
    rintro e w1 ⟨rfl, hB⟩
    go_wp2_with fail
    refine (awake_any _ (HT.out.below hB)).mono ?_
    rintro e w2 ⟨rfl, hB2⟩
    go_wp2_with fail
    go_ret
    exact ⟨rfl, hB.trans (hB2.mono hB.size)⟩
  · have hcb := fun (W : World) (s : ByteArray) => run_bytes_of_string (P := Tryz.prog) W 9 23 5 s Tryz.underlying9 Tryz.underlying23 Tryz.underlying5
    go_enter Tryz.func8, Tryz.ntmps8
    go_wp2_with fail
    refine (awake_any _ HT.out).mono ?_
    rintro e w1 ⟨rfl, hB⟩
    go_wp2_with fail
    obtain ⟨hBc, hr2⟩ := bytes_conv s w1
    generalize (w1.alloc (.cells (bytesRow s (grownCap w1 s.size 0 5)) 5 ((bytesRow s (grownCap w1 s.size 0 5)).size, (bytesRow s (grownCap w1 s.size 0 5)).size + 1))).drew = W2 at *
    generalize grownCap w1 s.size 0 5 = cap at *
    have hsl : s.data.toList.length = s.size := by rw [Array.length_toList]; rfl
    have hB2 := hB.trans (hBc.mono hB.size)
    have R := readRequest_any _ s.data.toList W2 hr2 (HM.out.below hB2) (by rw [hsl]; omega)
    unfold ReqPost at R
    clear hr2 hBc hB
    refine R.mono ?_
    rintro e w3 ⟨v3, he, hO3, hB3⟩
    have hB3' := hB2.trans (hB3.mono hB2.size)
    obtain ⟨ao, nn, cp, rfl⟩ : ∃ a n c, v3 = .slice a n c := by obtain ⟨ao, cap, rfl, _⟩ := hO3.reads; exact ⟨_, _, _, rfl⟩
    clear R hB3 hB2 hO3
    by_cases hc0 : (rdQ s.data.toList).1 = 0
    · obtain ⟨m, t, fs, n, hq⟩ : ∃ m t fs n, rdQ s.data.toList = (0, (m, t, fs), n) := ⟨_, _, _, _, Prod.ext hc0 rfl⟩
      obtain ⟨hn1, hn2, hn3⟩ := rdQ_at hq
      rw [hsl] at hn2
      have hi : a % n < n := Nat.mod_lt _ (by omega)
      have P1 := Lib.hid (readQ_prefix hq hi)
      have P2 := Lib.hid (fun (c : UInt8) => readQ_insert (c := c) hq hi)
      rw [hq, show errV 0 = .nilIface from rfl] at he
      simp only at he
      subst he
      clear hc0 hq
      have hmod : ((a : Int).tmod (n : Int)) = ((a % n : Nat) : Int) := rfl
      generalize hig : a % n = i at *
      have hpre := fun w => slice_pre s i (by omega) w
      go_wp2_with fail
      have hBn := below_new w3 (.cells #[.string (strB m), .string (strB t), .slice ao nn cp] 27)
      obtain ⟨hBc, hr4⟩ := bytes_conv' (strB (s.data.toList.take i)) (w3.alloc (.cells #[.string (strB m), .string (strB t), .slice ao nn cp] 27)) (w3.heap.size + 1) (by simp)
      rw [strB_list] at hr4
      have hB3 := hB3'.trans (hBn.mono hB3'.size)
      have hB4 := hB3.trans (hBc.mono hB3.size)
      generalize ((w3.alloc (.cells #[.string (strB m), .string (strB t), .slice ao nn cp] 27)).alloc (.cells (bytesRow (strB (s.data.toList.take i)) (grownCap (w3.alloc (.cells #[.string (strB m), .string (strB t), .slice ao nn cp] 27)) (strB (s.data.toList.take i)).size 0 5)) 5 ((bytesRow (strB (s.data.toList.take i)) (grownCap (w3.alloc (.cells #[.string (strB m), .string (strB t), .slice ao nn cp] 27)) (strB (s.data.toList.take i)).size 0 5)).size, (bytesRow (strB (s.data.toList.take i)) (grownCap (w3.alloc (.cells #[.string (strB m), .string (strB t), .slice ao nn cp] 27)) (strB (s.data.toList.take i)).size 0 5)).size + 1))).drew = W4 at *
      generalize grownCap (w3.alloc (.cells #[.string (strB m), .string (strB t), .slice ao nn cp] 27)) (strB (s.data.toList.take i)).size 0 5 = cap4 at *
      have R4 := readRequest_any _ _ W4 hr4 (HM.out.below hB4) (by rw [List.length_take]; omega)
      clear hr4 hBc hB3 hBn hB3' hpre
      refine R4.mono ?_
      rintro e w5 ⟨v5, he, hO5, hB5⟩
      clear R4
      have hB5' := hB4.trans (hB5.mono hB4.size)
      rw [show rdQ (s.data.toList.take i) = (21, ([], [], []), 0) from P1.out, errV_no (by decide)] at he
      simp only at he
      obtain ⟨ao5, nn5, cp5, rfl⟩ : ∃ a n c, v5 = .slice a n c := by obtain ⟨ao, cap, rfl, _⟩ := hO5.reads; exact ⟨_, _, _, rfl⟩
      subst he
      clear hB4 hB5 hO5 P1
      go_wp2_with fail
      refine (isE_errno 21 (by decide) _).mono ?_
      rintro e w6 ⟨rfl, rfl⟩
      have hb3 : b % 3 = 0 ∨ b % 3 = 1 ∨ b % 3 = 2 := by omega
      rcases hb3 with h3 | h3 | h3
      · have hm3 : ((b : Int).tmod 3) = 0 := by show ((b % 3 : Nat) : Int) = 0; omega
        go_wp2_with fail
        have hA := (below_new w5 (.cells #[.string (strB []), .string (strB []), .slice ao5 nn5 cp5] 27)).alloc (by simp) (.cells #[.int .u8 13, .int .u8 10, .int .u8 0] 5)
        have hB7 := hB5'.trans (hA.mono hB5'.size)
        generalize (w5.alloc (.cells #[.string (strB []), .string (strB []), .slice ao5 nn5 cp5] 27)).alloc (.cells #[.int .u8 13, .int .u8 10, .int .u8 0] 5) = Wb at *
        have hB8 := hB7.alloc hB7.size (.cells #[.int .u8 13] 5)
        have hM8 := Lib.hid (HM.out.below hB8)
        have hpre := fun w => slice_pre s i (by omega) w
        have hmid := fun w => slice_mid s i n (by omega) (by omega) w
        have hc1 : (convert 23 9 (.slice (some ⟨Wb.heap.size, 0, none⟩) 1 1)).run Tryz.prog (Wb.alloc (.cells #[.int .u8 13] 5)).drew = .ok (.string (strB [13])) (Wb.alloc (.cells #[.int .u8 13] 5)).drew := one_conv _ _ 13 (by show (Wb.alloc _).cell? _ = _; rw [World.cell?_alloc_at _ _ _ _ rfl]; rfl)
        have hc2 : (convert 23 9 (.slice (some ⟨Wb.heap.size, 0, none⟩) 1 1)).run Tryz.prog (Wb.alloc (.cells #[.int .u8 13] 5)) = .ok (.string (strB [13])) (Wb.alloc (.cells #[.int .u8 13] 5)) := one_conv _ _ 13 (by rw [World.cell?_alloc_at _ _ _ _ rfl]; rfl)
        have hP : (strB (s.data.toList.take i)).size ≤ 2000 := by rw [strB_size, List.length_take]; omega
        have hQ : (strB ((s.data.toList.take n).drop i)).size ≤ 2000 := by rw [strB_size, List.length_drop, List.length_take]; omega
        have hO : (strB [13]).size = 1 := rfl
        have hcat : ((strB (s.data.toList.take i) ++ strB [13]) ++ strB ((s.data.toList.take n).drop i)).data.toList = s.data.toList.take i ++ 13 :: (s.data.toList.take n).drop i := by
          rw [strB_app, strB_list, strB_app, strB_list, strB_list]; simp
        have hsz : (strB (s.data.toList.take i)).size + 1 + (strB ((s.data.toList.take n).drop i)).size = ((strB (s.data.toList.take i) ++ strB [13]) ++ strB ((s.data.toList.take n).drop i)).size := by rw [ByteArray.size_append, ByteArray.size_append]; rfl
        have P3 := P2.out 13 (.inr (.inl rfl)) (fun h => absurd h.1 (by decide))
        rw [← hcat] at P3
        clear hcat P2
        generalize strB (s.data.toList.take i) = P at *
        generalize strB ((s.data.toList.take n).drop i) = Q at *
        generalize strB [13] = O at *
        have RC := Lib.hid (read_conv2 (P ++ O ++ Q) (P.size + 1 + Q.size) (Wb.alloc (.cells #[.int .u8 13] 5)) (Wb.heap.size + 1) hsz (by simp) hM8.out (by omega) P3)
        clear P3 hsz
        go_region_with (first
          | (go_at_call 10; refine RC.out.mono ?_; rintro e w9 ⟨m9, t9, a9, n9, c9, y9, k9, rfl, hB9⟩))
        all_goals
          go_wp2_with fail
          go_ret
          exact ⟨rfl, hB8.trans (hB9.mono hB8.size)⟩
      · have hm3 : ((b : Int).tmod 3) = 1 := by show ((b % 3 : Nat) : Int) = 1; omega
        by_cases hlast : i + 1 = n
        · have hw : IntKind.i64.wrap ((n : Int) - 1) = (n : Int) - 1 := IntWalk.i64_in _ (by omega)
          have hq : ((i : Int) == (n : Int) - 1) = true := by simp; omega
          go_wp2_with fail
          go_ret
          have hA := (below_new w5 (.cells #[.string (strB []), .string (strB []), .slice ao5 nn5 cp5] 27)).alloc (by simp) (.cells #[.int .u8 13, .int .u8 10, .int .u8 0] 5)
          exact ⟨rfl, hB5'.trans (hA.mono hB5'.size)⟩
        · have hw : IntKind.i64.wrap ((n : Int) - 1) = (n : Int) - 1 := IntWalk.i64_in _ (by omega)
          have hq : ((i : Int) == (n : Int) - 1) = false := by simp; omega
          go_wp2_with fail
          have hA := (below_new w5 (.cells #[.string (strB []), .string (strB []), .slice ao5 nn5 cp5] 27)).alloc (by simp) (.cells #[.int .u8 13, .int .u8 10, .int .u8 0] 5)
          have hB7 := hB5'.trans (hA.mono hB5'.size)
          generalize (w5.alloc (.cells #[.string (strB []), .string (strB []), .slice ao5 nn5 cp5] 27)).alloc (.cells #[.int .u8 13, .int .u8 10, .int .u8 0] 5) = Wb at *
          have hB8 := hB7.alloc hB7.size (.cells #[.int .u8 10] 5)
          have hM8 := Lib.hid (HM.out.below hB8)
          have hpre := fun w => slice_pre s i (by omega) w
          have hmid := fun w => slice_mid s i n (by omega) (by omega) w
          have hc1 : (convert 23 9 (.slice (some ⟨Wb.heap.size, 0, none⟩) 1 1)).run Tryz.prog (Wb.alloc (.cells #[.int .u8 10] 5)).drew = .ok (.string (strB [10])) (Wb.alloc (.cells #[.int .u8 10] 5)).drew := one_conv _ _ 10 (by show (Wb.alloc _).cell? _ = _; rw [World.cell?_alloc_at _ _ _ _ rfl]; rfl)
          have hc2 : (convert 23 9 (.slice (some ⟨Wb.heap.size, 0, none⟩) 1 1)).run Tryz.prog (Wb.alloc (.cells #[.int .u8 10] 5)) = .ok (.string (strB [10])) (Wb.alloc (.cells #[.int .u8 10] 5)) := one_conv _ _ 10 (by rw [World.cell?_alloc_at _ _ _ _ rfl]; rfl)
          have hP : (strB (s.data.toList.take i)).size ≤ 2000 := by rw [strB_size, List.length_take]; omega
          have hQ : (strB ((s.data.toList.take n).drop i)).size ≤ 2000 := by rw [strB_size, List.length_drop, List.length_take]; omega
          have hO : (strB [10]).size = 1 := rfl
          have hcat : ((strB (s.data.toList.take i) ++ strB [10]) ++ strB ((s.data.toList.take n).drop i)).data.toList = s.data.toList.take i ++ 10 :: (s.data.toList.take n).drop i := by
            rw [strB_app, strB_list, strB_app, strB_list, strB_list]; simp
          have hsz : (strB (s.data.toList.take i)).size + 1 + (strB ((s.data.toList.take n).drop i)).size = ((strB (s.data.toList.take i) ++ strB [10]) ++ strB ((s.data.toList.take n).drop i)).size := by rw [ByteArray.size_append, ByteArray.size_append]; rfl
          have P3 := P2.out 10 (.inr (.inr rfl)) (fun h => hlast h.2)
          rw [← hcat] at P3
          clear hcat P2
          generalize strB (s.data.toList.take i) = P at *
          generalize strB ((s.data.toList.take n).drop i) = Q at *
          generalize strB [10] = O at *
          have RC := Lib.hid (read_conv2 (P ++ O ++ Q) (P.size + 1 + Q.size) (Wb.alloc (.cells #[.int .u8 10] 5)) (Wb.heap.size + 1) hsz (by simp) hM8.out (by omega) P3)
          clear P3 hsz
          go_region_with (first
            | (go_at_call 10; refine RC.out.mono ?_; rintro e w9 ⟨m9, t9, a9, n9, c9, y9, k9, rfl, hB9⟩))
          all_goals
            go_wp2_with fail
            go_ret
            exact ⟨rfl, hB8.trans (hB9.mono hB8.size)⟩
      · have hm3 : ((b : Int).tmod 3) = 2 := by show ((b % 3 : Nat) : Int) = 2; omega
        go_wp2_with fail
        have hA := (below_new w5 (.cells #[.string (strB []), .string (strB []), .slice ao5 nn5 cp5] 27)).alloc (by simp) (.cells #[.int .u8 13, .int .u8 10, .int .u8 0] 5)
        have hB7 := hB5'.trans (hA.mono hB5'.size)
        generalize (w5.alloc (.cells #[.string (strB []), .string (strB []), .slice ao5 nn5 cp5] 27)).alloc (.cells #[.int .u8 13, .int .u8 10, .int .u8 0] 5) = Wb at *
        have hB8 := hB7.alloc hB7.size (.cells #[.int .u8 0] 5)
        have hM8 := Lib.hid (HM.out.below hB8)
        have hpre := fun w => slice_pre s i (by omega) w
        have hmid := fun w => slice_mid s i n (by omega) (by omega) w
        have hc1 : (convert 23 9 (.slice (some ⟨Wb.heap.size, 0, none⟩) 1 1)).run Tryz.prog (Wb.alloc (.cells #[.int .u8 0] 5)).drew = .ok (.string (strB [0])) (Wb.alloc (.cells #[.int .u8 0] 5)).drew := one_conv _ _ 0 (by show (Wb.alloc _).cell? _ = _; rw [World.cell?_alloc_at _ _ _ _ rfl]; rfl)
        have hc2 : (convert 23 9 (.slice (some ⟨Wb.heap.size, 0, none⟩) 1 1)).run Tryz.prog (Wb.alloc (.cells #[.int .u8 0] 5)) = .ok (.string (strB [0])) (Wb.alloc (.cells #[.int .u8 0] 5)) := one_conv _ _ 0 (by rw [World.cell?_alloc_at _ _ _ _ rfl]; rfl)
        have hP : (strB (s.data.toList.take i)).size ≤ 2000 := by rw [strB_size, List.length_take]; omega
        have hQ : (strB ((s.data.toList.take n).drop i)).size ≤ 2000 := by rw [strB_size, List.length_drop, List.length_take]; omega
        have hO : (strB [0]).size = 1 := rfl
        have hcat : ((strB (s.data.toList.take i) ++ strB [0]) ++ strB ((s.data.toList.take n).drop i)).data.toList = s.data.toList.take i ++ 0 :: (s.data.toList.take n).drop i := by
          rw [strB_app, strB_list, strB_app, strB_list, strB_list]; simp
        have hsz : (strB (s.data.toList.take i)).size + 1 + (strB ((s.data.toList.take n).drop i)).size = ((strB (s.data.toList.take i) ++ strB [0]) ++ strB ((s.data.toList.take n).drop i)).size := by rw [ByteArray.size_append, ByteArray.size_append]; rfl
        have P3 := P2.out 0 (.inl rfl) (fun h => absurd h.1 (by decide))
        rw [← hcat] at P3
        clear hcat P2
        generalize strB (s.data.toList.take i) = P at *
        generalize strB ((s.data.toList.take n).drop i) = Q at *
        generalize strB [0] = O at *
        have RC := Lib.hid (read_conv2 (P ++ O ++ Q) (P.size + 1 + Q.size) (Wb.alloc (.cells #[.int .u8 0] 5)) (Wb.heap.size + 1) hsz (by simp) hM8.out (by omega) P3)
        clear P3 hsz
        go_region_with (first
          | (go_at_call 10; refine RC.out.mono ?_; rintro e w9 ⟨m9, t9, a9, n9, c9, y9, k9, rfl, hB9⟩))
        all_goals
          go_wp2_with fail
          go_ret
          exact ⟨rfl, hB8.trans (hB9.mono hB8.size)⟩
    · rw [errV_no hc0] at he
      subst he
      clear hc0
      go_wp2_with fail
      go_ret
      exact ⟨rfl, hB3'.alloc (by have := hB3'.size; omega) _⟩
end Go.Proofs.YtacfkljpjjnlfaaGreatDoor
