import Derived.Test.YtgbcpheccaldlaaGreatDoorPa15
import Derived.Great.BuildSlice
import Derived.Deep.RegionWith
import Derived.BigRegion
import Derived.Test.YtgbcpheccaldlaaGreatDoorPa10
import Derived.Test.YtgbcpheccaldlaaGreatDoorPa2
import Derived.Test.YtgbcpheccaldlaaGreatDoorPa12
import Derived.Deep.RegionHeld3
import Derived.Deep.Cut
/- HeadPrefixes: for every text, place and byte the statement's function returns true: the walk. -/
namespace Go.Proofs.YtgbcpheccaldlaaGreatDoor
open Go.RowKit

/-- A row of bytes that is made of a string reads as it. -/
theorem bytes_conv (s : ByteArray) (w : World) :
    Below w.heap.size w (w.alloc (.cells (bytesRow s (grownCap w s.size 0 5)) 5 ((bytesRow s (grownCap w s.size 0 5)).size, (bytesRow s (grownCap w s.size 0 5)).size + 1))).drew ∧
    ReadsB (w.alloc (.cells (bytesRow s (grownCap w s.size 0 5)) 5 ((bytesRow s (grownCap w s.size 0 5)).size, (bytesRow s (grownCap w s.size 0 5)).size + 1))).drew (.slice (some ⟨w.heap.size, 0, none⟩) s.size (grownCap w s.size 0 5)) s.data.toList := by
  have hsl : s.data.toList.length = s.size := by rw [Array.length_toList]; rfl
  refine ⟨below_bytes s w _ _, _, _, by rw [hsl], by rw [hsl]; exact grownCap_ge w s.size 0 5, .inr ⟨_, _, rfl, ?_, (bytes_new s w _ 5 (bytesRow_size _ _)).1⟩⟩
  show w.heap.size < (w.heap.push _).size; simp
theorem bytes_conv' (s : ByteArray) (w : World) (g : Nat) (hg : g = w.heap.size) :
    Below w.heap.size w (w.alloc (.cells (bytesRow s (grownCap w s.size 0 5)) 5 ((bytesRow s (grownCap w s.size 0 5)).size, (bytesRow s (grownCap w s.size 0 5)).size + 1))).drew ∧
    ReadsB (w.alloc (.cells (bytesRow s (grownCap w s.size 0 5)) 5 ((bytesRow s (grownCap w s.size 0 5)).size, (bytesRow s (grownCap w s.size 0 5)).size + 1))).drew (.slice (some ⟨g, 0, none⟩) s.size (grownCap w s.size 0 5)) s.data.toList := by
  subst hg; exact bytes_conv s w
theorem rdQ_at {l m t : List UInt8} {fs : Fs} {n : Nat} (h : rdQ l = (0, (m, t, fs), n)) : 1 ≤ n ∧ n ≤ l.length ∧ n ≤ 8192 := by
  obtain ⟨_, _, ls, fs0, _, _, _, _, h7, h8, h9, _⟩ := readQ_some h
  refine ⟨?_, h8, h9⟩
  rw [h7, enc_cons, List.length_append, List.length_cons]; omega
/-- A request, read from a string's bytes. -/
theorem read_conv (s : ByteArray) (W : World) (g : Nat) (hg : g = W.heap.size) (hM : HasMax W) (hl : s.size ≤ 100000) :
    Calls Tryz.prog 8 #[.slice (some ⟨g, 0, none⟩) s.size (grownCap W s.size 0 5)]
      (W.alloc (.cells (bytesRow s (grownCap W s.size 0 5)) 5 ((bytesRow s (grownCap W s.size 0 5)).size, (bytesRow s (grownCap W s.size 0 5)).size + 1))).drew
      fun e w' => ∃ m t a n c z, e = .returned (.tuple #[.agg #[.string m, .string t, .slice a n c], .int .i64 z, errV (rdQ s.data.toList).1]) ∧ Below W.heap.size W w' := by
  obtain ⟨hB, hr⟩ := bytes_conv' s W g hg
  have hsl : s.data.toList.length = s.size := by rw [Array.length_toList]; rfl
  refine (readRequest_any _ _ _ hr (hM.below hB) (by omega)).mono ?_
  rintro e w' ⟨v, rfl, hO, hB2⟩
  obtain ⟨ao, cap, rfl, _⟩ := hO.reads
  exact ⟨_, _, _, _, _, _, rfl, hB.trans (hB2.mono hB.size)⟩
theorem read_conv2 (s : ByteArray) (z : Nat) (W : World) (g : Nat) (hz : z = s.size) (hg : g = W.heap.size) (hM : HasMax W) (hl : s.size ≤ 100000) (hne : (rdQ s.data.toList).1 ≠ 0) :
    Calls Tryz.prog 8 #[.slice (some ⟨g, 0, none⟩) z (grownCap W.drew z 0 5)]
      (W.alloc (.cells (bytesRow s (grownCap W.drew z 0 5)) 5 ((bytesRow s (grownCap W.drew z 0 5)).size, (bytesRow s (grownCap W.drew z 0 5)).size + 1))).drew.drew
      fun e w' => ∃ m t a n c y k, e = .returned (.tuple #[.agg #[.string m, .string t, .slice a n c], .int .i64 y, .iface 63 (.int .i64 k)]) ∧ Below W.heap.size W w' := by
  subst hz
  refine (read_conv s W.drew g hg (hM.below (Below.refl _ _).drew) hl).mono ?_
  rintro e w' ⟨m, t, a, n, c, y, rfl, hB⟩
  exact ⟨m, t, a, n, c, y, _, by rw [errV_no hne], (Below.refl _ _).drew.trans hB⟩
theorem slice_mid (s : ByteArray) (i n : Nat) (hi : i ≤ n) (hn : n ≤ s.size) (w : World) : (Instr.slice 9 (.string s) (some (.int .i64 (i : Int))) (some (.int .i64 (n : Int))) none).run Tryz.prog w = .ok (.string (strB ((s.data.toList.take n).drop i))) w := by
  rw [run_slice_string w 9 s .i64 .i64 (i : Int) (n : Int) Tryz.underlying9 (by omega) (by omega) (by omega)]
  rw [Int.toNat_natCast, Int.toNat_natCast, ext_strB s i n ((s.data.toList.take n).drop i) (by rw [List.drop_take])]
theorem one_conv (W : World) (g : Nat) (z : UInt8) (h : W.cell? ⟨g, 0, none⟩ = some (.int .u8 (z.toNat : Int))) :
    (convert 27 9 (.slice (some ⟨g, 0, none⟩) 1 1)).run Tryz.prog W = .ok (.string (strB [z])) W :=
  conv_own W g 1 [z] (fun i hi => by
    have : i = 0 := by simp at hi; omega
    subst this; exact h)
end Go.Proofs.YtgbcpheccaldlaaGreatDoor

/- What the program's WriteRequest returns. -/
namespace Go.Proofs.YtgbcpheccaldlaaGreatDoor
open Go.RowKit

abbrev wqP (m t : List UInt8) (fs : Fs) := writeQ nmO vlO hostO lowS (m, t, fs)
theorem startQ_len (m t : List UInt8) : (startQ m t).length = m.length + t.length + 10 := by unfold startQ; simp [verL]; omega
theorem wqP_large {m t : List UInt8} {fs : Fs} (h : sizeC (m.length + t.length + 10) fs ≠ 0) : sizeC (m.length + t.length + 10) fs = 5 ∧ wqP m t fs = (5, []) := by
  unfold sizeC at h ⊢
  by_cases h1 : 64 < fs.length ∨ 8192 < m.length + t.length + 10 + 4 + sizL fs
  · refine ⟨if_pos h1, ?_⟩
    unfold wqP writeQ
    simp only
    rw [enc_size, startQ_len, if_pos h1]
  · rw [if_neg h1] at h; exact absurd rfl h
theorem wqP_rest {m t : List UInt8} {fs : Fs} (h : sizeC (m.length + t.length + 10) fs = 0) : wqP m t fs =
    (if methodB m = false then (26, [])
    else if targetB m t = false then (27, [])
    else if goodB nmO vlO fs = false then (25, [])
    else match hosted hostO lowS fs with
      | none => (29, [])
      | some q => (0, enc (startQ m t :: q.map (lineW nmO)))) := by
  unfold sizeC at h
  by_cases h1 : 64 < fs.length ∨ 8192 < m.length + t.length + 10 + 4 + sizL fs
  · rw [if_pos h1] at h; exact absurd h (by decide)
  · unfold wqP writeQ
    simp only
    rw [enc_size, startQ_len, if_neg h1]
    cases hosted hostO lowS fs <;> rfl
theorem wqP_line {m t : List UInt8} {fs : Fs} (h : sizeC (m.length + t.length + 10) fs = 0) (h2 : reqC m t ≠ 0) : wqP m t fs = (reqC m t, []) := by
  rw [wqP_rest h]
  rcases reqC_pos h2 with ⟨a, b⟩ | ⟨a, b, c⟩
  · rw [b, if_pos a]
  · rw [c, if_neg (by rw [a]; simp), if_pos b]
theorem wqP_good {m t : List UInt8} {fs : Fs} (h : sizeC (m.length + t.length + 10) fs = 0) (h2 : reqC m t = 0) : wqP m t fs = if goodB nmO vlO fs = false then (25, [])
    else match hosted hostO lowS fs with
      | none => (29, [])
      | some q => (0, enc (startQ m t :: q.map (lineW nmO))) := by
  obtain ⟨a, b⟩ := reqC_zero h2
  rw [wqP_rest h, if_neg (by rw [a]; simp), if_neg (by rw [b]; simp)]
theorem goodB_of {fs : Fs} (h : ∀ f ∈ fs, GoodF nmO vlO lowS f) : goodB nmO vlO fs = true := by
  unfold goodB
  rw [List.all_eq_true]
  intro f hf
  obtain ⟨a, b⟩ := h f hf
  rw [a, b]; simp
theorem start_req (m t : List UInt8) : strB m ++ (⟨#[32]⟩ : ByteArray) ++ strB t ++ (⟨#[32]⟩ : ByteArray) ++ (⟨#[72, 84, 84, 80, 47, 49, 46, 49]⟩ : ByteArray) = strB (startQ m t) := by
  unfold startQ
  apply ByteArray.ext; simp [strB, verL]
def WReqPost (m t : List UInt8) (fs : Fs) (w : World) (e : Ending) (w' : World) : Prop :=
  ∃ v, e = .returned (.tuple #[v, errV (wqP m t fs).1]) ∧ OwnsB w.heap.size w' v (wqP m t fs).2 ∧ Below w.heap.size w w'
theorem wreq_err {m t : List UInt8} {fs : Fs} {w w' : World} {c : Nat} (h : wqP m t fs = (c, [])) (hc : c ≠ 0) (hB : Below w.heap.size w w') : WReqPost m t fs w (.returned (.tuple #[.slice none 0 0, .iface 63 (.int .i64 c)])) w' :=
  ⟨.slice none 0 0, by rw [h, errV_pos' hc], by rw [h]; exact OwnsB.nil _ _, hB⟩
set_option maxHeartbeats 8000000 in
set_option maxRecDepth 100000 in
theorem writeRequest_any (m t : List UInt8) (fv : Value) (fs : Fs) (w : World) (hr : ReadsQ w fv fs) (hM : HasMax w) (hm : m.length ≤ 100000) (ht : t.length ≤ 100000) (hl : fs.length ≤ 1000) (hb : ∀ p ∈ fs, p.1.length + p.2.length ≤ 1000000) :
    Calls Tryz.prog 6 #[.agg #[.string (strB m), .string (strB t), fv]] w (WReqPost m t fs w) := by
  have HR := Lib.hid hr
  have HM := Lib.hid hM
  have S := Lib.hid (fun w (hr : ReadsQ w fv fs) => checkSize_any (m.length + t.length + 10) fv fs w hr (by omega) hl hb)
  have L := Lib.hid (fun w => checkLine_any m t w (by omega) (by omega))
  have C := Lib.hid (fun w (hr : ReadsQ w fv fs) => canon_any fv fs w hr hl hb)
  have HB := Lib.hid hb
  rw [show (((m.length + t.length + 10 : Nat)) : Int) = (m.length : Int) + 1 + (t.length : Int) + 1 + 8 by omega] at S
  have H5 := Lib.hid (fun h => wqP_large (m := m) (t := t) (fs := fs) h)
  have H2 := Lib.hid (fun h => wqP_line (m := m) (t := t) (fs := fs) h)
  have H0 := Lib.hid (fun h => wqP_good (m := m) (t := t) (fs := fs) h)
  have HSL := Lib.hid (fun h => sizeC_len (n := m.length + t.length + 10) (fs := fs) h)
  obtain ⟨ao, cap, rfl, hc⟩ := hr
  have hB0 : Below w.heap.size w (w.alloc (.cells #[.string (strB m), .string (strB t), .slice ao fs.length cap] 35)) := below_new _ _
  have hmz : (strB m).size = m.length := strB_size _
  have htz : (strB t).size = t.length := strB_size _
  clear hc hb hM
  generalize hcz : sizeC (m.length + t.length + 10) fs = cz at *
  have HCZ := Lib.hid hcz
  clear hcz
  go_enter Tryz.func6, Tryz.ntmps6
  go_wp2_with fail
  refine (S.out _ (HR.out.below hB0)).mono ?_
  rintro e w1 ⟨rfl, hB1⟩
  obtain ⟨b0, b1, b2, bf0, bf1, bf2, bz⟩ := three_kept w hB1
  have hBx := hB0.trans (hB1.mono hB0.size)
  by_cases h0 : cz = 0
  · rw [show errV cz = .nilIface by rw [h0]; rfl]
    have hl64 := HSL.out h0
    by_cases h2 : reqC m t = 0
    · have HE := Lib.hid (H0.out h0 h2)
      rw [h2, show errV 0 = .nilIface from rfl] at L
      clear h0 h2
      go_wp2_with fail
      refine (L.out _).mono ?_
      rintro e w' ⟨rfl, rfl⟩
      go_wp2_with fail
      refine (C.out _ (HR.out.below hBx)).mono ?_
      rintro e w2 ⟨v2, he2, hO2, hB2⟩
      have hB12 := hB1.trans (hB2.mono hB1.size)
      have hBy := hB0.trans (hB12.mono hB0.size)
      clear b0 b1 b2 bf0 bf1 bf2 bz hB1 hB2
      obtain ⟨b0, b1, b2, bf0, bf1, bf2, bz⟩ := three_kept w hB12
      cases hg : goodB nmO vlO fs with
      | false =>
        rw [hg] at he2
        have HE2 := Lib.hid (show wqP m t fs = (25, []) by rw [HE.out, hg]; rfl)
        have he2' : e = .returned (.tuple #[v2, .iface 63 (.int .i64 25)]) := he2
        subst he2'
        clear hg he2
        go_wp2_with fail
        go_ret2
        exact wreq_err HE2.out (by decide) hBy
      | true =>
        rw [hg] at he2 hO2
        have he2' : e = .returned (.tuple #[v2, .nilIface]) := he2
        have hO3 : OwnsP 60 _ w2 v2 (fs.map low1) := hO2
        have HH := Lib.hid (fun W (hr : ReadsQ W v2 (fs.map low1)) hM => withHost_any v2 (fs.map low1) W hr hM (by rw [List.length_map]; omega) (by
          intro p hp
          obtain ⟨q, hq, rfl⟩ := List.mem_map.1 hp
          have := HB.out q hq
          unfold low1; rw [lowS_len]; exact this))
        obtain ⟨ao2, n2, cp2, rfl⟩ : ∃ a n c, v2 = .slice a n c := by obtain ⟨ao, cap, rfl, _⟩ := hO3.reads; exact ⟨_, _, _, rfl⟩
        have HQ := Lib.hid hO3.q
        have HG := Lib.hid hg
        subst he2'
        clear hg he2 hO2 hO3
        go_wp2_with fail
        refine (HH.out _ HQ.out (HM.out.below hBy)).mono ?_
        rintro e w3 ⟨v3, he3, hO3, hB3⟩
        have hB13 := hB12.trans (hB3.mono hB12.size)
        have hBz := hB0.trans (hB13.mono hB0.size)
        clear b0 b1 b2 bf0 bf1 bf2 bz hBy hB12 hB3
        obtain ⟨b0, b1, b2, bf0, bf1, bf2, bz⟩ := three_kept w hB13
        rw [withH_low] at he3 hO3
        cases hh : hosted hostO lowS fs with
        | none =>
          rw [hh] at he3
          have HE2 := Lib.hid (show wqP m t fs = (29, []) by rw [HE.out, if_neg (by rw [HG.out]; simp), hh])
          have he3' : e = .returned (.tuple #[v3, .iface 63 (.int .i64 29)]) := he3
          subst he3'
          clear hh he3
          go_wp2_with fail
          go_ret2
          exact wreq_err HE2.out (by decide) hBz
        | some q =>
          rw [hh] at he3 hO3
          have HE2 := Lib.hid (show wqP m t fs = (0, enc (startQ m t :: q.map (lineW nmO))) by rw [HE.out, if_neg (by rw [HG.out]; simp), hh])
          have hgq := goodB_of (good_lowH flk (good_mem flk HG.out) hh)
          have HLL := Lib.hid (lines_low hgq)
          have e1 := (hosted_some flk hh).1
          have he3' : e = .returned (.tuple #[v3, .nilIface]) := he3
          have hO4 : OwnsP 60 _ w3 v3 (q.map low1) := hO3
          obtain ⟨ao3, n3, cp3, rfl⟩ : ∃ a n c, v3 = .slice a n c := by obtain ⟨ao, cap, rfl, _⟩ := hO4.reads; exact ⟨_, _, _, rfl⟩
          have W := write_any (startQ m t) (.slice ao3 n3 cp3) (q.map low1) w3 hO4.q (by rw [startQ_len]; omega) (by rw [List.length_map, e1, List.length_map]; omega) (by
            intro p hp
            obtain ⟨q1, hq1, rfl⟩ := List.mem_map.1 hp
            rw [e1] at hq1
            obtain ⟨f, hf, rfl⟩ := List.mem_map.1 hq1
            have := HB.out f hf
            unfold low1 lowH
            split <;> simp only [lowS_len] <;> exact this)
          rw [HLL.out] at W
          have hst := start_req m t
          rw [← hst] at W
          have HST := Lib.hid hst
          subst he3'
          clear hh he3 hO3 hO4 e1 hgq hst
          go_wp2_with fail
          refine W.mono ?_
          rintro e w4 ⟨v4, rfl, hO4, hB4⟩
          obtain hv4 | ⟨g4, cp4, rfl, _⟩ := hO4.isSlice
          · exact absurd (congrArg List.length hv4.2) (by rw [enc_cons]; simp)
          go_wp2_with fail
          go_ret2
          exact ⟨_, by rw [HE2.out]; rfl, by rw [HE2.out]; exact hO4.mono hBz.size, hBz.trans (hB4.mono hBz.size)⟩
    · have HE := Lib.hid (H2.out h0 h2)
      have H3 := Lib.hid h2
      rw [errV_no h2] at L
      clear h0 h2
      go_wp2_with fail
      refine (L.out _).mono ?_
      rintro e w' ⟨rfl, rfl⟩
      go_wp2_with fail
      go_ret2
      exact wreq_err HE.out H3.out hBx
  · obtain ⟨h5, h6⟩ := H5.out h0
    have HE := Lib.hid h6
    rw [show errV cz = .iface 63 (.int .i64 5) by rw [h5]; rfl]
    clear h0 h5 h6
    go_wp2_with fail
    go_ret2
    exact wreq_err HE.out (by decide) hBx
end Go.Proofs.YtgbcpheccaldlaaGreatDoor

/- The statements' Ref: the reference's fields of the program's. -/
namespace Go.Proofs.YtgbcpheccaldlaaGreatDoor
open Go.RowKit

end Go.Proofs.YtgbcpheccaldlaaGreatDoor

/- HeadAgain: for every two texts the statement's function returns true: the walk. -/
namespace Go.Proofs.YtgbcpheccaldlaaGreatDoor
open Go.RowKit

/-- A request, read from a string's bytes. -/
theorem read_conv3 (s : ByteArray) (z : Nat) (W : World) (g : Nat) (hz : z = s.size) (hg : g = W.heap.size) (hM : HasMax W) (hl : s.size ≤ 100000) :
    Calls Tryz.prog 8 #[.slice (some ⟨g, 0, none⟩) z (grownCap W z 0 5)]
      (W.alloc (.cells (bytesRow s (grownCap W z 0 5)) 5 ((bytesRow s (grownCap W z 0 5)).size, (bytesRow s (grownCap W z 0 5)).size + 1))).drew
      fun e w' => ∃ a c, e = .returned (.tuple #[.agg #[.string (strB (rdQ s.data.toList).2.1.1), .string (strB (rdQ s.data.toList).2.1.2.1), .slice a (rdQ s.data.toList).2.1.2.2.length c], .int .i64 ((rdQ s.data.toList).2.2 : Int), errV (rdQ s.data.toList).1]) ∧ OwnsP 60 W.heap.size w' (.slice a (rdQ s.data.toList).2.1.2.2.length c) (rdQ s.data.toList).2.1.2.2 ∧ Below W.heap.size W w' := by
  subst hz
  obtain ⟨hB, hr⟩ := bytes_conv' s W g hg
  have hsl : s.data.toList.length = s.size := by rw [Array.length_toList]; rfl
  refine (readRequest_any _ _ _ hr (hM.below hB) (by omega)).mono ?_
  rintro e w' ⟨v, rfl, hO, hB2⟩
  obtain ⟨ao, cap, rfl, _⟩ := hO.reads
  exact ⟨_, _, rfl, OwnsP.mono hB.size hO, hB.trans (hB2.mono hB.size)⟩
theorem OwnsB.readsB {B : Nat} {w : World} {v : Value} {l : List UInt8} (h : OwnsB B w v l) (hne : l ≠ []) : ∃ g cap, v = .slice (some ⟨g, 0, none⟩) l.length cap ∧ ReadsB w (.slice (some ⟨g, 0, none⟩) l.length cap) l := by
  rcases h.isSlice with ⟨_, e⟩ | ⟨g, cap, rfl, h1, _, h2, h3⟩
  · exact absurd e hne
  · exact ⟨g, cap, rfl, _, cap, rfl, h1, .inr ⟨g, 0, rfl, h2, fun i hi => by rw [Nat.zero_add]; exact h3 i hi⟩⟩
/-- How long the parts of a request that is read are. -/
theorem rdQ_parts {l m t : List UInt8} {fs : Fs} {n : Nat} (h : rdQ l = (0, (m, t, fs), n)) : m.length ≤ 100000 ∧ t.length ≤ 100000 ∧ fs.length ≤ 64 ∧ ∀ p ∈ fs, p.1.length + p.2.length ≤ 1000000 := by
  obtain ⟨h1, h2, ls, fs0, h3, h4, _, _, h7, _, h9, _⟩ := readQ_some h
  have hf := rdQ_flen l
  rw [h] at hf
  refine ⟨?_, ?_, hf, fun p hp => ?_⟩
  · unfold methodB at h1; simp only [Bool.and_eq_true, decide_eq_true_eq] at h1; omega
  · unfold targetB at h2; simp only [Bool.and_eq_true, decide_eq_true_eq] at h2; omega
  · have e1 := (hosted_some flk h4).1
    rw [e1] at hp
    obtain ⟨f, hf, rfl⟩ := List.mem_map.1 hp
    have e3 : fs0 = (readFs nmO vlO ls).2 := by rw [h3]
    rw [e3] at hf
    obtain ⟨y, hy, rfl, _⟩ := readFs_mem f hf
    have h5 := rdF_len y
    have h6 := enc_part (startQ m t :: ls) y (by simp [hy])
    have h8 : (lowH lowS (readF nmO vlO y).2).1.length + (lowH lowS (readF nmO vlO y).2).2.length = (rdF y).2.1.length + (rdF y).2.2.length := by
      unfold lowH; split <;> simp [lowS_len]
    omega
/-- Two requests lie in their variables, and their fields are read. -/
def AgS (M N : Nat) (m t : List UInt8) (v1 v2 : Value) (fs : Fs) (w w' : World) : Prop :=
  w'.cell? ⟨M, 0, none⟩ = some (.string (strB m)) ∧ w'.cell? ⟨M, 1, none⟩ = some (.string (strB t)) ∧ w'.cell? ⟨M, 2, none⟩ = some v1 ∧ w'.cell? ⟨N, 0, none⟩ = some (.string (strB m)) ∧ w'.cell? ⟨N, 1, none⟩ = some (.string (strB t)) ∧ w'.cell? ⟨N, 2, none⟩ = some v2 ∧ M < w'.heap.size ∧ N < w'.heap.size ∧ ReadsQ w' v1 fs ∧ ReadsQ w' v2 fs ∧ Below w.heap.size w w'
theorem AgS.below {M N : Nat} {m t : List UInt8} {v1 v2 : Value} {fs : Fs} {w w1 w2 : World} (h : AgS M N m t v1 v2 fs w w1) (hb : Below w1.heap.size w1 w2) : AgS M N m t v1 v2 fs w w2 := by
  obtain ⟨a0, a1, a2, b0, b1, b2, hM, hN, r1, r2, hB⟩ := h
  exact ⟨(hb.cell (p := ⟨M, 0, none⟩) hM).trans a0, (hb.cell (p := ⟨M, 1, none⟩) hM).trans a1, (hb.cell (p := ⟨M, 2, none⟩) hM).trans a2, (hb.cell (p := ⟨N, 0, none⟩) hN).trans b0, (hb.cell (p := ⟨N, 1, none⟩) hN).trans b1, (hb.cell (p := ⟨N, 2, none⟩) hN).trans b2,
    Nat.lt_of_lt_of_le hM hb.size, Nat.lt_of_lt_of_le hN hb.size, r1.below hb, r2.below hb, hB.trans (hb.mono hB.size)⟩
theorem are_ag {M N : Nat} {m t : List UInt8} {v1 v2 v : Value} {fs : Fs} {w w1 : World} (h : AgS M N m t v1 v2 fs w w1) (hv : ReadsQ w1 v fs) (hl : fs.length ≤ 1000) :
    Calls Tryz.prog 11 #[v2, v] w1 fun e w' => e = .returned (.bool true) ∧ AgS M N m t v1 v2 fs w w' := by
  refine (are_below v2 v fs fs w1 h.2.2.2.2.2.2.2.2.2.1 hv (by omega) (by omega)).mono ?_
  rintro e w' ⟨rfl, hB⟩
  exact ⟨by rw [decide_eq_true rfl], h.below hB⟩
end Go.Proofs.YtgbcpheccaldlaaGreatDoor
