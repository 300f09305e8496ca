import Derived.Test.YtacfkljpjjnlfaaGreatDoorPa17
import Derived.Test.YtacfkljpjjnlfaaGreatDoorPa13
import Derived.Test.YtacfkljpjjnlfaaGreatDoorPa18
import Derived.Test.YtacfkljpjjnlfaaGreatDoorPa15
import Derived.Test.YtacfkljpjjnlfaaGreatDoorPa20
import Derived.Deep.RegionHeld3
import Derived.Deep.Cut
/- What the program's WriteRequest returns. -/
namespace Go.Proofs.YtacfkljpjjnlfaaGreatDoor
open Go.RowKit

abbrev wqP (m t : List UInt8) (fs : Fs) := writeQ nmO vlO hostO lowS (m, t, fs)
theorem startQ_len (m t : List UInt8) : (startQ m t).length = m.length + t.length + 10 := by unfold startQ; simp [verL]; omega
theorem wqP_large {m t : List UInt8} {fs : Fs} (h : sizeC (m.length + t.length + 10) fs ≠ 0) : sizeC (m.length + t.length + 10) fs = 5 ∧ wqP m t fs = (5, []) := by
  unfold sizeC at h ⊢
  by_cases h1 : 64 < fs.length ∨ 8192 < m.length + t.length + 10 + 4 + sizL fs
  · refine ⟨if_pos h1, ?_⟩
    unfold wqP writeQ
    simp only
    rw [enc_size, startQ_len, if_pos h1]
  · rw [if_neg h1] at h; exact absurd rfl h
theorem wqP_rest {m t : List UInt8} {fs : Fs} (h : sizeC (m.length + t.length + 10) fs = 0) : wqP m t fs =
    (if methodB m = false then (26, [])
    else if targetB m t = false then (27, [])
    else if goodB nmO vlO fs = false then (25, [])
    else match hosted hostO lowS fs with
      | none => (29, [])
      | some q => (0, enc (startQ m t :: q.map (lineW nmO)))) := by
  unfold sizeC at h
  by_cases h1 : 64 < fs.length ∨ 8192 < m.length + t.length + 10 + 4 + sizL fs
  · rw [if_pos h1] at h; exact absurd h (by decide)
  · unfold wqP writeQ
    simp only
    rw [enc_size, startQ_len, if_neg h1]
    cases hosted hostO lowS fs <;> rfl
theorem wqP_line {m t : List UInt8} {fs : Fs} (h : sizeC (m.length + t.length + 10) fs = 0) (h2 : reqC m t ≠ 0) : wqP m t fs = (reqC m t, []) := by
  rw [wqP_rest h]
  rcases reqC_pos h2 with ⟨a, b⟩ | ⟨a, b, c⟩
  · rw [b, if_pos a]
  · rw [c, if_neg (by rw [a]; simp), if_pos b]
theorem wqP_good {m t : List UInt8} {fs : Fs} (h : sizeC (m.length + t.length + 10) fs = 0) (h2 : reqC m t = 0) : wqP m t fs = if goodB nmO vlO fs = false then (25, [])
    else match hosted hostO lowS fs with
      | none => (29, [])
      | some q => (0, enc (startQ m t :: q.map (lineW nmO))) := by
  obtain ⟨a, b⟩ := reqC_zero h2
  rw [wqP_rest h, if_neg (by rw [a]; simp), if_neg (by rw [b]; simp)]
theorem goodB_of {fs : Fs} (h : ∀ f ∈ fs, GoodF nmO vlO lowS f) : goodB nmO vlO fs = true := by
  unfold goodB
  rw [List.all_eq_true]
  intro f hf
  obtain ⟨a, b⟩ := h f hf
  rw [a, b]; simp
theorem start_req (m t : List UInt8) : strB m ++ (⟨#[32]⟩ : ByteArray) ++ strB t ++ (⟨#[32]⟩ : ByteArray) ++ (⟨#[72, 84, 84, 80, 47, 49, 46, 49]⟩ : ByteArray) = strB (startQ m t) := by
  unfold startQ
  apply ByteArray.ext; simp [strB, verL]
def WReqPost (m t : List UInt8) (fs : Fs) (w : World) (e : Ending) (w' : World) : Prop :=
  ∃ v, e = .returned (.tuple #[v, errV (wqP m t fs).1]) ∧ OwnsB w.heap.size w' v (wqP m t fs).2 ∧ Below w.heap.size w w'
theorem wreq_err {m t : List UInt8} {fs : Fs} {w w' : World} {c : Nat} (h : wqP m t fs = (c, [])) (hc : c ≠ 0) (hB : Below w.heap.size w w') : WReqPost m t fs w (.returned (.tuple #[.slice none 0 0, .iface 64 (.int .i64 c)])) w' :=
  ⟨.slice none 0 0, by rw [h, errV_pos' hc], by rw [h]; exact OwnsB.nil _ _, hB⟩
set_option maxHeartbeats 8000000 in
set_option maxRecDepth 100000 in
theorem writeRequest_any (m t : List UInt8) (fv : Value) (fs : Fs) (w : World) (hr : ReadsQ w fv fs) (hM : HasMax w) (hm : m.length ≤ 100000) (ht : t.length ≤ 100000) (hl : fs.length ≤ 1000) (hb : ∀ p ∈ fs, p.1.length + p.2.length ≤ 1000000) :
    Calls Tryz.prog 15 #[.agg #[.string (strB m), .string (strB t), fv]] w (WReqPost m t fs w) := by
  have HR := Lib.hid hr
  have HM := Lib.hid hM
  have S := Lib.hid (fun w (hr : ReadsQ w fv fs) => checkSize_any (m.length + t.length + 10) fv fs w hr (by omega) hl hb)
  have L := Lib.hid (fun w => checkLine_any m t w (by omega) (by omega))
  have C := Lib.hid (fun w (hr : ReadsQ w fv fs) => canon_any fv fs w hr hl hb)
  have HB := Lib.hid hb
  rw [show (((m.length + t.length + 10 : Nat)) : Int) = (m.length : Int) + 1 + (t.length : Int) + 1 + 8 by omega] at S
  have H5 := Lib.hid (fun h => wqP_large (m := m) (t := t) (fs := fs) h)
  have H2 := Lib.hid (fun h => wqP_line (m := m) (t := t) (fs := fs) h)
  have H0 := Lib.hid (fun h => wqP_good (m := m) (t := t) (fs := fs) h)
  have HSL := Lib.hid (fun h => sizeC_len (n := m.length + t.length + 10) (fs := fs) h)
  obtain ⟨ao, cap, rfl, hc⟩ := hr
  have hB0 : Below w.heap.size w (w.alloc (.cells #[.string (strB m), .string (strB t), .slice ao fs.length cap] 27)) := below_new _ _
  have hmz : (strB m).size = m.length := strB_size _
  have htz : (strB t).size = t.length := strB_size _
  clear hc hb hM
  generalize hcz : sizeC (m.length + t.length + 10) fs = cz at *
  have HCZ := Lib.hid hcz
  clear hcz
  go_enter Tryz.func15, Tryz.ntmps15
  go_wp2_with fail
  refine (S.out _ (HR.out.below hB0)).mono ?_
  rintro e w1 ⟨rfl, hB1⟩
  obtain ⟨b0, b1, b2, bf0, bf1, bf2, bz⟩ := three_kept w hB1
  have hBx := hB0.trans (hB1.mono hB0.size)
  by_cases h0 : cz = 0
  · rw [show errV cz = .nilIface by rw [h0]; rfl]
    have hl64 := HSL.out h0
    by_cases h2 : reqC m t = 0
    · have HE := Lib.hid (H0.out h0 h2)
      rw [h2, show errV 0 = .nilIface from rfl] at L
      clear h0 h2
      go_wp2_with fail
      refine (L.out _).mono ?_
      rintro e w' ⟨rfl, rfl⟩
      go_wp2_with fail
      refine (C.out _ (HR.out.below hBx)).mono ?_
      rintro e w2 ⟨v2, he2, hO2, hB2⟩
      have hB12 := hB1.trans (hB2.mono hB1.size)
      have hBy := hB0.trans (hB12.mono hB0.size)
      clear b0 b1 b2 bf0 bf1 bf2 bz hB1 hB2
      obtain ⟨b0, b1, b2, bf0, bf1, bf2, bz⟩ := three_kept w hB12
      cases hg : goodB nmO vlO fs with
      | false =>
        rw [hg] at he2
        have HE2 := Lib.hid (show wqP m t fs = (25, []) by rw [HE.out, hg]; rfl)
        have he2' : e = .returned (.tuple #[v2, .iface 64 (.int .i64 25)]) := he2
        subst he2'
        clear hg he2
        go_wp2_with fail
        go_ret2
        exact wreq_err HE2.out (by decide) hBy
      | true =>
        rw [hg] at he2 hO2
        have he2' : e = .returned (.tuple #[v2, .nilIface]) := he2
        have hO3 : OwnsP 91 _ w2 v2 (fs.map low1) := hO2
        have HH := Lib.hid (fun W (hr : ReadsQ W v2 (fs.map low1)) hM => withHost_any v2 (fs.map low1) W hr hM (by rw [List.length_map]; omega) (by
          intro p hp
          obtain ⟨q, hq, rfl⟩ := List.mem_map.1 hp
          have := HB.out q hq
          unfold low1; rw [lowS_len]; exact this))
        obtain ⟨ao2, n2, cp2, rfl⟩ : ∃ a n c, v2 = .slice a n c := by obtain ⟨ao, cap, rfl, _⟩ := hO3.reads; exact ⟨_, _, _, rfl⟩
        have HQ := Lib.hid hO3.q
        have HG := Lib.hid hg
        subst he2'
        clear hg he2 hO2 hO3
        go_wp2_with fail
        refine (HH.out _ HQ.out (HM.out.below hBy)).mono ?_
        rintro e w3 ⟨v3, he3, hO3, hB3⟩
        have hB13 := hB12.trans (hB3.mono hB12.size)
        have hBz := hB0.trans (hB13.mono hB0.size)
        clear b0 b1 b2 bf0 bf1 bf2 bz hBy hB12 hB3
        obtain ⟨b0, b1, b2, bf0, bf1, bf2, bz⟩ := three_kept w hB13
        rw [withH_low] at he3 hO3
        cases hh : hosted hostO lowS fs with
        | none =>
          rw [hh] at he3
          have HE2 := Lib.hid (show wqP m t fs = (29, []) by rw [HE.out, if_neg (by rw [HG.out]; simp), hh])
          have he3' : e = .returned (.tuple #[v3, .iface 64 (.int .i64 29)]) := he3
          subst he3'
          clear hh he3
          go_wp2_with fail
          go_ret2
          exact wreq_err HE2.out (by decide) hBz
        | some q =>
          rw [hh] at he3 hO3
          have HE2 := Lib.hid (show wqP m t fs = (0, enc (startQ m t :: q.map (lineW nmO))) by rw [HE.out, if_neg (by rw [HG.out]; simp), hh])
          have hgq := goodB_of (good_lowH flk (good_mem flk HG.out) hh)
          have HLL := Lib.hid (lines_low hgq)
          have e1 := (hosted_some flk hh).1
          have he3' : e = .returned (.tuple #[v3, .nilIface]) := he3
          have hO4 : OwnsP 91 _ w3 v3 (q.map low1) := hO3
          obtain ⟨ao3, n3, cp3, rfl⟩ : ∃ a n c, v3 = .slice a n c := by obtain ⟨ao, cap, rfl, _⟩ := hO4.reads; exact ⟨_, _, _, rfl⟩
          have W := write_any (startQ m t) (.slice ao3 n3 cp3) (q.map low1) w3 hO4.q (by rw [startQ_len]; omega) (by rw [List.length_map, e1, List.length_map]; omega) (by
            intro p hp
            obtain ⟨q1, hq1, rfl⟩ := List.mem_map.1 hp
            rw [e1] at hq1
            obtain ⟨f, hf, rfl⟩ := List.mem_map.1 hq1
            have := HB.out f hf
            unfold low1 lowH
            split <;> simp only [lowS_len] <;> exact this)
          rw [HLL.out] at W
          have hst := start_req m t
          rw [← hst] at W
          have HST := Lib.hid hst
          subst he3'
          clear hh he3 hO3 hO4 e1 hgq hst
          go_wp2_with fail
          refine W.mono ?_
          rintro e w4 ⟨v4, rfl, hO4, hB4⟩
          obtain hv4 | ⟨g4, cp4, rfl, _⟩ := hO4.isSlice
          · exact absurd (congrArg List.length hv4.2) (by rw [enc_cons]; simp)
          go_wp2_with fail
          go_ret2
          exact ⟨_, by rw [HE2.out]; rfl, by rw [HE2.out]; exact hO4.mono hBz.size, hBz.trans (hB4.mono hBz.size)⟩
    · have HE := Lib.hid (H2.out h0 h2)
      have H3 := Lib.hid h2
      rw [errV_no h2] at L
      clear h0 h2
      go_wp2_with fail
      refine (L.out _).mono ?_
      rintro e w' ⟨rfl, rfl⟩
      go_wp2_with fail
      go_ret2
      exact wreq_err HE.out H3.out hBx
  · obtain ⟨h5, h6⟩ := H5.out h0
    have HE := Lib.hid h6
    rw [show errV cz = .iface 64 (.int .i64 5) by rw [h5]; rfl]
    clear h0 h5 h6
    go_wp2_with fail
    go_ret2
    exact wreq_err HE.out (by decide) hBx
end Go.Proofs.YtacfkljpjjnlfaaGreatDoor

/- The statements' Ref: the reference's fields of the program's. -/
namespace Go.Proofs.YtacfkljpjjnlfaaGreatDoor
open Go.RowKit

set_option maxHeartbeats 2000000 in
set_option maxRecDepth 100000 in
theorem ref2_any (lv : Value) (ps : Flds) (w : World) (hr : ReadsQ w lv ps) (hl : ps.length ≤ 1000) :
    Calls Tryz.prog 24 #[lv] w fun e w' => ∃ v, e = .returned v ∧ OwnsP 49 w.heap.size w' v ps ∧ Below w.heap.size w w' := by
  obtain ⟨i0, hi, hz0, hz1, hz2⟩ := info_parts Tryz.infoG
  obtain ⟨ao, cap, rfl, hc⟩ := hr
  have HC := Lib.hid hc
  clear hc
  go_enter Tryz.func24, Tryz.ntmps24
  go_wp2_with fail
  go_loopw [3, 8] (fun v i wr => ∃ k : Nat, i = .int .i64 k ∧ k ≤ ps.length ∧ OwnsP 49 w.heap.size wr v (ps.take k) ∧ Below w.heap.size w wr) (fun _ i _ => ps.length - (intOf i).toNat)
  case atStart => exact ⟨0, rfl, Nat.zero_le _, OwnsP.nil _ _ _, Below.refl _ _⟩
  case round =>
    obtain ⟨k, rfl, hk, hO, hBr⟩ := hrel
    have hbr := hBr.size
    by_cases hlt : k < ps.length
    · obtain ⟨p, hp⟩ : ∃ p, ps[k]? = some p := ⟨ps[k], by simp [hlt]⟩
      obtain ⟨g, off, rfl, hg1, h1, h2⟩ := HC.out k p hp
      have hc1 : wr.cell? ⟨g, off + k * 2, none⟩ = some (.string (strB p.1)) := (hBr.cell (p := ⟨g, off + k * 2, none⟩) hg1).trans h1
      have hc2 : wr.cell? ⟨g, off + k * 2 + 1, none⟩ = some (.string (strB p.2)) := (hBr.cell (p := ⟨g, off + k * 2 + 1, none⟩) hg1).trans h2
      have HP := Lib.hid hp
      clear hp h1 h2
      have hlen : (ps.take k).length = k := by simp; omega
      have HLen := Lib.hid hlen
      clear hlen
      go_wp2_with (at_builtin; refine wpList_append_own _ rfl _ _ 32 rfl w.heap.size 49 i0 (.agg #[.string ByteArray.empty, .string ByteArray.empty]) 2 32 Tryz.underlying32 hi hz0 hz1 hz2 rfl (by decide) _ _ _ rfl ((World.ownsRow.alloc hO _).alloc _) ⟨wr.heap.size + 1, 0, none⟩ 1 1 [strV p.1, strV p.2] rfl rfl (two_new' wr p.1 p.2 _ _) (fun u hu => by simp at hu; rcases hu with rfl | rfl <;> rfl) (by rw [HLen.out]; unfold maxLen; omega) (by rw [HLen.out]; omega) (by simp; omega) ?_; intro v' w4 hown' hgrow _)
      go_roundw
      case rel => exact ⟨k + 1, by go_num, by omega, own_more HP.out hown', below_appendP hBr hbr (below_new wr _) hO hgrow⟩
      case measure => simp [intOf]; omega
    · have htk : ps.take k = ps := List.take_of_length_le (by omega)
      rw [htk] at hO
      go_wp2_with fail
      go_ret
      exact ⟨_, rfl, hO, hBr⟩
end Go.Proofs.YtacfkljpjjnlfaaGreatDoor

/- HeadAgain: for every two texts the statement's function returns true: the walk. -/
namespace Go.Proofs.YtacfkljpjjnlfaaGreatDoor
open Go.RowKit

/-- A request, read from a string's bytes. -/
theorem read_conv3 (s : ByteArray) (z : Nat) (W : World) (g : Nat) (hz : z = s.size) (hg : g = W.heap.size) (hM : HasMax W) (hl : s.size ≤ 100000) :
    Calls Tryz.prog 10 #[.slice (some ⟨g, 0, none⟩) z (grownCap W z 0 5)]
      (W.alloc (.cells (bytesRow s (grownCap W z 0 5)) 5 ((bytesRow s (grownCap W z 0 5)).size, (bytesRow s (grownCap W z 0 5)).size + 1))).drew
      fun e w' => ∃ a c, e = .returned (.tuple #[.agg #[.string (strB (rdQ s.data.toList).2.1.1), .string (strB (rdQ s.data.toList).2.1.2.1), .slice a (rdQ s.data.toList).2.1.2.2.length c], .int .i64 ((rdQ s.data.toList).2.2 : Int), errV (rdQ s.data.toList).1]) ∧ OwnsP 91 W.heap.size w' (.slice a (rdQ s.data.toList).2.1.2.2.length c) (rdQ s.data.toList).2.1.2.2 ∧ Below W.heap.size W w' := by
  subst hz
  obtain ⟨hB, hr⟩ := bytes_conv' s W g hg
  have hsl : s.data.toList.length = s.size := by rw [Array.length_toList]; rfl
  refine (readRequest_any _ _ _ hr (hM.below hB) (by omega)).mono ?_
  rintro e w' ⟨v, rfl, hO, hB2⟩
  obtain ⟨ao, cap, rfl, _⟩ := hO.reads
  exact ⟨_, _, rfl, OwnsP.mono hB.size hO, hB.trans (hB2.mono hB.size)⟩
theorem OwnsB.readsB {B : Nat} {w : World} {v : Value} {l : List UInt8} (h : OwnsB B w v l) (hne : l ≠ []) : ∃ g cap, v = .slice (some ⟨g, 0, none⟩) l.length cap ∧ ReadsB w (.slice (some ⟨g, 0, none⟩) l.length cap) l := by
  rcases h.isSlice with ⟨_, e⟩ | ⟨g, cap, rfl, h1, _, h2, h3⟩
  · exact absurd e hne
  · exact ⟨g, cap, rfl, _, cap, rfl, h1, .inr ⟨g, 0, rfl, h2, fun i hi => by rw [Nat.zero_add]; exact h3 i hi⟩⟩
/-- How long the parts of a request that is read are. -/
theorem rdQ_parts {l m t : List UInt8} {fs : Fs} {n : Nat} (h : rdQ l = (0, (m, t, fs), n)) : m.length ≤ 100000 ∧ t.length ≤ 100000 ∧ fs.length ≤ 64 ∧ ∀ p ∈ fs, p.1.length + p.2.length ≤ 1000000 := by
  obtain ⟨h1, h2, ls, fs0, h3, h4, _, _, h7, _, h9, _⟩ := readQ_some h
  have hf := rdQ_flen l
  rw [h] at hf
  refine ⟨?_, ?_, hf, fun p hp => ?_⟩
  · unfold methodB at h1; simp only [Bool.and_eq_true, decide_eq_true_eq] at h1; omega
  · unfold targetB at h2; simp only [Bool.and_eq_true, decide_eq_true_eq] at h2; omega
  · have e1 := (hosted_some flk h4).1
    rw [e1] at hp
    obtain ⟨f, hf, rfl⟩ := List.mem_map.1 hp
    have e3 : fs0 = (readFs nmO vlO ls).2 := by rw [h3]
    rw [e3] at hf
    obtain ⟨y, hy, rfl, _⟩ := readFs_mem f hf
    have h5 := rdF_len y
    have h6 := enc_part (startQ m t :: ls) y (by simp [hy])
    have h8 : (lowH lowS (readF nmO vlO y).2).1.length + (lowH lowS (readF nmO vlO y).2).2.length = (rdF y).2.1.length + (rdF y).2.2.length := by
      unfold lowH; split <;> simp [lowS_len]
    omega
/-- Two requests lie in their variables, and their fields are read. -/
def AgS (M N : Nat) (m t : List UInt8) (v1 v2 : Value) (fs : Fs) (w w' : World) : Prop :=
  w'.cell? ⟨M, 0, none⟩ = some (.string (strB m)) ∧ w'.cell? ⟨M, 1, none⟩ = some (.string (strB t)) ∧ w'.cell? ⟨M, 2, none⟩ = some v1 ∧ w'.cell? ⟨N, 0, none⟩ = some (.string (strB m)) ∧ w'.cell? ⟨N, 1, none⟩ = some (.string (strB t)) ∧ w'.cell? ⟨N, 2, none⟩ = some v2 ∧ M < w'.heap.size ∧ N < w'.heap.size ∧ ReadsQ w' v1 fs ∧ ReadsQ w' v2 fs ∧ Below w.heap.size w w'
theorem AgS.below {M N : Nat} {m t : List UInt8} {v1 v2 : Value} {fs : Fs} {w w1 w2 : World} (h : AgS M N m t v1 v2 fs w w1) (hb : Below w1.heap.size w1 w2) : AgS M N m t v1 v2 fs w w2 := by
  obtain ⟨a0, a1, a2, b0, b1, b2, hM, hN, r1, r2, hB⟩ := h
  exact ⟨(hb.cell (p := ⟨M, 0, none⟩) hM).trans a0, (hb.cell (p := ⟨M, 1, none⟩) hM).trans a1, (hb.cell (p := ⟨M, 2, none⟩) hM).trans a2, (hb.cell (p := ⟨N, 0, none⟩) hN).trans b0, (hb.cell (p := ⟨N, 1, none⟩) hN).trans b1, (hb.cell (p := ⟨N, 2, none⟩) hN).trans b2,
    Nat.lt_of_lt_of_le hM hb.size, Nat.lt_of_lt_of_le hN hb.size, r1.below hb, r2.below hb, hB.trans (hb.mono hB.size)⟩
theorem ref_ag {M N : Nat} {m t : List UInt8} {v1 v2 : Value} {fs : Fs} {w w1 : World} (h : AgS M N m t v1 v2 fs w w1) (hl : fs.length ≤ 1000) :
    Calls Tryz.prog 24 #[v1] w1 fun e w' => ∃ v, e = .returned v ∧ ReadsQ w' v fs ∧ AgS M N m t v1 v2 fs w w' := by
  refine (ref2_any v1 fs w1 h.2.2.2.2.2.2.2.2.1 hl).mono ?_
  rintro e w' ⟨v, rfl, hO, hB⟩
  exact ⟨v, rfl, hO.q, h.below hB⟩
theorem are_ag {M N : Nat} {m t : List UInt8} {v1 v2 v : Value} {fs : Fs} {w w1 : World} (h : AgS M N m t v1 v2 fs w w1) (hv : ReadsQ w1 v fs) (hl : fs.length ≤ 1000) :
    Calls Tryz.prog 20 #[v2, v] w1 fun e w' => e = .returned (.bool true) ∧ AgS M N m t v1 v2 fs w w' := by
  refine (are_below v2 v fs fs w1 h.2.2.2.2.2.2.2.2.2.1 hv (by omega) (by omega)).mono ?_
  rintro e w' ⟨rfl, hB⟩
  exact ⟨by rw [decide_eq_true rfl], h.below hB⟩
set_option maxHeartbeats 8000000 in
set_option maxRecDepth 100000 in
theorem again_walk (s r : ByteArray) (w : World) (hM : HasMax w) (hT : HasTab w) (hs : s.size ≤ 140737488355328) (hr : r.size ≤ 140737488355328) :
    Calls Tryz.prog 7 #[.string s, .string r] w fun e w' => e = .returned (.bool true) ∧ Below w.heap.size w w' := by
  have HM := Lib.hid hM
  have HT := Lib.hid hT
  clear hM hT
  by_cases hbig : 20000 < s.size + r.size
  · go_enter Tryz.func7, Tryz.ntmps7
    go_wp2_with fail
    refine (awake_any _ HT.out).mono ?_
    rintro e w1 ⟨rfl, hB⟩
    go_wp2_with fail
    refine (awake_any _ (HT.out.below hB)).mono ?_
    rintro e w2 ⟨rfl, hB2⟩
    go_wp2_with fail
    go_ret
    exact ⟨rfl, hB.trans (hB2.mono hB.size)⟩
  · have hcb := fun (W : World) (s : ByteArray) => run_bytes_of_string (P := Tryz.prog) W 9 23 5 s Tryz.underlying9 Tryz.underlying23 Tryz.underlying5
    have hsl : s.data.toList.length = s.size := by rw [Array.length_toList]; rfl
    go_enter Tryz.func7, Tryz.ntmps7
    go_wp2_with fail
    refine (awake_any _ HT.out).mono ?_
    rintro e w1 ⟨rfl, hB⟩
    have R1 := read_conv3 s s.size w1 w1.heap.size rfl rfl (HM.out.below hB) (by omega)
    go_wp2_with fail
    refine R1.mono ?_
    rintro e w3 ⟨a3, c3, he, hO3, hB3⟩
    have hB3' := hB.trans (hB3.mono hB.size)
    clear R1 hB3 hB
    by_cases hc0 : (rdQ s.data.toList).1 = 0
    · obtain ⟨m, t, fs, n, hq⟩ : ∃ m t fs n, rdQ s.data.toList = (0, (m, t, fs), n) := ⟨_, _, _, _, Prod.ext hc0 rfl⟩
      obtain ⟨hn1, hn2, hn3⟩ := rdQ_at hq
      rw [hsl] at hn2
      obtain ⟨hpm, hpt, hpf, hpb⟩ := rdQ_parts hq
      have HL := Lib.hid (show fs.length ≤ 1000 by omega)
      have HPB := Lib.hid hpb
      have A1 := Lib.hid (readQ_again hq r.data.toList)
      have A2 := Lib.hid (readQ_write flk hq)
      rw [hq] at he hO3
      rw [show errV (0, (m, t, fs), n).1 = .nilIface from rfl] at he
      try simp only at he hO3
      subst he
      clear hc0 hq hpb
      have hpre := fun w => slice_pre s n hn2 w
      have hP : (strB (s.data.toList.take n)).size ≤ 20000 := by rw [strB_size, List.length_take]; omega
      have hcat : (strB (s.data.toList.take n) ++ r).data.toList = s.data.toList.take n ++ r.data.toList := by rw [strB_app, strB_list]
      have hsz : (strB (s.data.toList.take n)).size + r.size = (strB (s.data.toList.take n) ++ r).size := by rw [ByteArray.size_append]
      have A3 : rdQ (strB (s.data.toList.take n) ++ r).data.toList = (0, (m, t, fs), n) := by rw [hcat]; exact A1.out
      have hB4 := hB3'.alloc hB3'.size (.cells #[.string (strB m), .string (strB t), .slice a3 fs.length c3] 27)
      generalize strB (s.data.toList.take n) = P at *
      have R2 := Lib.hid (fun hg hM => read_conv3 (P ++ r) (P.size + r.size) (w3.alloc (.cells #[.string (strB m), .string (strB t), .slice a3 fs.length c3] 27)) (w3.heap.size + 1) hsz hg hM (by omega))
      rw [A3] at R2
      clear hcat hsz A1 A3
      go_wp2_with fail
      refine (R2.out (by simp) (HM.out.below hB4)).mono ?_
      rintro e w6 ⟨a6, c6, he, hO6, hB6⟩
      rw [show errV (0, (m, t, fs), n).1 = .nilIface from rfl] at he
      try simp only at he hO6
      subst he
      have hx : ∀ j, (w3.alloc (.cells #[.string (strB m), .string (strB t), .slice a3 fs.length c3] 27)).cell? ⟨w3.heap.size, j, none⟩ = (#[.string (strB m), .string (strB t), .slice a3 fs.length c3] : Array Value)[j]? := fun j => by rw [World.cell?_alloc_at _ _ _ _ rfl]
      have hz4 : w3.heap.size < (w3.alloc (.cells #[.string (strB m), .string (strB t), .slice a3 fs.length c3] 27)).heap.size := by simp
      have x0 := (hB6.cell (p := ⟨w3.heap.size, 0, none⟩) hz4).trans (hx 0)
      have x1 := (hB6.cell (p := ⟨w3.heap.size, 1, none⟩) hz4).trans (hx 1)
      have x2 := (hB6.cell (p := ⟨w3.heap.size, 2, none⟩) hz4).trans (hx 2)
      have hO3 := OwnsP.below (OwnsP.below hO3 (below_new w3 (.cells #[.string (strB m), .string (strB t), .slice a3 fs.length c3] 27))) hB6
      have hB6' := hB4.trans (hB6.mono hB4.size)
      have hM6 : w3.heap.size < w6.heap.size := Nat.lt_of_lt_of_le hz4 hB6.size
      clear hx hz4 R2 hB4 hB6 hB3' hpre hP
      generalize w3.heap.size = M at *
      go_upto_region 9 with fail
      have hbn := below_new w6 (.cells #[.string (strB m), .string (strB t), .slice a6 fs.length c6] 27)
      have hx : ∀ j, (w6.alloc (.cells #[.string (strB m), .string (strB t), .slice a6 fs.length c6] 27)).cell? ⟨w6.heap.size, j, none⟩ = (#[.string (strB m), .string (strB t), .slice a6 fs.length c6] : Array Value)[j]? := fun j => by rw [World.cell?_alloc_at _ _ _ _ rfl]
      have hS0 : AgS M w6.heap.size m t (.slice a3 fs.length c3) (.slice a6 fs.length c6) fs w (w6.alloc (.cells #[.string (strB m), .string (strB t), .slice a6 fs.length c6] 27)) :=
        ⟨(hbn.cell (p := ⟨M, 0, none⟩) hM6).trans x0, (hbn.cell (p := ⟨M, 1, none⟩) hM6).trans x1, (hbn.cell (p := ⟨M, 2, none⟩) hM6).trans x2, hx 0, hx 1, hx 2, by simp; omega, by simp, (OwnsP.below hO3 hbn).q, (OwnsP.below hO6 hbn).q, hB6'.trans (hbn.mono hB6'.size)⟩
      generalize (w6.alloc (.cells #[.string (strB m), .string (strB t), .slice a6 fs.length c6] 27)) = w7 at *
      generalize w6.heap.size = N at *
      have hSd := hS0.below (Below.refl _ _).drew
      clear hx hbn x0 x1 x2 hO3 hO6 hB6' hM6
      have q1 := toList_same (rfl : m = m)
      have q2 := toList_same (rfl : t = t)
      go_region_held3 (fun w' => w'.cell? ⟨M, 0, none⟩ = some (.string (strB m)) ∧ w'.cell? ⟨M, 1, none⟩ = some (.string (strB t)) ∧ w'.cell? ⟨M, 2, none⟩ = some (.slice a3 fs.length c3) ∧ w'.cell? ⟨N, 0, none⟩ = some (.string (strB m)) ∧ w'.cell? ⟨N, 1, none⟩ = some (.string (strB t)) ∧ w'.cell? ⟨N, 2, none⟩ = some (.slice a6 fs.length c6) ∧ M < w'.heap.size ∧ N < w'.heap.size ∧ ReadsQ w' (.slice a3 fs.length c3) fs ∧ ReadsQ w' (.slice a6 fs.length c6) fs ∧ Below w.heap.size w w')
        (first | exact hK | exact hK1 | exact hSd)
        (first
          | (go_at_call 24; refine (ref_ag (by first | exact hSd | assumption) HL.out).mono ?_; rintro e w9 ⟨vr, rfl, hvr, hK1⟩)
          | (go_at_call 20; refine (are_ag hK1 hvr HL.out).mono ?_; rintro e w9 ⟨rfl, hK⟩))
      have hK0 := hK
      obtain ⟨y0, y1, y2, z0, z1, z2, hyM, hyN, r1, r2, hBk⟩ := hK0
      have HK := Lib.hid hK
      have WR := writeRequest_any m t (.slice a3 fs.length c3) fs w9 r1 (HM.out.below hBk) hpm hpt HL.out HPB.out
      clear hSd hS0 hK1 hvr r1 r2 hBk hK
      go_wp2_with fail
      refine WR.mono ?_
      rintro e w10 ⟨v10, he, hO10, hB10⟩
      have hK10 := HK.out.below hB10
      rcases A2.out with ⟨h5, h6⟩ | ⟨b, h5, h6⟩
      · rw [show wqP m t fs = (5, []) from h5] at he
        rw [errV_no (by decide)] at he
        try simp only at he
        have hn8 : 8128 < n := by omega
        have hBf := hK10.2.2.2.2.2.2.2.2.2.2
        subst he
        obtain ⟨a10, n10, c10, rfl⟩ : ∃ a n c, v10 = .slice a n c := by
          rcases hO10.isSlice with ⟨rfl, _⟩ | ⟨g, cap, rfl, _⟩
          · exact ⟨_, _, _, rfl⟩
          · exact ⟨_, _, _, rfl⟩
        clear h5 h6 hO10 WR y0 y1 y2 z0 z1 z2
        go_wp2_with fail
        refine (isE_errno 5 (by decide) _).mono ?_
        rintro e w' ⟨rfl, rfl⟩
        have hdec : decide ((8128 : Int) < (n : Int)) = true := decide_eq_true (by omega)
        go_wp2_with fail
        go_ret
        exact ⟨rfl, hBf⟩
      · rw [show wqP m t fs = (0, b) from h5] at he hO10
        rw [show errV (0, b).1 = .nilIface from rfl] at he
        try simp only at he hO10
        have hbne : b ≠ [] := by
          rintro rfl
          have := (rdQ_at h6).1
          simp at this
        obtain ⟨g10, c10, rfl, hR10⟩ := hO10.readsB hbne
        have hbl : b.length ≤ 8192 := (rdQ_at h6).2.2
        have R3 := readRequest_any _ b w10 hR10 (HM.out.below hK10.2.2.2.2.2.2.2.2.2.2) (by omega)
        unfold ReqPost at R3
        rw [show rdQ b = (0, (m, t, fs), b.length) from h6] at R3
        subst he
        clear h5 h6 hO10 hR10 WR y0 y1 y2 z0 z1 z2
        go_wp2_with fail
        refine R3.mono ?_
        rintro e w11 ⟨v11, he, hO11, hB11⟩
        rw [show errV (0, (m, t, fs), b.length).1 = .nilIface from rfl] at he
        try simp only at he hO11
        obtain ⟨a6, c6, rfl, _⟩ := hO11.reads
        subst he
        have hK11 := hK10.below hB11
        clear R3 hB11 hK10 HK
        go_upto_region 15 with fail
        have hbn := below_new w11 (.cells #[.string (strB m), .string (strB t), .slice a6 fs.length c6] 27)
        have hx : ∀ j, (w11.alloc (.cells #[.string (strB m), .string (strB t), .slice a6 fs.length c6] 27)).cell? ⟨w11.heap.size, j, none⟩ = (#[.string (strB m), .string (strB t), .slice a6 fs.length c6] : Array Value)[j]? := fun j => by rw [World.cell?_alloc_at _ _ _ _ rfl]
        have hK12 := hK11.below hbn
        have hS0 : AgS M w11.heap.size m t (.slice a3 fs.length c3) (.slice a6 fs.length c6) fs w (w11.alloc (.cells #[.string (strB m), .string (strB t), .slice a6 fs.length c6] 27)) :=
          ⟨hK12.1, hK12.2.1, hK12.2.2.1, hx 0, hx 1, hx 2, hK12.2.2.2.2.2.2.1, by simp, hK12.2.2.2.2.2.2.2.2.1, (OwnsP.below hO11 hbn).q, hK12.2.2.2.2.2.2.2.2.2.2⟩
        generalize (w11.alloc (.cells #[.string (strB m), .string (strB t), .slice a6 fs.length c6] 27)) = w12 at *
        clear hK11 hK12 hbn hx hO11
        generalize w11.heap.size = N at *
        have hSd := hS0.below (Below.refl _ _).drew
        go_region_held3 (fun w' => w'.cell? ⟨M, 0, none⟩ = some (.string (strB m)) ∧ w'.cell? ⟨M, 1, none⟩ = some (.string (strB t)) ∧ w'.cell? ⟨M, 2, none⟩ = some (.slice a3 fs.length c3) ∧ w'.cell? ⟨N, 0, none⟩ = some (.string (strB m)) ∧ w'.cell? ⟨N, 1, none⟩ = some (.string (strB t)) ∧ w'.cell? ⟨N, 2, none⟩ = some (.slice a6 fs.length c6) ∧ M < w'.heap.size ∧ N < w'.heap.size ∧ ReadsQ w' (.slice a3 fs.length c3) fs ∧ ReadsQ w' (.slice a6 fs.length c6) fs ∧ Below w.heap.size w w')
          (first | exact hK | exact hK1 | exact hSd)
          (first
            | (go_at_call 24; refine (ref_ag (by first | exact hSd | assumption) HL.out).mono ?_; rintro e w9 ⟨vr, rfl, hvr, hK1⟩)
            | (go_at_call 20; refine (are_ag hK1 hvr HL.out).mono ?_; rintro e w9 ⟨rfl, hK⟩))
        have hBf := hK.2.2.2.2.2.2.2.2.2.2
        go_wp2_with fail
        go_ret
        exact ⟨rfl, hBf⟩
    · have hn0 := readQ_err (nm := nmO) (vl := vlO) (hs := hostO) (lw := lowS) hc0
      have hn0' : (rdQ s.data.toList).2 = (([], [], []), 0) := hn0
      rw [errV_no hc0, hn0'] at he
      simp only at he
      subst he
      clear hc0 hn0 hn0'
      go_wp2_with fail
      go_ret
      exact ⟨rfl, hB3'.alloc hB3'.size _⟩
end Go.Proofs.YtacfkljpjjnlfaaGreatDoor
