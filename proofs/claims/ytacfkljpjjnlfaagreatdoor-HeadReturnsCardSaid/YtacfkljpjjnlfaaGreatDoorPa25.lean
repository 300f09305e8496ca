import Derived.Test.YtacfkljpjjnlfaaGreatDoorPa13
import Derived.Test.YtacfkljpjjnlfaaGreatDoorPa24
import Derived.Test.YtacfkljpjjnlfaaGreatDoorPa8
import Derived.Test.YtacfkljpjjnlfaaGreatDoorPa15
/- What the program's ReadResponse returns. -/
namespace Go.Proofs.YtacfkljpjjnlfaaGreatDoor
open Go.RowKit

abbrev rdP (l : List UInt8) := readP nmO vlO l
theorem respL_cons (nm vl : List UInt8 → Option (List UInt8)) (x : List UInt8) (t : List (List UInt8)) : respL nm vl (x :: t) =
    (if (cutG 32 x).1 ≠ verL then (28, 0, [])
    else if statusN (cutG 32 x).2 = 0 then (2, 0, [])
    else if (readFs nm vl t).1 ≠ 0 then ((readFs nm vl t).1, 0, [])
    else (0, statusN (cutG 32 x).2, (readFs nm vl t).2)) := rfl
theorem respL_start {nm vl : List UInt8 → Option (List UInt8)} {x : List UInt8} {t : List (List UInt8)} (h : statC x ≠ 0) : respL nm vl (x :: t) = (statC x, 0, []) := by
  rw [respL_cons]
  by_cases h1 : (cutG 32 x).1 ≠ verL
  · rw [if_pos h1, statC_28 h1]
  · rw [if_neg h1]
    by_cases h2 : statusN (cutG 32 x).2 = 0
    · rw [if_pos h2, statC_2 (by simpa using h1) h2]
    · exact absurd (statC_0 (by simpa using h1) h2) h
theorem statC_zero {x : List UInt8} (h : statC x = 0) : (cutG 32 x).1 = verL ∧ statusN (cutG 32 x).2 ≠ 0 := by
  unfold statC at h
  by_cases h1 : (cutG 32 x).1 ≠ verL
  · rw [if_pos h1] at h; cases h
  · rw [if_neg h1] at h
    by_cases h2 : statusN (cutG 32 x).2 = 0
    · rw [if_pos h2] at h; cases h
    · exact ⟨by simpa using h1, h2⟩
theorem respL_rest {nm vl : List UInt8 → Option (List UInt8)} {x : List UInt8} {t : List (List UInt8)} (h : statC x = 0) :
    respL nm vl (x :: t) = if (readFs nm vl t).1 ≠ 0 then ((readFs nm vl t).1, 0, []) else (0, statusN (cutG 32 x).2, (readFs nm vl t).2) := by
  obtain ⟨h1, h2⟩ := statC_zero h
  rw [respL_cons, if_neg (by simp [h1]), if_neg h2]
theorem rdP_split {l : List UInt8} {c : Nat} (h : (splitG l).1 = c) (hc : c ≠ 0) : rdP l = (c, (0, []), 0) := by
  unfold rdP readP; rw [h, if_pos hc]
theorem rdP_lines {l : List UInt8} (h : (splitG l).1 = 0) : rdP l = if (respL nmO vlO (splitG l).2.1).1 ≠ 0 then ((respL nmO vlO (splitG l).2.1).1, (0, []), 0) else (0, (respL nmO vlO (splitG l).2.1).2, (splitG l).2.2) := by
  unfold rdP readP; rw [if_neg (by rw [h]; simp)]
theorem rdP_start {l x : List UInt8} {t : List (List UInt8)} {c : Nat} (h : (splitG l).1 = 0) (hx : (splitG l).2.1 = x :: t) (h1 : statC x = c) (hc : c ≠ 0) : rdP l = (c, (0, []), 0) := by
  rw [rdP_lines h, hx, respL_start (by rw [h1]; exact hc), h1, if_pos hc]
theorem rdP_f {l x : List UInt8} {t : List (List UInt8)} (h : (splitG l).1 = 0) (hx : (splitG l).2.1 = x :: t) (h1 : statC x = 0) (h2 : (readFs nmO vlO t).1 ≠ 0) : rdP l = ((readFs nmO vlO t).1, (0, []), 0) := by
  rw [rdP_lines h, hx, respL_rest h1, if_pos h2, if_pos h2]
theorem rdP_g {l x : List UInt8} {t : List (List UInt8)} (h : (splitG l).1 = 0) (hx : (splitG l).2.1 = x :: t) (h1 : statC x = 0) (h2 : (readFs nmO vlO t).1 = 0) : rdP l = (0, (statusN (cutG 32 x).2, (readFs nmO vlO t).2), (splitG l).2.2) := by
  have e : respL nmO vlO (x :: t) = (0, statusN (cutG 32 x).2, (readFs nmO vlO t).2) := by rw [respL_rest h1, if_neg (by simp [h2])]
  rw [rdP_lines h, hx, e]; rfl
/-- A slice of the call's own is kept when the first block is written. -/
theorem ownsP_two (w : World) {T : TypeId} {w' : World} {v : Value} {ps : Fs} (h : OwnsP T (w.heap.size + 1) w' v ps) (a b : Value) :
    OwnsP T w.heap.size ((w'.setCell ⟨w.heap.size, 0, none⟩ a).setCell ⟨w.heap.size, 1, none⟩ b) v ps := by
  have hn : ∀ k, v.ownBlock ≠ some (⟨w.heap.size, k, none⟩ : Addr).block := fun k hq => by have := (World.ownsRow.lt h _ hq).1; simp at this; omega
  exact OwnsP.mono (Nat.le_succ _) (ownsRow_setCell_other (ownsRow_setCell_other h (hn 0) a) (hn 1) b)
/-- What ReadResponse leaves. -/
def ResPost (l : List UInt8) (w : World) (e : Ending) (w' : World) : Prop :=
  ∃ v, e = .returned (.tuple #[.agg #[.int .i64 ((rdP l).2.1.1 : Int), v], .int .i64 ((rdP l).2.2 : Int), errV (rdP l).1]) ∧ OwnsP 91 w.heap.size w' v (rdP l).2.1.2 ∧ Below w.heap.size w w'
theorem resPost_err {l : List UInt8} {w w' : World} {c : Nat} (h : rdP l = (c, (0, []), 0)) (hc : c ≠ 0) (hB : Below w.heap.size w w') :
    ResPost l w (.returned (.tuple #[.agg #[.int .i64 0, .slice none 0 0], .int .i64 0, .iface 64 (.int .i64 c)])) w' :=
  ⟨.slice none 0 0, by rw [h, errV_no hc]; rfl, by rw [h]; exact OwnsP.nil _ _ _, hB⟩
set_option maxHeartbeats 8000000 in
set_option maxRecDepth 100000 in
theorem readResponse_any (v : Value) (l : List UInt8) (w : World) (hr : ReadsB w v l) (hM : HasMax w) (hl : l.length ≤ 100000) :
    Calls Tryz.prog 23 #[v] w (ResPost l w) := by
  have hB0 : Below w.heap.size w (w.alloc (.cells #[.int .i64 0, .slice none 0 0] 57)) := below_new _ _
  have hM0 := hM.below hB0
  have D := divideG_any v l _ (hr.below hB0) hM0 hl
  have HM := Lib.hid hM0
  clear hr hM hM0
  go_enter Tryz.func23, Tryz.ntmps23
  go_wp2_with fail
  refine D.mono ?_
  rintro e w1 ⟨v1, he, hO, hB⟩
  clear D
  by_cases hs : (splitG l).1 = 0
  · obtain ⟨x, t, hx, ht, hpl⟩ := split_lines hs
    rw [hs, show errV 0 = .nilIface from rfl] at he
    rw [hx] at hO
    have HS := Lib.hid hs
    have HX := Lib.hid hx
    have HPL := Lib.hid hpl
    subst he
    obtain ⟨g, cap, rfl, hcap, hg, hc⟩ := hO.room
    have hc0 := hc 0 x rfl
    have HC := Lib.hid hc
    have R := Lib.hid (fun W hM => readStatus_any x W hM (by have := hpl x (by simp); omega))
    have F := Lib.hid (fun ao cp W (hr : ReadsS W (.slice ao t.length cp) t) hM => readFields_any (.slice ao t.length cp) t W hr hM (by omega) (fun y hy => by have := hpl y (by simp [hy]); omega))
    clear hs hx hpl hc hO
    go_wp2_with fail
    refine (R.out _ (HM.out.below hB)).mono ?_
    rintro e w2 ⟨rfl, hB2⟩
    have hBx := hB.trans (hB2.mono hB.size)
    have hg2 := Nat.lt_of_lt_of_le hg hB2.size
    have HC2 := Lib.hid (fun j y (hj : (x :: t)[j]? = some y) => (hB2.cell (p := ⟨g, j, none⟩) hg).trans (HC.out j y hj))
    clear hB hB2 HC hg R hc0
    by_cases h1 : statC x = 0
    · rw [statV_yes h1]
      have H1 := Lib.hid h1
      clear h1
      by_cases hcp : 2 ≤ cap
      · have HT := Lib.hid (tail_reads (some ⟨g, 1, none⟩) (cap - 1) hg2 HC2.out (fun _ => rfl))
        go_wp2_with fail
        refine (F.out _ _ _ HT.out (HM.out.below hBx)).mono ?_
        rintro e w3 ⟨v3, he3, hO3, hB3⟩
        have hzx := hBx.size
        have hBy := hBx.trans (hB3.mono hBx.size)
        clear hBx F
        obtain ⟨c0, c1, f0, f1, hz⟩ := box_kept w hBy
        by_cases h2 : (readFs nmO vlO t).1 = 0
        · rw [h2, show errV 0 = .nilIface from rfl] at he3
          have HE := Lib.hid (rdP_g HS.out HX.out H1.out h2)
          have hO3 := OwnsP.mono (show w.heap.size + 1 ≤ w2.heap.size by simp at hzx; omega) hO3
          obtain ⟨ao3, cap3, rfl, _⟩ := hO3.reads
          have hO5 := ownsP_two w hO3
          subst he3
          clear h2 hO3
          go_wp2_with fail
          refine bodyPost_ret (v := .tuple #[.agg #[.int .i64 (statusN (cutG 32 x).2 : Int), .slice ao3 (readFs nmO vlO t).2.length cap3], .int .i64 ((splitG l).2.2 : Int), .nilIface]) (by simp [results, Tryz.results23, go_sem, c0, c1]) rfl ?_
          exact ⟨_, by rw [HE.out]; rfl, by rw [HE.out]; exact hO5 _ _, below_two (hB0.trans (hBy.mono hB0.size)) _ _⟩
        · rw [errV_no h2] at he3
          have HE := Lib.hid (rdP_f HS.out HX.out H1.out h2)
          have H2 := Lib.hid h2
          subst he3
          clear h2
          go_wp2_with fail
          refine bodyPost_ret (v := .tuple #[.agg #[.int .i64 0, .slice none 0 0], .int .i64 0, .iface 64 (.int .i64 ((readFs nmO vlO t).1))]) (by simp [results, Tryz.results23, go_sem, c0, c1]) rfl ?_
          exact resPost_err HE.out H2.out (below_two (hB0.trans (hBy.mono hB0.size)) _ _)
      · have ht0 : t = [] := List.eq_nil_of_length_eq_zero (by omega)
        obtain rfl : cap = 1 := by omega
        subst ht0
        have HT := Lib.hid (fun ao cp => tail_reads (w := w2) (x := x) (t := []) ao cp hg2 HC2.out (fun h => absurd rfl h))
        go_wp2_with fail
        refine (F.out _ _ _ (HT.out _ _) (HM.out.below hBx)).mono ?_
        rintro e w3 ⟨v3, he3, hO3, hB3⟩
        have hzx := hBx.size
        have hBy := hBx.trans (hB3.mono hBx.size)
        clear hBx F
        obtain ⟨c0, c1, f0, f1, hz⟩ := box_kept w hBy
        by_cases h2 : (readFs nmO vlO []).1 = 0
        · rw [h2, show errV 0 = .nilIface from rfl] at he3
          have HE := Lib.hid (rdP_g HS.out HX.out H1.out h2)
          have hO3 := OwnsP.mono (show w.heap.size + 1 ≤ w2.heap.size by simp at hzx; omega) hO3
          obtain ⟨ao3, cap3, rfl, _⟩ := hO3.reads
          have hO5 := ownsP_two w hO3
          subst he3
          clear h2 hO3
          go_wp2_with fail
          refine bodyPost_ret (v := .tuple #[.agg #[.int .i64 (statusN (cutG 32 x).2 : Int), .slice ao3 (readFs nmO vlO []).2.length cap3], .int .i64 ((splitG l).2.2 : Int), .nilIface]) (by simp [results, Tryz.results23, go_sem, c0, c1]) rfl ?_
          exact ⟨_, by rw [HE.out]; rfl, by rw [HE.out]; exact hO5 _ _, below_two (hB0.trans (hBy.mono hB0.size)) _ _⟩
        · rw [errV_no h2] at he3
          have HE := Lib.hid (rdP_f HS.out HX.out H1.out h2)
          have H2 := Lib.hid h2
          subst he3
          clear h2
          go_wp2_with fail
          refine bodyPost_ret (v := .tuple #[.agg #[.int .i64 0, .slice none 0 0], .int .i64 0, .iface 64 (.int .i64 ((readFs nmO vlO []).1))]) (by simp [results, Tryz.results23, go_sem, c0, c1]) rfl ?_
          exact resPost_err HE.out H2.out (below_two (hB0.trans (hBy.mono hB0.size)) _ _)
    · rw [statV_no h1]
      have HE := Lib.hid (rdP_start HS.out HX.out rfl h1)
      have H1 := Lib.hid h1
      clear h1
      obtain ⟨c0, c1, f0, f1, hz⟩ := box_kept w hBx
      go_wp2_with fail
      refine bodyPost_ret (v := .tuple #[.agg #[.int .i64 0, .slice none 0 0], .int .i64 0, .iface 64 (.int .i64 (statC x))]) (by simp [results, Tryz.results23, go_sem, c0, c1]) rfl ?_
      exact resPost_err HE.out H1.out (below_two (hB0.trans (hBx.mono hB0.size)) _ _)
  · have HE := Lib.hid (rdP_split rfl hs)
    rw [errV_no hs] at he
    subst he
    have H1 := Lib.hid hs
    clear hs
    obtain ⟨c0, c1, f0, f1, hz⟩ := box_kept w hB
    go_wp2_with fail
    refine bodyPost_ret (v := .tuple #[.agg #[.int .i64 0, .slice none 0 0], .int .i64 0, .iface 64 (.int .i64 (splitG l).1)]) (by simp [results, Tryz.results23, go_sem, c0, c1]) rfl ?_
    exact resPost_err HE.out H1.out (below_two (hB0.trans (hB.mono hB0.size)) _ _)
end Go.Proofs.YtacfkljpjjnlfaaGreatDoor

/- What the reference's status and ReadResponse return. -/
namespace Go.Proofs.YtacfkljpjjnlfaaGreatDoor
open Go.RowKit

/-- No control byte behind the first three, up to k. -/
def tailOk (s : ByteArray) (k : Nat) : Prop := ((s.data.toList.take k).drop 3).any ctlB = false
theorem tailOk0 (s : ByteArray) : tailOk s 3 := by
  unfold tailOk
  rw [List.drop_of_length_le (by rw [List.length_take]; omega)]; rfl
theorem tailOk_step {s : ByteArray} {k : Nat} (hk : k < s.size) (h3 : 3 ≤ k) (h : tailOk s k) (hb : ctlB s[k] = false) : tailOk s (k + 1) := by
  unfold tailOk at *
  have hl : (s.data.toList.take k).length = k := by
    have : s.data.toList.length = s.size := by rw [Array.length_toList]; rfl
    rw [List.length_take]; omega
  rw [take_snoc s k hk, List.drop_append_of_le_length (by omega), List.any_append, h]
  simp [hb]
theorem tail_end {s : ByteArray} {k : Nat} (hk : s.size ≤ k) (h : tailOk s k) : (s.data.toList.drop 3).any ctlB = false := by
  unfold tailOk at h
  rwa [take_all s k hk] at h
theorem tail_bad {s : ByteArray} {k : Nat} (hk : k < s.size) (h3 : 3 ≤ k) (hb : ctlB s[k] = true) : (s.data.toList.drop 3).any ctlB = true := by
  rw [List.any_eq_true]
  have hsz : s.data.toList.length = s.size := by rw [Array.length_toList]; rfl
  refine ⟨s[k], ?_, hb⟩
  rw [List.mem_iff_getElem?]
  refine ⟨k - 3, ?_⟩
  rw [List.getElem?_drop, show 3 + (k - 3) = k by omega, List.getElem?_eq_getElem (by omega)]
  rfl
theorem status_short {s : ByteArray} (h : s.size < 3) : statusN s.data.toList = 0 := by
  have : s.data.toList.length = s.size := by rw [Array.length_toList]; rfl
  rw [statusN_eq, if_neg]; rintro ⟨a, _⟩; omega
theorem status_form {s : ByteArray} (h : 3 < s.size) (hb : s[3] ≠ 32) : statusN s.data.toList = 0 := by
  have : s.data.toList.length = s.size := by rw [Array.length_toList]; rfl
  rw [statusN_eq, if_neg]
  rintro ⟨_, h2, _⟩
  rcases h2 with h2 | h2
  · omega
  · rw [List.getElem?_eq_getElem (by omega)] at h2
    exact hb (Option.some.inj h2)
theorem status_dig {s : ByteArray} {k : Nat} (hk : k < 3) (h3 : 3 ≤ s.size) (hb : digB s[k] = false) : statusN s.data.toList = 0 := by
  have hsz : s.data.toList.length = s.size := by rw [Array.length_toList]; rfl
  rw [statusN_eq, if_neg]
  rintro ⟨_, _, a, _⟩
  have hm : s[k] ∈ s.data.toList.take 3 := by
    rw [List.mem_iff_getElem?]
    exact ⟨k, by rw [List.getElem?_take_of_lt hk, List.getElem?_eq_getElem (by omega)]; rfl⟩
  have := List.all_eq_true.1 a _ hm
  rw [hb] at this; cases this
theorem status_ctl {s : ByteArray} (h : (s.data.toList.drop 3).any ctlB = true) : statusN s.data.toList = 0 := by
  rw [statusN_eq, if_neg]
  rintro ⟨_, _, _, a, _⟩
  rw [h] at a; cases a
theorem status_out {s : ByteArray} (h : ¬ (100 ≤ numV (s.data.toList.take 3) ∧ numV (s.data.toList.take 3) ≤ 599)) : statusN s.data.toList = 0 := by
  rw [statusN_eq, if_neg]
  rintro ⟨_, _, _, _, a⟩
  exact h a
theorem status_good {s : ByteArray} (h3 : 3 ≤ s.size) (hf : s.size = 3 ∨ ∃ h : 3 < s.size, s[3] = 32) (hd : (s.data.toList.take 3).all digB = true) (hc : (s.data.toList.drop 3).any ctlB = false) (h : 100 ≤ numV (s.data.toList.take 3) ∧ numV (s.data.toList.take 3) ≤ 599) :
    statusN s.data.toList = numV (s.data.toList.take 3) := by
  have hsz : s.data.toList.length = s.size := by rw [Array.length_toList]; rfl
  rw [statusN_eq, if_pos]
  refine ⟨by omega, ?_, hd, hc, h⟩
  rcases hf with hf | ⟨hlt, hf⟩
  · exact .inl (by omega)
  · refine .inr ?_
    rw [List.getElem?_eq_getElem (by omega)]
    exact congrArg some hf
end Go.Proofs.YtacfkljpjjnlfaaGreatDoor

/- What the reference's ReadResponse returns. -/
namespace Go.Proofs.YtacfkljpjjnlfaaGreatDoor
open Go.RowKit

/-- What the reference's ReadResponse leaves. -/
def RefResPost (l : List UInt8) (w : World) (e : Ending) (w' : World) : Prop :=
  ∃ v, e = .returned (.tuple #[.agg #[.int .i64 ((rdP l).2.1.1 : Int), v], .int .i64 ((rdP l).2.2 : Int), .int .i64 ((rdP l).1 : Int)]) ∧ OwnsP 49 w.heap.size w' v (rdP l).2.1.2 ∧ Below w.heap.size w w'
theorem refRes_err {l : List UInt8} {w w' : World} {c : Nat} (h : rdP l = (c, (0, []), 0)) (hB : Below w.heap.size w w') :
    RefResPost l w (.returned (.tuple #[.agg #[.int .i64 0, .slice none 0 0], .int .i64 0, .int .i64 (c : Int)])) w' :=
  ⟨.slice none 0 0, by rw [h]; rfl, by rw [h]; exact OwnsP.nil _ _ _, hB⟩
end Go.Proofs.YtacfkljpjjnlfaaGreatDoor
