import Derived.Test.YtfmgfcddnnggeaaGreatDoorPa23
import Derived.Test.YtfmgfcddnnggeaaGreatDoorPa24
import Derived.Test.YtfmgfcddnnggeaaGreatDoorPa7
import Derived.Test.YtfmgfcddnnggeaaGreatDoorPa20
/- What the program's ReadResponse returns. -/
namespace Go.Proofs.YtfmgfcddnnggeaaGreatDoor
open Go.RowKit

abbrev rdP (l : List UInt8) := readP nmO vlO l
theorem respL_cons (nm vl : List UInt8 → Option (List UInt8)) (x : List UInt8) (t : List (List UInt8)) : respL nm vl (x :: t) =
    (if (cutG 32 x).1 ≠ verL then (28, 0, [])
    else if statusN (cutG 32 x).2 = 0 then (2, 0, [])
    else if (readFs nm vl t).1 ≠ 0 then ((readFs nm vl t).1, 0, [])
    else (0, statusN (cutG 32 x).2, (readFs nm vl t).2)) := rfl
theorem respL_start {nm vl : List UInt8 → Option (List UInt8)} {x : List UInt8} {t : List (List UInt8)} (h : statC x ≠ 0) : respL nm vl (x :: t) = (statC x, 0, []) := by
  rw [respL_cons]
  by_cases h1 : (cutG 32 x).1 ≠ verL
  · rw [if_pos h1, statC_28 h1]
  · rw [if_neg h1]
    by_cases h2 : statusN (cutG 32 x).2 = 0
    · rw [if_pos h2, statC_2 (by simpa using h1) h2]
    · exact absurd (statC_0 (by simpa using h1) h2) h
theorem statC_zero {x : List UInt8} (h : statC x = 0) : (cutG 32 x).1 = verL ∧ statusN (cutG 32 x).2 ≠ 0 := by
  unfold statC at h
  by_cases h1 : (cutG 32 x).1 ≠ verL
  · rw [if_pos h1] at h; cases h
  · rw [if_neg h1] at h
    by_cases h2 : statusN (cutG 32 x).2 = 0
    · rw [if_pos h2] at h; cases h
    · exact ⟨by simpa using h1, h2⟩
theorem respL_rest {nm vl : List UInt8 → Option (List UInt8)} {x : List UInt8} {t : List (List UInt8)} (h : statC x = 0) :
    respL nm vl (x :: t) = if (readFs nm vl t).1 ≠ 0 then ((readFs nm vl t).1, 0, []) else (0, statusN (cutG 32 x).2, (readFs nm vl t).2) := by
  obtain ⟨h1, h2⟩ := statC_zero h
  rw [respL_cons, if_neg (by simp [h1]), if_neg h2]
theorem rdP_split {l : List UInt8} {c : Nat} (h : (splitG l).1 = c) (hc : c ≠ 0) : rdP l = (c, (0, []), 0) := by
  unfold rdP readP; rw [h, if_pos hc]
theorem rdP_lines {l : List UInt8} (h : (splitG l).1 = 0) : rdP l = if (respL nmO vlO (splitG l).2.1).1 ≠ 0 then ((respL nmO vlO (splitG l).2.1).1, (0, []), 0) else (0, (respL nmO vlO (splitG l).2.1).2, (splitG l).2.2) := by
  unfold rdP readP; rw [if_neg (by rw [h]; simp)]
theorem rdP_start {l x : List UInt8} {t : List (List UInt8)} {c : Nat} (h : (splitG l).1 = 0) (hx : (splitG l).2.1 = x :: t) (h1 : statC x = c) (hc : c ≠ 0) : rdP l = (c, (0, []), 0) := by
  rw [rdP_lines h, hx, respL_start (by rw [h1]; exact hc), h1, if_pos hc]
theorem rdP_f {l x : List UInt8} {t : List (List UInt8)} (h : (splitG l).1 = 0) (hx : (splitG l).2.1 = x :: t) (h1 : statC x = 0) (h2 : (readFs nmO vlO t).1 ≠ 0) : rdP l = ((readFs nmO vlO t).1, (0, []), 0) := by
  rw [rdP_lines h, hx, respL_rest h1, if_pos h2, if_pos h2]
theorem rdP_g {l x : List UInt8} {t : List (List UInt8)} (h : (splitG l).1 = 0) (hx : (splitG l).2.1 = x :: t) (h1 : statC x = 0) (h2 : (readFs nmO vlO t).1 = 0) : rdP l = (0, (statusN (cutG 32 x).2, (readFs nmO vlO t).2), (splitG l).2.2) := by
  have e : respL nmO vlO (x :: t) = (0, statusN (cutG 32 x).2, (readFs nmO vlO t).2) := by rw [respL_rest h1, if_neg (by simp [h2])]
  rw [rdP_lines h, hx, e]; rfl
/-- A slice of the call's own is kept when the first block is written. -/
theorem ownsP_two (w : World) {T : TypeId} {w' : World} {v : Value} {ps : Fs} (h : OwnsP T (w.heap.size + 1) w' v ps) (a b : Value) :
    OwnsP T w.heap.size ((w'.setCell ⟨w.heap.size, 0, none⟩ a).setCell ⟨w.heap.size, 1, none⟩ b) v ps := by
  have hn : ∀ k, v.ownBlock ≠ some (⟨w.heap.size, k, none⟩ : Addr).block := fun k hq => by have := (World.ownsRow.lt h _ hq).1; simp at this; omega
  exact OwnsP.mono (Nat.le_succ _) (ownsRow_setCell_other (ownsRow_setCell_other h (hn 0) a) (hn 1) b)
/-- What ReadResponse leaves. -/
def ResPost (l : List UInt8) (w : World) (e : Ending) (w' : World) : Prop :=
  ∃ v, e = .returned (.tuple #[.agg #[.int .i64 ((rdP l).2.1.1 : Int), v], .int .i64 ((rdP l).2.2 : Int), errV (rdP l).1]) ∧ OwnsP 71 w.heap.size w' v (rdP l).2.1.2 ∧ Below w.heap.size w w'
theorem resPost_err {l : List UInt8} {w w' : World} {c : Nat} (h : rdP l = (c, (0, []), 0)) (hc : c ≠ 0) (hB : Below w.heap.size w w') :
    ResPost l w (.returned (.tuple #[.agg #[.int .i64 0, .slice none 0 0], .int .i64 0, .iface 32 (.int .i64 c)])) w' :=
  ⟨.slice none 0 0, by rw [h, errV_no hc]; rfl, by rw [h]; exact OwnsP.nil _ _ _, hB⟩
set_option maxHeartbeats 8000000 in
set_option maxRecDepth 100000 in
theorem readResponse_any (v : Value) (l : List UInt8) (w : World) (hr : ReadsB w v l) (hM : HasMax w) (hl : l.length ≤ 100000) :
    Calls Tryz.prog 31 #[v] w (ResPost l w) := by
  have hB0 : Below w.heap.size w (w.alloc (.cells #[.int .i64 0, .slice none 0 0] 38)) := below_new _ _
  have hM0 := hM.below hB0
  have D := divideG_any v l _ (hr.below hB0) hM0 hl
  have HM := Lib.hid hM0
  clear hr hM hM0
  go_enter Tryz.func31, Tryz.ntmps31
  go_wp2_with fail
  refine D.mono ?_
  rintro e w1 ⟨v1, he, hO, hB⟩
  clear D
  by_cases hs : (splitG l).1 = 0
  · obtain ⟨x, t, hx, ht, hpl⟩ := split_lines hs
    rw [hs, show errV 0 = .nilIface from rfl] at he
    rw [hx] at hO
    have HS := Lib.hid hs
    have HX := Lib.hid hx
    have HPL := Lib.hid hpl
    subst he
    obtain ⟨g, cap, rfl, hcap, hg, hc⟩ := hO.room
    have hc0 := hc 0 x rfl
    have HC := Lib.hid hc
    have R := Lib.hid (fun W hM => readStatus_any x W hM (by have := hpl x (by simp); omega))
    have F := Lib.hid (fun ao cp W (hr : ReadsS W (.slice ao t.length cp) t) hM => readFields_any (.slice ao t.length cp) t W hr hM (by omega) (fun y hy => by have := hpl y (by simp [hy]); omega))
    clear hs hx hpl hc hO
    go_wp2_with fail
    refine (R.out _ (HM.out.below hB)).mono ?_
    rintro e w2 ⟨rfl, hB2⟩
    have hBx := hB.trans (hB2.mono hB.size)
    have hg2 := Nat.lt_of_lt_of_le hg hB2.size
    have HC2 := Lib.hid (fun j y (hj : (x :: t)[j]? = some y) => (hB2.cell (p := ⟨g, j, none⟩) hg).trans (HC.out j y hj))
    clear hB hB2 HC hg R hc0
    by_cases h1 : statC x = 0
    · rw [statV_yes h1]
      have H1 := Lib.hid h1
      clear h1
      by_cases hcp : 2 ≤ cap
      · have HT := Lib.hid (tail_reads (some ⟨g, 1, none⟩) (cap - 1) hg2 HC2.out (fun _ => rfl))
        go_wp2_with fail
        refine (F.out _ _ _ HT.out (HM.out.below hBx)).mono ?_
        rintro e w3 ⟨v3, he3, hO3, hB3⟩
        have hzx := hBx.size
        have hBy := hBx.trans (hB3.mono hBx.size)
        clear hBx F
        obtain ⟨c0, c1, f0, f1, hz⟩ := box_kept w hBy
        by_cases h2 : (readFs nmO vlO t).1 = 0
        · rw [h2, show errV 0 = .nilIface from rfl] at he3
          have HE := Lib.hid (rdP_g HS.out HX.out H1.out h2)
          have hO3 := OwnsP.mono (show w.heap.size + 1 ≤ w2.heap.size by simp at hzx; omega) hO3
          obtain ⟨ao3, cap3, rfl, _⟩ := hO3.reads
          have hO5 := ownsP_two w hO3
          subst he3
          clear h2 hO3
          go_wp2_with fail
          refine bodyPost_ret (v := .tuple #[.agg #[.int .i64 (statusN (cutG 32 x).2 : Int), .slice ao3 (readFs nmO vlO t).2.length cap3], .int .i64 ((splitG l).2.2 : Int), .nilIface]) (by simp [results, Tryz.results31, go_sem, c0, c1]) rfl ?_
          exact ⟨_, by rw [HE.out]; rfl, by rw [HE.out]; exact hO5 _ _, below_two (hB0.trans (hBy.mono hB0.size)) _ _⟩
        · rw [errV_no h2] at he3
          have HE := Lib.hid (rdP_f HS.out HX.out H1.out h2)
          have H2 := Lib.hid h2
          subst he3
          clear h2
          go_wp2_with fail
          refine bodyPost_ret (v := .tuple #[.agg #[.int .i64 0, .slice none 0 0], .int .i64 0, .iface 32 (.int .i64 ((readFs nmO vlO t).1))]) (by simp [results, Tryz.results31, go_sem, c0, c1]) rfl ?_
          exact resPost_err HE.out H2.out (below_two (hB0.trans (hBy.mono hB0.size)) _ _)
      · have ht0 : t = [] := List.eq_nil_of_length_eq_zero (by omega)
        obtain rfl : cap = 1 := by omega
        subst ht0
        have HT := Lib.hid (fun ao cp => tail_reads (w := w2) (x := x) (t := []) ao cp hg2 HC2.out (fun h => absurd rfl h))
        go_wp2_with fail
        refine (F.out _ _ _ (HT.out _ _) (HM.out.below hBx)).mono ?_
        rintro e w3 ⟨v3, he3, hO3, hB3⟩
        have hzx := hBx.size
        have hBy := hBx.trans (hB3.mono hBx.size)
        clear hBx F
        obtain ⟨c0, c1, f0, f1, hz⟩ := box_kept w hBy
        by_cases h2 : (readFs nmO vlO []).1 = 0
        · rw [h2, show errV 0 = .nilIface from rfl] at he3
          have HE := Lib.hid (rdP_g HS.out HX.out H1.out h2)
          have hO3 := OwnsP.mono (show w.heap.size + 1 ≤ w2.heap.size by simp at hzx; omega) hO3
          obtain ⟨ao3, cap3, rfl, _⟩ := hO3.reads
          have hO5 := ownsP_two w hO3
          subst he3
          clear h2 hO3
          go_wp2_with fail
          refine bodyPost_ret (v := .tuple #[.agg #[.int .i64 (statusN (cutG 32 x).2 : Int), .slice ao3 (readFs nmO vlO []).2.length cap3], .int .i64 ((splitG l).2.2 : Int), .nilIface]) (by simp [results, Tryz.results31, go_sem, c0, c1]) rfl ?_
          exact ⟨_, by rw [HE.out]; rfl, by rw [HE.out]; exact hO5 _ _, below_two (hB0.trans (hBy.mono hB0.size)) _ _⟩
        · rw [errV_no h2] at he3
          have HE := Lib.hid (rdP_f HS.out HX.out H1.out h2)
          have H2 := Lib.hid h2
          subst he3
          clear h2
          go_wp2_with fail
          refine bodyPost_ret (v := .tuple #[.agg #[.int .i64 0, .slice none 0 0], .int .i64 0, .iface 32 (.int .i64 ((readFs nmO vlO []).1))]) (by simp [results, Tryz.results31, go_sem, c0, c1]) rfl ?_
          exact resPost_err HE.out H2.out (below_two (hB0.trans (hBy.mono hB0.size)) _ _)
    · rw [statV_no h1]
      have HE := Lib.hid (rdP_start HS.out HX.out rfl h1)
      have H1 := Lib.hid h1
      clear h1
      obtain ⟨c0, c1, f0, f1, hz⟩ := box_kept w hBx
      go_wp2_with fail
      refine bodyPost_ret (v := .tuple #[.agg #[.int .i64 0, .slice none 0 0], .int .i64 0, .iface 32 (.int .i64 (statC x))]) (by simp [results, Tryz.results31, go_sem, c0, c1]) rfl ?_
      exact resPost_err HE.out H1.out (below_two (hB0.trans (hBx.mono hB0.size)) _ _)
  · have HE := Lib.hid (rdP_split rfl hs)
    rw [errV_no hs] at he
    subst he
    have H1 := Lib.hid hs
    clear hs
    obtain ⟨c0, c1, f0, f1, hz⟩ := box_kept w hB
    go_wp2_with fail
    refine bodyPost_ret (v := .tuple #[.agg #[.int .i64 0, .slice none 0 0], .int .i64 0, .iface 32 (.int .i64 (splitG l).1)]) (by simp [results, Tryz.results31, go_sem, c0, c1]) rfl ?_
    exact resPost_err HE.out H1.out (below_two (hB0.trans (hB.mono hB0.size)) _ _)
end Go.Proofs.YtfmgfcddnnggeaaGreatDoor

/- What the connection's readHead returns. -/
namespace Go.Proofs.YtfmgfcddnnggeaaGreatDoor
open Go.RowKit

theorem readsB_own {B : Nat} {w : World} {v : Value} {l : List UInt8} (h : OwnB B w v l) : ReadsB w v l := by
  have hr := h.reads
  obtain ⟨hl, ⟨rfl, hn⟩ | ⟨g, cap, cur, rfl, _, hg, hc, _⟩⟩ := h
  · exact ⟨none, 0, by rw [hn], by omega, .inl ⟨rfl, rfl⟩⟩
  · refine ⟨_, cap, rfl, hc, .inr ⟨g, 0, rfl, (Array.getElem?_eq_some_iff.1 hg).1, ?_⟩⟩
    intro j hj
    obtain ⟨ao, cp, hv, _, _, _, hcc⟩ := hr
    obtain ⟨g', off, ha, _, h1⟩ := hcc j (l[j]'hj) (by simp)
    simp only [Value.slice.injEq] at hv
    rw [← hv.1] at ha
    obtain ⟨rfl, rfl⟩ : g = g' ∧ 0 = off := by simpa using ha
    exact h1
theorem own_slice' {T : TypeId} {B : Nat} {w : World} {v : Value} {ps : Flds} (h : OwnsP T B w v ps) : ∃ a c, v = .slice a ps.length c := by
  obtain ⟨a, c, hv, _⟩ := OwnsP.q h
  exact ⟨a, c, hv⟩
/-- What readHead leaves. -/
def HdPost (s : Cn) (w : World) (e : Ending) (w' : World) : Prop :=
  ∃ q p, e = .returned (.tuple #[evV (hdR s.rs s.st).2.1 q p noV noV, .int .i64 ((hdR s.rs s.st).2.2 : Int), errV (hdR s.rs s.st).1]) ∧ OwnsP 71 w.heap.size w' q (hdR s.rs s.st).2.1.q.2.2 ∧ OwnsP 71 w.heap.size w' p (hdR s.rs s.st).2.1.p.2 ∧ Below w.heap.size w w'
theorem only_rdP (W : World) (N : Nat) (b0 b1 b2 b3 b4 b5 b6 b7 b8 b9 : Value) : Only (fun k => k = N) W ((((((((((W.setCell ⟨N, 4, none⟩ b0).setCell ⟨N, 5, none⟩ b1).setCell ⟨N, 0, none⟩ b2).setCell ⟨N, 1, none⟩ b3).setCell ⟨N, 2, none⟩ b4).setCell ⟨N, 3, none⟩ b5).setCell ⟨N, 4, none⟩ b6).setCell ⟨N, 5, none⟩ b7).setCell ⟨N, 6, none⟩ b8).setCell ⟨N, 7, none⟩ b9) :=
  ((((((((((Only.set (X := fun k => k = N) (b := N) rfl _ _ _).trans' (Only.set (X := fun k => k = N) (b := N) rfl _ _ _)).trans' (Only.set (X := fun k => k = N) (b := N) rfl _ _ _)).trans' (Only.set (X := fun k => k = N) (b := N) rfl _ _ _)).trans' (Only.set (X := fun k => k = N) (b := N) rfl _ _ _)).trans' (Only.set (X := fun k => k = N) (b := N) rfl _ _ _)).trans' (Only.set (X := fun k => k = N) (b := N) rfl _ _ _)).trans' (Only.set (X := fun k => k = N) (b := N) rfl _ _ _)).trans' (Only.set (X := fun k => k = N) (b := N) rfl _ _ _)).trans' (Only.set (X := fun k => k = N) (b := N) rfl _ _ _))
theorem only_rdQ (W : World) (N : Nat) (b0 b1 b2 b3 b4 b5 b6 b7 b8 b9 b10 : Value) : Only (fun k => k = N) W (((((((((((W.setCell ⟨N, 1, none⟩ b0).setCell ⟨N, 2, none⟩ b1).setCell ⟨N, 3, none⟩ b2).setCell ⟨N, 0, none⟩ b3).setCell ⟨N, 1, none⟩ b4).setCell ⟨N, 2, none⟩ b5).setCell ⟨N, 3, none⟩ b6).setCell ⟨N, 4, none⟩ b7).setCell ⟨N, 5, none⟩ b8).setCell ⟨N, 6, none⟩ b9).setCell ⟨N, 7, none⟩ b10) :=
  (((((((((((Only.set (X := fun k => k = N) (b := N) rfl _ _ _).trans' (Only.set (X := fun k => k = N) (b := N) rfl _ _ _)).trans' (Only.set (X := fun k => k = N) (b := N) rfl _ _ _)).trans' (Only.set (X := fun k => k = N) (b := N) rfl _ _ _)).trans' (Only.set (X := fun k => k = N) (b := N) rfl _ _ _)).trans' (Only.set (X := fun k => k = N) (b := N) rfl _ _ _)).trans' (Only.set (X := fun k => k = N) (b := N) rfl _ _ _)).trans' (Only.set (X := fun k => k = N) (b := N) rfl _ _ _)).trans' (Only.set (X := fun k => k = N) (b := N) rfl _ _ _)).trans' (Only.set (X := fun k => k = N) (b := N) rfl _ _ _)).trans' (Only.set (X := fun k => k = N) (b := N) rfl _ _ _))
/-- What readHead returns stands apart from what it writes. -/
theorem hd_post {s : Cn} {w w2 wF : World} {o : Obj} {q p : Value} (hB : Below (w.alloc o).heap.size (w.alloc o) w2) (hq : OwnsP 71 (w.alloc o).heap.size w2 q (hdR s.rs s.st).2.1.q.2.2) (hp : OwnsP 71 (w.alloc o).heap.size w2 p (hdR s.rs s.st).2.1.p.2) (hF : Only (fun k => k = w.heap.size) w2 wF) :
    HdPost s w (.returned (.tuple #[evV (hdR s.rs s.st).2.1 q p noV noV, .int .i64 ((hdR s.rs s.st).2.2 : Int), errV (hdR s.rs s.st).1])) wF := by
  have hs : (w.alloc o).heap.size = w.heap.size + 1 := by simp
  have hsz := hB.size
  exact ⟨q, p, rfl, OwnsP.mono (by omega) (ownsP_only hq hF (fun k hk => by omega)), OwnsP.mono (by omega) (ownsP_only hp hF (fun k hk => by omega)), (box_below hB).trans (hF.to (fun k hk => by omega) (by omega))⟩
set_option maxHeartbeats 4000000 in
set_option maxRecDepth 100000 in
theorem readHead_any {B P : Nat} {X XM XD : Nat → Prop} {s : Cn} {mv sv dv : Value} {w : World} (h : ConP B P X XM XD s mv sv dv w) (hM : HasMax w) (hl : s.st.length ≤ 8192) :
    Calls Tryz.prog 23 #[.pointer (some ⟨P, 0, none⟩)] w (HdPost s w) := by
  have hs : P < w.heap.size := (h.lt P h.p).2
  obtain ⟨c0, _, _, c3, _, _, _, _, _, _⟩ := h.cells
  have HP := Lib.hid h
  have HM := Lib.hid hM
  have hbw : ∀ w1, Below w.heap.size w w1 → ReadsB w1 sv s.st := fun w1 hb => readsB_own (h.t.below hb)
  have HRB := Lib.hid hbw
  obtain ⟨sa, sc, rfl⟩ := h.t.isSlice
  clear h hM hbw
  cases hrs : s.rs with
  | true =>
    rw [hrs] at c0
    have HRS := Lib.hid hrs
    have RR := Lib.hid (fun W hb hM => readResponse_any (.slice sa s.st.length sc) s.st W (HRB.out W hb) hM (by omega))
    unfold ResPost at RR
    have HE : Hid (hdR s.rs s.st = ((rdP s.st).1, ⟨1, noQ, (rdP s.st).2.1, [], []⟩, (rdP s.st).2.2)) := Lib.hid (by unfold hdR; rw [hrs]; rfl)
    clear hrs
    go_enter Tryz.func23, Tryz.ntmps23
    go_wp2_with fail
    refine (RR.out _ (below_new _ _) (HM.out.below (below_new _ _))).mono ?_
    rintro e w2 ⟨v, rfl, hO, hB⟩
    obtain ⟨va, vc, rfl⟩ := own_slice' hO
    have K := eight_kept w hB
    have j0 : w2.cell? ⟨w.heap.size, 0, none⟩ = some (.int .i64 1) := (K 0).1
    have j1 : w2.cell? ⟨w.heap.size, 1, none⟩ = some (.string ⟨#[]⟩) := (K 1).1
    have j2 : w2.cell? ⟨w.heap.size, 2, none⟩ = some (.string ⟨#[]⟩) := (K 2).1
    have j3 : w2.cell? ⟨w.heap.size, 3, none⟩ = some noV := (K 3).1
    have j4 : w2.cell? ⟨w.heap.size, 4, none⟩ = some (.int .i64 0) := (K 4).1
    have j5 : w2.cell? ⟨w.heap.size, 5, none⟩ = some noV := (K 5).1
    have j6 : w2.cell? ⟨w.heap.size, 6, none⟩ = some noV := (K 6).1
    have j7 : w2.cell? ⟨w.heap.size, 7, none⟩ = some noV := (K 7).1
    have k0 := (K 0).2
    have k1 := (K 1).2
    have k2 := (K 2).2
    have k3 := (K 3).2
    have k4 := (K 4).2
    have k5 := (K 5).2
    have k6 := (K 6).2
    have k7 := (K 7).2
    have HO := Lib.hid hO
    have HB := Lib.hid hB
    have HPO := Lib.hid (fun wF (hF : Only (fun k => k = w.heap.size) w2 wF) => by have h := hd_post (s := s) (wF := wF) HB.out (q := noV) (p := (.slice va (rdP s.st).2.1.2.length vc)) (by rw [HE.out]; first | exact HO.out | exact OwnsP.nil _ _ _) (by rw [HE.out]; first | exact HO.out | exact OwnsP.nil _ _ _) hF; rw [HE.out] at h; exact h)
    clear K hO hB
    go_wp2_with fail
    refine bodyPost_ret (v := .tuple #[evV ⟨1, noQ, (rdP s.st).2.1, [], []⟩ noV (.slice va (rdP s.st).2.1.2.length vc) noV noV, .int .i64 ((rdP s.st).2.2 : Int), errV (rdP s.st).1]) (by simp (maxDischargeDepth := 9) [results, Tryz.results23, go_sem, strB, j0, j1, j2, j3, j4, j5, j6, j7]) rfl ?_
    exact HPO.out _ (only_rdP _ _ _ _ _ _ _ _ _ _ _ _)
  | false =>
    rw [hrs] at c0
    have HRS := Lib.hid hrs
    have RR := Lib.hid (fun W hb hM => readRequest_any (.slice sa s.st.length sc) s.st W (HRB.out W hb) hM (by omega))
    unfold ReqPost at RR
    have HE : Hid (hdR s.rs s.st = ((rdQ s.st).1, ⟨1, (rdQ s.st).2.1, noP, [], []⟩, (rdQ s.st).2.2)) := Lib.hid (by unfold hdR; rw [hrs]; rfl)
    clear hrs
    go_enter Tryz.func23, Tryz.ntmps23
    go_wp2_with fail
    refine (RR.out _ (below_new _ _) (HM.out.below (below_new _ _))).mono ?_
    rintro e w2 ⟨v, rfl, hO, hB⟩
    obtain ⟨va, vc, rfl⟩ := own_slice' hO
    have K := eight_kept w hB
    have j0 : w2.cell? ⟨w.heap.size, 0, none⟩ = some (.int .i64 1) := (K 0).1
    have j1 : w2.cell? ⟨w.heap.size, 1, none⟩ = some (.string ⟨#[]⟩) := (K 1).1
    have j2 : w2.cell? ⟨w.heap.size, 2, none⟩ = some (.string ⟨#[]⟩) := (K 2).1
    have j3 : w2.cell? ⟨w.heap.size, 3, none⟩ = some noV := (K 3).1
    have j4 : w2.cell? ⟨w.heap.size, 4, none⟩ = some (.int .i64 0) := (K 4).1
    have j5 : w2.cell? ⟨w.heap.size, 5, none⟩ = some noV := (K 5).1
    have j6 : w2.cell? ⟨w.heap.size, 6, none⟩ = some noV := (K 6).1
    have j7 : w2.cell? ⟨w.heap.size, 7, none⟩ = some noV := (K 7).1
    have k0 := (K 0).2
    have k1 := (K 1).2
    have k2 := (K 2).2
    have k3 := (K 3).2
    have k4 := (K 4).2
    have k5 := (K 5).2
    have k6 := (K 6).2
    have k7 := (K 7).2
    have HO := Lib.hid hO
    have HB := Lib.hid hB
    have HPO := Lib.hid (fun wF (hF : Only (fun k => k = w.heap.size) w2 wF) => by have h := hd_post (s := s) (wF := wF) HB.out (q := (.slice va (rdQ s.st).2.1.2.2.length vc)) (p := noV) (by rw [HE.out]; first | exact HO.out | exact OwnsP.nil _ _ _) (by rw [HE.out]; first | exact HO.out | exact OwnsP.nil _ _ _) hF; rw [HE.out] at h; exact h)
    clear K hO hB
    go_wp2_with fail
    refine bodyPost_ret (v := .tuple #[evV ⟨1, (rdQ s.st).2.1, noP, [], []⟩ (.slice va (rdQ s.st).2.1.2.2.length vc) noV noV noV, .int .i64 ((rdQ s.st).2.2 : Int), errV (rdQ s.st).1]) (by simp (maxDischargeDepth := 9) [results, Tryz.results23, go_sem, strB, j0, j1, j2, j3, j4, j5, j6, j7]) rfl ?_
    exact HPO.out _ (only_rdQ _ _ _ _ _ _ _ _ _ _ _ _ _)
end Go.Proofs.YtfmgfcddnnggeaaGreatDoor

/- What slices.Clone returns of bytes; the data that a connection hands out. -/
namespace Go.Proofs.YtfmgfcddnnggeaaGreatDoor
open Go.RowKit

theorem own_madeB (w : World) : OwnB w.heap.size (w.alloc (.cells #[] 5)) (.slice (some ⟨w.heap.size, 0, none⟩) 0 0) [] :=
  World.ownsRow_made w #[] 0 (Nat.le_refl _) (Nat.zero_le _) (by simp)
set_option maxHeartbeats 1000000 in
set_option maxRecDepth 100000 in
theorem cloneB_any (bv : Value) (l : List UInt8) (w : World) (hr : ReadsD w bv l) (hl : l.length ≤ 1000000000) :
    Calls Tryz.prog 30 #[bv] w fun e w' => ∃ v, e = .returned v ∧ OwnB w.heap.size w' v l ∧ Below w.heap.size w w' := by
  have q22 : ∀ (w : World) (a : Option Addr) (n c n' c' : Nat), (binOp .eql 30 (.slice a n c) (.slice none n' c')).run Tryz.prog w = .ok (.bool a.isNone) w := fun w a n c n' c' => Lib.run_eql_slice_nil w _ _ a n c n' c' Tryz.underlying30
  have HR := Lib.hid hr
  obtain ⟨ao, cap, rfl, h1, h2, h3, _⟩ := id hr
  clear hr
  cases ao with
  | none =>
    obtain ⟨rfl, _⟩ := readsB_none HR.out
    obtain rfl := h3 rfl
    go_enter Tryz.func30, Tryz.ntmps30
    go_wp2_with fail
    go_ret
    exact ⟨_, rfl, OwnB.nil _ _, Below.refl _ _⟩
  | some ad =>
    clear h1 h2 h3
    have HM := Lib.hid (own_madeB w)
    have HR' := Lib.hid (HR.out.below (below_new w (.cells #[] 5)))
    go_enter Tryz.func30, Tryz.ntmps30
    go_wp2_with (at_builtin; refine wpList_appendB (by rfl) _ _ (by rfl) _ _ (by rfl) (by rfl) HM.out HR'.out (by simp; omega) (by simp) ?_; intro v' w1 hown hgrow)
    go_wp2_with fail
    go_ret
    refine ⟨v', rfl, by simpa using hown, ?_⟩
    exact ((Below.refl _ w).alloc (Nat.le_refl _) _).grown hgrow (by simp) (fun k hk => (World.ownsRow.lt HM.out k hk).1)
/-- What takeData leaves, hands out and takes: the connection, the data, the number of bytes, the error's number. -/
def tdC (s : Cn) (l : List UInt8) : Cn × List UInt8 × Nat × Nat :=
  if s.fk = 3 then match s.dc with
    | some d => ({ s with dc := some (wrD d l).1 }, (wrD d l).2.1, (wrD d l).2.2, (wrD d l).1.er)
    | none => (s, [], 0, 0)
  else if s.fk = 2 then ({ s with fl := s.fl - min l.length s.fl }, l.take (min l.length s.fl), min l.length s.fl, 0)
  else (s, l, l.length, 0)
def TdPost (B P : Nat) (X : Nat → Prop) (r : Cn × List UInt8 × Nat × Nat) (w : World) (e : Ending) (w' : World) : Prop :=
  ∃ v X', e = .returned (.tuple #[v, .int .i64 (r.2.2.1 : Int), errV r.2.2.2]) ∧ (∀ k, X' k → X k ∨ w.heap.size ≤ k) ∧ Con B P X' r.1 w' ∧ Only X w w' ∧ OwnB w.heap.size w' v r.2.1 ∧ (∀ k, v.ownBlock = some k → ¬ X' k)
/-- The decoder has taken what it takes. -/
theorem td_post {B P Q : Nat} {X XM XD : Nat → Prop} {s : Cn} {mv sv : Value} {d : Dc} {l : List UInt8} {w w' : World} {e : Ending} (h : ConP B P X XM XD s mv sv (.pointer (some ⟨Q, 0, none⟩)) w) (h3 : s.fk = 3) (hd : s.dc = some d) (hW : WritePost B Q XD d l w e w') :
    TdPost B P X (tdC s l) w e w' := by
  obtain ⟨v, X', rfl, hD, hX, hO, hv, hn⟩ := hW
  have e1 : tdC s l = ({ s with dc := some (wrD d l).1 }, (wrD d l).2.1, (wrD d l).2.2, (wrD d l).1.er) := by unfold tdC; rw [if_pos h3, hd]
  rw [e1]
  have hPl := (h.lt P h.p).2
  have hDl := hD.lt.2.2
  have key : ∀ k, X' k → k < w.heap.size → XD k := fun k hk hl => (hX k hk).elim id (fun h => by omega)
  have hOX : Only X w w' := hO.mono fun k hk => (h.xd k hk).1
  refine ⟨v, fun k => X k ∨ X' k, rfl, fun k hk => ?_, ⟨mv, sv, .pointer (some ⟨Q, 0, none⟩), XM, X', ?_⟩, hOX, hv, fun k hk hk' => ?_⟩
  · rcases hk with a | a
    · exact .inl a
    · exact (hX k a).elim (fun a => .inl (h.xd k a).1) .inr
  · refine ⟨(hO.block P hPl (fun a => (h.xd P a).2.1 rfl)).trans h.h, h.m.only hO (fun k hk a => (h.xd k a).2.2 hk), h.t.only hO (fun k hk => (h.xs k hk).2.2.2), ⟨Q, rfl, hD⟩, .inl h.p, fun k hk => ⟨.inl (h.xm k hk).1, (h.xm k hk).2⟩, fun k hk => ?_, fun k hk => ?_, fun k hk => ?_⟩
    · obtain ⟨a, b, c, e⟩ := h.xs k hk
      exact ⟨.inl a, b, c, fun z => e (key k z (h.lt k a).2)⟩
    · refine ⟨.inr hk, fun z => ?_, fun z => ?_⟩
      · subst z; exact (h.xd _ (key _ hk hPl)).2.1 rfl
      · have zl := (h.lt k (h.xm k z).1).2
        exact (h.xd k (key k hk zl)).2.2 z
    · rcases hk with a | a
      · exact ⟨(h.lt k a).1, Nat.lt_of_lt_of_le (h.lt k a).2 hO.size⟩
      · exact hDl k a
  · rcases hk' with a | a
    · have := (World.ownsRow.lt hv k hk).1; have := (h.lt k a).2; omega
    · exact hn k hk a
/-- The data are a copy of what the body takes. -/
theorem td_copy {B P : Nat} {X XM XD : Nat → Prop} {s' : Cn} {mv sv dv v : Value} {d : List UInt8} {n : Nat} {w w1 w' : World} {e : Ending} (h : ConP B P X XM XD s' mv sv dv w1) (hO1 : Only X w w1) (hs : w1.heap.size = w.heap.size) (hv : OwnB w1.heap.size w' v d) (hB : Below w1.heap.size w1 w') (he : e = .returned (.tuple #[v, .int .i64 (n : Int), .nilIface])) :
    TdPost B P X (s', d, n, 0) w e w' := by
  refine ⟨v, X, he, fun k hk => .inl hk, ⟨mv, sv, dv, XM, XD, h.below hB⟩, hO1.trans' (Only.below hB), hs ▸ hv, fun k hk hk' => ?_⟩
  have := (World.ownsRow.lt hv k hk).1
  have := (h.lt k hk').2
  omega
set_option maxHeartbeats 2000000 in
set_option maxRecDepth 100000 in
theorem cnData_any {B P : Nat} {X : Nat → Prop} {s : Cn} (bv : Value) (l : List UInt8) (w : World) (h : Con B P X s w) (hok : s.Ok) (_ : s.fk ≠ 0) (hb : ReadsD w bv l) (hbX : l ≠ [] → ∀ k, bv.ownBlock = some k → ¬ X k) (hM : MaxB B w) (hl : l.length ≤ 1000000000) :
    Calls Tryz.prog 22 #[.pointer (some ⟨P, 0, none⟩), bv] w (TdPost B P X (tdC s l) w) := by
  obtain ⟨mv, sv, dv, XM, XD, hp⟩ := h
  have HP := Lib.hid hp
  obtain ⟨_, _, _, _, c4, c5, c6, _, _, f⟩ := hp.cells
  have f5 := f 5
  have hs : P < w.heap.size := (hp.lt P hp.p).2
  have HB := Lib.hid hb
  have HX := Lib.hid hbX
  have HM := Lib.hid hM
  obtain ⟨ba, bc, rfl⟩ : ∃ a c, bv = .slice a l.length c := by obtain ⟨a, c, h, _⟩ := hb; exact ⟨a, c, h⟩
  by_cases h3 : s.fk = 3
  · obtain ⟨d, hd, hdo, _⟩ := hok.o5 h3
    have hD := hp.d
    rw [hd] at hD
    obtain ⟨Q, rfl, hD⟩ := hD
    have HXD := Lib.hid hp.xd
    have HW := Lib.hid (fun (W : World) (hW : W = w) => by subst hW; exact decWrite_any (.slice ba l.length bc) l W hD HM.out hdo HB.out (fun hn k hk a => HX.out hn k hk (HXD.out k a).1) hl)
    have HT := Lib.hid (fun e w' => td_post (l := l) (w' := w') (e := e) HP.out h3 hd)
    rw [h3] at c4
    clear hp f hb hbX hM hD hok hd hdo h3
    go_enter Tryz.func22, Tryz.ntmps22
    go_wp2_with fail
    refine (HW.out _ rfl).mono ?_
    intro e w2 hW
    have hT := HT.out e w2 hW
    obtain ⟨v, X', he, _⟩ := hW
    subst he
    have HT2 := Lib.hid hT
    clear hT
    go_wp2_with fail
    refine bodyPost_ret (v := .tuple #[v, .int .i64 ((wrD d l).2.2 : Int), errV (wrD d l).1.er]) (by simp [results, Tryz.results22, go_sem]) rfl ?_
    exact HT2.out
  · clear hM HM
    have z3 : ((s.fk : Int) == 3) = false := by simp; omega
    by_cases h2 : s.fk = 2
    · have HE : Hid (tdC s l = ({ s with fl := s.fl - min l.length s.fl }, l.take (min l.length s.fl), min l.length s.fl, 0)) := Lib.hid (by unfold tdC; rw [if_neg h3, if_pos h2])
      rw [h2] at c4
      have Z3 := Lib.hid z3
      have ho4 := hok.o4
      obtain ⟨n, hn⟩ : ∃ n : Nat, n = min l.length s.fl := ⟨_, rfl⟩
      rw [← hn] at HE
      have hmin : min (l.length : Int) (s.fl : Int) = (n : Int) := by omega
      have hnl : n ≤ l.length := by omega
      have hnf : n ≤ s.fl := by omega
      obtain ⟨hcap, hcapm⟩ : l.length ≤ bc ∧ bc ≤ maxLen := by obtain ⟨a, c, h, h1, h2, _⟩ := HB.out; cases h; exact ⟨h1, h2⟩
      have hwr : wrap64 ((s.fl : Int) - (n : Int)) = ((s.fl - n : Nat) : Int) := by unfold wrap64; omega
      have hmx : max (n : Int) 0 = (n : Int) := by omega
      have hbn : ReadsD w (.slice ba n bc) (l.take n) := by
        obtain ⟨a, c, h, h1, h2, h4, h5⟩ := HB.out
        cases h
        have e : (l.take n).length = n := by simp; omega
        exact ⟨ba, bc, by rw [e], by omega, hcapm, h4, fun j c hj => by
          have hjn : j < n := by have := (List.getElem?_eq_some_iff.mp hj).1; omega
          rw [List.getElem?_take_of_lt hjn] at hj; exact h5 j c hj⟩
      have HBN : Hid (∀ (j : Nat) (u : Value), ReadsD (w.setCell ⟨P, j, none⟩ u) (.slice ba n bc) (l.take n)) := Lib.hid (fun j u => by
        by_cases hl0 : l = []
        · have h9 := hbn
          subst hl0
          obtain ⟨a, c, h, h1, h2, h4, h5⟩ := h9
          exact ⟨a, c, h, h1, h2, h4, fun j c hj => by simp at hj⟩
        · refine hbn.only (Only.set (X := fun k => k = P) rfl _ _ _) (fun k hk a => ?_)
          subst a
          exact HX.out hl0 k (by cases ba <;> exact hk) HP.out.p)
      have HP2 := Lib.hid (HP.out.fl (n := s.fl - n) (z := (s.fl : Int) - (n : Int)) (by omega))
      have HNN : Hid ((l.take n).length = n) := Lib.hid (by simp; omega)
      clear hp f hb hbX hok h3 h2 z3 hn hbn
      go_enter Tryz.func22, Tryz.ntmps22
      go_wp2_with fail
      refine (cloneB_any _ (l.take n) _ (HBN.out _ _) (by rw [HNN.out]; omega)).mono ?_
      rintro e w2 ⟨v, rfl, hO, hB⟩
      have HO := Lib.hid hO
      have HB2 := Lib.hid hB
      clear hO hB
      go_wp2_with fail
      refine bodyPost_ret (v := .tuple #[v, .int .i64 (n : Int), .nilIface]) (by simp [results, Tryz.results22, go_sem]) rfl ?_
      rw [HE.out]
      exact td_copy HP2.out (Only.set HP.out.p _ _ _) (by simp) HO.out HB2.out rfl
    · have z2 : ((s.fk : Int) == 2) = false := by simp; omega
      have HE : Hid (tdC s l = (s, l, l.length, 0)) := Lib.hid (by unfold tdC; rw [if_neg h3, if_neg h2])
      clear hp f hb hbX hok h3 h2
      go_enter Tryz.func22, Tryz.ntmps22
      go_wp2_with fail
      refine (cloneB_any _ l w HB.out hl).mono ?_
      rintro e w2 ⟨v, rfl, hO, hB⟩
      have HO := Lib.hid hO
      have HB2 := Lib.hid hB
      clear hO hB
      go_wp2_with fail
      refine bodyPost_ret (v := .tuple #[v, .int .i64 (l.length : Int), .nilIface]) (by simp [results, Tryz.results22, go_sem]) rfl ?_
      rw [HE.out]
      exact td_copy HP.out (Only.refl _ _) rfl HO.out HB2.out rfl
end Go.Proofs.YtfmgfcddnnggeaaGreatDoor
