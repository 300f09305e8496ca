import Derived.Test.YtkfmfjlapkpeaaaGreatDoorPa14
import Derived.Test.YtkfmfjlapkpeaaaGreatDoorPa13
/- What the reference's ReadResponse returns. -/
namespace Go.Proofs.YtkfmfjlapkpeaaaGreatDoor
open Go.RowKit

/-- What the reference's ReadResponse leaves. -/
def RefResPost (l : List UInt8) (w : World) (e : Ending) (w' : World) : Prop :=
  ∃ v, e = .returned (.tuple #[.agg #[.int .i64 ((rdP l).2.1.1 : Int), v], .int .i64 ((rdP l).2.2 : Int), .int .i64 ((rdP l).1 : Int)]) ∧ OwnsP 58 w.heap.size w' v (rdP l).2.1.2 ∧ Below w.heap.size w w'
theorem refRes_err {l : List UInt8} {w w' : World} {c : Nat} (h : rdP l = (c, (0, []), 0)) (hB : Below w.heap.size w w') :
    RefResPost l w (.returned (.tuple #[.agg #[.int .i64 0, .slice none 0 0], .int .i64 0, .int .i64 (c : Int)])) w' :=
  ⟨.slice none 0 0, by rw [h]; rfl, by rw [h]; exact OwnsP.nil _ _ _, hB⟩
theorem refSt_any (l : List UInt8) (w : World) (hl : l.length ≤ 1000000) :
    Calls Tryz.prog 40 #[.string (strB l)] w fun e w' => e = .returned (.int .i64 (statusN l : Int)) ∧ w = w' := by
  have := refStatus_any (strB l) w (by rw [strB_size]; omega)
  rwa [strB_list] at this
set_option maxHeartbeats 8000000 in
set_option maxRecDepth 100000 in
theorem refResponse_any (s : ByteArray) (w : World) (hs : s.size ≤ 100000) :
    Calls Tryz.prog 16 #[.string s] w (RefResPost s.data.toList w) := by
  have hB0 : Below w.heap.size w (w.alloc (.cells #[.int .i64 0, .slice none 0 0] 45)) := below_new _ _
  have hsz : s.data.toList.length = s.size := by rw [Array.length_toList]; rfl
  have D := fun w => refSplit_any s w (by omega)
  generalize s.data.toList = l at *
  have hll : l.length ≤ 100000 := by omega
  clear hsz
  go_enter Tryz.func16, Tryz.ntmps16
  go_wp2_with fail
  refine (D _).mono ?_
  rintro e w1 ⟨v1, he, hR, hB⟩
  clear D
  by_cases hs0 : (splitG l).1 = 0
  · obtain ⟨x, t, hx, ht, hpl⟩ := split_lines hs0
    rw [hs0] at he
    rw [hx] at hR
    have HS := Lib.hid hs0
    have HX := Lib.hid hx
    have hxl := hpl x (by simp)
    have hl1 := cutG_len 32 x
    have C1 := Lib.hid (fun w => refCut32_any x w (by omega))
    have S := Lib.hid (fun w => refSt_any (cutG 32 x).2 w (by omega))
    have F := Lib.hid (fun ao cp W (hr : ReadsS W (.slice ao t.length cp) t) => refFields_any (.slice ao t.length cp) t W hr (by omega) (fun y hy => by have := hpl y (by simp [hy]); omega))
    subst he
    rcases hR with ⟨hn, _⟩ | ⟨g, cap, rfl, hcap, hg, hc⟩
    · cases hn
    simp only [List.length_cons] at hcap
    rw [show (x :: t).length = t.length + 1 from rfl]
    have hc0 := hc 0 x rfl
    have HC := Lib.hid hc
    clear hs0 hx hpl hc hl1 hxl
    go_wp2_with fail
    refine (C1.out _).mono ?_
    rintro e w2 ⟨b1, rfl, hB2⟩
    have hBx := hB.trans (hB2.mono hB.size)
    have hBr := hB2
    clear hB2
    obtain ⟨c0, c1, f0, f1, hz⟩ := box_kept w hBx
    by_cases h1 : (cutG 32 x).1 = verL
    · have q := list_yes h1
      unfold verL at q
      by_cases h2 : statusN (cutG 32 x).2 = 0
      · have HE := Lib.hid (rdP_start HS.out HX.out (statC_2 h1 h2) (by decide))
        rw [h2] at S
        clear h1 h2
        go_wp2_with fail
        refine (S.out _).mono ?_
        rintro e w' ⟨rfl, rfl⟩
        go_wp2_with fail
        refine bodyPost_ret (v := .tuple #[.agg #[.int .i64 0, .slice none 0 0], .int .i64 0, .int .i64 (2)]) (by simp [results, Tryz.results16, go_sem, c0, c1]) rfl ?_
        exact refRes_err HE.out (below_two (hB0.trans (hBx.mono hB0.size)) _ _)
      · have H1 := Lib.hid (statC_0 h1 h2)
        have qs : ((statusN (cutG 32 x).2 : Int) == 0) = false := by simp; omega
        have hg2 : g < w2.heap.size := Nat.lt_of_lt_of_le hg hBr.size
        have HT := Lib.hid (tail_reads (some ⟨g, 1, none⟩) (cap - 1) hg2 (fun j y (hj : (x :: t)[j]? = some y) => (hBr.cell (p := ⟨g, j, none⟩) hg).trans (HC.out j y hj)) (fun _ => rfl))
        clear hBr h1 h2
        go_wp2_with fail
        refine (S.out _).mono ?_
        rintro e w' ⟨rfl, rfl⟩
        go_wp2_with fail
        refine (F.out _ _ _ HT.out).mono ?_
        rintro e w4 ⟨v4, he4, hO4, hB4⟩
        have hzx := hBx.size
        have hBy := hBx.trans (hB4.mono hBx.size)
        clear hB4 c0 c1 f0 f1 hz hBx
        obtain ⟨c0, c1, f0, f1, hz⟩ := box_kept w hBy
        by_cases h2 : (readFs nmO vlO t).1 = 0
        · rw [h2] at he4
          have HE := Lib.hid (rdP_g HS.out HX.out H1.out h2)
          have hO4 := OwnsP.mono (show w.heap.size + 1 ≤ w2.heap.size by simp at hzx; omega) hO4
          obtain ⟨ao4, cap4, rfl, _⟩ := hO4.reads
          have hO5 := ownsP_two w hO4
          subst he4
          clear h2 hO4
          go_wp2_with fail
          refine (S.out _).mono ?_
          rintro e w' ⟨rfl, rfl⟩
          go_wp2_with fail
          refine bodyPost_ret (v := .tuple #[.agg #[.int .i64 (statusN (cutG 32 x).2 : Int), .slice ao4 (readFs nmO vlO t).2.length cap4], .int .i64 ((splitG l).2.2 : Int), .int .i64 0]) (by simp [results, Tryz.results16, go_sem, c0, c1]) rfl ?_
          exact ⟨_, by rw [HE.out]; rfl, by rw [HE.out]; exact hO5 _ _, below_two (hB0.trans (hBy.mono hB0.size)) _ _⟩
        · have HE := Lib.hid (rdP_f HS.out HX.out H1.out h2)
          have q4 : (((readFs nmO vlO t).1 : Int) != 0) = true := by simp; omega
          subst he4
          clear h2
          go_wp2_with fail
          refine bodyPost_ret (v := .tuple #[.agg #[.int .i64 0, .slice none 0 0], .int .i64 0, .int .i64 (((readFs nmO vlO t).1 : Int))]) (by simp [results, Tryz.results16, go_sem, c0, c1]) rfl ?_
          exact refRes_err HE.out (below_two (hB0.trans (hBy.mono hB0.size)) _ _)
    · have q := list_no h1
      unfold verL at q
      have HE := Lib.hid (rdP_start HS.out HX.out (statC_28 h1) (by decide))
      clear h1
      go_wp2_with fail
      refine bodyPost_ret (v := .tuple #[.agg #[.int .i64 0, .slice none 0 0], .int .i64 0, .int .i64 (28)]) (by simp [results, Tryz.results16, go_sem, c0, c1]) rfl ?_
      exact refRes_err HE.out (below_two (hB0.trans (hBx.mono hB0.size)) _ _)
  · have HE := Lib.hid (rdP_split rfl hs0)
    have q : (((splitG l).1 : Int) != 0) = true := by simp; omega
    subst he
    clear hs0
    obtain ⟨c0, c1, f0, f1, hz⟩ := box_kept w hB
    rcases hR with ⟨_, rfl⟩ | ⟨g, cap, rfl, _, _, _⟩
    all_goals
      go_wp2_with fail
      refine bodyPost_ret (v := .tuple #[.agg #[.int .i64 0, .slice none 0 0], .int .i64 0, .int .i64 (((splitG l).1 : Int))]) (by simp [results, Tryz.results16, go_sem, c0, c1]) rfl ?_
      exact refRes_err HE.out (below_two (hB0.trans (hB.mono hB0.size)) _ _)
end Go.Proofs.YtkfmfjlapkpeaaaGreatDoor

/- HeadResponses: for every text the statement's function returns true: the walk. -/
namespace Go.Proofs.YtkfmfjlapkpeaaaGreatDoor
open Go.RowKit

theorem rdP_flen (l : List UInt8) : (rdP l).2.1.2.length ≤ 64 := by
  by_cases h : (splitG l).1 = 0
  · obtain ⟨x, t, hx, ht, _⟩ := split_lines h
    by_cases h1 : statC x = 0
    · by_cases h2 : (readFs nmO vlO t).1 = 0
      · rw [rdP_g h hx h1 h2]
        have := readFs_len (nm := nmO) (vl := vlO) t
        show (readFs nmO vlO t).2.length ≤ 64
        omega
      · rw [rdP_f h hx h1 h2]; simp
    · rw [rdP_start h hx rfl h1]; simp
  · rw [rdP_split rfl h]; simp
set_option maxHeartbeats 8000000 in
set_option maxRecDepth 100000 in
theorem responses_walk (s : ByteArray) (w : World) (hM : HasMax w) (hT : HasTab w) (hs : s.size ≤ 9223372036854775807) :
    Calls Tryz.prog 4 #[.string s] w fun e w' => e = .returned (.bool true) ∧ Below w.heap.size w w' := by
  have HM := Lib.hid hM
  have HT := Lib.hid hT
  clear hM hT
  by_cases hbig : 20000 < s.size
  · go_enter Tryz.func4, Tryz.ntmps4
    go_wp2_with fail
    refine (awake_any _ HT.out).mono ?_
    rintro e w1 ⟨rfl, hB⟩
    go_wp2_with fail
    refine (awake_any _ (HT.out.below hB)).mono ?_
    rintro e w2 ⟨rfl, hB2⟩
    go_wp2_with fail
    go_ret
    exact ⟨rfl, hB.trans (hB2.mono hB.size)⟩
  · have hcb := fun W : World => run_bytes_of_string (P := Tryz.prog) W 9 23 5 s Tryz.underlying9 Tryz.underlying23 Tryz.underlying5
    go_enter Tryz.func4, Tryz.ntmps4
    go_wp2_with fail
    refine (awake_any _ HT.out).mono ?_
    rintro e w1 ⟨rfl, hB⟩
    go_wp2_with fail
    have hcap := grownCap_ge w1 s.size 0 5
    have hBc := below_bytes s w1 (grownCap w1 s.size 0 5) 5
    obtain ⟨hcells, -⟩ := bytes_new s w1 (grownCap w1 s.size 0 5) 5 (bytesRow_size _ _)
    have hgW : w1.heap.size < (w1.alloc (.cells (bytesRow s (grownCap w1 s.size 0 5)) 5 ((bytesRow s (grownCap w1 s.size 0 5)).size, (bytesRow s (grownCap w1 s.size 0 5)).size + 1))).drew.heap.size := by
      show w1.heap.size < (w1.heap.push _).size; simp
    generalize (w1.alloc (.cells (bytesRow s (grownCap w1 s.size 0 5)) 5 ((bytesRow s (grownCap w1 s.size 0 5)).size, (bytesRow s (grownCap w1 s.size 0 5)).size + 1))).drew = W2 at *
    generalize grownCap w1 s.size 0 5 = cap at *
    have hsl : s.data.toList.length = s.size := by rw [Array.length_toList]; rfl
    have hr2 : ReadsB W2 (.slice (some ⟨w1.heap.size, 0, none⟩) s.size cap) s.data.toList := ⟨_, cap, by rw [hsl], by rw [hsl]; exact hcap, .inr ⟨_, _, rfl, hgW, hcells⟩⟩
    have hB2 := hB.trans (hBc.mono hB.size)
    have R := readResponse_any _ s.data.toList W2 hr2 (HM.out.below hB2) (by rw [hsl]; omega)
    have FL := rdP_flen s.data.toList
    have RR := Lib.hid (fun w => refResponse_any s w (by omega))
    unfold RefResPost at RR
    unfold ResPost at R
    generalize rdP s.data.toList = q at *
    obtain ⟨c, ⟨st, fs⟩, n⟩ := q
    clear hr2 hcells hcb hsl hcap hBc
    refine R.mono ?_
    rintro e w3 ⟨v3, rfl, hO3, hB3⟩
    simp only at FL hO3 RR
    have hB3' := hB2.trans (hB3.mono hB2.size)
    obtain ⟨ao, nn, cp, rfl⟩ : ∃ a n c, v3 = .slice a n c := by obtain ⟨ao, cap, rfl, _⟩ := hO3.reads; exact ⟨_, _, _, rfl⟩
    have hO3 := OwnsP.mono hB2.size hO3
    have hz3 : w.heap.size ≤ w3.heap.size := hB3'.size
    clear R hB3 hB2 hB
    go_wp2_with fail
    have hB4 : Below w.heap.size w (w3.alloc (.cells #[.int .i64 (st : Int), .slice ao nn cp] 41)) := hB3'.alloc hz3 _
    have hx : ∀ j, (w3.alloc (.cells #[.int .i64 (st : Int), .slice ao nn cp] 41)).cell? ⟨w3.heap.size, j, none⟩ = (#[.int .i64 (st : Int), .slice ao nn cp] : Array Value)[j]? := fun j => by rw [World.cell?_alloc_at _ _ _ _ rfl]
    have x0 := hx 0
    have x1 := hx 1
    have hO4 := OwnsP.below hO3 (below_new w3 (.cells #[.int .i64 (st : Int), .slice ao nn cp] 41))
    have hz4 : w3.heap.size < (w3.alloc (.cells #[.int .i64 (st : Int), .slice ao nn cp] 41)).heap.size := by simp
    clear hx hO3
    generalize (w3.alloc (.cells #[.int .i64 (st : Int), .slice ao nn cp] 41)) = wr at *
    refine (RR.out _).mono ?_
    rintro e w5 ⟨v5, rfl, hO5, hB5⟩
    have y0 := (hB5.cell (p := ⟨w3.heap.size, 0, none⟩) hz4).trans x0
    have y1 := (hB5.cell (p := ⟨w3.heap.size, 1, none⟩) hz4).trans x1
    have hO6 := OwnsP.below hO4 hB5
    have hB6 := hB4.trans (hB5.mono hB4.size)
    obtain ⟨ao5, n5, cp5, rfl⟩ : ∃ a n c, v5 = .slice a n c := by obtain ⟨ao, cap, rfl, _⟩ := hO5.reads; exact ⟨_, _, _, rfl⟩
    clear x0 x1
    go_wp2_with fail
    have hx5 : ∀ j, (w5.alloc (.cells #[.int .i64 (st : Int), .slice ao5 n5 cp5] 45)).cell? ⟨w5.heap.size, j, none⟩ = (#[.int .i64 (st : Int), .slice ao5 n5 cp5] : Array Value)[j]? := fun j => by rw [World.cell?_alloc_at _ _ _ _ rfl]
    have u0 := hx5 0
    have u1 := hx5 1
    have z5 := hB5.size
    have hB7 := below_new w5 (.cells #[.int .i64 (st : Int), .slice ao5 n5 cp5] 45)
    have hg5 : w3.heap.size < w5.heap.size := by omega
    have y0 := (hB7.cell (p := ⟨w3.heap.size, 0, none⟩) hg5).trans y0
    have y1 := (hB7.cell (p := ⟨w3.heap.size, 1, none⟩) hg5).trans y1
    have A := alike_any (st : Int) _ _ fs (w5.alloc (.cells #[.int .i64 (st : Int), .slice ao5 n5 cp5] 45)) ((OwnsP.below hO6 hB7).q) ((OwnsP.below hO5 hB7).q) (by omega)
    clear hx5 hO5 hO6 hO4
    refine (num_any c _).mono ?_
    rintro e w' ⟨rfl, rfl⟩
    go_wp2_with fail
    refine A.mono ?_
    rintro e w6 ⟨rfl, hB8⟩
    go_wp2_with fail
    go_ret
    exact ⟨rfl, hB6.trans ((hB7.trans (hB8.mono hB7.size)).mono hB6.size)⟩
end Go.Proofs.YtkfmfjlapkpeaaaGreatDoor
