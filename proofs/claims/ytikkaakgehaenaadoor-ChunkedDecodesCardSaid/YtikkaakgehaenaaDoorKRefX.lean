/- What the reference's Write returns: the walk. -/
import Derived.Test.YtikkaakgehaenaaDoorKRefF
import Derived.Deep.QuietTactic
import Derived.BigQuiet
namespace Go.Proofs.YtikkaakgehaenaaDoor
open Go.RowKit

set_option maxHeartbeats 8000000 in
set_option maxRecDepth 100000 in
theorem refWrite_any (fv0 : Value) (r : Rs) (fa : Option Addr) (fn fc : Nat) (bv : Value) (l : List UInt8) (w : World) (hok : r.bad = 0 → RsOk r) (hr : ReadsQ w (.slice fa fn fc) r.fs) (hs : Sane (.slice fa fn fc)) (hsl : ∀ j, (Value.slice fa fn fc).ownBlock = some j → j < w.heap.size) (hb : ReadsD w bv l) (hl : l.length ≤ 1000000) (hf0 : ∀ j, (Value.slice fa fn fc).ownBlock = some j → fv0.ownBlock = some j) :
    Calls Tryd.prog 21 #[stV r (.slice fa fn fc), bv] w (WrPost fv0 r l w) := by
  obtain ⟨i0, hi, hz0, hz1, hz2⟩ := info_parts Tryd.infoB
  have HR := Lib.hid hr
  have HS := Lib.hid hs
  have HB := Lib.hid hb
  have HOK := Lib.hid hok
  have HSL := Lib.hid hsl
  have HF0 := Lib.hid hf0
  obtain ⟨ao, cap, rfl, hcap, hcapm, hnil, hc⟩ := hb
  have HC := Lib.hid hc
  unfold maxLen at hcapm
  clear hr hs hok hc hnil hsl hf0
  have hb0 : Below w.heap.size w ((w.alloc (.cells (stC r (.slice fa fn fc)) 47)).alloc (.cells (stC rs0 (.slice none 0 0)) 47)) := ((Below.refl _ w).alloc (Nat.le_refl _) _).alloc (by simp) _
  have h0 : StAt w.heap.size r (.slice fa fn fc) ((w.alloc (.cells (stC r (.slice fa fn fc)) 47)).alloc (.cells (stC rs0 (.slice none 0 0)) 47)) := by
    unfold StAt
    rw [(below_new (w.alloc (.cells (stC r (.slice fa fn fc)) 47)) _).block _ (by simp)]; exact heap_alloc_new w _
  have h1 : StAt (w.heap.size + 1) rs0 (.slice none 0 0) ((w.alloc (.cells (stC r (.slice fa fn fc)) 47)).alloc (.cells (stC rs0 (.slice none 0 0)) 47)) := by
    have := heap_alloc_new (w.alloc (.cells (stC r (.slice fa fn fc)) 47)) (.cells (stC rs0 (.slice none 0 0)) 47)
    rwa [show (w.alloc (.cells (stC r (.slice fa fn fc)) 47)).heap.size = w.heap.size + 1 by simp] at this
  have HB0 := Lib.hid hb0
  have H0 := Lib.hid h0
  have H1 := Lib.hid h1
  clear hb0 h0 h1
  go_enter Tryd.func21, Tryd.ntmps21
  go_wp2_with fail
  go_loopw [7, 8] (fun u i wr => WrRel fv0 r l w u i wr) (fun _ i _ => l.length - (intOf i).toNat)
  case atStart => exact ⟨0, r, fa, fn, fc, [], rfl, Nat.zero_le _, rfl, H0.out, H1.out, HR.out.below HB0.out, HS.out, OwnB.nil _ _, HB0.out, fun j hj => ⟨Nat.lt_of_lt_of_le (HSL.out j hj) HB0.out.size, fun h => (by cases h), .inl (HF0.out j hj)⟩⟩
  case round =>
    obtain ⟨k, r', fa, fn, fc, out, rfl, hk, hw, hst, hst1, hR, hS, hO, hBr, hsp⟩ := hrel
    obtain ⟨c0, c1, c2, c3, c4, c5, c6, c7, c8, c9, cf⟩ := hst.cells
    obtain ⟨_, _, _, _, _, _, _, _, _, _, ef⟩ := hst1.cells
    have f0 := ef 0
    have f1 := ef 1
    have f2 := ef 2
    have f3 := ef 3
    have f4 := ef 4
    have f5 := ef 5
    have f6 := ef 6
    have f7 := ef 7
    have f8 := ef 8
    have f9 := ef 9
    have q0 := cf 0
    have q1 := cf 1
    have q2 := cf 2
    have q3 := cf 3
    have q4 := cf 4
    have q5 := cf 5
    have q6 := cf 6
    have q7 := cf 7
    have q8 := cf 8
    have q9 := cf 9
    obtain ⟨ua, uc, rfl⟩ := hO.isSlice
    have hlt1 := hst1.lt
    have HST := Lib.hid hst
    have HST1 := Lib.hid hst1
    have HRr := Lib.hid hR
    have HSr := Lib.hid hS
    have HOr := Lib.hid hO
    have HBr := Lib.hid hBr
    have HW := Lib.hid hw
    have HSP := Lib.hid hsp
    have hsz := hBr.size
    clear ef cf hst hst1 hR hS hO hBr hw hsp
    by_cases hlt : k < l.length
    · obtain ⟨c, hcl⟩ : ∃ c, l[k]? = some c := ⟨l[k], by simp [hlt]⟩
      obtain ⟨g, off, rfl, hg, hcg⟩ := HC.out k c hcl
      have hcr : wr.cell? ⟨g, off + k, none⟩ = some (.int .u8 (c.toNat : Int)) := (HBr.out.cell (p := ⟨g, off + k, none⟩) hg).trans hcg
      have HCL := Lib.hid hcl
      clear hcg hcl
      by_cases hbad : r'.bad = 0
      · have z0 : ((r'.bad : Int) != 0) = false := by rw [hbad]; rfl
        have DN := Lib.hid (fun W => refDone_any r' fa fn fc W)
        by_cases h8 : r'.p = 8
        · rw [decide_eq_true h8] at DN
          have HE := Lib.hid (wr_end HW.out (.inr (.inl h8)))
          have HBad := Lib.hid hbad
          clear h8 hbad
          go_wp2_with fail
          refine (DN.out _).mono ?_
          rintro e w1 ⟨rfl, hB1⟩
          have P1 := Lib.hid (HST1.out.below hB1)
          obtain ⟨_, _, _, _, _, _, _, _, _, _, gf⟩ := (HST1.out.below hB1).cells
          obtain ⟨d0, d1, d2, d3, d4, d5, d6, d7, d8, d9, _⟩ := (HST.out.below hB1).cells
          have g0 := gf 0
          have g1 := gf 1
          have g2 := gf 2
          have g3 := gf 3
          have g4 := gf 4
          have g5 := gf 5
          have g6 := gf 6
          have g7 := gf 7
          have g8 := gf 8
          have g9 := gf 9
          obtain ⟨e0, e1, e2, e3, e4, e5, e6, e7, e8, e9, _⟩ := P1.out.cells
          have HB1 := Lib.hid hB1
          clear gf hB1 c0 c1 c2 c3 c4 c5 c6 c7 c8 c9 f0 f1 f2 f3 f4 f5 f6 f7 f8 f9 q0 q1 q2 q3 q4 q5 q6 q7 q8 q9
          go_wp2_with fail
          refine bodyPost_ret (v := .tuple #[stV r' (.slice fa fn fc), .slice ua out.length uc, .int .i64 (k : Int)]) (by simp [results, Tryd.results21, go_sem, e0, e1, e2, e3, e4, e5, e6, e7, e8, e9]) rfl ?_
          have h := fun wF hF => wr_post (wF := wF) HE.out (HRr.out.below HB1.out) HSr.out P1.out (HOr.out.below HB1.out) (HBr.out.trans (HB1.out.mono HBr.out.size)) (fun j hj => ⟨Nat.lt_of_lt_of_le (HSP.out j hj).1 HB1.out.size, (HSP.out j hj).2⟩) hF
          exact h _ (only_ten _ _ _ _ _ _ _ _ _ _ _ _)
        · rw [decide_eq_false h8] at DN
          have HOKr : RsOk r' := by
            have := wrR_ok (l.take k) (r := r)
            rw [HW.out] at this
            refine this (HOK.out ?_) hbad
            by_cases hb : r.bad = 0
            · exact hb
            · have h2 := wrR_stop (r := r) (.inl hb) (l.take k)
              rw [HW.out] at h2
              have := congrArg Prod.fst h2
              simp only at this
              rw [this] at hbad; exact hbad
          have HBad := Lib.hid hbad
          have H8 := Lib.hid h8
          have HOKr := Lib.hid HOKr
          clear hbad h8
          go_wp2_with fail
          refine (DN.out _).mono ?_
          rintro e w1 ⟨rfl, hB1⟩
          have hst1 := HST.out.below hB1
          have hR1 := HRr.out.below hB1
          have hcr1 := (hB1.cell (p := ⟨g, off + k, none⟩) (World.block_lt_of_cell? _ _ hcr)).trans hcr
          have HBw := Lib.hid (HBr.out.trans (hB1.mono hsz))
          have HST1' := Lib.hid (HST1.out.below hB1)
          have HO1 := Lib.hid (HOr.out.below hB1)
          obtain ⟨d0, d1, d2, d3, d4, d5, d6, d7, d8, d9, df⟩ := hst1.cells
          have SP := Lib.hid (fun W (hb : Below w1.heap.size w1 W) => step_any r' fa fn fc c W HOKr.out H8.out (hR1.below hb) HSr.out)
          have HSTq := Lib.hid hst1
          have hsz1 : wr.heap.size ≤ w1.heap.size := hB1.size
          have SPA : Hid (Calls Tryd.prog 47 #[stV r' (.slice fa fn fc), .int .u8 (c.toNat : Int)] (w1.alloc (.cells #[.int .i64 0, .int .i64 0, .int .i64 0, .int .i64 0, .int .i64 0, .int .i64 0, .int .i64 0, .string ⟨#[]⟩, .slice none 0 0, .int .i64 0] 47)).drew fun e w' => StPost (.slice fa fn fc) (stepR r' c) (w1.alloc (.cells #[.int .i64 0, .int .i64 0, .int .i64 0, .int .i64 0, .int .i64 0, .int .i64 0, .int .i64 0, .string ⟨#[]⟩, .slice none 0 0, .int .i64 0] 47)).drew e w' ∧ StAt w1.heap.size rs0 (.slice none 0 0) w' ∧ TenZ w1.heap.size w') :=
            Lib.hid ((SP.out _ (below_new w1 _).drew).mono fun e w' ⟨ga, gn, gc, he, h1, h2, h4, h3⟩ => ⟨⟨ga, gn, gc, he, h1, h2, h4, h3⟩, StAt.below (heap_alloc_new w1 _) (((Below.refl _ _).drew).trans h3), ten_atE (W := w1) (((Below.refl _ _).drew).trans h3) rfl⟩)
          have hgw : g < w1.heap.size := World.block_lt_of_cell? _ _ hcr1
          have hAw : w.heap.size < w1.heap.size := hst1.lt
          clear c0 c1 c2 c3 c4 c5 c6 c7 c8 c9 q0 q1 q2 q3 q4 q5 q6 q7 q8 q9 f0 f1 f2 f3 f4 f5 f6 f7 f8 f9 hcr hst1 hR1 df hB1
          go_wp2_with fail
          have HK : Hid (∀ W, Below w1.heap.size w1 W → (Below w1.heap.size w1 W ∧ W.cell? ⟨w.heap.size, 0, none⟩ = some (.int .i64 (r'.p : Int)) ∧ W.cell? ⟨w.heap.size, 1, none⟩ = some (.int .i64 (r'.d : Int)) ∧ W.cell? ⟨w.heap.size, 2, none⟩ = some (.int .i64 (r'.n : Int)) ∧ W.cell? ⟨w.heap.size, 3, none⟩ = some (.int .i64 (r'.ln : Int)) ∧ W.cell? ⟨w.heap.size, 4, none⟩ = some (.int .i64 (r'.tt : Int)) ∧ W.cell? ⟨w.heap.size, 5, none⟩ = some (.int .i64 (r'.lf : Int)) ∧ W.cell? ⟨w.heap.size, 6, none⟩ = some (.int .i64 (r'.se : Int)) ∧ W.cell? ⟨w.heap.size, 7, none⟩ = some (.string (strB r'.tx)) ∧ W.cell? ⟨w.heap.size, 8, none⟩ = some (.slice fa fn fc) ∧ W.cell? ⟨w.heap.size, 9, none⟩ = some (.int .i64 (r'.bad : Int)) ∧ W.cell? ⟨g, off + k, none⟩ = some (.int .u8 (c.toNat : Int)))) :=
            Lib.hid fun W hb => ⟨hb, (hb.cell (p := ⟨w.heap.size, 0, none⟩) hAw).trans d0, (hb.cell (p := ⟨w.heap.size, 1, none⟩) hAw).trans d1, (hb.cell (p := ⟨w.heap.size, 2, none⟩) hAw).trans d2, (hb.cell (p := ⟨w.heap.size, 3, none⟩) hAw).trans d3, (hb.cell (p := ⟨w.heap.size, 4, none⟩) hAw).trans d4, (hb.cell (p := ⟨w.heap.size, 5, none⟩) hAw).trans d5, (hb.cell (p := ⟨w.heap.size, 6, none⟩) hAw).trans d6, (hb.cell (p := ⟨w.heap.size, 7, none⟩) hAw).trans d7, (hb.cell (p := ⟨w.heap.size, 8, none⟩) hAw).trans d8, (hb.cell (p := ⟨w.heap.size, 9, none⟩) hAw).trans d9, (hb.cell (p := ⟨g, off + k, none⟩) hgw).trans hcr1⟩
          have hk0 : (0 : Int) ≤ (k : Int) := by omega
          have hkl : (k : Int) < (l.length : Int) := by omega
          go_cut [9] (fun u9 wx => ∃ N ga gn gc, u9 = .pointer (some ⟨N, 0, none⟩) ∧ (∀ j, (Value.slice ga gn gc).ownBlock = some j → (Value.slice fa fn fc).ownBlock = some j ∨ (w1.heap.size ≤ j ∧ j < wx.heap.size)) ∧ w1.heap.size ≤ N ∧ StAt N (stepR r' c) (.slice ga gn gc) wx ∧ ReadsQ wx (.slice ga gn gc) (stepR r' c).fs ∧ Sane (.slice ga gn gc) ∧ Below w1.heap.size w1 wx)
          case first =>
            go_region_held3 (fun W => Below w1.heap.size w1 W ∧ W.cell? ⟨w.heap.size, 0, none⟩ = some (.int .i64 (r'.p : Int)) ∧ W.cell? ⟨w.heap.size, 1, none⟩ = some (.int .i64 (r'.d : Int)) ∧ W.cell? ⟨w.heap.size, 2, none⟩ = some (.int .i64 (r'.n : Int)) ∧ W.cell? ⟨w.heap.size, 3, none⟩ = some (.int .i64 (r'.ln : Int)) ∧ W.cell? ⟨w.heap.size, 4, none⟩ = some (.int .i64 (r'.tt : Int)) ∧ W.cell? ⟨w.heap.size, 5, none⟩ = some (.int .i64 (r'.lf : Int)) ∧ W.cell? ⟨w.heap.size, 6, none⟩ = some (.int .i64 (r'.se : Int)) ∧ W.cell? ⟨w.heap.size, 7, none⟩ = some (.string (strB r'.tx)) ∧ W.cell? ⟨w.heap.size, 8, none⟩ = some (.slice fa fn fc) ∧ W.cell? ⟨w.heap.size, 9, none⟩ = some (.int .i64 (r'.bad : Int)) ∧ W.cell? ⟨g, off + k, none⟩ = some (.int .u8 (c.toNat : Int)))
              ((refine HK.out _ ?_; (repeat' (first | (with_reducible assumption) | (with_reducible exact Below.refl _ _) | (with_reducible apply bel_allocE) | (with_reducible apply Below.drew) | (with_reducible apply bel_ten) | omega))))
              (first
                | (go_at_call 47; (with_reducible refine SPA.out.mono ?_); rintro e wS ⟨⟨ga, gn, gc, rfl, hRS, hSS, hsep, hBS⟩, hSTz, y0, x0, y1, x1, y2, x2, y3, x3, y4, x4, y5, x5, y6, x6, y7, x7, y8, x8, y9, x9⟩; have hBSS : Below w1.heap.size w1 wS := Below.trans (And.left ‹_›) (hBS.mono (Below.size (And.left ‹_›))))
                | (go_at_call 47; (with_reducible refine (SP.out _ (And.left ‹_›)).mono ?_); rintro e wS ⟨ga, gn, gc, rfl, hRS, hSS, hsep, hBS⟩; have hBSS : Below w1.heap.size w1 wS := Below.trans (And.left ‹_›) (hBS.mono (Below.size (And.left ‹_›)))))
            all_goals (try go_wp2_with fail)
            all_goals go_meet
            · exact ⟨_, ga, gn, gc, rfl, meet_one hRS hSS hBSS (by simp) hsep⟩
            · exact ⟨_, ga, gn, gc, rfl, meet_two hRS hSS hBSS rfl hSTz (only_ten _ _ _ _ _ _ _ _ _ _ _ _) (stAt_ten hSTz) (by simp) hsep⟩
          case rest =>
            rename World => wx
            obtain ⟨N, ga, gn, gc, rfl, hsep, hN, hstN, hRN, hSN, hBN⟩ := hcut
            have hcN := (hBN.cell (p := ⟨g, off + k, none⟩) hgw).trans hcr1
            have HSTx := Lib.hid (HSTq.out.below hBN)
            have HST1x := Lib.hid (HST1'.out.below hBN)
            have hwx : w.heap.size + 2 ≤ wx.heap.size := by have := hBN.size; omega
            have HOx := Lib.hid (HO1.out.below hBN)
            have hszw := HBw.out.size
            have HBx := Lib.hid (HBw.out.trans (hBN.mono hszw))
            have HSTN := Lib.hid hstN
            have HSPx : Hid (∀ j, (Value.slice ga gn gc).ownBlock = some j → j < wx.heap.size ∧ (Value.slice ua out.length uc).ownBlock ≠ some j ∧ (fv0.ownBlock = some j ∨ w.heap.size ≤ j)) := Lib.hid (fun j hj => by
              rcases hsep j hj with h | h
              · exact ⟨Nat.lt_of_lt_of_le (HSP.out j h).1 (Nat.le_trans hsz1 hBN.size), (HSP.out j h).2⟩
              · exact ⟨h.2, fun e => by have := (World.ownsRow.lt HO1.out j e).2; omega, .inr (by omega)⟩)
            clear hsep
            have HRN := Lib.hid hRN
            have HSN := Lib.hid hSN
            obtain ⟨n0, n1, n2, n3, n4, n5, n6, n7, n8, n9, _⟩ := hstN.cells
            obtain ⟨b0, _, _, _, _, _, _, _, _, _, _⟩ := HSTx.out.cells
            clear HK hcr1 d0 d1 d2 d3 d4 d5 d6 d7 d8 d9 hstN hRN hSN
            by_cases hz : (stepR r' c).bad = 0
            · have zz : (((stepR r' c).bad : Int) != 0) = false := by rw [hz]; rfl
              have HM := Lib.hid (wr_more HW.out HCL.out HBad.out H8.out hz)
              clear hz
              by_cases h3 : r'.p = 3
              · have z3 : ((r'.p : Int) == 3) = true := intK_eq (b := 3) h3
                have H3 := Lib.hid h3
                clear h3
                generalize stepR r' c = nx at *
                rw [if_pos H3.out] at HM
                have HX1 := Lib.hid (reads_oneD wx c)
                have HOx1 := Lib.hid (HOx.out.below (below_new wx (.cells #[.int .u8 (c.toNat : Int)] 5)))
                have holen := HM.out
                have hol : out.length ≤ 1000000 := by
                  have := (wrR_len (l.take k) r).2
                  rw [HW.out] at this
                  simp only at this; omega
                clear holen
                have HNE : Hid (∀ j, (Value.slice ua out.length uc).ownBlock = some j → j ≠ N) := Lib.hid (fun j hj e => by have := (World.ownsRow.lt HO1.out j hj).2; omega)
                go_wp2_with (at_builtin; refine wpList_appendA (by rfl) _ _ (by rfl) _ _ (by rfl) (by rfl) HOx1.out HX1.out (by simp; omega) (by simp; omega) ?_; intro v' w2 hO2 hgrow hat; obtain ⟨⟨k0, k1, k2, k3, k4, k5, k6, k7, k8, k9, _⟩, m0, m1, m2, m3, m4, m5, m6, m7, m8, m9, bf⟩ := app_cells HOx.out HSTN.out HSTx.out HNE.out hgrow; have y0 := bf 0; have y1 := bf 1; have y2 := bf 2; have y3 := bf 3; have y4 := bf 4; have y5 := bf 5; have y6 := bf 6; have y7 := bf 7; have y8 := bf 8; have y9 := bf 9; clear bf)
                have HO2 := Lib.hid hO2
                have hBg : Only (fun j => w.heap.size + 2 ≤ j) wx w2 := ((Only.alloc _ wx _).trans' (Only.grown hgrow (fun j hj => .inl (World.ownsRow.lt HOx.out j hj).1)))
                have HSTx2 : Hid (StAt w.heap.size r' (.slice fa fn fc) w2) := Lib.hid ((hBg.block _ HSTx.out.lt (by omega)).trans HSTx.out)
                have HST1x2 : Hid (StAt (w.heap.size + 1) rs0 (.slice none 0 0) w2) := Lib.hid ((hBg.block _ HST1x.out.lt (by omega)).trans HST1x.out)
                have hNo : ∀ j, (Value.slice ua out.length uc).ownBlock = some j → j ≠ N := fun j hj e => by have := (World.ownsRow.lt HO1.out j hj).2; omega
                have hgN : Only (fun j => (Value.slice ua out.length uc).ownBlock = some j) wx w2 := ((Only.alloc _ wx _).trans' (Only.grown hgrow (fun j hj => .inl hj)))
                have HSTN2 : Hid (StAt N nx (.slice ga gn gc) w2) := Lib.hid ((hgN.block _ HSTN.out.lt (fun e => hNo N e rfl)).trans HSTN.out)
                have HRN2 : Hid (ReadsQ w2 (.slice ga gn gc) nx.fs) := Lib.hid (reads_apart HRN.out (fun j hj => (HSPx.out j hj).2.1) hgN)
                have HBx2 := Lib.hid (HBx.out.trans (hBg.to (B := w.heap.size) (fun j hj => by omega) HBx.out.size))
                have HSPy : Hid (∀ j, (Value.slice ga gn gc).ownBlock = some j → j < w2.heap.size ∧ v'.ownBlock ≠ some j ∧ (fv0.ownBlock = some j ∨ w.heap.size ≤ j)) := Lib.hid (fun j hj => ⟨Nat.lt_of_lt_of_le (HSPx.out j hj).1 hBg.size, (fun e => by
                  have h1 := HSPx.out j hj
                  rcases hat with h | h
                  · exact h1.2.1 (h ▸ e)
                  · rw [h] at e; have := Option.some.inj e; simp at this; omega), (HSPx.out j hj).2.2⟩)
                have HM2 : Hid (wrR r (l.take (k + 1)) = (nx, out ++ [c], k + 1)) := Lib.hid HM.out
                obtain ⟨va, vc, rfl⟩ := hO2.isSlice
                clear n0 n1 n2 n3 n4 n5 n6 n7 n8 n9 b0 hcN hgrow hat hO2 hBg hNo hgN
                go_roundw
                case rel =>
                  have h := fun wF hF hT => wr_round (wF := wF) HM2.out hlt HSTx2.out ⟨_, _, _, rfl⟩ HST1x2.out HRN2.out HSN.out HO2.out HBx2.out HSPy.out hF hT
                  exact h _ (only_ten _ _ _ _ _ _ _ _ _ _ _ _) (stAt_ten HSTx2.out)
                case measure => simp [intOf]; omega
              · have z3 : ((r'.p : Int) == 3) = false := intK_ne (b := 3) h3
                rw [if_neg h3, List.append_nil] at HM
                clear h3
                generalize stepR r' c = nx at *
                obtain ⟨_, _, _, _, _, _, _, _, _, _, bf⟩ := HSTx.out.cells
                have y0 := bf 0
                have y1 := bf 1
                have y2 := bf 2
                have y3 := bf 3
                have y4 := bf 4
                have y5 := bf 5
                have y6 := bf 6
                have y7 := bf 7
                have y8 := bf 8
                have y9 := bf 9
                obtain ⟨m0, m1, m2, m3, m4, m5, m6, m7, m8, m9, _⟩ := HSTx.out.cells
                clear bf
                go_wp2_with fail
                go_roundw
                case rel =>
                  have h := fun wF hF hT => wr_round (wF := wF) HM.out hlt HSTx.out ⟨_, _, _, rfl⟩ HST1x.out HRN.out HSN.out HOx.out HBx.out HSPx.out hF hT
                  exact h _ (only_ten _ _ _ _ _ _ _ _ _ _ _ _) (stAt_ten HSTx.out)
                case measure => simp [intOf]; omega
            · have zz : (((stepR r' c).bad : Int) != 0) = true := by simp; omega
              have HE := Lib.hid (wr_bad HW.out HCL.out HBad.out H8.out hz)
              clear hz
              generalize stepR r' c = nx at *
              obtain ⟨e0, e1, e2, e3, e4, e5, e6, e7, e8, e9, ef⟩ := HST1x.out.cells
              have g0 := ef 0
              have g1 := ef 1
              have g2 := ef 2
              have g3 := ef 3
              have g4 := ef 4
              have g5 := ef 5
              have g6 := ef 6
              have g7 := ef 7
              have g8 := ef 8
              have g9 := ef 9
              clear ef
              go_wp2_with fail
              refine bodyPost_ret (v := .tuple #[stV nx (.slice ga gn gc), .slice ua out.length uc, .int .i64 (k : Int)]) (by simp [results, Tryd.results21, go_sem, e0, e1, e2, e3, e4, e5, e6, e7, e8, e9]) rfl ?_
              have h := fun wF hF => wr_post (wF := wF) HE.out HRN.out HSN.out HST1x.out HOx.out HBx.out HSPx.out hF
              exact h _ (only_ten _ _ _ _ _ _ _ _ _ _ _ _)
      · have z0 : ((r'.bad : Int) != 0) = true := by simp; omega
        have HE := Lib.hid (wr_end HW.out (.inl hbad))
        clear hbad
        obtain ⟨e0, e1, e2, e3, e4, e5, e6, e7, e8, e9, _⟩ := HST1.out.cells
        go_wp2_with fail
        refine bodyPost_ret (v := .tuple #[stV r' (.slice fa fn fc), .slice ua out.length uc, .int .i64 (k : Int)]) (by simp [results, Tryd.results21, go_sem, e0, e1, e2, e3, e4, e5, e6, e7, e8, e9]) rfl ?_
        have h := fun wF hF => wr_post (wF := wF) HE.out HRr.out HSr.out HST1.out HOr.out HBr.out HSP.out hF
        exact h _ (only_ten _ _ _ _ _ _ _ _ _ _ _ _)
    · have HE := Lib.hid (wr_end HW.out (.inr (.inr (by omega))))
      have hkl : k = l.length := by omega
      have HKL := Lib.hid hkl
      clear hkl
      obtain ⟨e0, e1, e2, e3, e4, e5, e6, e7, e8, e9, _⟩ := HST1.out.cells
      go_wp2_with fail
      refine bodyPost_ret (v := .tuple #[stV r' (.slice fa fn fc), .slice ua out.length uc, .int .i64 (l.length : Int)]) (by simp [results, Tryd.results21, go_sem, e0, e1, e2, e3, e4, e5, e6, e7, e8, e9]) rfl ?_
      have h := fun wF hF => wr_post (wF := wF) HE.out HRr.out HSr.out HST1.out HOr.out HBr.out HSP.out hF
      rw [← HKL.out]
      exact h _ (only_ten _ _ _ _ _ _ _ _ _ _ _ _)
end Go.Proofs.YtikkaakgehaenaaDoor
