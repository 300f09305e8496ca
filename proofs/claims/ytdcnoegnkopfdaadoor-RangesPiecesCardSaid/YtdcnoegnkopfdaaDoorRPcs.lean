/- What the code's and the reference's Pieces return; what Ints and Clip return. -/
import Derived.Test.YtdcnoegnkopfdaaDoorRPc
import Derived.Test.YtdcnoegnkopfdaaDoorRRefParse
import Derived.Deep.QuietTactic
import Derived.BigQuiet
namespace Go.Proofs.YtdcnoegnkopfdaaDoor
open Go.RowKit

def PcsPost (r : Rg) (n : Int) (w : World) (e : Ending) (w' : World) : Prop :=
  ∃ v, e = .returned v ∧ ReadsN w' v (piecesR r n) ∧ (piecesR r n).length ≤ 257 ∧ Below w.heap.size w w'
theorem pieces_len (r : Rg) (n : Int) : (piecesR r n).length ≤ 257 := by
  unfold piecesR
  exact Nat.le_trans (List.length_filter_le _ _) (by simp)
theorem range_snoc {a k : Nat} (h : a ≤ k) : List.range' a (k + 1 - a) = List.range' a (k - a) ++ [k] := by
  rw [show k + 1 - a = (k - a) + 1 by omega, span_snoc, show a + (k - a) = k by omega]
def PRel2 (a : Nat) (y : Int) (w2 : World) (v i : Value) (wr : World) : Prop :=
  ∃ k : Nat, i = .int .i64 k ∧ a ≤ k ∧ ((k : Int) - 1) * 256 < y ∧ OwnsN w2.heap.size wr v (List.range' a (k - a)) ∧ Below w2.heap.size w2 wr
set_option maxHeartbeats 8000000 in
set_option maxRecDepth 100000 in
theorem pieces_any (r : Rg) (n : Int) (w : World) : Calls Tryd.prog 27 #[rgV r, .int .i64 n] w (PcsPost r n w) := by
  obtain ⟨i0, hi, hz0, hz1, hz2⟩ := info_parts Tryd.infoInt
  have hb := bodyL_bd n
  have HBL := Lib.hid (fun (w : World) => bodyLen_any n w)
  have HSP := Lib.hid (fun (a b : Nat) => pieces_span r n a b)
  have HNO := Lib.hid (pieces_none r n)
  have HLEN := Lib.hid (pieces_len r n)
  have HWI := Lib.hid (fun (w : World) => within_any r (bodyL n) w)
  unfold withinR at HWI
  obtain ⟨x0, y0⟩ := r
  obtain ⟨x, hx⟩ : ∃ x, max x0 0 = x := ⟨_, rfl⟩
  obtain ⟨y, hy⟩ : ∃ y, min y0 (bodyL n) = y := ⟨_, rfl⟩
  simp only at HSP HNO HWI
  rw [hx, hy] at HSP HNO HWI
  have hx0 : 0 ≤ x := by omega
  have hy1 : y ≤ 65536 := by omega
  clear hx hy
  generalize bodyL n = L at *
  obtain ⟨hb0, hb1⟩ := hb
  have HIE := Lib.hid (fun (w : World) => (show Calls Tryd.prog 38 #[.agg #[.int .i64 x, .int .i64 y]] w fun e w' => e = .returned (.bool (decide (y ≤ x))) ∧ Below w.heap.size w w' from isEmpty_any (x, y) w))
  go_enter Tryd.func27, Tryd.ntmps27
  go_upto_region 1 with fail
  go_cut [2] (fun u2 wx => u2 = .pointer (some ⟨w.heap.size, 0, none⟩) ∧ TwoI w.heap.size wx x y ∧ Below w.heap.size w wx)
  case first =>
    go_region_with (first
      | (go_at_call 56; refine (HBL.out _).mono ?_; rintro e w' ⟨rfl, rfl⟩)
      | (go_at_call 37; refine (HWI.out _).mono ?_; rintro e w3 ⟨rfl, hB3⟩; have hT3 := ((twoI_new w x0 y0 46).drewN 1).below hB3; have hW3 := (below_drewN (below_new w (.cells #[.int .i64 x0, .int .i64 y0] 46)) 1).trans (hB3.mono (by simp)); obtain ⟨c0, c1, f0, f1, hN⟩ := hT3))
    all_goals (try go_wp2_with fail)
    all_goals go_meet
    all_goals exact ⟨rfl, TwoI.set ⟨c0, c1, f0, f1, hN⟩ _ _, below_two hW3 (Nat.le_refl _) _ _⟩
  case rest =>
    obtain ⟨rfl, hT, hW⟩ := hcut
    rename World => wx
    have HT := Lib.hid hT
    have HW := Lib.hid hW
    obtain ⟨c0, c1, f0, f1, hN⟩ := hT
    clear hW
    by_cases hxy : y ≤ x
    · have hd : decide (y ≤ x) = true := decide_eq_true hxy
      have HR := Lib.hid (HNO.out (by omega))
      clear hxy
      go_wp2_with fail
      refine (HIE.out _).mono ?_
      rintro e w4 ⟨rfl, hB⟩
      have HW4 := Lib.hid (HW.out.trans (hB.mono HW.out.size))
      clear hB
      go_wp2_with fail
      go_ret
      exact ⟨_, rfl, by rw [HR.out]; exact (OwnsN.nil 0 _).reads, HLEN.out, HW4.out⟩
    · have hd : decide (y ≤ x) = false := decide_eq_false hxy
      have hxy' : x < y := by omega
      obtain ⟨a, ha⟩ : ∃ a : Nat, x / 256 = (a : Int) := ⟨(x / 256).toNat, by omega⟩
      have hab : (a : Int) * 256 ≤ x := by omega
      have HSPA := Lib.hid (fun (b : Nat) h1 h2 => HSP.out a b hxy' ha.symm h1 h2)
      clear hxy
      go_wp2_with fail
      refine (HIE.out _).mono ?_
      rintro e w4 ⟨rfl, hB⟩
      have hT4 := HT.out.below hB
      have HW4 := Lib.hid (HW.out.trans (hB.mono HW.out.size))
      have HT4 := Lib.hid hT4
      clear hB c0 c1 f0 f1 hN
      obtain ⟨c0, c1, f0, f1, hN⟩ := hT4
      go_wp2_with fail
      go_loopw [5, 6] (fun v i wr => PRel2 a y w4 v i wr) (fun _ i _ => 300 - (intOf i).toNat)
      case atStart => exact ⟨a, by (first | rfl | (rw [ha])), Nat.le_refl _, by omega, by rw [Nat.sub_self]; exact OwnsN.nil _ _, Below.refl _ _⟩
      case round =>
        obtain ⟨k, rfl, hak, hky, hO, hBr⟩ := hrel
        have hbr := hBr.size
        have HBR := Lib.hid hBr
        clear c0 c1 f0 f1 hN
        obtain ⟨c0, c1, f0, f1, hN⟩ := HT4.out.below hBr
        clear hBr
        have hk2 : k ≤ 257 := by omega
        by_cases hlt : (k : Int) * 256 < y
        · have hRS := range_snoc hak
          have HRS := Lib.hid hRS
          clear hRS ha
          have hlr : (List.range' a (k - a)).length ≤ 257 := by simp; omega
          go_wp2_with (at_builtin; go_must (refine wpList_append_own _ rfl _ _ 61 rfl w4.heap.size 3 i0 (.int .i64 0) 1 8 Tryd.underlying61 hi hz0 hz1 hz2 rfl (by decide) _ _ _ rfl (World.ownsRow.alloc hO _) ⟨wr.heap.size, 0, none⟩ 1 1 [.int .i64 (k : Int)] rfl rfl (new_int wr k _) (fun u hu => by simp at hu; subst hu; rfl) (by unfold maxLen; omega) (by omega) (by simp; omega) ?_); intro v' w5 hown' hgrow _)
          go_roundw
          case rel => exact ⟨k + 1, by go_num, by omega, by omega, by rw [HRS.out]; exact OwnsN.snoc hown', below_appendN HBR.out hbr (Below.refl _ _) hO hgrow⟩
          case measure => simp [intOf]; omega
        · have HR := Lib.hid (HSPA.out k (by omega) hky)
          have hge : y ≤ (k : Int) * 256 := by omega
          have HO := Lib.hid hO
          clear hlt hO ha
          go_wp2_with fail
          go_ret
          exact ⟨_, rfl, by rw [HR.out]; exact HO.out.reads, HLEN.out, HW4.out.trans (HBR.out.mono HW4.out.size)⟩
theorem new_int2 (w : World) (o : Obj) (n : Int) (T : TypeId) : ∀ j u, [Value.int .i64 n][j]? = some u → ((w.alloc o).alloc (.cells #[.int .i64 n] T)).cell? ((⟨w.heap.size + 1, 0, none⟩ : Addr).add j) = some u := by
  have e : w.heap.size + 1 = (w.alloc o).heap.size := by simp
  rw [e]; exact new_int (w.alloc o) n T
def RPRel (r : Rg) (n : Int) (w : World) (v i : Value) (wr : World) : Prop :=
  ∃ k : Nat, i = .int .i64 k ∧ k ≤ 257 ∧ OwnsN w.heap.size wr v ((List.range k).filter (inPc r n)) ∧ Below w.heap.size w wr
theorem inPc_no {r : Rg} {n : Int} {k : Nat} (h : pieceR k n = none) : inPc r n k = false := by
  unfold pieceR at h
  split at h
  · cases h
  · rename_i hc
    unfold inPc
    rw [decide_eq_false]
    intro h1
    exact hc ⟨by omega, h1.1⟩
theorem inPc_at {r : Rg} {n a b : Int} {k : Nat} (h : pieceR k n = some (a, b)) : inPc r n k = decide (max a r.1 < min b r.2) := by
  unfold pieceR at h
  split at h
  · rename_i hc
    simp only [Option.some.injEq, Prod.mk.injEq] at h
    obtain ⟨rfl, rfl⟩ := h
    unfold inPc
    rw [decide_eq_decide]
    exact ⟨fun h => h.2, fun h => ⟨hc.2, h⟩⟩
  · cases h
set_option maxHeartbeats 8000000 in
set_option maxRecDepth 100000 in
theorem refPieces_any (r : Rg) (n : Int) (w : World) : Calls Tryd.prog 31 #[rgV r, .int .i64 n] w (PcsPost r n w) := by
  obtain ⟨i0, hi, hz0, hz1, hz2⟩ := info_parts Tryd.infoInt
  have HLEN := Lib.hid (pieces_len r n)
  obtain ⟨x, y⟩ := r
  have HT0 := Lib.hid (twoI_new w x y 43)
  have HW0 := Lib.hid (below_new w (.cells #[.int .i64 x, .int .i64 y] 43))
  go_enter Tryd.func31, Tryd.ntmps31
  go_wp2_with fail
  generalize w.alloc (.cells #[.int .i64 x, .int .i64 y] 43) = w0 at *
  go_loopw [5, 9] (fun v i wr => RPRel (x, y) n w0 v i wr) (fun _ i _ => 257 - (intOf i).toNat)
  case atStart => exact ⟨0, rfl, by omega, OwnsN.nil _ _, Below.refl _ _⟩
  case round =>
    obtain ⟨k, rfl, hk, hO, hBr⟩ := hrel
    have hbr := hBr.size
    have HBR := Lib.hid hBr
    have HTR := Lib.hid (HT0.out.below hBr)
    clear hBr
    by_cases hlt : k < 257
    · have HP := Lib.hid (fun (w : World) => refPiece_any (k : Int) n w (by omega))
      have HSN := Lib.hid (pieces_snoc (x, y) n k)
      cases hp : pieceR (k : Int) n with
      | none =>
        have HIN := Lib.hid (inPc_no (r := (x, y)) hp)
        rw [hp] at HP
        unfold pcT at HP
        clear hp
        go_wp2_with fail
        refine (HP.out _).mono ?_
        rintro e w3 ⟨rfl, hB3⟩
        have HC3 := Lib.hid (hB3.alloc hB3.size (.cells #[.int .i64 0, .int .i64 0] 43))
        clear hB3
        go_wp2_with fail
        go_roundw
        case rel => exact ⟨k + 1, by go_num, by omega, by rw [HSN.out, HIN.out]; simpa using hO.below HC3.out, HBR.out.trans (HC3.out.mono hbr)⟩
        case measure => simp [intOf]; omega
      | some p =>
        obtain ⟨a, b⟩ := p
        have HIN := Lib.hid (inPc_at (r := (x, y)) hp)
        rw [hp] at HP
        unfold pcT at HP
        clear hp
        go_wp2_with fail
        refine (HP.out _).mono ?_
        rintro e w3 ⟨rfl, hB3⟩
        have HC3 := Lib.hid (hB3.alloc hB3.size (.cells #[.int .i64 a, .int .i64 b] 43))
        obtain ⟨c0, c1, f0, f1, hN⟩ := (HTR.out.below hB3).below (below_new w3 (.cells #[.int .i64 a, .int .i64 b] 43))
        obtain ⟨d0, d1, g0, g1, hN2⟩ := twoI_new w3 a b 43
        obtain ⟨c2, c3, f2, f3, hN3⟩ := HTR.out.below hB3
        clear hB3
        have hO3 := hO.below HC3.out
        have hsz3 := HC3.out.size
        have hsz4 : w0.heap.size ≤ w3.heap.size + 1 := by have := hsz3; simp at this; omega
        by_cases hc : max a x < min b y
        · have hd : decide (max a x < min b y) = true := decide_eq_true hc
          have HIN2 := Lib.hid (show inPc (x, y) n k = true from HIN.out.trans hd)
          have hfl : ((List.range k).filter (inPc (x, y) n)).length ≤ 257 := Nat.le_trans (List.length_filter_le _ _) (by simp; omega)
          clear hO
          go_wp2_with (at_builtin; go_must (refine wpList_append_own _ rfl _ _ 61 rfl w0.heap.size 3 i0 (.int .i64 0) 1 8 Tryd.underlying61 hi hz0 hz1 hz2 rfl (by decide) _ _ _ rfl (World.ownsRow.alloc hO3 _) ⟨w3.heap.size + 1, 0, none⟩ 1 1 [.int .i64 (k : Int)] rfl rfl (new_int2 w3 _ k _) (fun u hu => by simp at hu; subst hu; rfl) (by unfold maxLen; omega) (by omega) (by simp; omega) ?_); intro v' w5 hown' hgrow _)
          go_roundw
          case rel => exact ⟨k + 1, by go_num, by omega, by rw [HSN.out, HIN2.out]; exact OwnsN.snoc hown', below_appendN (HBR.out.trans (HC3.out.mono hbr)) (by simp; omega) (Below.refl _ _) hO3 hgrow⟩
          case measure => simp [intOf]; omega
        · have hd : decide (max a x < min b y) = false := decide_eq_false hc
          have HIN2 := Lib.hid (show inPc (x, y) n k = false from HIN.out.trans hd)
          clear hO
          go_wp2_with fail
          go_roundw
          case rel => exact ⟨k + 1, by go_num, by omega, by rw [HSN.out, HIN2.out]; simpa using hO3, HBR.out.trans (HC3.out.mono hbr)⟩
          case measure => simp [intOf]; omega
    · have HK := Lib.hid (show k = 257 by omega)
      have HO := Lib.hid hO
      clear hO
      go_wp2_with fail
      go_ret
      exact ⟨_, rfl, by have := HO.out.reads; rw [HK.out] at this; exact this, HLEN.out, HW0.out.trans (HBR.out.mono HW0.out.size)⟩
end Go.Proofs.YtdcnoegnkopfdaaDoor
