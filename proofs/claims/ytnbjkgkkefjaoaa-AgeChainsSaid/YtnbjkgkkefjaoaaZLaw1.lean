/- AgeBounds, AgeFields and AgeJudges: for every input the statement's function returns true: the walks. -/
import Derived.Test.YtnbjkgkkefjaoaaZRef
import Derived.Test.YtnbjkgkkefjaoaaNum
namespace Go.Proofs.Ytnbjkgkkefjaoaa
open Go.RowKit Go.Sort

abbrev moV (n p : Int) : Value := .agg #[.int .i64 n, .int .i64 p]
/-- What a region that draws holds of the two boxes: the times, the reading and the drift. -/
abbrev SB (N : Nat) (w : World) (s r a n p : Int) (w' : World) : Prop :=
  w'.cell? ⟨N, 0, none⟩ = some (.int .i64 s) ∧ w'.cell? ⟨N, 1, none⟩ = some (.int .i64 r) ∧ w'.cell? ⟨N, 2, none⟩ = some (.int .i64 a) ∧ w'.cell? ⟨N + 1, 0, none⟩ = some (.int .i64 n) ∧ w'.cell? ⟨N + 1, 1, none⟩ = some (.int .i64 p) ∧ N + 1 < w'.heap.size ∧ Gr w w'
theorem sb_keep {N : Nat} {w w1 w2 : World} {s r a n p : Int} (h : SB N w s r a n p w1) (hG : Gr w1 w2) : SB N w s r a n p w2 := by
  obtain ⟨h1, h2, h3, h4, h5, h6, h7⟩ := h
  have hb := hG.below
  exact ⟨(hb.cell (p := ⟨N, 0, none⟩) (show N < _ by omega)).trans h1, (hb.cell (p := ⟨N, 1, none⟩) (show N < _ by omega)).trans h2, (hb.cell (p := ⟨N, 2, none⟩) (show N < _ by omega)).trans h3, (hb.cell (p := ⟨N + 1, 0, none⟩) h6).trans h4, (hb.cell (p := ⟨N + 1, 1, none⟩) h6).trans h5, Nat.lt_of_lt_of_le h6 hb.size, h7.trans hG⟩
theorem cell_two (w : World) (x y : Int) (T : TypeId) (B : Nat) (h : B = w.heap.size) : (w.alloc (.cells #[.int .i64 x, .int .i64 y] T)).cell? ⟨B, 0, none⟩ = some (.int .i64 x) ∧ (w.alloc (.cells #[.int .i64 x, .int .i64 y] T)).cell? ⟨B, 1, none⟩ = some (.int .i64 y) := by
  subst h; constructor <;> (rw [World.cell?_alloc_at _ _ _ _ rfl]; rfl)
theorem sb_new (w : World) (s r a n p : Int) (T1 T2 : TypeId) : SB w.heap.size w s r a n p ((w.alloc (.cells #[.int .i64 s, .int .i64 r, .int .i64 a] T1)).alloc (.cells #[.int .i64 n, .int .i64 p] T2)) := by
  obtain ⟨t1, t2, t3, t4⟩ := threeI_new w s r a T1
  obtain ⟨c1, c2⟩ := cell_two (w.alloc (.cells #[.int .i64 s, .int .i64 r, .int .i64 a] T1)) n p T2 (w.heap.size + 1) (by simp)
  exact ⟨(cell_old _ _ _ _ t4).trans t1, (cell_old _ _ _ _ t4).trans t2, (cell_old _ _ _ _ t4).trans t3, c1, c2, by simp, (gr_new _ _).alloc _⟩
theorem gr_drew (w : World) : Gr w w.drew := (Gr.refl w).drewN 1
section
variable {N : Nat} {w w1 : World} {s r a n p l : Int}
theorem times_in (h : SB N w s r a n p w1) : Calls Try.prog 28 #[tmV s r a] w1 fun e w2 => e = .returned (tmV s r a) ∧ SB N w s r a n p w2 := by
  refine (times_any s r a w1).mono ?_
  rintro e w2 ⟨rfl, hG⟩
  exact ⟨rfl, sb_keep h hG⟩
theorem at_in {v : Value} (hv : atV s r a n p = v) (h : SB N w s r a n p w1) : Calls Try.prog 27 #[tmV s r a, .int .i64 n, .int .i64 p] w1 fun e w2 => e = .returned v ∧ SB N w s r a n p w2 := by
  refine (at_any s r a n p w1).mono ?_
  rintro e w2 ⟨rfl, hG⟩
  exact ⟨by rw [hv], sb_keep h hG⟩
theorem refAt_in {v : Value} (hv : atR s r a n p = v) (h : SB N w s r a n p w1) : Calls Try.prog 29 #[tmV s r a, .int .i64 n, .int .i64 p] w1 fun e w2 => e = .returned v ∧ SB N w s r a n p w2 := by
  refine (refAt_any s r a n p w1).mono ?_
  rintro e w2 ⟨rfl, hG⟩
  exact ⟨by rw [hv], sb_keep h hG⟩
theorem field_in {v : Value} (hv : fldV s r a n p = v) (h : SB N w s r a n p w1) : Calls Try.prog 31 #[tmV s r a, .int .i64 n, .int .i64 p] w1 fun e w2 => e = .returned v ∧ SB N w s r a n p w2 := by
  refine (field_any s r a n p w1).mono ?_
  rintro e w2 ⟨rfl, hG⟩
  exact ⟨by rw [hv], sb_keep h hG⟩
theorem fresh_in {b : Bool} (hv : frA s r a n p l = b) (h : SB N w s r a n p w1) : Calls Try.prog 32 #[tmV s r a, .int .i64 n, .int .i64 p, .int .i64 l] w1 fun e w2 => e = .returned (.bool b) ∧ SB N w s r a n p w2 := by
  refine (fresh_any s r a n p l w1).mono ?_
  rintro e w2 ⟨rfl, hG⟩
  exact ⟨by rw [hv], sb_keep h hG⟩
theorem stale_in {b : Bool} (hv : stA s r n p l = b) (h : SB N w s r a n p w1) : Calls Try.prog 33 #[tmV s r a, .int .i64 n, .int .i64 p, .int .i64 l] w1 fun e w2 => e = .returned (.bool b) ∧ SB N w s r a n p w2 := by
  refine (stale_any s r a n p l w1).mono ?_
  rintro e w2 ⟨rfl, hG⟩
  exact ⟨by rw [hv], sb_keep h hG⟩
end
namespace agbounds
set_option maxHeartbeats 4000000 in
theorem walk (s r a n p : Int) (w : World) :
    Calls Try.prog 8 #[tmV s r a, moV n p] w fun e w' => e = .returned (.bool true) ∧ Below w.heap.size w w' := by
  cases ok : okA s r n with
  | true =>
    have HV := Lib.hid (atV_yes (a := a) (p := p) ok)
    have HR := Lib.hid (atR_yes (a := a) (p := p) ok)
    clear ok
    obtain ⟨L, hL⟩ : ∃ L, lowA r n p = L := ⟨_, rfl⟩
    obtain ⟨U, hU⟩ : ∃ U, topA s a n p = U := ⟨_, rfl⟩
    rw [hL, hU] at HV HR
    clear hL hU
    go_enter Try.func8, Try.ntmps8
    go_wp2_with fail
    have F0 := Lib.hid (sb_new w s r a n p 52 54)
    generalize (w.alloc (.cells #[.int .i64 s, .int .i64 r, .int .i64 a] 52)).alloc (.cells #[.int .i64 n, .int .i64 p] 54) = w0 at *
    refine (awake13_any _).mono ?_
    rintro e w1 ⟨rfl, hG⟩
    have hS := sb_keep F0.out hG
    clear hG F0
    have hSd := sb_keep hS (gr_drew w1)
    obtain ⟨d0, d1, d2, d3, d4, d5, d6⟩ := hS
    go_wp2_with fail
    go_region_held3 (fun w' => w'.cell? ⟨w.heap.size, 0, none⟩ = some (.int .i64 s) ∧ w'.cell? ⟨w.heap.size, 1, none⟩ = some (.int .i64 r) ∧ w'.cell? ⟨w.heap.size, 2, none⟩ = some (.int .i64 a) ∧ w'.cell? ⟨w.heap.size + 1, 0, none⟩ = some (.int .i64 n) ∧ w'.cell? ⟨w.heap.size + 1, 1, none⟩ = some (.int .i64 p) ∧ w.heap.size + 1 < w'.heap.size ∧ Gr w w')
        (first | (with_reducible exact h5) | (with_reducible exact hSd))
        (first | (go_at_call 28; refine (times_in (by assumption)).mono ?_; rintro e w' ⟨rfl, h5⟩) | (go_at_call 27; refine (at_in HV.out (by assumption)).mono ?_; rintro e w' ⟨rfl, h5⟩))
    rename World => w2
    have hS := h5
    clear h5 hSd d0 d1 d2 d3 d4 d5 d6
    have HX := Lib.hid hS
    obtain ⟨d0, d1, d2, d3, d4, d5, d6⟩ := hS
    go_wp2_with fail
    refine (refAt_in HR.out HX.out).mono ?_
    rintro e w3 ⟨rfl, hS⟩
    clear HX d0 d1 d2 d3 d4 d5 d6
    go_wp2_with fail
    refine (num_nil _).mono ?_
    rintro e w' ⟨rfl, rfl⟩
    have HG := Lib.hid hS.2.2.2.2.2.2
    clear hS
    go_wp2_with fail
    go_ret
    exact ⟨rfl, HG.out.below⟩
  | false =>
    have HV := Lib.hid (atV_no (a := a) (p := p) ok)
    have HR := Lib.hid (atR_no (a := a) (p := p) ok)
    clear ok
    go_enter Try.func8, Try.ntmps8
    go_wp2_with fail
    have F0 := Lib.hid (sb_new w s r a n p 52 54)
    generalize (w.alloc (.cells #[.int .i64 s, .int .i64 r, .int .i64 a] 52)).alloc (.cells #[.int .i64 n, .int .i64 p] 54) = w0 at *
    refine (awake13_any _).mono ?_
    rintro e w1 ⟨rfl, hG⟩
    have hS := sb_keep F0.out hG
    clear hG F0
    have hSd := sb_keep hS (gr_drew w1)
    obtain ⟨d0, d1, d2, d3, d4, d5, d6⟩ := hS
    go_wp2_with fail
    go_region_held3 (fun w' => w'.cell? ⟨w.heap.size, 0, none⟩ = some (.int .i64 s) ∧ w'.cell? ⟨w.heap.size, 1, none⟩ = some (.int .i64 r) ∧ w'.cell? ⟨w.heap.size, 2, none⟩ = some (.int .i64 a) ∧ w'.cell? ⟨w.heap.size + 1, 0, none⟩ = some (.int .i64 n) ∧ w'.cell? ⟨w.heap.size + 1, 1, none⟩ = some (.int .i64 p) ∧ w.heap.size + 1 < w'.heap.size ∧ Gr w w')
        (first | (with_reducible exact h5) | (with_reducible exact hSd))
        (first | (go_at_call 28; refine (times_in (by assumption)).mono ?_; rintro e w' ⟨rfl, h5⟩) | (go_at_call 27; refine (at_in HV.out (by assumption)).mono ?_; rintro e w' ⟨rfl, h5⟩))
    rename World => w2
    have hS := h5
    clear h5 hSd d0 d1 d2 d3 d4 d5 d6
    have HX := Lib.hid hS
    obtain ⟨d0, d1, d2, d3, d4, d5, d6⟩ := hS
    go_wp2_with fail
    refine (refAt_in HR.out HX.out).mono ?_
    rintro e w3 ⟨rfl, hS⟩
    clear HX d0 d1 d2 d3 d4 d5 d6
    go_wp2_with fail
    refine (num_errno _ _).mono ?_
    rintro e w' ⟨rfl, rfl⟩
    have HG := Lib.hid hS.2.2.2.2.2.2
    clear hS
    go_wp2_with fail
    go_ret
    exact ⟨rfl, HG.out.below⟩
end agbounds
namespace agfields
set_option maxHeartbeats 4000000 in
theorem walk (s r a n p : Int) (w : World) :
    Calls Try.prog 9 #[tmV s r a, moV n p] w fun e w' => e = .returned (.bool true) ∧ Below w.heap.size w w' := by
  cases ok : okA s r n with
  | true =>
    have HV := Lib.hid (fldV_yes (a := a) (p := p) ok)
    have HR := Lib.hid (atR_yes (a := a) (p := p) ok)
    have hb := top_bd (a := a) (p := p) ok
    obtain ⟨L, hL⟩ : ∃ L, lowA r n p = L := ⟨_, rfl⟩
    obtain ⟨U, hU⟩ : ∃ U, topA s a n p = U := ⟨_, rfl⟩
    rw [hU] at HV
    rw [hL, hU] at HR hb
    clear hL hU
    clear ok
    go_enter Try.func9, Try.ntmps9
    go_wp2_with fail
    have F0 := Lib.hid (sb_new w s r a n p 52 54)
    generalize (w.alloc (.cells #[.int .i64 s, .int .i64 r, .int .i64 a] 52)).alloc (.cells #[.int .i64 n, .int .i64 p] 54) = w0 at *
    refine (awake13_any _).mono ?_
    rintro e w1 ⟨rfl, hG⟩
    have hS := sb_keep F0.out hG
    clear hG F0
    have hSd := sb_keep hS (gr_drew w1)
    obtain ⟨d0, d1, d2, d3, d4, d5, d6⟩ := hS
    go_wp2_with fail
    go_region_held3 (fun w' => w'.cell? ⟨w.heap.size, 0, none⟩ = some (.int .i64 s) ∧ w'.cell? ⟨w.heap.size, 1, none⟩ = some (.int .i64 r) ∧ w'.cell? ⟨w.heap.size, 2, none⟩ = some (.int .i64 a) ∧ w'.cell? ⟨w.heap.size + 1, 0, none⟩ = some (.int .i64 n) ∧ w'.cell? ⟨w.heap.size + 1, 1, none⟩ = some (.int .i64 p) ∧ w.heap.size + 1 < w'.heap.size ∧ Gr w w')
        (first | (with_reducible exact h5) | (with_reducible exact hSd))
        (first | (go_at_call 28; refine (times_in (by assumption)).mono ?_; rintro e w' ⟨rfl, h5⟩) | (go_at_call 31; refine (field_in HV.out (by assumption)).mono ?_; rintro e w' ⟨rfl, h5⟩))
    rename World => w2
    have hS := h5
    clear h5 hSd d0 d1 d2 d3 d4 d5 d6
    have HX := Lib.hid hS
    obtain ⟨d0, d1, d2, d3, d4, d5, d6⟩ := hS
    go_wp2_with fail
    refine (refAt_in HR.out HX.out).mono ?_
    rintro e w3 ⟨rfl, hS⟩
    clear HX d0 d1 d2 d3 d4 d5 d6
    go_wp2_with fail
    refine (num_nil _).mono ?_
    rintro e w' ⟨rfl, rfl⟩
    have HG := Lib.hid hS.2.2.2.2.2.2
    clear hS
    go_wp2_with fail
    go_ret
    exact ⟨rfl, HG.out.below⟩
  | false =>
    have HV := Lib.hid (fldV_no (a := a) (p := p) ok)
    have HR := Lib.hid (atR_no (a := a) (p := p) ok)
    clear ok
    go_enter Try.func9, Try.ntmps9
    go_wp2_with fail
    have F0 := Lib.hid (sb_new w s r a n p 52 54)
    generalize (w.alloc (.cells #[.int .i64 s, .int .i64 r, .int .i64 a] 52)).alloc (.cells #[.int .i64 n, .int .i64 p] 54) = w0 at *
    refine (awake13_any _).mono ?_
    rintro e w1 ⟨rfl, hG⟩
    have hS := sb_keep F0.out hG
    clear hG F0
    have hSd := sb_keep hS (gr_drew w1)
    obtain ⟨d0, d1, d2, d3, d4, d5, d6⟩ := hS
    go_wp2_with fail
    go_region_held3 (fun w' => w'.cell? ⟨w.heap.size, 0, none⟩ = some (.int .i64 s) ∧ w'.cell? ⟨w.heap.size, 1, none⟩ = some (.int .i64 r) ∧ w'.cell? ⟨w.heap.size, 2, none⟩ = some (.int .i64 a) ∧ w'.cell? ⟨w.heap.size + 1, 0, none⟩ = some (.int .i64 n) ∧ w'.cell? ⟨w.heap.size + 1, 1, none⟩ = some (.int .i64 p) ∧ w.heap.size + 1 < w'.heap.size ∧ Gr w w')
        (first | (with_reducible exact h5) | (with_reducible exact hSd))
        (first | (go_at_call 28; refine (times_in (by assumption)).mono ?_; rintro e w' ⟨rfl, h5⟩) | (go_at_call 31; refine (field_in HV.out (by assumption)).mono ?_; rintro e w' ⟨rfl, h5⟩))
    rename World => w2
    have hS := h5
    clear h5 hSd d0 d1 d2 d3 d4 d5 d6
    have HX := Lib.hid hS
    obtain ⟨d0, d1, d2, d3, d4, d5, d6⟩ := hS
    go_wp2_with fail
    refine (refAt_in HR.out HX.out).mono ?_
    rintro e w3 ⟨rfl, hS⟩
    clear HX d0 d1 d2 d3 d4 d5 d6
    go_wp2_with fail
    refine (num_errno _ _).mono ?_
    rintro e w' ⟨rfl, rfl⟩
    have HG := Lib.hid hS.2.2.2.2.2.2
    clear hS
    go_wp2_with fail
    go_ret
    exact ⟨rfl, HG.out.below⟩
end agfields
namespace agjudges
set_option maxHeartbeats 4000000 in
theorem walk (s r a n p l : Int) (w : World) :
    Calls Try.prog 10 #[tmV s r a, moV n p, .int .i64 l] w fun e w' => e = .returned (.bool true) ∧ Below w.heap.size w w' := by
  cases ok : okA s r n with
  | true =>
    have HR := Lib.hid (atR_yes (a := a) (p := p) ok)
    have hLU := low_top (a := a) (p := p) ok
    have HF := Lib.hid (show frA s r a n p l = decide (topA s a n p < l) by unfold frA; rw [ok]; rfl)
    have HS := Lib.hid (show stA s r n p l = decide (l ≤ lowA r n p) by unfold stA; rw [ok]; rfl)
    obtain ⟨L, hL⟩ : ∃ L, lowA r n p = L := ⟨_, rfl⟩
    obtain ⟨U, hU⟩ : ∃ U, topA s a n p = U := ⟨_, rfl⟩
    rw [hL, hU] at HR hLU
    rw [hU] at HF
    rw [hL] at HS
    clear hL hU ok
    rcases (show (U < l ∧ ¬ l ≤ L) ∨ (¬ U < l ∧ l ≤ L) ∨ (¬ U < l ∧ ¬ l ≤ L) by omega) with ⟨q1, q2⟩ | ⟨q1, q2⟩ | ⟨q1, q2⟩
    · rw [decide_eq_true q1] at HF
      rw [decide_eq_false q2] at HS
      clear hLU
      go_enter Try.func10, Try.ntmps10
      go_wp2_with fail
      have F0 := Lib.hid (sb_new w s r a n p 52 54)
      generalize (w.alloc (.cells #[.int .i64 s, .int .i64 r, .int .i64 a] 52)).alloc (.cells #[.int .i64 n, .int .i64 p] 54) = w0 at *
      refine (awake13_any _).mono ?_
      rintro e w1 ⟨rfl, hG⟩
      have hS := sb_keep F0.out hG
      clear hG F0
      have HX := Lib.hid hS
      obtain ⟨d0, d1, d2, d3, d4, d5, d6⟩ := hS
      go_wp2_with fail
      refine (refAt_in HR.out HX.out).mono ?_
      rintro e w2 ⟨rfl, hS⟩
      clear HX d0 d1 d2 d3 d4 d5 d6
      have hSd := sb_keep hS (gr_drew w2)
      obtain ⟨d0, d1, d2, d3, d4, d5, d6⟩ := hS
      go_wp2_with fail
      go_region_held3 (fun w' => w'.cell? ⟨w.heap.size, 0, none⟩ = some (.int .i64 s) ∧ w'.cell? ⟨w.heap.size, 1, none⟩ = some (.int .i64 r) ∧ w'.cell? ⟨w.heap.size, 2, none⟩ = some (.int .i64 a) ∧ w'.cell? ⟨w.heap.size + 1, 0, none⟩ = some (.int .i64 n) ∧ w'.cell? ⟨w.heap.size + 1, 1, none⟩ = some (.int .i64 p) ∧ w.heap.size + 1 < w'.heap.size ∧ Gr w w')
          (first | (with_reducible exact h5) | (with_reducible exact hSd))
          (first | (go_at_call 28; refine (times_in (by assumption)).mono ?_; rintro e w' ⟨rfl, h5⟩) | (go_at_call 32; refine (fresh_in HF.out (by assumption)).mono ?_; rintro e w' ⟨rfl, h5⟩) | (go_at_call 33; refine (stale_in HS.out (by assumption)).mono ?_; rintro e w' ⟨rfl, h5⟩))
      rename World => w3
      have hS := h5
      clear h5 hSd d0 d1 d2 d3 d4 d5 d6
      have HG := Lib.hid hS.2.2.2.2.2.2
      clear hS
      go_wp2_with fail
      go_ret
      exact ⟨ret_bool (by simp [q2]), HG.out.below⟩
    · rw [decide_eq_false q1] at HF
      rw [decide_eq_true q2] at HS
      clear hLU
      go_enter Try.func10, Try.ntmps10
      go_wp2_with fail
      have F0 := Lib.hid (sb_new w s r a n p 52 54)
      generalize (w.alloc (.cells #[.int .i64 s, .int .i64 r, .int .i64 a] 52)).alloc (.cells #[.int .i64 n, .int .i64 p] 54) = w0 at *
      refine (awake13_any _).mono ?_
      rintro e w1 ⟨rfl, hG⟩
      have hS := sb_keep F0.out hG
      clear hG F0
      have HX := Lib.hid hS
      obtain ⟨d0, d1, d2, d3, d4, d5, d6⟩ := hS
      go_wp2_with fail
      refine (refAt_in HR.out HX.out).mono ?_
      rintro e w2 ⟨rfl, hS⟩
      clear HX d0 d1 d2 d3 d4 d5 d6
      have hSd := sb_keep hS (gr_drew w2)
      obtain ⟨d0, d1, d2, d3, d4, d5, d6⟩ := hS
      go_wp2_with fail
      go_region_held3 (fun w' => w'.cell? ⟨w.heap.size, 0, none⟩ = some (.int .i64 s) ∧ w'.cell? ⟨w.heap.size, 1, none⟩ = some (.int .i64 r) ∧ w'.cell? ⟨w.heap.size, 2, none⟩ = some (.int .i64 a) ∧ w'.cell? ⟨w.heap.size + 1, 0, none⟩ = some (.int .i64 n) ∧ w'.cell? ⟨w.heap.size + 1, 1, none⟩ = some (.int .i64 p) ∧ w.heap.size + 1 < w'.heap.size ∧ Gr w w')
          (first | (with_reducible exact h5) | (with_reducible exact hSd))
          (first | (go_at_call 28; refine (times_in (by assumption)).mono ?_; rintro e w' ⟨rfl, h5⟩) | (go_at_call 32; refine (fresh_in HF.out (by assumption)).mono ?_; rintro e w' ⟨rfl, h5⟩) | (go_at_call 33; refine (stale_in HS.out (by assumption)).mono ?_; rintro e w' ⟨rfl, h5⟩))
      rename World => w3
      have hS := h5
      clear h5 hSd d0 d1 d2 d3 d4 d5 d6
      have HG := Lib.hid hS.2.2.2.2.2.2
      clear hS
      go_wp2_with fail
      go_ret
      exact ⟨ret_bool (by simp [q1]), HG.out.below⟩
    · rw [decide_eq_false q1] at HF
      rw [decide_eq_false q2] at HS
      clear hLU
      go_enter Try.func10, Try.ntmps10
      go_wp2_with fail
      have F0 := Lib.hid (sb_new w s r a n p 52 54)
      generalize (w.alloc (.cells #[.int .i64 s, .int .i64 r, .int .i64 a] 52)).alloc (.cells #[.int .i64 n, .int .i64 p] 54) = w0 at *
      refine (awake13_any _).mono ?_
      rintro e w1 ⟨rfl, hG⟩
      have hS := sb_keep F0.out hG
      clear hG F0
      have HX := Lib.hid hS
      obtain ⟨d0, d1, d2, d3, d4, d5, d6⟩ := hS
      go_wp2_with fail
      refine (refAt_in HR.out HX.out).mono ?_
      rintro e w2 ⟨rfl, hS⟩
      clear HX d0 d1 d2 d3 d4 d5 d6
      have hSd := sb_keep hS (gr_drew w2)
      obtain ⟨d0, d1, d2, d3, d4, d5, d6⟩ := hS
      go_wp2_with fail
      go_region_held3 (fun w' => w'.cell? ⟨w.heap.size, 0, none⟩ = some (.int .i64 s) ∧ w'.cell? ⟨w.heap.size, 1, none⟩ = some (.int .i64 r) ∧ w'.cell? ⟨w.heap.size, 2, none⟩ = some (.int .i64 a) ∧ w'.cell? ⟨w.heap.size + 1, 0, none⟩ = some (.int .i64 n) ∧ w'.cell? ⟨w.heap.size + 1, 1, none⟩ = some (.int .i64 p) ∧ w.heap.size + 1 < w'.heap.size ∧ Gr w w')
          (first | (with_reducible exact h5) | (with_reducible exact hSd))
          (first | (go_at_call 28; refine (times_in (by assumption)).mono ?_; rintro e w' ⟨rfl, h5⟩) | (go_at_call 32; refine (fresh_in HF.out (by assumption)).mono ?_; rintro e w' ⟨rfl, h5⟩) | (go_at_call 33; refine (stale_in HS.out (by assumption)).mono ?_; rintro e w' ⟨rfl, h5⟩))
      rename World => w3
      have hS := h5
      clear h5 hSd d0 d1 d2 d3 d4 d5 d6
      have HG := Lib.hid hS.2.2.2.2.2.2
      clear hS
      go_wp2_with fail
      go_ret
      exact ⟨ret_bool (by simp [q1, q2]), HG.out.below⟩
  | false =>
    have HR := Lib.hid (atR_no (a := a) (p := p) ok)
    have HF := Lib.hid (show frA s r a n p l = false by unfold frA; rw [ok]; rfl)
    have HS := Lib.hid (show stA s r n p l = false by unfold stA; rw [ok]; rfl)
    clear ok
    go_enter Try.func10, Try.ntmps10
    go_wp2_with fail
    have F0 := Lib.hid (sb_new w s r a n p 52 54)
    generalize (w.alloc (.cells #[.int .i64 s, .int .i64 r, .int .i64 a] 52)).alloc (.cells #[.int .i64 n, .int .i64 p] 54) = w0 at *
    refine (awake13_any _).mono ?_
    rintro e w1 ⟨rfl, hG⟩
    have hS := sb_keep F0.out hG
    clear hG F0
    have HX := Lib.hid hS
    obtain ⟨d0, d1, d2, d3, d4, d5, d6⟩ := hS
    go_wp2_with fail
    refine (refAt_in HR.out HX.out).mono ?_
    rintro e w2 ⟨rfl, hS⟩
    clear HX d0 d1 d2 d3 d4 d5 d6
    have hSd := sb_keep hS (gr_drew w2)
    obtain ⟨d0, d1, d2, d3, d4, d5, d6⟩ := hS
    go_wp2_with fail
    go_region_held3 (fun w' => w'.cell? ⟨w.heap.size, 0, none⟩ = some (.int .i64 s) ∧ w'.cell? ⟨w.heap.size, 1, none⟩ = some (.int .i64 r) ∧ w'.cell? ⟨w.heap.size, 2, none⟩ = some (.int .i64 a) ∧ w'.cell? ⟨w.heap.size + 1, 0, none⟩ = some (.int .i64 n) ∧ w'.cell? ⟨w.heap.size + 1, 1, none⟩ = some (.int .i64 p) ∧ w.heap.size + 1 < w'.heap.size ∧ Gr w w')
        (first | (with_reducible exact h5) | (with_reducible exact hSd))
        (first | (go_at_call 28; refine (times_in (by assumption)).mono ?_; rintro e w' ⟨rfl, h5⟩) | (go_at_call 32; refine (fresh_in HF.out (by assumption)).mono ?_; rintro e w' ⟨rfl, h5⟩) | (go_at_call 33; refine (stale_in HS.out (by assumption)).mono ?_; rintro e w' ⟨rfl, h5⟩))
    rename World => w3
    have hS := h5
    clear h5 hSd d0 d1 d2 d3 d4 d5 d6
    have HG := Lib.hid hS.2.2.2.2.2.2
    clear hS
    go_wp2_with fail
    go_ret
    exact ⟨rfl, HG.out.below⟩
end agjudges
end Go.Proofs.Ytnbjkgkkefjaoaa
