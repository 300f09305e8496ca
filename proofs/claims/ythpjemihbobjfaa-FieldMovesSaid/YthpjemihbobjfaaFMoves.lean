/- FieldMoves: for every list of fields and every number the statement's function returns true: the walk. -/
import Derived.Test.YthpjemihbobjfaaFMovesSpec
import Derived.Deep.RegionHeld3
import Derived.Deep.DeepCutAuto
import Derived.BigRegion
namespace Go.Proofs.Ythpjemihbobjfaa.moves
open Go.RowKit

def Held2 (w0 : World) (a : Addr) (u : Value) (b : Addr) (v : Value) (w' : World) : Prop := w'.cell? a = some u ∧ w'.cell? b = some v ∧ Below w0.heap.size w0 w'
theorem Held2.below {w0 w w' : World} {a b : Addr} {u v : Value} (h : Held2 w0 a u b v w) (hb : Below w.heap.size w w') : Held2 w0 a u b v w' :=
  ⟨(hb.cell (World.block_lt_of_cell? w _ h.1)).trans h.1, (hb.cell (World.block_lt_of_cell? w _ h.2.1)).trans h.2.1, h.2.2.trans (hb.mono h.2.2.size)⟩
theorem Held2.drew {w0 w : World} {a b : Addr} {u v : Value} (h : Held2 w0 a u b v w) : Held2 w0 a u b v w.drew := h.below (below_drewN (Below.refl _ _) 1)

set_option maxHeartbeats 1000000 in
set_option maxRecDepth 100000 in
theorem walk_big (lv : Value) (ps : Flds) (at0 : Nat) (w : World) (hr : ReadsQ w lv ps) (hl : ps.length ≤ 9223372036854775807) (hb : ∀ p ∈ ps, p.1.length ≤ 140737488355328 ∧ p.2.length ≤ 140737488355328)
    (_ha : at0 < 256) (hbig : smallB ps = false ∨ ps.length < 2) :
    Calls Try.prog 7 #[lv, .int .u8 at0] w fun e w' => e = .returned (.bool true) ∧ Below w.heap.size w w' := by
  have S := fun w hr => small_any lv ps w hr hl hb
  have HR := Lib.hid hr
  obtain ⟨ao, cap, rfl, hc⟩ := hr
  clear hc hb
  cases hsm : smallB ps with
  | false =>
    rw [hsm] at S
    clear hbig hsm
    go_enter Try.func7, Try.ntmps7
    go_wp2_with fail
    refine (awake_any _).mono ?_
    rintro e w1 ⟨rfl, hB⟩
    go_wp2_with fail
    refine (S _ (HR.out.below hB)).mono ?_
    rintro e w2 ⟨rfl, hB2⟩
    go_wp2_with fail
    refine (awake_any _).mono ?_
    rintro e w3 ⟨rfl, hB3⟩
    go_wp2_with fail
    go_ret
    exact ⟨rfl, hB.trans ((hB2.trans (hB3.mono hB2.size)).mono hB.size)⟩
  | true =>
    rw [hsm] at S
    have h2 : ps.length < 2 := by
      rcases hbig with h | h
      · rw [hsm] at h; cases h
      · exact h
    clear hbig hsm
    go_enter Try.func7, Try.ntmps7
    go_wp2_with fail
    refine (awake_any _).mono ?_
    rintro e w1 ⟨rfl, hB⟩
    go_wp2_with fail
    refine (S _ (HR.out.below hB)).mono ?_
    rintro e w2 ⟨rfl, hB2⟩
    go_wp2_with fail
    refine (awake_any _).mono ?_
    rintro e w3 ⟨rfl, hB3⟩
    go_wp2_with fail
    go_ret
    exact ⟨rfl, hB.trans ((hB2.trans (hB3.mono hB2.size)).mono hB.size)⟩

set_option maxHeartbeats 8000000 in
set_option maxRecDepth 100000 in
theorem walk (lv : Value) (ps : Flds) (at0 : Nat) (w : World) (hr : ReadsQ w lv ps) (hl : ps.length ≤ 9223372036854775807) (hb : ∀ p ∈ ps, p.1.length ≤ 140737488355328 ∧ p.2.length ≤ 140737488355328)
    (ha : at0 < 256) :
    Calls Try.prog 7 #[lv, .int .u8 at0] w fun e w' => e = .returned (.bool true) ∧ Below w.heap.size w w' := by
  by_cases hbig : smallB ps = false ∨ ps.length < 2
  · exact walk_big lv ps at0 w hr hl hb ha hbig
  have hsm : smallB ps = true := by
    cases h : smallB ps with
    | true => rfl
    | false => exact absurd (Or.inl h) hbig
  have h2 : 2 ≤ ps.length := by
    rcases Nat.lt_or_ge ps.length 2 with h | h
    · exact absurd (Or.inr h) hbig
    · exact h
  clear hbig
  have S := fun w hr => small_any lv ps w hr hl hb
  rw [hsm] at S
  obtain ⟨h70, h6⟩ := small_yes hsm
  have hb6 : ∀ p ∈ ps, p.1.length + p.2.length ≤ 1000000 := fun p hp => by have := h6 p hp; omega
  have F := fun w hr => fields_any lv ps w hr (by omega) hb6
  have hrem := rem_cast (a := at0) h2
  have hi : at0 % (ps.length - 1) < ps.length - 1 := Nat.mod_lt _ (by omega)
  generalize at0 % (ps.length - 1) = i at hrem hi
  obtain ⟨p, hp⟩ : ∃ p, ps[i]? = some p := ⟨ps[i]'(by omega), by simp⟩
  obtain ⟨q, hq⟩ : ∃ q, ps[i + 1]? = some q := ⟨ps[i + 1]'(by omega), by simp⟩
  have hpl := h6 p (List.mem_of_getElem? hp)
  have hql := h6 q (List.mem_of_getElem? hq)
  have hz := siz_le h6
  have hz1 : sizL ps ≤ 1000000 := by omega
  have zn0 : ((ps.length : Int) - 1) ≠ 0 := by omega
  have zn1 : ((ps.length : Int) - 1 == 0) = false := by simp; omega
  have HR := Lib.hid hr
  have HP := Lib.hid hp
  have HQ := Lib.hid hq
  have HBig := Lib.hid hb6
  obtain ⟨ao, cap, rfl, hc⟩ := hr
  obtain ⟨g0, off, rfl, hg0, d1, _⟩ := hc i p hp
  obtain ⟨g1, off1, he1, _, d2, _⟩ := hc (i + 1) q hq
  simp only [Option.some.injEq, Addr.mk.injEq, and_true] at he1
  obtain ⟨rfl, rfl⟩ := he1
  have hH0 : Held2 w ⟨g0, off + i * 2, none⟩ (.string (strB p.1)) ⟨g0, off + (i + 1) * 2, none⟩ (.string (strB q.1)) w := ⟨d1, d2, Below.refl _ _⟩
  obtain ⟨t, ht⟩ : ∃ t : Bool, ((strB (lowS p.1)).toList == (strB (lowS q.1)).toList) = t := ⟨_, rfl⟩
  have htn : t = false → lowS p.1 ≠ lowS q.1 := fun h he => by rw [h, toList_same he] at ht; cases ht
  have HT := Lib.hid htn
  have F1 := Lib.hid F
  have S1 := Lib.hid S
  have HH0 := Lib.hid hH0
  have L1 := Lib.hid (fun w => refLower_any (strB p.1) w (by rw [strB_size]; omega))
  have L2 := Lib.hid (fun w => refLower_any (strB q.1) w (by rw [strB_size]; omega))
  simp only [strB_list] at L1 L2
  clear hsm h6 hb6 hp hq hz hb hc hl d1 d2 htn F S hH0
  go_enter Try.func7, Try.ntmps7
  go_wp2_with fail
  refine (awake_any _).mono ?_
  rintro e w1 ⟨rfl, hB⟩
  go_wp2_with fail
  refine (S1.out _ (HR.out.below hB)).mono ?_
  rintro e w2 ⟨rfl, hB2⟩
  have hB2' := hB.trans (hB2.mono hB.size)
  clear hB hB2 S1
  go_wp2_with fail
  refine (F1.out _ (HR.out.below hB2')).mono ?_
  rintro e w3 ⟨v1, rfl, hO1, hB3⟩
  have hB3' := hB2'.trans (hB3.mono hB2'.size)
  go_wp2_with fail
  refine (F1.out _ (HR.out.below hB3')).mono ?_
  rintro e w4 ⟨v2, rfl, hO2, hB4⟩
  have hB4' := hB3'.trans (hB4.mono hB3'.size)
  clear hB2' hB3
  have hS : Held2 w4 ⟨g0, off + i * 2, none⟩ (.string (strB p.1)) ⟨g0, off + (i + 1) * 2, none⟩ (.string (strB q.1)) w4 := ⟨(HH0.out.below hB4').1, (HH0.out.below hB4').2.1, Below.refl _ _⟩
  have O1 := Lib.hid hO1
  have O2 := Lib.hid hO2
  have B3 := Lib.hid hB3'
  have B4 := Lib.hid hB4
  have hi0 : (0 : Int) ≤ (i : Int) + 1 := by omega
  have hi1 : (i : Int) + 1 < (ps.length : Int) := by omega
  have hi2 : (i : Int) < (ps.length : Int) := by omega
  have hi3 : ((i : Int) + 1).toNat = i + 1 := by omega
  have r1 : IntKind.i64.wrap ((i : Int) + 1) = (i : Int) + 1 := by rw [IntKind.wrap_i64]; omega
  have Q1 : ∀ w', Held2 w4 ⟨g0, off + i * 2, none⟩ (.string (strB p.1)) ⟨g0, off + (i + 1) * 2, none⟩ (.string (strB q.1)) w' → Calls Try.prog 23 #[.string (strB p.1)] w' fun e w'' => e = .returned (.string (strB (lowS p.1))) ∧ Held2 w4 ⟨g0, off + i * 2, none⟩ (.string (strB p.1)) ⟨g0, off + (i + 1) * 2, none⟩ (.string (strB q.1)) w'' :=
    fun w' h => (L1.out w').mono fun e w'' ⟨he, hb⟩ => ⟨he, h.below hb⟩
  have Q2 : ∀ w', Held2 w4 ⟨g0, off + i * 2, none⟩ (.string (strB p.1)) ⟨g0, off + (i + 1) * 2, none⟩ (.string (strB q.1)) w' → Calls Try.prog 23 #[.string (strB q.1)] w' fun e w'' => e = .returned (.string (strB (lowS q.1))) ∧ Held2 w4 ⟨g0, off + i * 2, none⟩ (.string (strB p.1)) ⟨g0, off + (i + 1) * 2, none⟩ (.string (strB q.1)) w'' :=
    fun w' h => (L2.out w').mono fun e w'' ⟨he, hb⟩ => ⟨he, h.below hb⟩
  clear hO1 hO2 hB3' hB4 hB4' F1 L1 L2
  go_wp2_with fail
  go_region_held3 (fun w' => w'.cell? ⟨g0, off + i * 2, none⟩ = some (.string (strB p.1)) ∧ w'.cell? ⟨g0, off + (i + 1) * 2, none⟩ = some (.string (strB q.1)) ∧ Below w4.heap.size w4 w')
    (first | exact hS.drew | exact hS5 | exact hS6)
    (first
      | (go_at_call_of 23 (Value.string (strB p.1)); refine (Q1 _ (by assumption)).mono ?_; rintro e w5 ⟨rfl, hS5⟩)
      | (go_at_call_of 23 (Value.string (strB q.1)); refine (Q2 _ (by assumption)).mono ?_; rintro e w6 ⟨rfl, hS6⟩))
  have B6 := Lib.hid hS6.2.2
  clear hS hS5 hS6 Q1 Q2
  go_upto_if 44 with fail
  go_cut [91] from 45 (fun _ wx => ∃ g, Moved ps g ∧ ReadsQ wx v2 g ∧ ReadsQ wx v1 ps ∧ Below w.heap.size w wx)
  case first =>
    have hB36 : Below w3.heap.size w3 w6 := B4.out.trans (B6.out.mono B4.out.size)
    cases t with
    | true =>
      clear ht
      go_wp2_with fail
      go_meet
      exact ⟨ps, moved_id ps, (OwnsP.below O2.out B6.out).q, (OwnsP.below O1.out hB36).q, B3.out.trans (hB36.mono B3.out.size)⟩
    | false =>
      have hne := HT.out rfl
      have hO := OwnsP.below O2.out B6.out
      rcases id hO with ⟨_, ⟨hv, hn⟩ | ⟨g, cap2, cur, hv, hbg, hg, hn, _⟩⟩
      · omega
      · subst hv
        have hO' : OwnsP 42 w3.heap.size w6 (.slice (some ⟨g, 0, none⟩) ps.length cap2) (two (ps.take i) p [] q (ps.drop (i + 1 + 1))) := by rw [two_of HP.out HQ.out]; exact hO
        have i1 : i = (ps.take i).length := by simp; omega
        have i2 : i + 1 = (ps.take i).length + 1 + ([] : Flds).length := by simp; omega
        obtain ⟨c1, c2, f1, f2⟩ := own_at hO HP.out
        obtain ⟨c3, c4, f3, f4⟩ := own_at hO HQ.out
        have hmv := moved_two HP.out HQ.out hne
        have HO' := Lib.hid hO'
        have I1 := Lib.hid i1
        have I2 := Lib.hid i2
        have HM := Lib.hid hmv
        have HB36 := Lib.hid hB36
        clear ht hne hO hO' i1 i2 hmv hB36 hg
        go_wp2_with fail
        go_region
        go_wp2_with fail
        go_meet
        have hsw : Below w3.heap.size w3 _ := (below_four HB36.out hbg (i * 2) (i * 2 + 1) ((i + 1) * 2) ((i + 1) * 2 + 1) (strV q.1) (strV q.2) (strV p.1) (strV p.2)).drew
        exact ⟨_, HM.out, (OwnsP.q (World.ownsRow.drew (own_swap HO'.out I1.out I2.out))), (OwnsP.below O1.out hsw).q, B3.out.trans (hsw.mono B3.out.size)⟩
  case rest =>
  obtain ⟨g, hM, hR2, hR1, hBc⟩ := hcut
  have hgl : g.length ≤ 70 := by rw [hM.2.2.1]; exact h70
  have hgb : ∀ p ∈ g, p.1.length + p.2.length ≤ 1000000 := fun p hp => HBig.out p (hM.2.2.2 p hp)
  have ha1 : ∀ x ∈ addL g p.1 [], x.1.length + x.2.length ≤ 1000000 := keeps.bound_add hgb (by simp; omega)
  have ha2 : ∀ x ∈ addL g [97, 98] [99], x.1.length + x.2.length ≤ 1000000 := keeps.bound_add hgb (by decide)
  have hal1 : (addL g p.1 []).length ≤ 1000 := by simp [addL]; omega
  have hal2 : (addL g [97, 98] [99]).length ≤ 1000 := by simp [addL]; omega
  obtain ⟨z, hzz⟩ : ∃ z, sizL ps = z := ⟨_, rfl⟩
  have hz : z ≤ 1000000 := by omega
  have SAME := Lib.hid fun w h1 h2 => same_any v1 v2 ps g true ⟨fun _ => hM.1, fun _ => rfl⟩ w h1 h2 (by omega) (by omega) HBig.out hgb
  have SZ1 := Lib.hid fun w h => size_any v1 ps w h (by omega) HBig.out
  have SZ2 := Lib.hid fun w h => size_any v2 g w h (by omega) hgb
  rw [hM.2.1] at SZ2
  rw [hzz] at SZ1 SZ2
  have ADD := Lib.hid fun w h => add_any v2 g p.1 [] w h (by omega) (by simp) (by omega)
  have ADD2 := Lib.hid fun w h => add_any v2 g [97, 98] [99] w h (by decide) (by decide) (by omega)
  have SAME2 := Lib.hid fun v w h1 h2 => same_any v1 v ps (addL g p.1 []) false ⟨(fun h => by cases h), fun h => absurd h (add_not hM.2.2.1)⟩ w h1 h2 (by omega) hal1 HBig.out ha1
  have SZ4 : ∀ v w, ReadsQ w v (addL g [97, 98] [99]) → Calls Try.prog 26 #[v] w fun e w' => e = .returned (.int .i64 ((z : Int) + 7)) ∧ Below w.heap.size w w' :=
    fun v w h => (size_any v _ w h hal2 ha2).mono fun e w' ⟨he, hb⟩ => ⟨by rw [he, add_siz, hM.2.1, hzz, Int.natCast_add]; rfl, hb⟩
  have SZ4 := Lib.hid SZ4
  have R2 := Lib.hid hR2
  have R1 := Lib.hid hR1
  clear hM hgb ha1 ha2 hzz hz1 hR1 hR2 HBig O1 O2 B3 B4 B6 ht hrem
  go_wp2_with fail
  refine (SAME.out _ R1.out R2.out).mono ?_
  rintro e w7 ⟨rfl, hB7⟩
  go_wp2_with fail
  refine (SZ1.out _ (R1.out.below hB7)).mono ?_
  rintro e w8 ⟨rfl, hB8⟩
  have hB8' := hB7.trans (hB8.mono hB7.size)
  go_wp2_with fail
  refine (SZ2.out _ (R2.out.below hB8')).mono ?_
  rintro e w9 ⟨rfl, hB9⟩
  have hB9' := hB8'.trans (hB9.mono hB8'.size)
  have hBw9 := hBc.trans (hB9'.mono hBc.size)
  have hc9 := (HH0.out.below hBw9).1
  clear hB7 hB8 hB8' hB9
  go_wp2_with fail
  refine (ADD.out _ (R2.out.below hB9')).mono ?_
  rintro e w10 ⟨v3, rfl, hO3, hB10⟩
  have hB10' := hB9'.trans (hB10.mono hB9'.size)
  go_wp2_with fail
  refine (SAME2.out _ _ (R1.out.below hB10') hO3.q).mono ?_
  rintro e w11 ⟨rfl, hB11⟩
  have hB11' := hB10'.trans (hB11.mono hB10'.size)
  clear hc9 hO3 hB9' hB10 hB10' hB11
  go_wp2_with fail
  refine (ADD2.out _ (R2.out.below hB11')).mono ?_
  rintro e w12 ⟨v4, rfl, hO4, hB12⟩
  have hB12' := hB11'.trans (hB12.mono hB11'.size)
  go_wp2_with fail
  refine (SZ4.out _ _ hO4.q).mono ?_
  rintro e w13 ⟨rfl, hB13⟩
  have hB13' := hB12'.trans (hB13.mono hB12'.size)
  go_wp2_with fail
  refine (SZ1.out _ (R1.out.below hB13')).mono ?_
  rintro e w14 ⟨rfl, hB14⟩
  have hB14' := hB13'.trans (hB14.mono hB13'.size)
  go_wp2_with fail
  go_ret
  exact ⟨rfl, hBc.trans (hB14'.mono hBc.size)⟩
end Go.Proofs.Ythpjemihbobjfaa.moves
