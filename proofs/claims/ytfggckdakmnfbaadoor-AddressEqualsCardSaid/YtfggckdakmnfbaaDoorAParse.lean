/- What Parse returns: the canonical address, or an error. -/
import Derived.Test.YtfggckdakmnfbaaDoorAAdr
namespace Go.Proofs.YtfggckdakmnfbaaDoor
open Go.RowKit

def parseV (h t : List UInt8) : Value := .tuple #[adrV (parseA h t).2, if (parseA h t).1 = 0 then .nilIface else errA (parseA h t).1]
theorem parseV_of {h t : List UInt8} {n : Nat} {a : Adr} (e : parseA h t = (n, a)) : parseV h t = .tuple #[adrV a, if n = 0 then .nilIface else errA n] := by unfold parseV; rw [e]
theorem parse_host {h t : List UInt8} (e : hostO h = none) : parseV h t = .tuple #[adrV .zero, errA 8] := by
  rw [parseV_of (n := 8) (a := .zero) (by unfold parseA; rw [e])]; rfl
theorem pathV_yes {l x : List UInt8} (h : pathO l = some x) : pathV l = .tuple #[.string (strB x), .nilIface] := by unfold pathV; rw [h]
theorem pathO_len {l x : List UInt8} (h : pathO l = some x) (hl : l.length ≤ 100000) : x.length ≤ 20000000000 := by
  obtain ⟨t, y, out, rfl, hy, hd, rfl⟩ := pathO_some h
  have h1 := canO_len hy
  rw [List.length_cons] at hl
  have h2 := dotsF_len _ _ _ hd
  have h3 := cutL_len 47 y
  have h4 := dotsF_all (fun s => s.length ≤ 100000) (by simp) (cutL 47 y) [] out (by simp) (fun s hs _ => by have := cutL_part_le 47 y s hs; omega) hd
  have h5 := slashed_len out 100000 h4
  have h6 : out.length * (100000 + 1) ≤ 100002 * (100000 + 1) := Nat.mul_le_mul_right _ (by simp at h2; omega)
  omega
theorem parse_path {h t h' : List UInt8} (e : hostO h = some h') (hp : pathO (cutC 63 t).1 = none) : parseV h t = .tuple #[adrV .zero, errA 27] := by
  rw [parseV_of (n := 27) (a := .zero) (by unfold parseA; rw [e, hp])]; rfl
theorem parse_query {h t h' p : List UInt8} (e : hostO h = some h') (hp : pathO (cutC 63 t).1 = some p) (hq : canO true (cutC 63 t).2.1 = none) : parseV h t = .tuple #[adrV .zero, errA 27] := by
  rw [parseV_of (n := 27) (a := .zero) (by unfold parseA; rw [e, hp, hq])]; rfl
theorem parse_large {h t h' p q : List UInt8} (e : hostO h = some h') (hp : pathO (cutC 63 t).1 = some p) (hq : canO true (cutC 63 t).2.1 = some q) (hl : ¬ (Adr.text ⟨h', p, q, (cutC 63 t).2.2⟩).length ≤ 1024) : parseV h t = .tuple #[adrV .zero, errA 5] := by
  rw [parseV_of (n := 5) (a := .zero) (by unfold parseA; rw [e, hp, hq]; simp only; rw [if_neg hl])]; rfl
theorem parse_ok {h t h' p q : List UInt8} (e : hostO h = some h') (hp : pathO (cutC 63 t).1 = some p) (hq : canO true (cutC 63 t).2.1 = some q) (hl : (Adr.text ⟨h', p, q, (cutC 63 t).2.2⟩).length ≤ 1024) : parseV h t = .tuple #[adrV ⟨h', p, q, (cutC 63 t).2.2⟩, .nilIface] := by
  rw [parseV_of (n := 0) (a := ⟨h', p, q, (cutC 63 t).2.2⟩) (by unfold parseA; rw [e, hp, hq]; simp only; rw [if_pos hl])]; rfl
/-- Four cells of a struct of the call's own, which can be written. -/
def Four (B : Nat) (w : World) (v0 v1 v2 v3 : Value) : Prop :=
  w.cell? ⟨B, 0, none⟩ = some v0 ∧ w.cell? ⟨B, 1, none⟩ = some v1 ∧ w.cell? ⟨B, 2, none⟩ = some v2 ∧ w.cell? ⟨B, 3, none⟩ = some v3 ∧
  w.frozen? ⟨B, 0, none⟩ = false ∧ w.frozen? ⟨B, 1, none⟩ = false ∧ w.frozen? ⟨B, 2, none⟩ = false ∧ w.frozen? ⟨B, 3, none⟩ = false ∧ B < w.heap.size
theorem Four.below {B : Nat} {w w' : World} {v0 v1 v2 v3 : Value} (h : Four B w v0 v1 v2 v3) (hb : Below w.heap.size w w') : Four B w' v0 v1 v2 v3 := by
  obtain ⟨a0, a1, a2, a3, f0, f1, f2, f3, hB⟩ := h
  exact ⟨(hb.cell (p := ⟨B, 0, none⟩) hB).trans a0, (hb.cell (p := ⟨B, 1, none⟩) hB).trans a1, (hb.cell (p := ⟨B, 2, none⟩) hB).trans a2, (hb.cell (p := ⟨B, 3, none⟩) hB).trans a3,
    (hb.frozen (p := ⟨B, 0, none⟩) hB).trans f0, (hb.frozen (p := ⟨B, 1, none⟩) hB).trans f1, (hb.frozen (p := ⟨B, 2, none⟩) hB).trans f2, (hb.frozen (p := ⟨B, 3, none⟩) hB).trans f3, Nat.lt_of_lt_of_le hB hb.size⟩
theorem four_new (w : World) (v0 v1 v2 v3 : Value) (T : TypeId) : Four w.heap.size (w.alloc (.cells #[v0, v1, v2, v3] T)) v0 v1 v2 v3 := by
  refine ⟨?_, ?_, ?_, ?_, ?_, ?_, ?_, ?_, by simp⟩
  · rw [World.cell?_alloc_at _ _ _ _ rfl]; rfl
  · rw [World.cell?_alloc_at _ _ _ _ rfl]; rfl
  · rw [World.cell?_alloc_at _ _ _ _ rfl]; rfl
  · rw [World.cell?_alloc_at _ _ _ _ rfl]; rfl
  all_goals exact Lib.frozen_of_heap (heap_alloc_new w _) _
theorem below_four {B : Nat} {w w1 : World} (h : Below B w w1) (v0 v1 v2 v3 : Value) : Below B w ((((w1.setCell ⟨B, 0, none⟩ v0).setCell ⟨B, 1, none⟩ v1).setCell ⟨B, 2, none⟩ v2).setCell ⟨B, 3, none⟩ v3) :=
  (((h.setCell (p := ⟨B, 0, none⟩) (Nat.le_refl _) _).setCell (p := ⟨B, 1, none⟩) (Nat.le_refl _) _).setCell (p := ⟨B, 2, none⟩) (Nat.le_refl _) _).setCell (p := ⟨B, 3, none⟩) (Nat.le_refl _) _
set_option maxHeartbeats 4000000 in
set_option maxRecDepth 100000 in
theorem parse_any (s t : ByteArray) (w : World) (hE : Env w) (hs : s.size ≤ maxLen) (ht : t.size ≤ 100000) :
    Calls Tryd.prog 13 #[.string s, .string t] w fun e w' => e = .returned (parseV s.data.toList t.data.toList) ∧ Below w.heap.size w w' := by
  have HE := Lib.hid hE
  clear hE
  cases hh : hostO s.data.toList with
  | none =>
    have HR := Lib.hid (parse_host (t := t.data.toList) hh)
    have HV := Lib.hid (hostV_no hh)
    clear hh
    go_enter Tryd.func13, Tryd.ntmps13
    go_wp2_with fail
    refine (host_any s _ (HE.out.below (below_new _ _)) hs).mono ?_
    rintro e w1 ⟨rfl, hB1⟩
    rw [HV.out]
    obtain ⟨c0, c1, c2, c3, f0, f1, f2, f3, hlt⟩ := (four_new w (.string ⟨#[]⟩) (.string ⟨#[]⟩) (.string ⟨#[]⟩) (.bool false) 29).below hB1
    have hBB := Lib.hid ((below_new w _).trans (hB1.mono (Nat.le_of_lt (by simp))))
    clear hB1
    go_wp2_with fail
    exact bodyPost_ret (v := .tuple #[.agg #[.string ⟨#[]⟩, .string ⟨#[]⟩, .string ⟨#[]⟩, .bool false], errA 8]) (by simp [results, Tryd.results13, go_sem, c0, c1, c2, c3]) rfl ⟨by rw [HR.out]; rfl, below_four hBB.out _ _ _ _⟩
  | some h =>
    have HV := Lib.hid (hostV_yes hh)
    have hlen := cutC_len 63 t.data.toList
    have htz : t.data.toList.length = t.size := by rw [Array.length_toList]; rfl
    rw [htz] at hlen
    have hl1 : (strB (cutC 63 t.data.toList).1).size ≤ 100000 := by rw [strB_size]; omega
    have hl2 : (strB (cutC 63 t.data.toList).2.1).size ≤ 100000 := by rw [strB_size]; omega
    clear hlen htz
    cases hp : pathO (cutC 63 t.data.toList).1 with
    | none =>
      have HR := Lib.hid (parse_path hh hp)
      have HV2 := Lib.hid (pathV_no hp)
      clear hh hp
      go_enter Tryd.func13, Tryd.ntmps13
      go_wp2_with fail
      refine (host_any s _ (HE.out.below (below_new _ _)) hs).mono ?_
      rintro e w1 ⟨rfl, hB1⟩
      rw [HV.out]
      have F1 := Lib.hid ((four_new w (.string ⟨#[]⟩) (.string ⟨#[]⟩) (.string ⟨#[]⟩) (.bool false) 29).below hB1)
      have hBB := Lib.hid ((below_new w _).trans (hB1.mono (Nat.le_of_lt (by simp))))
      clear hB1
      go_wp2_with fail
      refine (cut_any 63 t _ (HE.out.below hBB.out) (by omega)).mono ?_
      rintro e w2 ⟨rfl, n, rfl⟩
      have F2 := Lib.hid (F1.out.below (below_drewN (Below.refl _ _) n))
      have hBB2 := Lib.hid (below_drewN hBB.out n)
      clear F1 hBB
      generalize w1.drewN n = w2 at *
      generalize cutC 63 t.data.toList = x at *
      go_wp2_with fail
      refine (canonicalPath_any (strB x.1) _ (HE.out.below hBB2.out) hl1).mono ?_
      rintro e w3 ⟨rfl, hB3⟩
      rw [strB_list, HV2.out]
      obtain ⟨c0, c1, c2, c3, f0, f1, f2, f3, hlt⟩ := F2.out.below hB3
      have hBB3 := Lib.hid (hBB2.out.trans (hB3.mono (hBB2.out.size)))
      clear hB3
      go_wp2_with fail
      exact bodyPost_ret (v := .tuple #[.agg #[.string ⟨#[]⟩, .string ⟨#[]⟩, .string ⟨#[]⟩, .bool false], errA 27]) (by simp [results, Tryd.results13, go_sem, c0, c1, c2, c3]) rfl ⟨by rw [HR.out]; rfl, below_four hBB3.out _ _ _ _⟩
    | some p =>
      have HV2 := Lib.hid (pathV_yes hp)
      have hpl : (strB p).size ≤ 20000000000 := by
        rw [strB_size] at hl1 ⊢; exact pathO_len hp hl1
      cases hq : canO true (cutC 63 t.data.toList).2.1 with
      | none =>
        have HR := Lib.hid (parse_query hh hp hq)
        have HV3 := Lib.hid (canV_no hq)
        clear hh hp hq
        go_enter Tryd.func13, Tryd.ntmps13
        go_wp2_with fail
        refine (host_any s _ (HE.out.below (below_new _ _)) hs).mono ?_
        rintro e w1 ⟨rfl, hB1⟩
        rw [HV.out]
        have F1 := Lib.hid ((four_new w (.string ⟨#[]⟩) (.string ⟨#[]⟩) (.string ⟨#[]⟩) (.bool false) 29).below hB1)
        have hBB := Lib.hid ((below_new w _).trans (hB1.mono (Nat.le_of_lt (by simp))))
        clear hB1
        go_wp2_with fail
        refine (cut_any 63 t _ (HE.out.below hBB.out) (by omega)).mono ?_
        rintro e w2 ⟨rfl, n, rfl⟩
        have F2 := Lib.hid (F1.out.below (below_drewN (Below.refl _ _) n))
        have hBB2 := Lib.hid (below_drewN hBB.out n)
        clear F1 hBB
        generalize w1.drewN n = w2 at *
        generalize cutC 63 t.data.toList = x at *
        go_wp2_with fail
        refine (canonicalPath_any (strB x.1) _ (HE.out.below hBB2.out) hl1).mono ?_
        rintro e w3 ⟨rfl, hB3⟩
        rw [strB_list, HV2.out]
        have F3 := Lib.hid (F2.out.below hB3)
        have hBB3 := Lib.hid (hBB2.out.trans (hB3.mono (hBB2.out.size)))
        clear hB3 F2 hBB2
        go_wp2_with fail
        refine (canQuery_any (strB x.2.1) _ (HE.out.below hBB3.out) hl2).mono ?_
        rintro e w4 ⟨rfl, hB4⟩
        rw [strB_list, HV3.out]
        obtain ⟨c0, c1, c2, c3, f0, f1, f2, f3, hlt⟩ := F3.out.below hB4
        have hBB4 := Lib.hid (hBB3.out.trans (hB4.mono (hBB3.out.size)))
        clear hB4
        go_wp2_with fail
        exact bodyPost_ret (v := .tuple #[.agg #[.string ⟨#[]⟩, .string ⟨#[]⟩, .string ⟨#[]⟩, .bool false], errA 27]) (by simp [results, Tryd.results13, go_sem, c0, c1, c2, c3]) rfl ⟨by rw [HR.out]; rfl, below_four hBB4.out _ _ _ _⟩
      | some q =>
        have HV3 := Lib.hid (canV_yes hq)
        have hql : (strB q).size ≤ 300000 := by
          have := canO_len hq
          rw [strB_size] at hl2 ⊢; omega
        have hhl : (strB h).size ≤ 300000 := by
          have := hostO_some hh
          rw [strB_size, this.1, lowS_len]; omega
        have hle : AdrLe 1000000000000 ⟨h, p, q, (cutC 63 t.data.toList).2.2⟩ := ⟨by show (strB h).size ≤ _; omega, by show (strB p).size ≤ _; omega, by show (strB q).size ≤ _; omega⟩
        have HPL := Lib.hid (fun hl => parse_large hh hp hq hl)
        have HPO := Lib.hid (fun hl => parse_ok hh hp hq hl)
        have HLE := Lib.hid hle
        clear hh hp hq hle
        go_enter Tryd.func13, Tryd.ntmps13
        go_wp2_with fail
        refine (host_any s _ (HE.out.below (below_new _ _)) hs).mono ?_
        rintro e w1 ⟨rfl, hB1⟩
        rw [HV.out]
        have F1 := Lib.hid ((four_new w (.string ⟨#[]⟩) (.string ⟨#[]⟩) (.string ⟨#[]⟩) (.bool false) 29).below hB1)
        have hBB := Lib.hid ((below_new w _).trans (hB1.mono (Nat.le_of_lt (by simp))))
        clear hB1
        go_wp2_with fail
        refine (cut_any 63 t _ (HE.out.below hBB.out) (by omega)).mono ?_
        rintro e w2 ⟨rfl, n, rfl⟩
        have F2 := Lib.hid (F1.out.below (below_drewN (Below.refl _ _) n))
        have hBB2 := Lib.hid (below_drewN hBB.out n)
        clear F1 hBB
        generalize w1.drewN n = w2 at *
        generalize cutC 63 t.data.toList = x at *
        go_wp2_with fail
        refine (canonicalPath_any (strB x.1) _ (HE.out.below hBB2.out) hl1).mono ?_
        rintro e w3 ⟨rfl, hB3⟩
        rw [strB_list, HV2.out]
        have F3 := Lib.hid (F2.out.below hB3)
        have hBB3 := Lib.hid (hBB2.out.trans (hB3.mono (hBB2.out.size)))
        clear hB3 F2 hBB2
        go_wp2_with fail
        refine (canQuery_any (strB x.2.1) _ (HE.out.below hBB3.out) hl2).mono ?_
        rintro e w4 ⟨rfl, hB4⟩
        rw [strB_list, HV3.out]
        have F4 := Lib.hid (F3.out.below hB4)
        have hBB4 := Lib.hid (hBB3.out.trans (hB4.mono (hBB3.out.size)))
        clear hB4 F3 hBB3
        go_wp2_with fail
        have hBB5 := Lib.hid (hBB4.out.trans ((below_new w4 (.cells #[.string (strB h), .string (strB p), .string (strB q), .bool x.2.2] 29)).mono hBB4.out.size))
        have F5 := Lib.hid (F4.out.below (below_new w4 (.cells #[.string (strB h), .string (strB p), .string (strB q), .bool x.2.2] 29)))
        have G5 := Lib.hid (four_new w4 (.string (strB h)) (.string (strB p)) (.string (strB q)) (.bool x.2.2) 29)
        generalize w4.alloc (.cells #[.string (strB h), .string (strB p), .string (strB q), .bool x.2.2] 29) = w5 at *
        generalize hg : w4.heap.size = B4 at *
        have hBn : w.heap.size < B4 := by rw [← hg]; exact F4.out.2.2.2.2.2.2.2.2
        clear hg F4 hBB4
        have hb45 : w.heap.size ≠ B4 := by omega
        have htl : (strB (Adr.text ⟨h, p, q, x.2.2⟩)).size = (Adr.text ⟨h, p, q, x.2.2⟩).length := strB_size _
        have htu : (strB (Adr.text ⟨h, p, q, x.2.2⟩)).size ≤ 5000000000000 := by
          have := target_size HLE.out
          have e : Adr.text ⟨h, p, q, x.2.2⟩ = h ++ Adr.target ⟨h, p, q, x.2.2⟩ := rfl
          rw [strB_size] at *
          rw [e, List.length_append]
          omega
        by_cases hle : (Adr.text ⟨h, p, q, x.2.2⟩).length ≤ 1024
        · have HR := Lib.hid (HPO.out hle)
          have hsz : (strB (Adr.text ⟨h, p, q, x.2.2⟩)).size ≤ 1024 := by rw [htl]; exact hle
          clear HPO HPL hle htl htu
          refine (text_any ⟨h, p, q, x.2.2⟩ w5 HLE.out).mono ?_
          rintro e w6 ⟨rfl, hB6⟩
          generalize Adr.text ⟨h, p, q, x.2.2⟩ = tx at *
          obtain ⟨c0, c1, c2, c3, f0, f1, f2, f3, hlt⟩ := F5.out.below hB6
          obtain ⟨d0, d1, d2, d3, g0, g1, g2, g3, hlt2⟩ := G5.out.below hB6
          have hBB6 := Lib.hid (hBB5.out.trans (hB6.mono hBB5.out.size))
          clear hB6
          go_wp2_with fail
          exact bodyPost_ret (v := .tuple #[.agg #[.string (strB h), .string (strB p), .string (strB q), .bool x.2.2], .nilIface]) (by simp [results, Tryd.results13, go_sem, c0, c1, c2, c3]) rfl ⟨by rw [HR.out], below_four hBB6.out _ _ _ _⟩
        · have HR := Lib.hid (HPL.out hle)
          have hsz : 1024 < (strB (Adr.text ⟨h, p, q, x.2.2⟩)).size := by rw [htl]; omega
          clear HPO HPL hle htl
          refine (text_any ⟨h, p, q, x.2.2⟩ w5 HLE.out).mono ?_
          rintro e w6 ⟨rfl, hB6⟩
          generalize Adr.text ⟨h, p, q, x.2.2⟩ = tx at *
          obtain ⟨c0, c1, c2, c3, f0, f1, f2, f3, hlt⟩ := F5.out.below hB6
          have hBB6 := Lib.hid (hBB5.out.trans (hB6.mono hBB5.out.size))
          clear hB6
          go_wp2_with fail
          exact bodyPost_ret (v := .tuple #[.agg #[.string ⟨#[]⟩, .string ⟨#[]⟩, .string ⟨#[]⟩, .bool false], errA 5]) (by simp [results, Tryd.results13, go_sem, c0, c1, c2, c3]) rfl ⟨by rw [HR.out]; rfl, below_four hBB6.out _ _ _ _⟩
end Go.Proofs.YtfggckdakmnfbaaDoor
