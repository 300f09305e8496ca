/- What the reference's Text and Parse return. -/
import Derived.Test.YtfggckdakmnfbaaGreatDoorARefCanon
import Derived.Test.YtfggckdakmnfbaaGreatDoorARefDots
import Derived.Test.YtfggckdakmnfbaaGreatDoorAParse
import Derived.Deep.CutBlock
import Derived.Deep.DeepCutAuto
namespace Go.Proofs.YtfggckdakmnfbaaGreatDoor
open Go.RowKit

set_option maxHeartbeats 1000000 in
set_option maxRecDepth 100000 in
theorem refText_any (a : Adr) (w : World) (ha : AdrLe 1000000000000 a) :
    Calls Tryz.prog 19 #[adrV a] w fun e w' => e = .returned (.string (strB a.text)) ∧ Below w.heap.size w w' := by
  obtain ⟨h1, h2, h3⟩ := ha
  obtain ⟨h, p, q, b⟩ := a
  simp only at h1 h2 h3
  cases b with
  | true =>
    have HR := Lib.hid (show strB (Adr.text ⟨h, p, q, true⟩) = strB h ++ strB p ++ ((⟨#[63]⟩ : ByteArray) ++ strB q) by
      have e1 : (⟨#[63]⟩ : ByteArray) ++ strB q = strB (63 :: q) := strB_pre 63 q
      rw [e1, strB_app, strB_list, strB_app, strB_list]; simp [Adr.text, Adr.target])
    go_enter Tryz.func19, Tryz.ntmps19
    go_wp2
    go_ret
    exact ⟨by rw [HR.out]; rfl, below_new _ _⟩
  | false =>
    have HR := Lib.hid (show strB (Adr.text ⟨h, p, q, false⟩) = strB h ++ strB p by rw [strB_app, strB_list]; simp [Adr.text, Adr.target])
    go_enter Tryz.func19, Tryz.ntmps19
    go_wp2
    go_ret
    exact ⟨by rw [HR.out]; rfl, below_new _ _⟩
def noQ (c : UInt8) : Bool := c != 63
theorem cut_hit {t : ByteArray} {k : Nat} (h : okTo noQ t k) (hk : k < t.size) (hc : t[k].toNat = 63) : cutC 63 t.data.toList = ((t.extract 0 k).data.toList, (t.extract (k + 1) t.size).data.toList, true) := by
  have e : t[k] = 63 := nat_of_u8 hc
  have hn : (63 : UInt8) ∉ t.data.toList.take k := by
    intro hm
    have := List.all_eq_true.mp h _ hm
    exact absurd this (by decide)
  have hs : t.data.toList = t.data.toList.take k ++ 63 :: t.data.toList.drop (k + 1) := by
    rw [← e, ← drop_at t k hk, List.take_append_drop]
  have := cutC_at hn (t.data.toList.drop (k + 1))
  rw [← hs] at this
  rw [this, seg_list, seg_list, List.drop_zero, Nat.sub_zero, List.take_of_length_le (l := t.data.toList.drop (k + 1)) (by rw [List.length_drop, Array.length_toList]; exact Nat.le_refl _)]
theorem cut_miss {t : ByteArray} {k : Nat} (h : okTo noQ t k) (hk : t.size ≤ k) : cutC 63 t.data.toList = (t.data.toList, [], false) := by
  refine cutC_no ?_
  intro hm
  have := List.all_eq_true.mp (okTo_end hk h) _ hm
  exact absurd this (by decide)
theorem four_at0 {N : Nat} {w : World} {u0 u1 u2 u3 : Value} (h : Four N w u0 u1 u2 u3) (v : Value) : Four N (w.setCell ⟨N, 1, none⟩ v) u0 v u2 u3 := by
  obtain ⟨a0, a1, a2, a3, f0, f1, f2, f3, hB⟩ := h
  have ne : ∀ i j : Nat, i ≠ j → (⟨N, i, none⟩ : Addr) ≠ ⟨N, j, none⟩ := fun i j h e => h (by injection e)
  refine ⟨?_, ?_, ?_, ?_, by simpa using f0, by simpa using f1, by simpa using f2, by simpa using f3, by simpa using hB⟩
  all_goals simp [go_sem, a0, a1, a2, a3]
theorem four_at2 {N : Nat} {w : World} {u0 u1 u2 u3 : Value} (h : Four N w u0 u1 u2 u3) (v : Value) : Four N (w.setCell ⟨N, 2, none⟩ v) u0 u1 v u3 := by
  obtain ⟨a0, a1, a2, a3, f0, f1, f2, f3, hB⟩ := h
  have ne : ∀ i j : Nat, i ≠ j → (⟨N, i, none⟩ : Addr) ≠ ⟨N, j, none⟩ := fun i j h e => h (by injection e)
  refine ⟨?_, ?_, ?_, ?_, by simpa using f0, by simpa using f1, by simpa using f2, by simpa using f3, by simpa using hB⟩
  all_goals simp [go_sem, a0, a1, a2, a3]
theorem four_at3 {N : Nat} {w : World} {u0 u1 u2 u3 : Value} (h : Four N w u0 u1 u2 u3) (v : Value) : Four N (w.setCell ⟨N, 3, none⟩ v) u0 u1 u2 v := by
  obtain ⟨a0, a1, a2, a3, f0, f1, f2, f3, hB⟩ := h
  have ne : ∀ i j : Nat, i ≠ j → (⟨N, i, none⟩ : Addr) ≠ ⟨N, j, none⟩ := fun i j h e => h (by injection e)
  refine ⟨?_, ?_, ?_, ?_, by simpa using f0, by simpa using f1, by simpa using f2, by simpa using f3, by simpa using hB⟩
  all_goals simp [go_sem, a0, a1, a2, a3]
theorem four_far {R N : Nat} {w : World} {u0 u1 u2 u3 : Value} (h : Four R w u0 u1 u2 u3) (hn : N ≠ R) (j : Nat) (v : Value) : Four R (w.setCell ⟨N, j, none⟩ v) u0 u1 u2 u3 := by
  obtain ⟨a0, a1, a2, a3, f0, f1, f2, f3, hB⟩ := h
  refine ⟨?_, ?_, ?_, ?_, by simpa using f0, by simpa using f1, by simpa using f2, by simpa using f3, by simpa using hB⟩
  · rw [World.cell?_setCell_far _ _ _ _ (by show N ≠ R; exact hn)]; exact a0
  · rw [World.cell?_setCell_far _ _ _ _ (by show N ≠ R; exact hn)]; exact a1
  · rw [World.cell?_setCell_far _ _ _ _ (by show N ≠ R; exact hn)]; exact a2
  · rw [World.cell?_setCell_far _ _ _ _ (by show N ≠ R; exact hn)]; exact a3
/-- The result's cells (zero yet) and the local address, in a later world. -/
def Pair (w : World) (N : Nat) (h p q : List UInt8) (b : Bool) (wx : World) : Prop :=
  Four w.heap.size wx (.string (strB [])) (.string (strB [])) (.string (strB [])) (.bool false) ∧ Four N wx (.string (strB h)) (.string (strB p)) (.string (strB q)) (.bool b) ∧ w.heap.size < N ∧ Below w.heap.size w wx
theorem Pair.below {w : World} {N : Nat} {h p q : List UInt8} {b : Bool} {wx wy : World} (H : Pair w N h p q b wx) (hb : Below wx.heap.size wx wy) : Pair w N h p q b wy :=
  ⟨H.1.below hb, H.2.1.below hb, H.2.2.1, H.2.2.2.trans (hb.mono H.2.2.2.size)⟩
theorem Pair.setP {w : World} {N : Nat} {h p q : List UInt8} {b : Bool} {wx : World} (H : Pair w N h p q b wx) (x : List UInt8) : Pair w N h x q b (wx.setCell ⟨N, 1, none⟩ (.string (strB x))) :=
  ⟨four_far H.1 (by have := H.2.2.1; omega) _ _, four_at0 H.2.1 _, H.2.2.1, H.2.2.2.setCell (p := ⟨N, 1, none⟩) (by have := H.2.2.1; show w.heap.size ≤ N; omega) _⟩
theorem Pair.setQ {w : World} {N : Nat} {h p q : List UInt8} {b : Bool} {wx : World} (H : Pair w N h p q b wx) (x : List UInt8) : Pair w N h p x b (wx.setCell ⟨N, 2, none⟩ (.string (strB x))) :=
  ⟨four_far H.1 (by have := H.2.2.1; omega) _ _, four_at2 H.2.1 _, H.2.2.1, H.2.2.2.setCell (p := ⟨N, 2, none⟩) (by have := H.2.2.1; show w.heap.size ≤ N; omega) _⟩
theorem Pair.setB {w : World} {N : Nat} {h p q : List UInt8} {b : Bool} {wx : World} (H : Pair w N h p q b wx) (x : Bool) : Pair w N h p q x (wx.setCell ⟨N, 3, none⟩ (.bool x)) :=
  ⟨four_far H.1 (by have := H.2.2.1; omega) _ _, four_at3 H.2.1 _, H.2.2.1, H.2.2.2.setCell (p := ⟨N, 3, none⟩) (by have := H.2.2.1; show w.heap.size ≤ N; omega) _⟩
/-- What the reference's Parse returns. -/
def refParseV (h t : List UInt8) : Value := .tuple #[adrV (parseA h t).2, .int .i64 ((parseA h t).1 : Nat)]
theorem refParseV_of {h t : List UInt8} {n : Nat} {a : Adr} (e : parseA h t = (n, a)) : refParseV h t = .tuple #[adrV a, .int .i64 (n : Nat)] := by unfold refParseV; rw [e]
theorem refP_host {h t : List UInt8} (e : hostO h = none) : refParseV h t = .tuple #[adrV .zero, .int .i64 8] := refParseV_of (by unfold parseA; rw [e])
theorem refP_path {h t h' : List UInt8} (e : hostO h = some h') (hp : pathO (cutC 63 t).1 = none) : refParseV h t = .tuple #[adrV .zero, .int .i64 27] := refParseV_of (by unfold parseA; rw [e, hp])
theorem refP_query {h t h' : List UInt8} (e : hostO h = some h') (hq : canO true (cutC 63 t).2.1 = none) : refParseV h t = .tuple #[adrV .zero, .int .i64 27] := refParseV_of (by unfold parseA; rw [e, hq]; cases pathO (cutC 63 t).1 <;> rfl)
theorem refP_large {h t h' p q : List UInt8} (e : hostO h = some h') (hp : pathO (cutC 63 t).1 = some p) (hq : canO true (cutC 63 t).2.1 = some q) (hl : ¬ (Adr.text ⟨h', p, q, (cutC 63 t).2.2⟩).length ≤ 1024) : refParseV h t = .tuple #[adrV .zero, .int .i64 5] :=
  refParseV_of (by unfold parseA; rw [e, hp, hq]; simp only; rw [if_neg hl])
theorem refP_ok {h t h' p q : List UInt8} (e : hostO h = some h') (hp : pathO (cutC 63 t).1 = some p) (hq : canO true (cutC 63 t).2.1 = some q) (hl : (Adr.text ⟨h', p, q, (cutC 63 t).2.2⟩).length ≤ 1024) : refParseV h t = .tuple #[adrV ⟨h', p, q, (cutC 63 t).2.2⟩, .int .i64 0] :=
  refParseV_of (by unfold parseA; rw [e, hp, hq]; simp only; rw [if_pos hl])
theorem pathO_no {l : List UInt8} (h : l.head? ≠ some 47) : pathO l = none := by
  unfold pathO
  split
  · exact absurd rfl h
  · rfl
theorem pathO_slash (t : List UInt8) : pathO (47 :: t) = (canO false (47 :: t)).bind fun p => (dotsF (cutL 47 p.tail) []).map slashed := rfl
theorem refCan_form (q : Bool) (l : List UInt8) : ∃ v b, refCanV q l = .tuple #[.string (strB v), .bool b] ∧ (b = false → canO q l = none) ∧ (b = true → canO q l = some v) := by
  cases h : canO q l with
  | none => exact ⟨[], false, refCanV_no h, fun _ => rfl, fun e => by cases e⟩
  | some v => exact ⟨v, true, refCanV_yes h, (fun e => by cases e), fun _ => rfl⟩
theorem refDot_form (t : List UInt8) : ∃ v b, refDotV t = .tuple #[.string (strB v), .bool b] ∧ (b = false → dotsF (cutL 47 t) [] = none) ∧ (b = true → ∃ x, dotsF (cutL 47 t) [] = some x ∧ v = slashed x) := by
  cases h : dotsF (cutL 47 t) [] with
  | none => exact ⟨[], false, refDotV_no h, fun _ => rfl, fun e => by cases e⟩
  | some x => exact ⟨slashed x, true, refDotV_yes h, (fun e => by cases e), fun _ => ⟨x, rfl, rfl⟩⟩
theorem pathO_canNo {l : List UInt8} (h : canO false l = none) : pathO l = none := by
  unfold pathO
  split
  · rw [h]; rfl
  · rfl
theorem pathO_dotNo {t y : List UInt8} (h : canO false t = some y) (hd : dotsF (cutL 47 y) [] = none) : pathO (47 :: t) = none := by
  rw [pathO_slash, canO_plain false (by decide), h]
  show Option.map _ (dotsF (cutL 47 (47 :: y).tail) []) = none
  rw [List.tail_cons, hd]; rfl
theorem head_no {Y : ByteArray} (h : Y.size = 0) : Y.data.toList.head? ≠ some 47 := by
  have : Y.data.toList = [] := List.eq_nil_of_length_eq_zero (by rw [Array.length_toList]; exact h)
  rw [this]; simp
theorem head_ne {Y : ByteArray} (h0 : 0 < Y.size) (h : Y[0].toNat ≠ 47) : Y.data.toList.head? ≠ some 47 := by
  rw [head_at Y h0]; simp; intro e; exact h (by rw [e]; rfl)
theorem head_yes {Y : ByteArray} (h0 : 0 < Y.size) (h : Y[0].toNat = 47) : Y.data.toList = 47 :: Y.data.toList.tail := by
  have e : Y[0] = 47 := nat_of_u8 h
  have := head_at Y h0
  rw [e] at this
  cases hl : Y.data.toList with
  | nil => rw [hl] at this; cases this
  | cons a r => rw [hl] at this; simp at this; rw [this]; rfl
set_option maxHeartbeats 4000000 in
set_option maxRecDepth 100000 in
theorem refParse_any (s t : ByteArray) (w : World) (hs : s.size ≤ 1000000) (ht : t.size ≤ 100000) :
    Calls Tryz.prog 6 #[.string s, .string t] w fun e w' => e = .returned (refParseV s.data.toList t.data.toList) ∧ Below w.heap.size w w' := by
  cases hh : hostO s.data.toList with
  | none =>
    have HR := Lib.hid (refP_host (t := t.data.toList) hh)
    have HV := Lib.hid (refHostV_no hh)
    clear hh
    go_enter Tryz.func6, Tryz.ntmps6
    go_wp2_with fail
    refine (refHost_any s _ hs).mono ?_
    rintro e w1 ⟨rfl, hB1⟩
    rw [HV.out]
    obtain ⟨c0, c1, c2, c3, f0, f1, f2, f3, hlt⟩ := (four_new w (.string ⟨#[]⟩) (.string ⟨#[]⟩) (.string ⟨#[]⟩) (.bool false) 29).below hB1
    have hBB := Lib.hid ((below_new w _).trans (hB1.mono (Nat.le_of_lt (by simp))))
    clear hB1
    go_wp2_with fail
    exact bodyPost_ret (v := .tuple #[.agg #[.string ⟨#[]⟩, .string ⟨#[]⟩, .string ⟨#[]⟩, .bool false], .int .i64 8]) (by simp [results, Tryz.results6, go_sem, c0, c1, c2, c3]) rfl ⟨by rw [HR.out]; rfl, below_four hBB.out _ _ _ _⟩
  | some h =>
    have HV := Lib.hid (refHostV_yes hh)
    have HHH := Lib.hid hh
    have hlen := cutC_len 63 t.data.toList
    have htz : t.data.toList.length = t.size := by rw [Array.length_toList]; rfl
    rw [htz] at hlen
    have hl1 : (strB (cutC 63 t.data.toList).1).size ≤ 100000 := by rw [strB_size]; omega
    have hl2 : (strB (cutC 63 t.data.toList).2.1).size ≤ 100000 := by rw [strB_size]; omega
    clear hlen htz hh
    go_enter Tryz.func6, Tryz.ntmps6
    go_wp2_with fail
    refine (refHost_any s _ hs).mono ?_
    rintro e w1 ⟨rfl, hB1⟩
    rw [HV.out]
    have F1 := Lib.hid ((four_new w (.string ⟨#[]⟩) (.string ⟨#[]⟩) (.string ⟨#[]⟩) (.bool false) 29).below hB1)
    have hBB := Lib.hid ((below_new w _).trans (hB1.mono (Nat.le_of_lt (by simp))))
    clear hB1
    go_upto_block 0 with fail
    have P0 := Lib.hid (show Pair w w1.heap.size h [] [] false (w1.alloc (.cells #[.string (strB h), .string ⟨#[]⟩, .string ⟨#[]⟩, .bool false] 29)) from
      ⟨F1.out.below (below_new _ _), four_new w1 (.string (strB h)) (.string ⟨#[]⟩) (.string ⟨#[]⟩) (.bool false) 29, F1.out.2.2.2.2.2.2.2.2, hBB.out.trans ((below_new w1 _).mono hBB.out.size)⟩)
    clear F1 hBB
    generalize w1.alloc (.cells #[.string (strB h), .string ⟨#[]⟩, .string ⟨#[]⟩, .bool false] 29) = w2 at *
    generalize w1.heap.size = N at *
    go_cut [9, 10] (fun u v wx => u = .string (strB (cutC 63 t.data.toList).1) ∧ v = .string (strB (cutC 63 t.data.toList).2.1) ∧ Pair w N h [] [] (cutC 63 t.data.toList).2.2 wx)
    case first =>
      go_wp2_with fail
      go_loop [9, 10, 29] (fun u v i => u = .string t ∧ v = .string ⟨#[]⟩ ∧ ∃ k : Nat, k ≤ t.size ∧ i = .int .i64 k ∧ okTo noQ t k) (fun _ _ i => t.size - (intOf i).toNat)
      case atStart => exact ⟨rfl, rfl, 0, by omega, rfl, okTo0 _ t⟩
      case round =>
        obtain ⟨rfl, rfl, k, hk, rfl, hn⟩ := hrel
        by_cases hlt : k < t.size
        · by_cases hc : t[k].toNat = 63
          · have HX := Lib.hid (cut_hit hn hlt hc)
            have hc' : ((t[k].toNat : Int) == 63) = true := by rw [hc]; rfl
            clear hc
            obtain ⟨_, ⟨d0, d1, d2, d3, g0, g1, g2, g3, hlt2⟩, _, _⟩ := P0.out
            go_wp2_with fail
            go_region
            go_wp2_with fail
            go_meet
            case rel => exact ⟨by rw [HX.out, strB_of], by rw [HX.out, strB_of], by rw [HX.out]; exact (P0.out.setB true).below ((Below.refl _ _).drew)⟩
          · have HN := Lib.hid (okTo_step (p := noQ) hlt hn (by unfold noQ; simp; intro e; exact hc (by rw [e]; rfl)))
            have hc' : ((t[k].toNat : Int) == 63) = false := by simp; omega
            clear hc
            go_wp2
            go_round
            case rel => exact ⟨rfl, rfl, k + 1, by omega, by go_num, HN.out⟩
            case measure => simp [intOf]; omega
        · have HX := Lib.hid (cut_miss hn (by omega))
          go_wp2
          go_meet
          case rel => exact ⟨by rw [HX.out, strB_of], by rw [HX.out]; rfl, by rw [HX.out]; exact P0.out⟩
    case rest =>
      obtain ⟨rfl, rfl, hP⟩ := hcut
      have P1 := Lib.hid hP
      clear hP P0
      have HPN := Lib.hid (fun hp => refP_path (t := t.data.toList) HHH.out hp)
      have HQN := Lib.hid (fun hq => refP_query (t := t.data.toList) HHH.out hq)
      have HLG := Lib.hid (fun p q hp hq hl => refP_large (t := t.data.toList) (p := p) (q := q) HHH.out hp hq hl)
      have HOK := Lib.hid (fun p q hp hq hl => refP_ok (t := t.data.toList) (p := p) (q := q) HHH.out hp hq hl)
      have hhl : (strB h).size ≤ 300000 := by
        have := hostO_some HHH.out
        rw [strB_size, this.1, lowS_len]; omega
      generalize cutC 63 t.data.toList = x at *
      obtain ⟨x1, Z, fl⟩ := x
      simp only at hl1 hl2 HPN HQN HLG HOK P1 ⊢
      obtain ⟨Y, rfl⟩ : ∃ Y : ByteArray, x1 = Y.data.toList := ⟨strB x1, (strB_list x1).symm⟩
      rw [strB_of] at hl1 ⊢
      by_cases hz : Y.size = 0
      · have HR := Lib.hid (HPN.out (pathO_no (head_no hz)))
        obtain ⟨⟨c0, c1, c2, c3, f0, f1, f2, f3, hlt⟩, _, hRN, hBw⟩ := P1.out
        have hz' : ((Y.size : Int) == 0) = true := beq_iff_eq.mpr (by omega)
        clear hz
        go_wp2_with fail
        exact bodyPost_ret (v := .tuple #[.agg #[.string ⟨#[]⟩, .string ⟨#[]⟩, .string ⟨#[]⟩, .bool false], .int .i64 27]) (by simp [results, Tryz.results6, go_sem, c0, c1, c2, c3]) rfl ⟨by rw [HR.out]; rfl, below_four hBw _ _ _ _⟩
      · have hz0 : 0 < Y.size := by omega
        have hz' : ((Y.size : Int) == 0) = false := beq_eq_false_iff_ne.mpr (by omega)
        by_cases h47 : Y[0].toNat = 47
        · have hY := head_yes hz0 h47
          have h47' : ((Y[0].toNat : Int) != 47) = false := by rw [h47]; rfl
          obtain ⟨v1, b1, hv1, hn1, hs1⟩ := refCan_form false Y.data.toList
          obtain ⟨v2, b2, hv2, hn2, hs2⟩ := refCan_form true Z
          have HC1 := Lib.hid (fun w => show Calls Tryz.prog 17 #[.string Y, .string ⟨#[]⟩] w fun e w' => e = .returned (.tuple #[.string (strB v1), .bool b1]) ∧ Below w.heap.size w w' by
            have := refCanonical_any false Y w hl1
            rw [hv1] at this; exact this)
          have HC2 := Lib.hid (fun w => show Calls Tryz.prog 17 #[.string (strB Z), .string ⟨#[63]⟩] w fun e w' => e = .returned (.tuple #[.string (strB v2), .bool b2]) ∧ Below w.heap.size w w' by
            have := refCanonical_any true (strB Z) w hl2
            rw [strB_list, hv2] at this; exact this)
          have HN1 := Lib.hid hn1
          have HN2 := Lib.hid hn2
          have HS1 := Lib.hid hs1
          have HS2 := Lib.hid hs2
          have HY := Lib.hid hY
          clear hv1 hv2 hn1 hn2 hs1 hs2 hY h47 hz
          go_wp2_with fail
          refine (HC1.out _).mono ?_
          rintro e w3 ⟨rfl, hB3⟩
          have P2 := Lib.hid (P1.out.below hB3)
          clear hB3 P1
          go_wp2_with fail
          refine (HC2.out _).mono ?_
          rintro e w4 ⟨rfl, hB4⟩
          have P3 := Lib.hid (P2.out.below hB4)
          clear hB4 P2
          cases b1 with
          | false =>
            have HR := Lib.hid (HPN.out (pathO_canNo (HN1.out rfl)))
            obtain ⟨⟨c0, c1, c2, c3, f0, f1, f2, f3, hlt⟩, _, hRN, hBw⟩ := P3.out
            go_wp2_with fail
            exact bodyPost_ret (v := .tuple #[.agg #[.string ⟨#[]⟩, .string ⟨#[]⟩, .string ⟨#[]⟩, .bool false], .int .i64 27]) (by simp [results, Tryz.results6, go_sem, c0, c1, c2, c3]) rfl ⟨by rw [HR.out]; rfl, below_four hBw _ _ _ _⟩
          | true =>
            cases b2 with
            | false =>
              have HR := Lib.hid (HQN.out (HN2.out rfl))
              obtain ⟨⟨c0, c1, c2, c3, f0, f1, f2, f3, hlt⟩, _, hRN, hBw⟩ := P3.out
              go_wp2_with fail
              exact bodyPost_ret (v := .tuple #[.agg #[.string ⟨#[]⟩, .string ⟨#[]⟩, .string ⟨#[]⟩, .bool false], .int .i64 27]) (by simp [results, Tryz.results6, go_sem, c0, c1, c2, c3]) rfl ⟨by rw [HR.out]; rfl, below_four hBw _ _ _ _⟩
            | true =>
              have hs1 := HS1.out rfl
              have hs2 := HS2.out rfl
              have hv1l : v1.length ≤ 100000 := by
                have := canO_len hs1
                rw [Array.length_toList] at this
                exact Nat.le_trans this hl1
              have hv2l : v2.length ≤ 100000 := by
                have := canO_len hs2
                rw [strB_size] at hl2
                exact Nat.le_trans this hl2
              have hpl := fun p => pathO_len (x := p) (l := Y.data.toList)
              have hYl : Y.data.toList.length ≤ 100000 := by rw [Array.length_toList]; exact hl1
              rw [HY.out] at hs1
              obtain ⟨y, hy, rfl⟩ := canO_slash hs1
              obtain ⟨v3, b3, hv3, hn3, hs3⟩ := refDot_form y
              have HD := Lib.hid (fun w => show Calls Tryz.prog 18 #[.string (strB (47 :: y))] w fun e w' => e = .returned (.tuple #[.string (strB v3), .bool b3]) ∧ Below w.heap.size w w' by
                have := refDots_any (strB (47 :: y)) y w (by rw [strB_size]; exact hv1l) (strB_list _)
                rw [hv3] at this; exact this)
              clear hv3 hs1
              cases b3 with
              | false =>
                have HR := Lib.hid (HPN.out (by rw [HY.out]; exact pathO_dotNo hy (hn3 rfl)))
                clear hn3 hs3 hy hs2 hpl
                go_wp2_with fail
                refine (HD.out _).mono ?_
                rintro e w5 ⟨rfl, hB5⟩
                have P4 := Lib.hid (P3.out.below hB5)
                clear hB5 P3
                obtain ⟨_, ⟨d0, d1, d2, d3, g0, g1, g2, g3, hlt2⟩, _, _⟩ := P4.out
                go_upto_region 19 with fail
                have P5 := Lib.hid (P4.out.setP v3)
                clear d0 d1 d2 d3 g0 g1 g2 g3 hlt2 P4
                generalize w5.setCell ⟨N, 1, none⟩ (.string (strB v3)) = w6 at *
                obtain ⟨⟨c0, c1, c2, c3, f0, f1, f2, f3, hlt⟩, _, hRN, hBw⟩ := P5.out
                go_wp2_with fail
                exact bodyPost_ret (v := .tuple #[.agg #[.string ⟨#[]⟩, .string ⟨#[]⟩, .string ⟨#[]⟩, .bool false], .int .i64 27]) (by simp [results, Tryz.results6, go_sem, c0, c1, c2, c3]) rfl ⟨by rw [HR.out]; rfl, below_four hBw _ _ _ _⟩
              | true =>
                obtain ⟨ds, hds, hvs⟩ := hs3 rfl
                have hpo : pathO Y.data.toList = some v3 := by rw [HY.out, hvs]; exact pathO_mk hy hds
                have hplen := hpl v3 hpo hYl
                have HLG2 := Lib.hid (fun hl => HLG.out v3 v2 hpo hs2 hl)
                have HOK2 := Lib.hid (fun hl => HOK.out v3 v2 hpo hs2 hl)
                have HLE := Lib.hid (show AdrLe 1000000000000 ⟨h, v3, v2, fl⟩ from ⟨by show (strB h).size ≤ _; omega, by show (strB v3).size ≤ _; rw [strB_size]; omega, by show (strB v2).size ≤ _; rw [strB_size]; omega⟩)
                clear hn3 hs3 hy hs2 hpl hds hvs hpo hplen
                go_wp2_with fail
                refine (HD.out _).mono ?_
                rintro e w5 ⟨rfl, hB5⟩
                have P4 := Lib.hid (P3.out.below hB5)
                clear hB5 P3
                obtain ⟨_, ⟨d0, d1, d2, d3, g0, g1, g2, g3, hlt2⟩, _, _⟩ := P4.out
                go_upto_region 19 with fail
                have P5 := Lib.hid (P4.out.setP v3)
                clear d0 d1 d2 d3 g0 g1 g2 g3 hlt2 P4
                generalize w5.setCell ⟨N, 1, none⟩ (.string (strB v3)) = w6 at *
                obtain ⟨_, ⟨d0, d1, d2, d3, g0, g1, g2, g3, hlt2⟩, _, _⟩ := P5.out
                go_upto_region 22 with fail
                have P6 := Lib.hid (P5.out.setQ v2)
                clear d0 d1 d2 d3 g0 g1 g2 g3 hlt2 P5
                generalize w6.setCell ⟨N, 2, none⟩ (.string (strB v2)) = w7 at *
                obtain ⟨_, ⟨d0, d1, d2, d3, g0, g1, g2, g3, hlt2⟩, _, _⟩ := P6.out
                go_wp2_with fail
                refine (refText_any ⟨h, v3, v2, fl⟩ _ HLE.out).mono ?_
                rintro e w8 ⟨rfl, hB8⟩
                have P7 := Lib.hid (P6.out.below hB8)
                clear d0 d1 d2 d3 g0 g1 g2 g3 hlt2 P6 hB8
                have htl : (strB (Adr.text ⟨h, v3, v2, fl⟩)).size = (Adr.text ⟨h, v3, v2, fl⟩).length := strB_size _
                obtain ⟨⟨c0, c1, c2, c3, f0, f1, f2, f3, hlt⟩, ⟨d0, d1, d2, d3, g0, g1, g2, g3, hlt2⟩, hRN, hBw⟩ := P7.out
                by_cases hle : (Adr.text ⟨h, v3, v2, fl⟩).length ≤ 1024
                · have HR := Lib.hid (HOK2.out hle)
                  have hsz : (strB (Adr.text ⟨h, v3, v2, fl⟩)).size ≤ 1024 := by rw [htl]; exact hle
                  clear hle htl HOK2 HLG2
                  generalize Adr.text ⟨h, v3, v2, fl⟩ = tx at *
                  go_wp2_with fail
                  exact bodyPost_ret (v := .tuple #[.agg #[.string (strB h), .string (strB v3), .string (strB v2), .bool fl], .int .i64 0]) (by simp [results, Tryz.results6, go_sem, c0, c1, c2, c3]) rfl ⟨by rw [HR.out], below_four hBw _ _ _ _⟩
                · have HR := Lib.hid (HLG2.out hle)
                  have hsz : 1024 < (strB (Adr.text ⟨h, v3, v2, fl⟩)).size := by rw [htl]; omega
                  clear hle htl HOK2 HLG2
                  generalize Adr.text ⟨h, v3, v2, fl⟩ = tx at *
                  go_wp2_with fail
                  exact bodyPost_ret (v := .tuple #[.agg #[.string ⟨#[]⟩, .string ⟨#[]⟩, .string ⟨#[]⟩, .bool false], .int .i64 5]) (by simp [results, Tryz.results6, go_sem, c0, c1, c2, c3]) rfl ⟨by rw [HR.out]; rfl, below_four hBw _ _ _ _⟩
        · have HR := Lib.hid (HPN.out (pathO_no (head_ne hz0 h47)))
          have h47' : ((Y[0].toNat : Int) != 47) = true := by simp; omega
          obtain ⟨⟨c0, c1, c2, c3, f0, f1, f2, f3, hlt⟩, _, hRN, hBw⟩ := P1.out
          clear h47
          go_wp2_with fail
          exact bodyPost_ret (v := .tuple #[.agg #[.string ⟨#[]⟩, .string ⟨#[]⟩, .string ⟨#[]⟩, .bool false], .int .i64 27]) (by simp [results, Tryz.results6, go_sem, c0, c1, c2, c3]) rfl ⟨by rw [HR.out]; rfl, below_four hBw _ _ _ _⟩
end Go.Proofs.YtfggckdakmnfbaaGreatDoor
