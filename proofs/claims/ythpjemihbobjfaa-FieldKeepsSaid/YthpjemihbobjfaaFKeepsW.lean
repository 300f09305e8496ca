/- FieldKeeps: for every list of fields, two names and a value the statement's function returns true: the walk. -/
import Derived.Test.YthpjemihbobjfaaFKeeps
namespace Go.Proofs.Ythpjemihbobjfaa.keeps
open Go.RowKit

set_option maxHeartbeats 2000000 in
set_option maxRecDepth 100000 in
theorem walk_big (lv : Value) (ps : Flds) (s0 s1 t : ByteArray) (w : World) (hr : ReadsQ w lv ps) (hl : ps.length ≤ 9223372036854775807) (hb : ∀ p ∈ ps, p.1.length ≤ 140737488355328 ∧ p.2.length ≤ 140737488355328)
    (h0 : s0.size ≤ 140737488355328) (h1 : s1.size ≤ 140737488355328) (ht : t.size ≤ 140737488355328) (hbig : smallB ps = false ∨ 1000 < s0.size + s1.size + t.size) :
    Calls Try.prog 5 #[lv, .agg #[.string s0, .string s1], .string t] w fun e w' => e = .returned (.bool true) ∧ Below w.heap.size w w' := by
  have S := fun w hr => small_any lv ps w hr hl hb
  have HR := Lib.hid hr
  clear hb
  have hB0 : Below w.heap.size w (w.alloc (.cells #[.string s0, .string s1] 44)) := below_new w _
  have hK0 : KS w s0 s1 lv ps (w.alloc (.cells #[.string s0, .string s1] 44)) := ⟨(new_pair w _ _ _).1, (new_pair w _ _ _).2, hB0, hr.below hB0⟩
  obtain ⟨ao, cap, rfl, hc⟩ := hr
  clear hc hB0
  cases hsm : smallB ps with
  | false =>
    rw [hsm] at S
    go_enter Try.func5, Try.ntmps5
    go_wp2_with fail
    refine (awake_any _).mono ?_
    rintro e w1 ⟨rfl, hB⟩
    have hK1 := hK0.below hB
    go_wp2_with fail
    refine (S _ hK1.2.2.2).mono ?_
    rintro e w2 ⟨rfl, hB2⟩
    have hK2 := hK1.below hB2
    go_wp2_with fail
    refine (awake_any _).mono ?_
    rintro e w3 ⟨rfl, hB3⟩
    have hK3 := hK2.below hB3
    go_wp2_with fail
    go_ret
    exact ⟨rfl, hK3.2.2.1⟩
  | true =>
    have hbig' : 1000 < s0.size + s1.size + t.size := by
      rcases hbig with h | h
      · rw [hsm] at h; cases h
      · exact h
    rw [hsm] at S
    clear hbig hsm
    go_enter Try.func5, Try.ntmps5
    go_wp2_with fail
    refine (awake_any _).mono ?_
    rintro e w1 ⟨rfl, hB⟩
    have hK1 := hK0.below hB
    go_wp2_with fail
    refine (S _ hK1.2.2.2).mono ?_
    rintro e w2 ⟨rfl, hB2⟩
    have hK2 := hK1.below hB2
    have c0 := hK2.1
    have c1 := hK2.2.1
    have HK2 := Lib.hid hK2
    clear hK2 hK1 hK0
    go_wp2_with fail
    refine (awake_any _).mono ?_
    rintro e w3 ⟨rfl, hB3⟩
    have hK3 := HK2.out.below hB3
    go_wp2_with fail
    go_ret
    exact ⟨rfl, hK3.2.2.1⟩

set_option maxHeartbeats 8000000 in
set_option maxRecDepth 100000 in
theorem walk (lv : Value) (ps : Flds) (s0 s1 t : ByteArray) (w : World) (hr : ReadsQ w lv ps) (hl : ps.length ≤ 9223372036854775807) (hb : ∀ p ∈ ps, p.1.length ≤ 140737488355328 ∧ p.2.length ≤ 140737488355328)
    (h0 : s0.size ≤ 140737488355328) (h1 : s1.size ≤ 140737488355328) (ht : t.size ≤ 140737488355328) :
    Calls Try.prog 5 #[lv, .agg #[.string s0, .string s1], .string t] w fun e w' => e = .returned (.bool true) ∧ Below w.heap.size w w' := by
  by_cases hbig : smallB ps = false ∨ 1000 < s0.size + s1.size + t.size
  · exact walk_big lv ps s0 s1 t w hr hl hb h0 h1 ht hbig
  · have hsm : smallB ps = true := by
      cases h : smallB ps with
      | true => rfl
      | false => exact absurd (.inl h) hbig
    have hst : s0.size + s1.size + t.size ≤ 1000 := by
      rcases Nat.lt_or_ge 1000 (s0.size + s1.size + t.size) with h | h
      · exact absurd (.inr h) hbig
      · exact h
    have S := fun w hr => small_any lv ps w hr hl hb
    rw [hsm] at S
    obtain ⟨h70, h6⟩ := small_yes hsm
    have hb6 : ∀ p ∈ ps, p.1.length + p.2.length ≤ 1000000 := fun p hp => by have := h6 p hp; omega
    have z0 : s0.data.toList.length = s0.size := Array.length_toList
    have z1 : s1.data.toList.length = s1.size := Array.length_toList
    have zt : t.data.toList.length = t.size := Array.length_toList
    have hnv : s0.data.toList.length + t.data.toList.length ≤ 1000000 := by omega
    have F := fun w hr => fields_any lv ps w hr (by omega) hb6
    have C1 := fun v w hr => set_any v ps s0.data.toList t.data.toList w hr (by omega) (by omega) (by omega) hb6
    have C2 := fun v w hr => add_any v ps s0.data.toList t.data.toList w hr (by omega) (by omega) (by omega)
    have C3 := fun v w hr => remove_any v ps s0 w hr (by omega) (by omega) hb6
    rw [strB_of, strB_of] at C1 C2
    have b1 := bound_set hb6 hnv
    have b2 := bound_add hb6 hnv
    have b3 := bound_rem (n := s0.data.toList) hb6
    have k1 := set_len ps s0.data.toList t.data.toList
    have k2 : (addL ps s0.data.toList t.data.toList).length ≤ ps.length + 1 := by unfold addL; simp
    have k3 := rem_len ps s0.data.toList
    have hx := all_len ps s0.data.toList
    have hy := all_len ps s1.data.toList
    have e1 : allL (setL ps s0.data.toList t.data.toList) s0.data.toList = [t.data.toList] := all_set_same rfl
    have e2 : allL (addL ps s0.data.toList t.data.toList) s0.data.toList = allL ps s0.data.toList ++ [t.data.toList] := all_add_same rfl
    have e3 : allL (remL ps s0.data.toList) s0.data.toList = [] := all_rem_same rfl
    have A0 := fun v => all_k v ps s0 _ rfl (by omega) (by omega) hb6
    have A1 := fun v => all_k v _ s0 _ e1 (by omega) (by omega) b1
    have A2 := fun v => all_k v _ s0 _ e2 (by omega) (by omega) b2
    have A3 := fun v => all_k v _ s0 _ e3 (by omega) (by omega) b3
    have O0 := fun v => all_k v ps s1 _ rfl (by omega) (by omega) hb6
    have O1 : lowS s0.data.toList ≠ lowS s1.data.toList → ∀ v w, ReadsQ w v (setL ps s0.data.toList t.data.toList) → _ := fun hne v => all_k v _ s1 _ (all_set_other hne) (by omega) (by omega) b1
    have O2 : lowS s0.data.toList ≠ lowS s1.data.toList → ∀ v w, ReadsQ w v (addL ps s0.data.toList t.data.toList) → _ := fun hne v => all_k v _ s1 _ (all_add_other hne) (by omega) (by omega) b2
    have O3 : lowS s0.data.toList ≠ lowS s1.data.toList → ∀ v w, ReadsQ w v (remL ps s0.data.toList) → _ := fun hne v => all_k v _ s1 _ (all_rem_other hne) (by omega) (by omega) b3
    have HB0 : Below w.heap.size w (w.alloc (.cells #[.string s0, .string s1] 44)) := below_new w _
    have hK0 : KS w s0 s1 lv ps (w.alloc (.cells #[.string s0, .string s1] 44)) := ⟨(new_pair w _ _ _).1, (new_pair w _ _ _).2, HB0, hr.below HB0⟩
    have hs0 : s0.size ≤ 1000000000 := by omega
    have hs1 : s1.size ≤ 1000000000 := by omega
    generalize setL ps s0.data.toList t.data.toList = l1 at C1 A1 O1
    generalize addL ps s0.data.toList t.data.toList = l2 at C2 A2 O2
    generalize remL ps s0.data.toList = l3 at C3 A3 O3
    generalize allL ps s0.data.toList = x at A0 A2 hx
    generalize allL ps s1.data.toList = y at O0 O1 O2 O3 hy
    have HS := Lib.hid S
    have HF := Lib.hid F
    have HC1 := Lib.hid C1
    have HC2 := Lib.hid C2
    have HC3 := Lib.hid C3
    have HA0 := Lib.hid A0
    have HA1 := Lib.hid A1
    have HA2 := Lib.hid A2
    have HA3 := Lib.hid A3
    have HO0 := Lib.hid O0
    have HO1 := Lib.hid O1
    have HO2 := Lib.hid O2
    have HO3 := Lib.hid O3
    have HK0 := Lib.hid hK0
    clear hb hsm h6 hb6 S F C1 C2 C3 A0 A1 A2 A3 O0 O1 O2 O3 hbig e1 e2 e3 b1 b2 b3 k1 k2 k3 hK0 HB0 hnv z0 z1 zt
    obtain ⟨ao, cap, rfl, hc⟩ := hr
    clear hc
    go_enter Try.func5, Try.ntmps5
    go_wp2_with fail
    refine (awake_any _).mono ?_
    rintro e w1 ⟨rfl, hB⟩
    have hK1 := HK0.out.below hB
    go_wp2_with fail
    refine (HS.out _ hK1.2.2.2).mono ?_
    rintro e w2 ⟨rfl, hB2⟩
    have hK2 := hK1.below hB2
    have c0 := hK2.1
    have c1 := hK2.2.1
    have HK2 := Lib.hid hK2
    clear hB hB2 HS hK1 hK2 HK0
    go_wp2_with fail
    refine (HF.out _ HK2.out.2.2.2).mono ?_
    rintro e w3 ⟨vf, rfl, hO, hB3⟩
    have hK3 : KS w s0 s1 vf ps w3 := ⟨(HK2.out.below hB3).1, (HK2.out.below hB3).2.1, (HK2.out.below hB3).2.2.1, hO.q⟩
    clear c0 c1 hB3 hO HF
    have HQ1 : Hid (∀ w', KS w s0 s1 vf ps w' → Calls Try.prog 16 #[vf, .string s0, .string t] w' fun e w'' => ∃ v, e = .returned v ∧ OwnsP 42 w.heap.size w'' v l1 ∧ KS w s0 s1 vf ps w'') := Lib.hid fun w' h =>
      (HC1.out vf w' h.2.2.2).mono fun e w'' ⟨v, he, ho, hb⟩ => ⟨v, he, OwnsP.mono h.2.2.1.size ho, h.below hb⟩
    have HQ2 : Hid (∀ w' v1, KS w s0 s1 vf ps w' → OwnsP 42 w.heap.size w' v1 l1 → Calls Try.prog 17 #[vf, .string s0, .string t] w' fun e w'' => ∃ v, e = .returned v ∧ OwnsP 42 w.heap.size w'' v l2 ∧ OwnsP 42 w.heap.size w'' v1 l1 ∧ KS w s0 s1 vf ps w'') := Lib.hid fun w' v1 h h1 =>
      (HC2.out vf w' h.2.2.2).mono fun e w'' ⟨v, he, ho, hb⟩ => ⟨v, he, OwnsP.mono h.2.2.1.size ho, OwnsP.below h1 hb, h.below hb⟩
    have HQ3 : Hid (∀ w' v1 v2, KS w s0 s1 vf ps w' → OwnsP 42 w.heap.size w' v1 l1 → OwnsP 42 w.heap.size w' v2 l2 → Calls Try.prog 18 #[vf, .string s0] w' fun e w'' => ∃ v, e = .returned v ∧ St w s0 s1 vf v1 v2 v ps l1 l2 l3 w'') := Lib.hid fun w' v1 v2 h h1 h2 =>
      (HC3.out vf w' h.2.2.2).mono fun e w'' ⟨v, he, ho, hb⟩ => ⟨v, he, h.below hb, (OwnsP.below h1 hb).q, (OwnsP.below h2 hb).q, ho.q⟩
    clear HC1 HC2 HC3 HK2
    go_wp2_with fail
    go_region_held3 (fun w' => w'.cell? ⟨w.heap.size, 0, none⟩ = some (.string s0) ∧ w'.cell? ⟨w.heap.size, 1, none⟩ = some (.string s1) ∧ Below w.heap.size w w' ∧ ReadsQ w' vf ps)
      (first | exact hK3.drew | exact hK4 | exact hK5 | exact hSt.1)
      (first
        | (go_at_call 16; refine (HQ1.out _ (by assumption)).mono ?_; rintro e w4 ⟨v1, rfl, hO1, hK4⟩)
        | (go_at_call 17; refine (HQ2.out _ v1 (by assumption) hO1).mono ?_; rintro e w5 ⟨v2, rfl, hO2, hO1', hK5⟩)
        | (go_at_call 18; refine (HQ3.out _ v1 v2 (by assumption) hO1' hO2).mono ?_; rintro e w6 ⟨v3, rfl, hSt⟩))
    have c0 := hSt.1.1
    have c1 := hSt.1.2.1
    have HSt := Lib.hid hSt
    clear hSt hO1 hO2 hO1' hK3 hK4 hK5 HQ1 HQ2 HQ3
    go_wp2_with fail
    refine (HA0.out vf _ HSt.out.1.2.2.2).mono ?_
    rintro e w7 ⟨vh, rfl, hH, hB7⟩
    have hSt7 := HSt.out.below hB7
    have d0 := hSt7.1.1
    clear c0 c1 HSt hB7 HA0
    have HSt := Lib.hid hSt7
    clear hSt7
    go_wp2_with fail
    refine (HA1.out v1 _ HSt.out.2.1).mono ?_
    rintro e w8 ⟨u1, rfl, hU1, hB8⟩
    have hH8 := OwnsS.below hH hB8
    have hSt8 := HSt.out.below hB8
    have HSt := Lib.hid hSt8
    clear hSt8 d0 hH hB8 HA1
    go_wp2_with fail
    refine (texts_same u1 _ [t.data.toList] _ (hU1.reads.below (below_new _ _)) (reads_one _ t) (by simp)).mono ?_
    rintro e w9 ⟨rfl, hB9⟩
    have hB9' := (below_new w8 _).trans (hB9.mono (below_new w8 _).size)
    have hH9 := OwnsS.below hH8 hB9'
    have hSt9 := HSt.out.below hB9'
    have d0 := hSt9.1.1
    have HSt := Lib.hid hSt9
    clear hSt9 hU1 hB9 hB9' hH8
    go_wp2_with fail
    refine (HA2.out v2 _ HSt.out.2.2.1).mono ?_
    rintro e w10 ⟨u2, rfl, hU2, hB10⟩
    have hH10 := OwnsS.below hH9 hB10
    have hSt10 := HSt.out.below hB10
    have HSt := Lib.hid hSt10
    clear hSt10 d0 hH9 hB10 HA2
    have hxl : x.length ≤ 70 := by omega
    go_wp2_with (first
      | (at_builtin; refine wpList_appendS (ms := x) rfl _ _ rfl _ vh rfl rfl (own_madeS w10) (hH10.reads.below (below_new _ _)) (saneS hH10) (by simp; omega) (by simp) ?_; intro va wa hVa hGa; have hBa : Below w10.heap.size w10 wa := (below_new w10 _).grown hGa (by simp) (fun k hk => (World.ownsRow.lt (own_madeS w10) k hk).1); have hza := hBa.size)
      | (at_builtin; refine wpList_appendS (ms := [t.data.toList]) rfl _ _ rfl va _ rfl rfl (OwnsS.below hVa (below_new wa _)) (reads_one wa t) (sane_one _) (by simp; omega) (by simp; omega) ?_; intro vb wb hVb hGb))
    have hBb : Below w10.heap.size w10 wb := (hBa.alloc hza _).grown hGb (by simp; omega) (fun k hk => (World.ownsRow.lt hVa k hk).1)
    have hU2' := hU2.reads.below hBb
    have hVb' : OwnsS w10.heap.size wb vb (x ++ [t.data.toList]) := hVb
    have hStb := HSt.out.below hBb
    have HSt := Lib.hid hStb
    clear hStb hU2 hVa hGa hVb hGb hBa hBb hH10
    refine (texts_same u2 vb (x ++ [t.data.toList]) _ hU2' hVb'.reads (by simp; omega)).mono ?_
    rintro e w11 ⟨rfl, hB11⟩
    have hSt11 := HSt.out.below hB11
    have d0 := hSt11.1.1
    have HSt := Lib.hid hSt11
    clear hSt11 hU2' hVb' hB11
    go_wp2_with fail
    refine (HA3.out v3 _ HSt.out.2.2.2).mono ?_
    rintro e w12 ⟨u3, rfl, hU3, hB12⟩
    obtain ⟨a3, cc3, rfl, hc3⟩ := hU3.reads
    have hSt12 := HSt.out.below hB12
    clear hU3 hc3 d0 HSt hB12 HA3
    by_cases hne : lowS s0.data.toList = lowS s1.data.toList
    · have heq := toList_same hne
      clear hne
      go_wp2_with fail
      go_region_held3 (fun w' => w'.cell? ⟨w.heap.size, 0, none⟩ = some (.string s0) ∧ w'.cell? ⟨w.heap.size, 1, none⟩ = some (.string s1) ∧ Below w.heap.size w w' ∧ ReadsQ w' vf ps)
        (first | exact hSta.1 | exact hSt12.1.drew)
        (first | (go_at_call 23; refine (lower_k w s0 s1 vf v1 v2 v3 ps l1 l2 l3 _ (by first | exact hs0 | exact hs1) _ (by first | exact hSta | exact hSt12.drew)).mono ?_; rintro e w13 ⟨rfl, hSta⟩))
      go_wp2
      go_ret
      exact ⟨rfl, hSta.1.2.2.1⟩
    · have heq := toList_other hne
      go_wp2_with fail
      go_region_held3 (fun w' => w'.cell? ⟨w.heap.size, 0, none⟩ = some (.string s0) ∧ w'.cell? ⟨w.heap.size, 1, none⟩ = some (.string s1) ∧ Below w.heap.size w w' ∧ ReadsQ w' vf ps)
        (first | exact hSta.1 | exact hSt12.1.drew)
        (first | (go_at_call 23; refine (lower_k w s0 s1 vf v1 v2 v3 ps l1 l2 l3 _ (by first | exact hs0 | exact hs1) _ (by first | exact hSta | exact hSt12.drew)).mono ?_; rintro e w13 ⟨rfl, hSta⟩))
      have HSt := Lib.hid hSta
      have d1 := hSta.1.2.1
      clear hSt12 hSta heq
      go_wp2_with fail
      refine (HO0.out vf _ HSt.out.1.2.2.2).mono ?_
      rintro e w15 ⟨vo, rfl, hV, hB15⟩
      have hSt15 := HSt.out.below hB15
      have HSt := Lib.hid hSt15
      have d2 := hSt15.1.2.1
      clear hSt15 d1 hB15
      go_wp2_with fail
      refine (HO1.out hne v1 _ HSt.out.2.1).mono ?_
      rintro e w16 ⟨x1, rfl, hX1, hB16⟩
      have hV16 := OwnsS.below hV hB16
      have hSt16 := HSt.out.below hB16
      have HSt := Lib.hid hSt16
      clear hSt16 d2 hV hB16
      go_wp2_with fail
      refine (texts_same x1 vo y _ hX1.reads hV16.reads (by omega)).mono ?_
      rintro e w17 ⟨rfl, hB17⟩
      have hV17 := OwnsS.below hV16 hB17
      have hSt17 := HSt.out.below hB17
      have HSt := Lib.hid hSt17
      have d3 := hSt17.1.2.1
      clear hSt17 hV16 hB17 hX1
      go_wp2_with fail
      refine (HO2.out hne v2 _ HSt.out.2.2.1).mono ?_
      rintro e w18 ⟨x2, rfl, hX2, hB18⟩
      have hV18 := OwnsS.below hV17 hB18
      have hSt18 := HSt.out.below hB18
      have HSt := Lib.hid hSt18
      clear hSt18 d3 hV17 hB18
      go_wp2_with fail
      refine (texts_same x2 vo y _ hX2.reads hV18.reads (by omega)).mono ?_
      rintro e w19 ⟨rfl, hB19⟩
      have hV19 := OwnsS.below hV18 hB19
      have hSt19 := HSt.out.below hB19
      have HSt := Lib.hid hSt19
      have d4 := hSt19.1.2.1
      clear hSt19 hV18 hB19 hX2
      go_wp2_with fail
      refine (HO3.out hne v3 _ HSt.out.2.2.2).mono ?_
      rintro e w20 ⟨x3, rfl, hX3, hB20⟩
      have hV20 := OwnsS.below hV19 hB20
      have hSt20 := HSt.out.below hB20
      have HSt := Lib.hid hSt20
      clear hSt20 d4 hV19 hB20
      go_wp2_with fail
      refine (texts_same x3 vo y _ hX3.reads hV20.reads (by omega)).mono ?_
      rintro e w21 ⟨rfl, hB21⟩
      have hSt21 := HSt.out.below hB21
      go_wp2_with fail
      go_ret
      exact ⟨rfl, hSt21.1.2.2.1⟩
end Go.Proofs.Ythpjemihbobjfaa.keeps
