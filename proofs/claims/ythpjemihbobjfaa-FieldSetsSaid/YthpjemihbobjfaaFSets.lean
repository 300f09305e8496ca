/- FieldSets: for every list of fields, every name and value the statement's function returns true: the walk. -/
import Derived.Test.YthpjemihbobjfaaRefSet
namespace Go.Proofs.Ythpjemihbobjfaa.sets
open Go.RowKit

/-- The values of the first n fields of block g are there, and can be written. -/
def Writ (w : World) (g n : Nat) : Prop := ∀ j, j < n → (∃ u, w.cell? ⟨g, j * 2 + 1, none⟩ = some u) ∧ w.frozen? ⟨g, j * 2 + 1, none⟩ = false
theorem Writ.setCell {w : World} {g n : Nat} (h : Writ w g n) (p : Addr) (u : Value) : Writ (w.setCell p u) g n := by
  intro j hj
  obtain ⟨⟨x, hx⟩, hf⟩ := h j hj
  refine ⟨?_, (World.frozen?_setCell _ _ _ _).trans hf⟩
  by_cases e : p = ⟨g, j * 2 + 1, none⟩
  · subst e; exact ⟨u, World.cell?_setCell_same _ _ _ hx⟩
  · exact ⟨x, (World.cell?_setCell_other _ _ _ _ e).trans hx⟩
theorem Writ.below {w w' : World} {g n : Nat} (h : Writ w g n) (hg : g < w.heap.size) (hb : Below w.heap.size w w') : Writ w' g n := by
  intro j hj
  obtain ⟨⟨x, hx⟩, hf⟩ := h j hj
  exact ⟨⟨x, (hb.cell (p := ⟨g, j * 2 + 1, none⟩) hg).trans hx⟩, (hb.frozen (p := ⟨g, j * 2 + 1, none⟩) hg).trans hf⟩
/-- A list of the call's own that is not empty: a block that can be written. -/
theorem opens {B : Nat} {w : World} {v : Value} {ps : Flds} (h : OwnsP 42 B w v ps) (h0 : 0 < ps.length) : ∃ g cap, v = .slice (some ⟨g, 0, none⟩) ps.length cap ∧ B ≤ g ∧ g < w.heap.size ∧ Writ w g ps.length := by
  have h' := h
  rcases h with ⟨hl, ⟨_, hn⟩ | ⟨g, cap, cur, hv, hb, hg, hn, hm, hs, ht⟩⟩
  · omega
  · refine ⟨g, cap, hv, hb, ?_, fun j hj => ?_⟩
    · exact (World.ownsRow.lt h' g (by rw [hv]; rfl)).2
    · obtain ⟨p, hp⟩ : ∃ p, ps[j]? = some p := ⟨ps[j], by simp [hj]⟩
      obtain ⟨ao, c, hv', hc⟩ := h'.reads
      rw [hv] at hv'
      simp only [Value.slice.injEq] at hv'
      obtain ⟨g', he, _, _, h2⟩ := hc j p hp
      rw [← hv'.1] at he
      simp only [Option.some.injEq, Addr.mk.injEq, and_true] at he
      rw [← he] at h2
      exact ⟨⟨_, h2⟩, Lib.frozen_of_heap hg _⟩
theorem set_pos (ps : Flds) (n v : List UInt8) : 0 < (setL ps n v).length := by
  cases ps with
  | nil => simp [setL]
  | cons p r => rw [setL]; split <;> simp
theorem add_pos (ps : Flds) (n v : List UInt8) : 0 < (addL ps n v).length := by simp [addL]
theorem add_len (ps : Flds) (n v : List UInt8) : (addL ps n v).length = ps.length + 1 := by simp [addL]
theorem are_same (va vb : Value) (l : Flds) (w : World) (ha : ReadsQ w va l) (hb : ReadsQ w vb l) (hl : l.length ≤ 1000000) :
    Calls Try.prog 19 #[va, vb] w fun e w' => e = .returned (.bool true) ∧ Below w.heap.size w w' :=
  (are_any va vb l l w ha hb hl hl).mono fun e w' ⟨he, n, hw⟩ => ⟨by rw [he, decide_eq_true rfl], by rw [hw]; exact below_drewN (Below.refl _ _) n⟩

set_option maxHeartbeats 1000000 in
set_option maxRecDepth 100000 in
theorem walk_big (lv : Value) (ps : Flds) (s t : ByteArray) (w : World) (hr : ReadsQ w lv ps) (hl : ps.length ≤ 9223372036854775807) (hb : ∀ p ∈ ps, p.1.length ≤ 140737488355328 ∧ p.2.length ≤ 140737488355328)
    (hs : s.size ≤ 140737488355328) (ht : t.size ≤ 140737488355328) (hbig : smallB ps = false ∨ 1000 < s.size + t.size) :
    Calls Try.prog 4 #[lv, .string s, .string t] w fun e w' => e = .returned (.bool true) ∧ Below w.heap.size w w' := by
  have S := fun w hr => small_any lv ps w hr hl hb
  have HR := Lib.hid hr
  clear hb
  obtain ⟨ao, cap, rfl, hc⟩ := hr
  clear hc
  cases hsm : smallB ps with
  | false =>
    rw [hsm] at S
    go_enter Try.func4, Try.ntmps4
    go_wp2_with fail
    refine (awake_any _).mono ?_
    rintro e w1 ⟨rfl, hB⟩
    go_wp2_with fail
    refine (S _ (HR.out.below hB)).mono ?_
    rintro e w2 ⟨rfl, hB2⟩
    go_wp2_with fail
    refine (awake_any _).mono ?_
    rintro e w3 ⟨rfl, hB3⟩
    go_wp2_with fail
    go_ret
    exact ⟨rfl, hB.trans ((hB2.trans (hB3.mono hB2.size)).mono hB.size)⟩
  | true =>
    have hbig' : 1000 < s.size + t.size := by
      rcases hbig with h | h
      · rw [hsm] at h; cases h
      · exact h
    rw [hsm] at S
    clear hbig hsm
    go_enter Try.func4, Try.ntmps4
    go_wp2_with fail
    refine (awake_any _).mono ?_
    rintro e w1 ⟨rfl, hB⟩
    go_wp2_with fail
    refine (S _ (HR.out.below hB)).mono ?_
    rintro e w2 ⟨rfl, hB2⟩
    go_wp2_with fail
    refine (awake_any _).mono ?_
    rintro e w3 ⟨rfl, hB3⟩
    go_wp2_with fail
    go_ret
    exact ⟨rfl, hB.trans ((hB2.trans (hB3.mono hB2.size)).mono hB.size)⟩

set_option maxHeartbeats 4000000 in
set_option maxRecDepth 100000 in
theorem walk (lv : Value) (ps : Flds) (s t : ByteArray) (w : World) (hr : ReadsQ w lv ps) (hl : ps.length ≤ 9223372036854775807) (hb : ∀ p ∈ ps, p.1.length ≤ 140737488355328 ∧ p.2.length ≤ 140737488355328) (hsn : Sane lv)
    (hs : s.size ≤ 140737488355328) (ht : t.size ≤ 140737488355328) :
    Calls Try.prog 4 #[lv, .string s, .string t] w fun e w' => e = .returned (.bool true) ∧ Below w.heap.size w w' := by
  by_cases hbig : smallB ps = false ∨ 1000 < s.size + t.size
  · exact walk_big lv ps s t w hr hl hb hs ht hbig
  · have hsm : smallB ps = true := by
      cases h : smallB ps with
      | true => rfl
      | false => exact absurd (.inl h) hbig
    have hst : s.size + t.size ≤ 1000 := by
      rcases Nat.lt_or_ge 1000 (s.size + t.size) with h | h
      · exact absurd (.inr h) hbig
      · exact h
    have S := fun w hr => small_any lv ps w hr hl hb
    rw [hsm] at S
    obtain ⟨h70, h6⟩ := small_yes hsm
    have hb6 : ∀ p ∈ ps, p.1.length + p.2.length ≤ 1000000 := fun p hp => by have := h6 p hp; omega
    have hzs : s.data.toList.length ≤ 1000000000 := by rw [Array.length_toList]; show s.size ≤ _; omega
    have hzt : t.data.toList.length ≤ 1000000000 := by rw [Array.length_toList]; show t.size ≤ _; omega
    have F := fun w hr => fields_any lv ps w hr (by omega) hb6
    have C1 := fun v w hr => set_any v ps s.data.toList t.data.toList w hr hzs hzt (by omega) hb6
    have C2 := fun v w hr => add_any v ps s.data.toList t.data.toList w hr hzs hzt (by omega)
    have C3 := fun v w hr => remove_any v ps s w hr (by omega) (by omega) hb6
    have R1 := fun w hr => refSet_any lv ps s.data.toList t.data.toList w hr hsn hzs hzt (by omega) hb6
    have R2 := fun w hr => refAdd_any lv ps s.data.toList t.data.toList w hr hsn hzs hzt (by omega)
    have R3 := fun w hr => refRemove_any lv ps s.data.toList w hr hzs (by omega) hb6
    have A0 := fun v w h1 h2 => are_same v lv ps w h1 h2 (by omega)
    have A1 := fun v v2 w h1 h2 => are_same v v2 (setL ps s.data.toList t.data.toList) w h1 h2 (by have := set_len ps s.data.toList t.data.toList; omega)
    have A2 := fun v v2 w h1 h2 => are_same v v2 (addL ps s.data.toList t.data.toList) w h1 h2 (by have := add_len ps s.data.toList t.data.toList; omega)
    have A3 := fun v v2 w h1 h2 => are_same v v2 (remL ps s.data.toList) w h1 h2 (by have := rem_len ps s.data.toList; omega)
    rw [strB_of, strB_of] at C1 C2 R1 R2
    rw [strB_of] at R3
    have hl1 := set_len ps s.data.toList t.data.toList
    have hl2 := Nat.le_of_eq (add_len ps s.data.toList t.data.toList)
    have hp1 := set_pos ps s.data.toList t.data.toList
    have hp2 := add_pos ps s.data.toList t.data.toList
    generalize setL ps s.data.toList t.data.toList = l1 at C1 R1 A1 hl1 hp1
    generalize addL ps s.data.toList t.data.toList = l2 at C2 R2 A2 hl2 hp2
    generalize remL ps s.data.toList = l3 at C3 R3 A3
    have HR := Lib.hid hr
    have HS := Lib.hid S
    have HF := Lib.hid F
    have HC1 := Lib.hid C1
    have HC2 := Lib.hid C2
    have HC3 := Lib.hid C3
    have HR1 := Lib.hid R1
    have HR2 := Lib.hid R2
    have HR3 := Lib.hid R3
    have HA0 := Lib.hid A0
    have HA1 := Lib.hid A1
    have HA2 := Lib.hid A2
    have HA3 := Lib.hid A3
    clear hb hsm h6 hb6 hzs hzt S F C1 C2 C3 R1 R2 R3 A0 A1 A2 A3 hsn hbig
    obtain ⟨ao, cap, rfl, hc⟩ := hr
    clear hc
    go_enter Try.func4, Try.ntmps4
    go_wp2_with fail
    refine (awake_any _).mono ?_
    rintro e w1 ⟨rfl, hB⟩
    go_wp2_with fail
    refine (HS.out _ (HR.out.below hB)).mono ?_
    rintro e w2 ⟨rfl, hB2⟩
    have hB' := hB.trans (hB2.mono hB.size)
    clear hB hB2 HS
    go_wp2_with fail
    refine (HF.out _ (HR.out.below hB')).mono ?_
    rintro e w3 ⟨vf, rfl, hO, hB3⟩
    have hB3' := hB'.trans (hB3.mono hB'.size)
    have hq := hO.q
    have HQ := Lib.hid hq
    clear hB' hB3 HF hO hq
    go_wp2_with fail
    refine (HC1.out vf _ HQ.out).mono ?_
    rintro e w4 ⟨v1, rfl, hO1, hB4⟩
    go_wp2_with fail
    refine (HC2.out vf _ (HQ.out.below hB4)).mono ?_
    rintro e w5 ⟨v2, rfl, hO2, hB5⟩
    have hO1 := OwnsP.below hO1 hB5
    have hO2 := OwnsP.mono hB4.size hO2
    have hB5 := hB4.trans (hB5.mono hB4.size)
    clear hB4
    go_wp2_with fail
    refine (HC3.out vf _ (HQ.out.below hB5)).mono ?_
    rintro e w6 ⟨v3, rfl, hO3, hB6⟩
    have hO1 := OwnsP.below hO1 hB6
    have hO2 := OwnsP.below hO2 hB6
    have hB6 := hB5.trans (hB6.mono hB5.size)
    clear hB5 HC1 HC2 HC3
    obtain ⟨g1, c1, rfl, hg1, hgl1, hW1⟩ := opens hO1 hp1
    obtain ⟨g2, c2, rfl, hg2, hgl2, hW2⟩ := opens hO2 hp2
    obtain ⟨a3, n3, c3, rfl⟩ : ∃ a n c, v3 = .slice a n c := by
      obtain ⟨a, c, h, _⟩ := hO3.q
      exact ⟨_, _, _, h⟩
    have HO1 := Lib.hid hO1
    have HO2 := Lib.hid hO2
    have HO3 := Lib.hid hO3
    have HW1 := Lib.hid hW1
    have HW2 := Lib.hid hW2
    clear hO1 hO2 hO3 hW1 hW2
    have hz3 := hB3'.size
    go_wp2_with fail
    refine (HR1.out _ (HR.out.below (hB3'.trans (hB6.mono hz3)))).mono ?_
    rintro e w7 ⟨u1, rfl, hU1, hB7⟩
    go_wp2_with fail
    refine (HA1.out _ u1 _ (HO1.out.q.below hB7) hU1.q).mono ?_
    rintro e w8 ⟨rfl, hB8⟩
    have hB8 := hB7.trans (hB8.mono hB7.size)
    clear hU1 hB7 HR1 HA1
    go_wp2_with fail
    refine (HR2.out _ (HR.out.below ((hB3'.trans (hB6.mono hz3)).trans (hB8.mono (Nat.le_trans hz3 hB6.size))))).mono ?_
    rintro e w9 ⟨u2, rfl, hU2, hB9⟩
    have hB9' := hB8.trans (hB9.mono hB8.size)
    go_wp2_with fail
    refine (HA2.out _ u2 _ (HO2.out.q.below hB9') hU2.q).mono ?_
    rintro e w10 ⟨rfl, hB10⟩
    have hB10 := hB9'.trans (hB10.mono hB9'.size)
    clear hU2 hB9 hB9' hB8 HR2 HA2
    go_wp2_with fail
    refine (HR3.out _ (HR.out.below ((hB3'.trans (hB6.mono hz3)).trans (hB10.mono (Nat.le_trans hz3 hB6.size))))).mono ?_
    rintro e w11 ⟨u3, rfl, hU3, hB11⟩
    have hB11' := hB10.trans (hB11.mono hB10.size)
    go_wp2_with fail
    refine (HA3.out _ u3 _ (HO3.out.q.below hB11') hU3.q).mono ?_
    rintro e w12 ⟨rfl, hB12⟩
    have hB12 := hB11'.trans (hB12.mono hB11'.size)
    clear hU3 hB11 hB11' hB10 HR3 HA3 HO1 HO2 HO3
    have hW1' := HW1.out.below hgl1 hB12
    have hW2' := HW2.out.below hgl2 hB12
    have HW1' := Lib.hid hW1'
    have HW2' := Lib.hid hW2'
    have hBB := hB6.trans (hB12.mono hB6.size)
    clear hW1' hW2' HW1 HW2 hB6 hB12
    have hzB := hBB.size
    go_wp2_with fail
    go_loopw [68] (fun i wr => ∃ k : Nat, i = .int .i64 k ∧ k ≤ l1.length ∧ Writ wr g1 l1.length ∧ Writ wr g2 l2.length ∧ Below w3.heap.size w3 wr) (fun i _ => l1.length - (intOf i).toNat)
    case atStart => exact ⟨0, rfl, Nat.zero_le _, HW1'.out, HW2'.out, hBB⟩
    case round =>
      obtain ⟨k, rfl, hk, hA, hBw, hBr⟩ := hrel
      by_cases hlt : k < l1.length
      · obtain ⟨⟨x, hx⟩, hfz⟩ := hA k hlt
        have HA := Lib.hid hA
        have HBw := Lib.hid hBw
        clear hA hBw
        go_wp2
        go_roundw
        case rel => exact ⟨k + 1, by go_num, by omega, HA.out.setCell _ _, HBw.out.setCell _ _, hBr.setCell (p := ⟨g1, k * 2 + 1, none⟩) hg1 _⟩
        case measure => simp [intOf]; omega
      · have HBw := Lib.hid hBw
        clear hA hBw
        go_wp2
        go_loopw [78] (fun i wr => ∃ k : Nat, i = .int .i64 k ∧ k ≤ l2.length ∧ Writ wr g2 l2.length ∧ Below w3.heap.size w3 wr) (fun i _ => l2.length - (intOf i).toNat)
        case atStart => exact ⟨0, rfl, Nat.zero_le _, HBw.out, hBr⟩
        case round =>
          obtain ⟨j, rfl, hj, hC, hBs⟩ := hrel
          by_cases hlj : j < l2.length
          · obtain ⟨⟨x, hx⟩, hfz⟩ := hC j hlj
            have HC := Lib.hid hC
            clear hC
            go_wp2
            go_roundw
            case rel => exact ⟨j + 1, by go_num, by omega, HC.out.setCell _ _, hBs.setCell (p := ⟨g2, j * 2 + 1, none⟩) hg2 _⟩
            case measure => simp [intOf]; omega
          · clear hC
            have hB0 := hB3'.trans (hBs.mono hz3)
            go_wp2_with fail
            refine (HA0.out vf _ (HQ.out.below hBs) (HR.out.below hB0)).mono ?_
            rintro e w13 ⟨rfl, hB13⟩
            go_wp2_with fail
            go_ret
            exact ⟨rfl, hB0.trans (hB13.mono hB0.size)⟩
end Go.Proofs.Ythpjemihbobjfaa.sets
