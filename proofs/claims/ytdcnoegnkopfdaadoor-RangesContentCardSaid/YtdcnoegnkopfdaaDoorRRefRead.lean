/- What the reference's ReadContentRange returns. -/
import Derived.Test.YtdcnoegnkopfdaaDoorRRefCR
import Derived.Test.YtdcnoegnkopfdaaDoorRRead
namespace Go.Proofs.YtdcnoegnkopfdaaDoor
open Go.RowKit

theorem refRead_pre {s : List UInt8} (h : preC.isPrefixOf s = false) : refRead s = none := by unfold refRead; rw [h]; rfl
theorem refRead_at {s a b size rest : List UInt8} {f g : Bool} (h : preC.isPrefixOf s = true) (h1 : cut9 45 (s.drop 6) = (a, rest, f)) (h2 : cut9 47 rest = (b, size, g)) :
    refRead s = if f = true ∧ g = true then (match num9 a, num9 b, num9 size with
      | some x, some y, some n => if crR ((x : Int), (y : Int) + 1) n = some s then some (((x : Int), (y : Int) + 1), (n : Int)) else none
      | _, _, _ => none) else none := by
  unfold refRead
  rw [if_pos h, h1]
  simp only
  rw [h2]
  rfl
theorem refRead_f {s a b size rest : List UInt8} {f g : Bool} (h : preC.isPrefixOf s = true) (h1 : cut9 45 (s.drop 6) = (a, rest, f)) (h2 : cut9 47 rest = (b, size, g)) (hf : (f && g) = false) : refRead s = none := by
  rw [refRead_at h h1 h2, if_neg (by rintro ⟨rfl, rfl⟩; cases hf)]
theorem refRead_n {s a b size rest : List UInt8} (h : preC.isPrefixOf s = true) (h1 : cut9 45 (s.drop 6) = (a, rest, true)) (h2 : cut9 47 rest = (b, size, true)) (hn : num9 a = none ∨ num9 b = none ∨ num9 size = none) : refRead s = none := by
  rw [refRead_at h h1 h2, if_pos ⟨rfl, rfl⟩]
  rcases hn with hn | hn | hn
  · rw [hn]
  · rw [hn]; cases num9 a <;> rfl
  · rw [hn]; cases num9 a <;> cases num9 b <;> rfl
theorem refRead_y {s a b size rest : List UInt8} {x y n : Nat} (h : preC.isPrefixOf s = true) (h1 : cut9 45 (s.drop 6) = (a, rest, true)) (h2 : cut9 47 rest = (b, size, true)) (ha : num9 a = some x) (hb : num9 b = some y) (hn : num9 size = some n) :
    refRead s = if crR ((x : Int), (y : Int) + 1) n = some s then some (((x : Int), (y : Int) + 1), (n : Int)) else none := by
  rw [refRead_at h h1 h2, if_pos ⟨rfl, rfl⟩, ha, hb, hn]
theorem preC_six {l : List UInt8} (h : 6 ≤ l.length) {b : Bool} (hp : preC.isPrefixOf l = b) : (l.take 6 == preC) = b := by
  rw [← hp, Bool.eq_iff_iff, List.isPrefixOf_iff_prefix, beq_iff_eq]
  constructor
  · intro e; rw [← e]; exact List.take_prefix 6 l
  · intro e
    have := List.prefix_iff_eq_take.mp e
    rw [this]; rfl
theorem preC_short {l : List UInt8} (h : l.length < 6) : preC.isPrefixOf l = false := by
  rw [Bool.eq_false_iff]; intro hp
  have := (List.isPrefixOf_iff_prefix.mp hp).length_le
  simp [preC] at this; omega
def rfE : Value := .tuple #[rgV (0, 0), .int .i64 0, .bool false]
def rfV : Option (Rg × Int) → Value
  | none => rfE
  | some p => .tuple #[rgV p.1, .int .i64 p.2, .bool true]
set_option maxHeartbeats 8000000 in
set_option maxRecDepth 100000 in
theorem refReadCR_any (s : ByteArray) (w : World) (hs : s.size ≤ 100000) :
    Calls Tryd.prog 22 #[.string s] w fun e w' => e = .returned (rfV (refRead s.data.toList)) ∧ Below w.heap.size w w' := by
  have hlen : s.data.toList.length = s.size := by simp
  by_cases h6 : s.size < 6
  · have HR := Lib.hid (refRead_pre (preC_short (l := s.data.toList) (by omega)))
    go_enter Tryd.func22, Tryd.ntmps22
    go_wp2
    exact bodyPost_ret (v := rfE) (by simp [results, Tryd.results22, go_sem, rfE]) rfl ⟨by rw [HR.out]; rfl, below_new _ _⟩
  have h6' : 6 ≤ s.size := by omega
  cases hp : preC.isPrefixOf s.data.toList with
  | false =>
    have HR := Lib.hid (refRead_pre hp)
    have hq : ((s.extract 0 6).toList == [98, 121, 116, 101, 115, 32]) = false := by
      rw [ByteArray.toList_eq, seg_list, List.drop_zero]
      exact preC_six (by omega) hp
    clear hp h6
    go_enter Tryd.func22, Tryd.ntmps22
    go_wp2
    exact bodyPost_ret (v := rfE) (by simp [results, Tryd.results22, go_sem, rfE]) rfl ⟨by rw [HR.out]; rfl, below_new _ _⟩
  | true =>
    have hq : ((s.extract 0 6).toList == [98, 121, 116, 101, 115, 32]) = true := by
      rw [ByteArray.toList_eq, seg_list, List.drop_zero]
      exact preC_six (by omega) hp
    have hdl : (s.extract 6 s.size).data.toList = s.data.toList.drop 6 := by rw [seg_list, List.take_of_length_le (by simp)]
    obtain ⟨a, rest, f, h1⟩ : ∃ a b f, cut9 45 (s.data.toList.drop 6) = (a, b, f) := ⟨_, _, _, rfl⟩
    obtain ⟨b, size, g, h2⟩ : ∃ a b f, cut9 47 rest = (a, b, f) := ⟨_, _, _, rfl⟩
    have l1 := cut9_len 45 (s.data.toList.drop 6)
    rw [h1, List.length_drop] at l1
    have l2 := cut9_len 47 rest
    rw [h2] at l2
    simp only at l1 l2
    have HC1 := Lib.hid (fun (w : World) => refCut_any (s.extract 6 s.size) 45 w (by rw [ByteArray.size_extract]; omega) (a := a) (b := rest) (f := f) (by rw [hdl]; exact h1))
    have HC2 := Lib.hid (fun (w : World) => refCut_any (strB rest) 47 w (by rw [strB_size]; omega) (a := b) (b := size) (f := g) (by rw [strB_list]; exact h2))
    have la : a.length ≤ 1000000 := by omega
    have lb : b.length ≤ 1000000 := by omega
    have ls : size.length ≤ 1000000 := by omega
    have HRF := Lib.hid (fun (hf : (f && g) = false) => refRead_f hp h1 h2 hf)
    cases f with
    | false =>
      have HR := Lib.hid (HRF.out rfl)
      clear h6 hdl h1 h2 l1 l2 hp
      go_enter Tryd.func22, Tryd.ntmps22
      go_wp2_with fail
      refine (HC1.out _).mono ?_
      rintro e w' ⟨rfl, k1, rfl⟩
      go_wp2_with fail
      refine (HC2.out _).mono ?_
      rintro e w' ⟨rfl, k2, rfl⟩
      go_wp2_with fail
      exact bodyPost_ret (v := rfE) (by simp [results, Tryd.results22, go_sem, rfE]) rfl ⟨by rw [HR.out]; rfl, below_two (below_drewN (below_new _ _) _) (Nat.le_refl _) _ _⟩
    | true =>
      cases g with
      | false =>
        have HR := Lib.hid (HRF.out rfl)
        clear h6 hdl h1 h2 l1 l2 hp
        go_enter Tryd.func22, Tryd.ntmps22
        go_wp2_with fail
        refine (HC1.out _).mono ?_
        rintro e w' ⟨rfl, k1, rfl⟩
        go_wp2_with fail
        refine (HC2.out _).mono ?_
        rintro e w' ⟨rfl, k2, rfl⟩
        go_wp2_with fail
        exact bodyPost_ret (v := rfE) (by simp [results, Tryd.results22, go_sem, rfE]) rfl ⟨by rw [HR.out]; rfl, below_two (below_drewN (below_new _ _) _) (Nat.le_refl _) _ _⟩
      | true =>
        cases ha : num9 a with
        | none =>
          have HR := Lib.hid (refRead_n hp h1 h2 (.inl ha))
          have HD1 := Lib.hid (fun w => digF a w la ha)
          clear h6 hdl h1 h2 l1 l2 hp ha
          go_enter Tryd.func22, Tryd.ntmps22
          go_wp2_with fail
          refine (HC1.out _).mono ?_
          rintro e w' ⟨rfl, k1, rfl⟩
          go_wp2_with fail
          refine (HC2.out _).mono ?_
          rintro e w' ⟨rfl, k2, rfl⟩
          go_wp2_with fail
          refine (HD1.out _).mono ?_
          rintro e w' ⟨rfl, rfl⟩
          go_wp2_with fail
          exact bodyPost_ret (v := rfE) (by simp [results, Tryd.results22, go_sem, rfE]) rfl ⟨by rw [HR.out]; rfl, below_two (below_drewN (below_new _ _) _) (Nat.le_refl _) _ _⟩
        | some x =>
          have HD1 := Lib.hid (fun w => digT a w la ha)
          have HV1 := Lib.hid (fun w => valN a w ha)
          cases hb : num9 b with
          | none =>
            have HR := Lib.hid (refRead_n hp h1 h2 (.inr (.inl hb)))
            have HD2 := Lib.hid (fun w => digF b w lb hb)
            clear h6 hdl h1 h2 l1 l2 hp ha hb
            go_enter Tryd.func22, Tryd.ntmps22
            go_wp2_with fail
            refine (HC1.out _).mono ?_
            rintro e w' ⟨rfl, k1, rfl⟩
            go_wp2_with fail
            refine (HC2.out _).mono ?_
            rintro e w' ⟨rfl, k2, rfl⟩
            go_wp2_with fail
            refine (HD1.out _).mono ?_
            rintro e w' ⟨rfl, rfl⟩
            go_wp2_with fail
            refine (HD2.out _).mono ?_
            rintro e w' ⟨rfl, rfl⟩
            go_wp2_with fail
            exact bodyPost_ret (v := rfE) (by simp [results, Tryd.results22, go_sem, rfE]) rfl ⟨by rw [HR.out]; rfl, below_two (below_drewN (below_new _ _) _) (Nat.le_refl _) _ _⟩
          | some y =>
            have HD2 := Lib.hid (fun w => digT b w lb hb)
            have HV2 := Lib.hid (fun w => valN b w hb)
            cases hn : num9 size with
            | none =>
              have HR := Lib.hid (refRead_n hp h1 h2 (.inr (.inr hn)))
              have HD3 := Lib.hid (fun w => digF size w ls hn)
              clear h6 hdl h1 h2 l1 l2 hp ha hb hn
              go_enter Tryd.func22, Tryd.ntmps22
              go_wp2_with fail
              refine (HC1.out _).mono ?_
              rintro e w' ⟨rfl, k1, rfl⟩
              go_wp2_with fail
              refine (HC2.out _).mono ?_
              rintro e w' ⟨rfl, k2, rfl⟩
              go_wp2_with fail
              refine (HD1.out _).mono ?_
              rintro e w' ⟨rfl, rfl⟩
              go_wp2_with fail
              refine (HD2.out _).mono ?_
              rintro e w' ⟨rfl, rfl⟩
              go_wp2_with fail
              refine (HD3.out _).mono ?_
              rintro e w' ⟨rfl, rfl⟩
              go_wp2_with fail
              exact bodyPost_ret (v := rfE) (by simp [results, Tryd.results22, go_sem, rfE]) rfl ⟨by rw [HR.out]; rfl, below_two (below_drewN (below_new _ _) _) (Nat.le_refl _) _ _⟩
            | some n =>
              have HR := Lib.hid (refRead_y hp h1 h2 ha hb hn)
              have HD3 := Lib.hid (fun w => digT size w ls hn)
              have HV3 := Lib.hid (fun w => valN size w hn)
              have hy := num9_lt hb
              have hx := num9_lt ha
              have hnn := num9_lt hn
              have HCR := Lib.hid (fun (w : World) => refCR_any ((x : Int), (y : Int) + 1) (n : Int) w)
              clear h6 hdl h1 h2 l1 l2 hp ha hb hn
              go_enter Tryd.func22, Tryd.ntmps22
              go_wp2_with fail
              refine (HC1.out _).mono ?_
              rintro e w' ⟨rfl, k1, rfl⟩
              go_wp2_with fail
              refine (HC2.out _).mono ?_
              rintro e w' ⟨rfl, k2, rfl⟩
              go_wp2_with fail
              refine (HD1.out _).mono ?_
              rintro e w' ⟨rfl, rfl⟩
              go_wp2_with fail
              refine (HD2.out _).mono ?_
              rintro e w' ⟨rfl, rfl⟩
              go_wp2_with fail
              refine (HD3.out _).mono ?_
              rintro e w' ⟨rfl, rfl⟩
              go_wp2_with fail
              refine (HV1.out _).mono ?_
              rintro e w' ⟨rfl, rfl⟩
              go_wp2_with fail
              refine (HV2.out _).mono ?_
              rintro e w' ⟨rfl, rfl⟩
              go_wp2_with fail
              refine (HV3.out _).mono ?_
              rintro e w' ⟨rfl, rfl⟩
              go_wp2_with fail
              refine (HCR.out _).mono ?_
              rintro e w3 ⟨he, hB3⟩
              have hW1 := (below_drewN (below_new w (.cells #[.int .i64 0, .int .i64 0] 43)) (k1 + k2)).alloc (by simp) (.cells #[.int .i64 (x : Int), .int .i64 ((y : Int) + 1)] 43)
              have HW3 := Lib.hid (hW1.trans (hB3.mono hW1.size))
              have h3 := (((twoI_new w 0 0 43).drewN (k1 + k2)).below (below_new _ (.cells #[.int .i64 (x : Int), .int .i64 ((y : Int) + 1)] 43))).below hB3
              have h4 := (twoI_new ((w.alloc (.cells #[.int .i64 0, .int .i64 0] 43)).drewN (k1 + k2)) (x : Int) ((y : Int) + 1) 43).below hB3
              obtain ⟨c0, c1, f0, f1, hN⟩ := h3
              obtain ⟨d0, d1, g0, g1, hN2⟩ := h4
              have eN : ((w.alloc (.cells #[.int .i64 0, .int .i64 0] 43)).drewN (k1 + k2)).heap.size = w.heap.size + 1 := by simp
              rw [eN] at d0 d1 g0 g1 hN2
              clear hB3 hW1
              cases hcr : crR ((x : Int), (y : Int) + 1) (n : Int) with
              | none =>
                rw [hcr] at he
                have HE := Lib.hid (show refRead s.data.toList = none by rw [HR.out, hcr]; rfl)
                unfold crT at he
                subst he
                clear hcr
                go_wp2_with fail
                exact bodyPost_ret (v := rfE) (by simp [results, Tryd.results22, go_sem, rfE, c0, c1, f0, f1]) rfl ⟨by rw [HE.out]; rfl, below_two HW3.out (Nat.le_refl _) _ _⟩
              | some u =>
                rw [hcr] at he
                unfold crT at he
                subst he
                by_cases hus : u = s.data.toList
                · have HE := Lib.hid (show refRead s.data.toList = some (((x : Int), (y : Int) + 1), (n : Int)) by rw [HR.out, hcr, hus, if_pos rfl])
                  have heq := strB_beq hus
                  clear hcr hus
                  go_wp2_with fail
                  exact bodyPost_ret (v := .tuple #[rgV ((x : Int), (y : Int) + 1), .int .i64 (n : Int), .bool true]) (by simp [results, Tryd.results22, go_sem, c0, c1, f0, f1, d0, d1]) rfl ⟨by rw [HE.out]; rfl, below_two HW3.out (Nat.le_refl _) _ _⟩
                · have HE := Lib.hid (show refRead s.data.toList = none by rw [HR.out, hcr, if_neg (by simpa using hus)])
                  have heq := strB_bne hus
                  clear hcr hus
                  go_wp2_with fail
                  exact bodyPost_ret (v := rfE) (by simp [results, Tryd.results22, go_sem, rfE, c0, c1, f0, f1]) rfl ⟨by rw [HE.out]; rfl, below_two HW3.out (Nat.le_refl _) _ _⟩
end Go.Proofs.YtdcnoegnkopfdaaDoor
