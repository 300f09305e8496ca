import Derived.Test.YtkpeaghbacoehaaGreatDoorPqYRangesCard0
import Derived.Test.YtkpeaghbacoehaaGreatDoorTrim
import Derived.Test.YtkpeaghbacoehaaGreatDoorPqYRangesCard1
import Derived.Deep.RegionHeld3
import Derived.Deep.QuietTactic
import Derived.BigQuiet
import Derived.Test.YtkpeaghbacoehaaGreatDoorRefGet
import Derived.Test.YtkpeaghbacoehaaGreatDoorHRefParse
import Derived.Deep.DeepCutAuto
import Derived.Deep.CutBlock
/- What the reference's Right, Write, Read, Strong and Weak return. -/
namespace Go.Proofs.YtkpeaghbacoehaaGreatDoor
open Go.RowKit

set_option maxHeartbeats 2000000 in
set_option maxRecDepth 100000 in
theorem right_any (s : ByteArray) (w : World) (hs : s.size ≤ 4611686018427387904) :
    Calls Tryz.prog 35 #[.string s] w fun e w' => e = .returned (.bool (txtB s.data.toList)) ∧ w = w' := by
  go_enter Tryz.func35, Tryz.ntmps35
  go_wp2
  go_loop [6] (fun i => ∃ k : Nat, k ≤ s.size ∧ i = .int .i64 k ∧ txtB (s.data.toList.take k) = true) (fun i => s.size - (intOf i).toNat)
  case atStart => exact ⟨0, by omega, rfl, by simp [txtB]⟩
  case round =>
    obtain ⟨k, hk, rfl, hn⟩ := hrel
    have HN := Lib.hid hn
    clear hn
    by_cases hlt : k < s.size
    · by_cases c1 : s[k].toNat ≤ 32
      · have HR := Lib.hid (txt_bad hlt ((txtC_iff _).mpr (.inl c1)))
        have hc1 : (s[k].toNat : Int) ≤ 32 := by omega
        go_wp2
        go_ret
        exact ⟨by first | (rw [HR.out]; rfl) | rw [HR.out], rfl⟩
      · have hc1 : ¬ (s[k].toNat : Int) ≤ 32 := by omega
        by_cases c2 : s[k].toNat = 34
        · have HR := Lib.hid (txt_bad hlt ((txtC_iff _).mpr (.inr (.inl c2))))
          have hc2 : ((s[k].toNat : Int) == 34) = true := by simp; omega
          go_wp2
          go_ret
          exact ⟨by first | (rw [HR.out]; rfl) | rw [HR.out], rfl⟩
        · have hc2 : ((s[k].toNat : Int) == 34) = false := by simp; omega
          by_cases c3 : s[k].toNat = 127
          · have HR := Lib.hid (txt_bad hlt ((txtC_iff _).mpr (.inr (.inr c3))))
            have hc3 : ((s[k].toNat : Int) == 127) = true := by simp; omega
            go_wp2
            go_ret
            exact ⟨by first | (rw [HR.out]; rfl) | rw [HR.out], rfl⟩
          · have hc3 : ((s[k].toNat : Int) == 127) = false := by simp; omega
            have HT := Lib.hid (txt_step hlt HN.out (by
              cases hx : txtC s[k] with
              | true => rfl
              | false => rcases (txtC_iff _).mp hx with h | h | h <;> omega))
            go_wp2
            go_round
            case rel => exact ⟨k + 1, by omega, by go_num, HT.out⟩
            case measure => simp [intOf]; omega
    · have HR := Lib.hid (txt_all (by omega) HN.out)
      go_wp2
      go_ret
      exact ⟨by first | (rw [HR.out]; rfl) | rw [HR.out], rfl⟩

def texR (t : Tg) : Value := if txtB t.2 = true then .tuple #[strV (texL t), .bool true] else .tuple #[strV [], .bool false]
def tgR : Option Tg → Value
  | none => .tuple #[tgV (false, []), .bool false]
  | some t => .tuple #[tgV t, .bool true]
set_option maxHeartbeats 1000000 in
theorem refWrite_any (t : Tg) (w : World) (ht : t.2.length ≤ 1000000) :
    Calls Tryz.prog 14 #[tgV t] w fun e w' => e = .returned (texR t) ∧ Below w.heap.size w w' := by
  obtain ⟨k, a⟩ := t
  have ht' : a.length ≤ 1000000 := ht
  have HT := Lib.hid (fun (w : World) => right_any (strB a) w (by rw [strB_size]; omega))
  rw [strB_list] at HT
  have HR := Lib.hid (show texR (k, a) = if txtB a = true then .tuple #[strV (texL (k, a)), .bool true] else .tuple #[strV [], .bool false] from rfl)
  have hsz : (strB a).size = a.length := strB_size a
  have hgo : ∀ x : Bool, txtB a = x → Calls Tryz.prog 14 #[tgV (k, a)] w fun e w' => e = .returned (texR (k, a)) ∧ Below w.heap.size w w' := by
    intro x hx
    rw [hx] at HT HR
    clear hx
    cases x
    · have HR2 := Lib.hid (show texR (k, a) = .tuple #[strV [], .bool false] by rw [HR.out]; rfl)
      go_enter Tryz.func14, Tryz.ntmps14
      go_wp2_with fail
      refine (HT.out _).mono ?_
      rintro e w' ⟨rfl, rfl⟩
      go_wp2_with fail
      go_ret2
      exact ⟨by first | (rw [HR2.out]; rfl) | rw [HR2.out], below_new _ _⟩
    · have HR2 := Lib.hid (show texR (k, a) = .tuple #[strV (texL (k, a)), .bool true] by rw [HR.out]; rfl)
      cases k
      · have HE := Lib.hid (show (⟨#[34]⟩ : ByteArray) ++ strB a ++ ⟨#[34]⟩ = strB (texL (false, a)) by apply strB_ext; simp [strB, texL])
        go_enter Tryz.func14, Tryz.ntmps14
        go_wp2_with fail
        refine (HT.out _).mono ?_
        rintro e w' ⟨rfl, rfl⟩
        go_wp2_with fail
        go_ret2
        exact ⟨by rw [HR2.out]; show _ = Ending.returned (.tuple #[.string (strB (texL (false, a))), .bool true]); rw [← HE.out]; rfl, below_new _ _⟩
      · have HE := Lib.hid (show (⟨#[87, 47, 34]⟩ : ByteArray) ++ strB a ++ ⟨#[34]⟩ = strB (texL (true, a)) by apply strB_ext; simp [strB, texL])
        go_enter Tryz.func14, Tryz.ntmps14
        go_wp2_with fail
        refine (HT.out _).mono ?_
        rintro e w' ⟨rfl, rfl⟩
        go_wp2_with fail
        go_ret2
        exact ⟨by rw [HR2.out]; show _ = Ending.returned (.tuple #[.string (strB (texL (true, a))), .bool true]); rw [← HE.out]; rfl, below_new _ _⟩
  exact hgo _ rfl
set_option maxHeartbeats 1000000 in
theorem refWeak_any (t u : Tg) (w : World) :
    Calls Tryz.prog 67 #[tgV t, tgV u] w fun e w' => e = .returned (.bool (sameT false t u)) ∧ Below w.heap.size w w' := by
  obtain ⟨k, a⟩ := t
  obtain ⟨j, b⟩ := u
  have hs := same_strB a b
  go_enter Tryz.func67, Tryz.ntmps67
  go_wp2
  go_ret
  exact ⟨by simp [sameT, hs], below_newY _ _ _⟩
set_option maxHeartbeats 1000000 in
theorem refStrong_any (t u : Tg) (w : World) :
    Calls Tryz.prog 50 #[tgV t, tgV u] w fun e w' => e = .returned (.bool (sameT true t u)) ∧ Below w.heap.size w w' := by
  obtain ⟨k, a⟩ := t
  obtain ⟨j, b⟩ := u
  have hs := same_strB a b
  cases k <;> cases j
  all_goals
    go_enter Tryz.func50, Tryz.ntmps50
    go_wp2
    go_ret
    exact ⟨by simp [sameT, hs], below_newY _ _ _⟩

/-- What the reference makes of a text behind its mark. -/
def midR (k : Bool) : List UInt8 → Option Tg
  | [] => none
  | c :: r => if c = 34 ∧ r.getLast? = some 34 ∧ txtB r.dropLast = true then some (k, r.dropLast) else none
theorem midR_cons (k : Bool) (c : UInt8) (r : List UInt8) : midR k (c :: r) = if c = 34 ∧ r.getLast? = some 34 ∧ txtB r.dropLast = true then some (k, r.dropLast) else none := rfl
theorem midR_snoc (k : Bool) (c d : UInt8) (a : List UInt8) : midR k (c :: (a ++ [d])) = if c = 34 ∧ d = 34 ∧ txtB a = true then some (k, a) else none := by
  rw [midR_cons]; simp
theorem unw_tex (k : Bool) (a : List UInt8) : wkL (texL (k, a)) = k ∧ unwL (texL (k, a)) = 34 :: (a ++ [34]) := by
  cases k <;> exact ⟨rfl, rfl⟩
theorem shape (s : List UInt8) : s = [] ∨ (∃ c, s = [c]) ∨ ∃ c a d, s = c :: (a ++ [d]) := by
  cases s with
  | nil => exact .inl rfl
  | cons c r =>
    rcases List.eq_nil_or_concat r with rfl | ⟨a, d, rfl⟩
    · exact .inr (.inl ⟨c, rfl⟩)
    · exact .inr (.inr ⟨c, a, d, by rw [List.concat_eq_append]⟩)
theorem readTL_mid (l : List UInt8) : readTL l = midR (wkL l) (unwL l) := by
  cases h : readTL l with
  | some t =>
    obtain ⟨ht, rfl⟩ := readTL_some h
    obtain ⟨k, a⟩ := t
    have ht' : txtB a = true := ht
    rw [(unw_tex k a).1, (unw_tex k a).2, midR_snoc, if_pos ⟨rfl, rfl, ht'⟩]
  | none =>
    cases hm : midR (wkL l) (unwL l) with
    | none => rfl
    | some t =>
      rcases shape (unwL l) with hu | ⟨c, hu⟩ | ⟨c, a, d, hu⟩
      · rw [hu] at hm; cases hm
      · rw [hu, midR_cons] at hm
        simp at hm
      · rw [hu, midR_snoc] at hm
        by_cases hc : c = 34 ∧ d = 34 ∧ txtB a = true
        · obtain ⟨rfl, rfl, h3⟩ := hc
          have hl : l = texL (wkL l, a) := by
            rcases wk_cases l with ⟨x, hx, hw, hux⟩ | ⟨hw, hux⟩
            · rw [hw]
              rw [hux] at hu
              rw [hx, hu]; simp [texL]
            · rw [hw]
              rw [hux] at hu
              rw [hu]; simp [texL]
          rw [hl, readTL_tex (wkL l, a) h3] at h
          cases h
        · rw [if_neg hc] at hm; cases hm
theorem cmp_strB (s : ByteArray) (x : List UInt8) : (s.toList == x) = decide (s.data.toList = x) := by
  rw [ByteArray.toList_eq]
  by_cases h : s.data.toList = x
  · rw [h]; simp
  · simp [h]
theorem strB_drop2 (c d : UInt8) (t : List UInt8) : (strB (c :: d :: t)).extract 2 (t.length + 2) = strB t := by
  apply strB_ext; rw [Lib.extract_data, strB_list]; simp
theorem pre2 (l : List UInt8) (h : 2 ≤ l.length) : (((strB l).extract 0 2).toList == [87, 47]) = wkL l := by
  rw [cmp_strB, Lib.extract_data, strB_list]
  match l, h with
  | c :: d :: t, _ =>
    by_cases h1 : c = 87
    · by_cases h2 : d = 47
      · subst h1 h2; simp [wkL]
      · subst h1; simp [wkL, h2, Ne.symm h2, List.isPrefixOf]
    · simp [wkL, h1, Ne.symm h1, List.isPrefixOf]
theorem mid_bytes (c d : UInt8) (a : List UInt8) : (strB (c :: (a ++ [d]))).extract 1 (a.length + 1) = strB a := by
  apply strB_ext; rw [Lib.extract_data, strB_list]; simp
theorem mid_last (c d : UInt8) (a : List UInt8) (h : a.length + 1 < (strB (c :: (a ++ [d]))).size) : (strB (c :: (a ++ [d])))[a.length + 1] = d := by
  have : (strB (c :: (a ++ [d])))[a.length + 1] = (strB (c :: (a ++ [d]))).data.toList[a.length + 1]'(by rw [strB_list]; simp) := rfl
  rw [this]; simp only [strB_list]; simp
theorem ne34 {c : UInt8} (h : c ≠ 34) : ((c.toNat : Int) != 34) = true := by
  have : c.toNat ≠ 34 := fun e => h (UInt8.toNat_inj.mp e)
  simp; omega
set_option maxHeartbeats 16000000 in
set_option maxRecDepth 100000 in
theorem refRead_any (l : List UInt8) (w : World) (hl : l.length ≤ 1000000) :
    Calls Tryz.prog 18 #[.string (strB l)] w fun e w' => e = .returned (tgR (readTL l)) ∧ Below w.heap.size w w' := by
  have HW := Lib.hid (below_newY w (.cells #[.bool false, .string ⟨#[]⟩] 23) (.cells #[.bool false, .string ⟨#[]⟩] 23))
  have HQ := Lib.hid (readTL_mid l)
  obtain ⟨b0, b1, g0, g1, hN0⟩ := (twoT_new w false [] 23).below (below_new _ (.cells #[.bool false, .string ⟨#[]⟩] 23))
  obtain ⟨c0, c1, f0, f1, hN⟩ := twoT_new (w.alloc (.cells #[.bool false, .string ⟨#[]⟩] 23)) false [] 23
  have e1 : (w.alloc (.cells #[.bool false, .string ⟨#[]⟩] 23)).heap.size = w.heap.size + 1 := by simp
  rw [e1] at c0 c1 f0 f1 hN
  clear e1 hN hN0
  rcases wk_cases l with ⟨x, rfl, hw, hu⟩ | ⟨hw, hu⟩
  · rcases shape x with rfl | ⟨c, rfl⟩ | ⟨c, a, d, rfl⟩
    · have ez : (strB []).size = 0 := rfl
      have hp2 := pre2 (87 :: 47 :: []) (by simp)
      have hd2 := strB_drop2 87 47 []
      rw [hw] at hp2 HQ
      rw [hu] at HQ
      have hls : (strB (87 :: 47 :: [])).size = 2 := rfl
      simp only [List.length_nil, Nat.zero_add] at hd2
      have HR := Lib.hid (show readTL (87 :: 47 :: []) = none by rw [HQ.out]; rfl)
      go_enter Tryz.func18, Tryz.ntmps18
      go_wp2
      rw [HR.out]
      rw [strB_nil0] at b0 b1 c0 c1
      exact bodyPost_ret (v := tgR none) (by simp [results, Tryz.results18, go_sem, tgR, strB_nil0, b0, b1, g0, g1, c0, c1, f0, f1]) rfl ⟨rfl, by (repeat' first | exact HW.out | exact below_newY _ _ _ | refine Below.setCell ?_ (by show w.heap.size ≤ _; omega) _)⟩
    · have ez : (strB [c]).size = 1 := rfl
      have hp2 := pre2 (87 :: 47 :: [c]) (by simp)
      have hd2 := strB_drop2 87 47 [c]
      rw [hw] at hp2 HQ
      rw [hu] at HQ
      have hls : (strB (87 :: 47 :: [c])).size = 3 := rfl
      simp only [List.length_cons, List.length_nil, Nat.zero_add, Nat.reduceAdd] at hd2
      have HR := Lib.hid (show readTL (87 :: 47 :: [c]) = none by rw [HQ.out]; rw [midR_cons]; simp)
      go_enter Tryz.func18, Tryz.ntmps18
      go_wp2
      rw [HR.out]
      rw [strB_nil0] at b0 b1 c0 c1
      exact bodyPost_ret (v := tgR none) (by simp [results, Tryz.results18, go_sem, tgR, strB_nil0, b0, b1, g0, g1, c0, c1, f0, f1]) rfl ⟨rfl, by (repeat' first | exact HW.out | exact below_newY _ _ _ | refine Below.setCell ?_ (by show w.heap.size ≤ _; omega) _)⟩
    · have ez : (strB (c :: (a ++ [d]))).size = a.length + 2 := by rw [strB_size]; simp
      have e0 : (strB (c :: (a ++ [d])))[0]'(by omega) = c := rfl
      have eL := mid_last c d a (by omega)
      have eM := mid_bytes c d a
      have hp2 := pre2 (87 :: 47 :: (c :: (a ++ [d]))) (by simp)
      have hd2 := strB_drop2 87 47 (c :: (a ++ [d]))
      rw [hw] at hp2 HQ
      rw [hu] at HQ
      have hls : (strB (87 :: 47 :: (c :: (a ++ [d])))).size = a.length + 4 := by rw [strB_size]; simp
      rw [show (c :: (a ++ [d])).length + 2 = a.length + 4 by simp] at hd2
      simp only [List.length_cons, List.length_append, List.length_nil] at hl
      by_cases hc : c = 34
      · by_cases hd : d = 34
        · have HT := Lib.hid (fun (w : World) => right_any (strB a) w (by rw [strB_size]; omega))
          rw [strB_list] at HT
          have hgo : ∀ y : Bool, txtB a = y → Calls Tryz.prog 18 #[.string (strB (87 :: 47 :: (c :: (a ++ [d]))))] w fun e w' => e = .returned (tgR (readTL (87 :: 47 :: (c :: (a ++ [d]))))) ∧ Below w.heap.size w w' := by
            intro y hy
            rw [hy] at HT
            have HY := Lib.hid hy
            subst hc hd
            clear hy
            cases y
            · have HR := Lib.hid (show readTL (87 :: 47 :: (34 :: (a ++ [34]))) = none by rw [HQ.out, midR_snoc, HY.out]; simp)
              go_enter Tryz.func18, Tryz.ntmps18
              go_wp2_with fail
              refine (HT.out _).mono ?_
              rintro e w' ⟨rfl, rfl⟩
              go_wp2_with fail
              rw [HR.out]
              rw [strB_nil0] at b0 b1 c0 c1
              exact bodyPost_ret (v := tgR none) (by simp [results, Tryz.results18, go_sem, tgR, strB_nil0, b0, b1, g0, g1, c0, c1, f0, f1]) rfl ⟨rfl, by (repeat' first | exact HW.out | exact below_newY _ _ _ | refine Below.setCell ?_ (by show w.heap.size ≤ _; omega) _)⟩
            · have HR := Lib.hid (show readTL (87 :: 47 :: (34 :: (a ++ [34]))) = some (true, a) by rw [HQ.out, midR_snoc, HY.out]; simp)
              go_enter Tryz.func18, Tryz.ntmps18
              go_wp2_with fail
              refine (HT.out _).mono ?_
              rintro e w' ⟨rfl, rfl⟩
              go_wp2_with fail
              rw [HR.out]
              rw [strB_nil0] at b0 b1 c0 c1
              exact bodyPost_ret (v := tgR (some (true, a))) (by simp [results, Tryz.results18, go_sem, tgR, strB_nil0, b0, b1, g0, g1, c0, c1, f0, f1]) rfl ⟨rfl, by (repeat' first | exact HW.out | exact below_newY _ _ _ | refine Below.setCell ?_ (by show w.heap.size ≤ _; omega) _)⟩
          exact hgo _ rfl
        · have hd34 := ne34 hd
          subst hc
          have HR := Lib.hid (show readTL (87 :: 47 :: (34 :: (a ++ [d]))) = none by rw [HQ.out]; rw [midR_snoc]; simp [hd])
          go_enter Tryz.func18, Tryz.ntmps18
          go_wp2
          rw [HR.out]
          rw [strB_nil0] at b0 b1 c0 c1
          exact bodyPost_ret (v := tgR none) (by simp [results, Tryz.results18, go_sem, tgR, strB_nil0, b0, b1, g0, g1, c0, c1, f0, f1]) rfl ⟨rfl, by (repeat' first | exact HW.out | exact below_newY _ _ _ | refine Below.setCell ?_ (by show w.heap.size ≤ _; omega) _)⟩
      · have hc34 := ne34 hc
        have HR := Lib.hid (show readTL (87 :: 47 :: (c :: (a ++ [d]))) = none by rw [HQ.out]; rw [midR_snoc]; simp [hc])
        go_enter Tryz.func18, Tryz.ntmps18
        go_wp2
        rw [HR.out]
        rw [strB_nil0] at b0 b1 c0 c1
        exact bodyPost_ret (v := tgR none) (by simp [results, Tryz.results18, go_sem, tgR, strB_nil0, b0, b1, g0, g1, c0, c1, f0, f1]) rfl ⟨rfl, by (repeat' first | exact HW.out | exact below_newY _ _ _ | refine Below.setCell ?_ (by show w.heap.size ≤ _; omega) _)⟩
  · rcases shape l with rfl | ⟨c, rfl⟩ | ⟨c, a, d, rfl⟩
    · have ez : (strB []).size = 0 := rfl
      rw [hw, hu] at HQ
      have HR := Lib.hid (show readTL [] = none by rw [HQ.out]; rfl)
      go_enter Tryz.func18, Tryz.ntmps18
      go_wp2
      rw [HR.out]
      rw [strB_nil0] at b0 b1 c0 c1
      exact bodyPost_ret (v := tgR none) (by simp [results, Tryz.results18, go_sem, tgR, strB_nil0, b0, b1, g0, g1, c0, c1, f0, f1]) rfl ⟨rfl, by (repeat' first | exact HW.out | exact below_newY _ _ _ | refine Below.setCell ?_ (by show w.heap.size ≤ _; omega) _)⟩
    · have ez : (strB [c]).size = 1 := rfl
      rw [hw, hu] at HQ
      have HR := Lib.hid (show readTL [c] = none by rw [HQ.out]; rw [midR_cons]; simp)
      go_enter Tryz.func18, Tryz.ntmps18
      go_wp2
      rw [HR.out]
      rw [strB_nil0] at b0 b1 c0 c1
      exact bodyPost_ret (v := tgR none) (by simp [results, Tryz.results18, go_sem, tgR, strB_nil0, b0, b1, g0, g1, c0, c1, f0, f1]) rfl ⟨rfl, by (repeat' first | exact HW.out | exact below_newY _ _ _ | refine Below.setCell ?_ (by show w.heap.size ≤ _; omega) _)⟩
    · have ez : (strB (c :: (a ++ [d]))).size = a.length + 2 := by rw [strB_size]; simp
      have e0 : (strB (c :: (a ++ [d])))[0]'(by omega) = c := rfl
      have eL := mid_last c d a (by omega)
      have eM := mid_bytes c d a
      rw [hw, hu] at HQ
      have hp2 := pre2 (c :: (a ++ [d])) (by simp)
      rw [hw] at hp2
      simp only [List.length_cons, List.length_append, List.length_nil] at hl
      by_cases hc : c = 34
      · by_cases hd : d = 34
        · have HT := Lib.hid (fun (w : World) => right_any (strB a) w (by rw [strB_size]; omega))
          rw [strB_list] at HT
          have hgo : ∀ y : Bool, txtB a = y → Calls Tryz.prog 18 #[.string (strB (c :: (a ++ [d])))] w fun e w' => e = .returned (tgR (readTL (c :: (a ++ [d])))) ∧ Below w.heap.size w w' := by
            intro y hy
            rw [hy] at HT
            have HY := Lib.hid hy
            subst hc hd
            clear hy
            cases y
            · have HR := Lib.hid (show readTL (34 :: (a ++ [34])) = none by rw [HQ.out, midR_snoc, HY.out]; simp)
              go_enter Tryz.func18, Tryz.ntmps18
              go_wp2_with fail
              refine (HT.out _).mono ?_
              rintro e w' ⟨rfl, rfl⟩
              go_wp2_with fail
              rw [HR.out]
              rw [strB_nil0] at b0 b1 c0 c1
              exact bodyPost_ret (v := tgR none) (by simp [results, Tryz.results18, go_sem, tgR, strB_nil0, b0, b1, g0, g1, c0, c1, f0, f1]) rfl ⟨rfl, by (repeat' first | exact HW.out | exact below_newY _ _ _ | refine Below.setCell ?_ (by show w.heap.size ≤ _; omega) _)⟩
            · have HR := Lib.hid (show readTL (34 :: (a ++ [34])) = some (false, a) by rw [HQ.out, midR_snoc, HY.out]; simp)
              go_enter Tryz.func18, Tryz.ntmps18
              go_wp2_with fail
              refine (HT.out _).mono ?_
              rintro e w' ⟨rfl, rfl⟩
              go_wp2_with fail
              rw [HR.out]
              rw [strB_nil0] at b0 b1 c0 c1
              exact bodyPost_ret (v := tgR (some (false, a))) (by simp [results, Tryz.results18, go_sem, tgR, strB_nil0, b0, b1, g0, g1, c0, c1, f0, f1]) rfl ⟨rfl, by (repeat' first | exact HW.out | exact below_newY _ _ _ | refine Below.setCell ?_ (by show w.heap.size ≤ _; omega) _)⟩
          exact hgo _ rfl
        · have hd34 := ne34 hd
          subst hc
          have HR := Lib.hid (show readTL (34 :: (a ++ [d])) = none by rw [HQ.out]; rw [midR_snoc]; simp [hd])
          go_enter Tryz.func18, Tryz.ntmps18
          go_wp2
          rw [HR.out]
          rw [strB_nil0] at b0 b1 c0 c1
          exact bodyPost_ret (v := tgR none) (by simp [results, Tryz.results18, go_sem, tgR, strB_nil0, b0, b1, g0, g1, c0, c1, f0, f1]) rfl ⟨rfl, by (repeat' first | exact HW.out | exact below_newY _ _ _ | refine Below.setCell ?_ (by show w.heap.size ≤ _; omega) _)⟩
      · have hc34 := ne34 hc
        have HR := Lib.hid (show readTL (c :: (a ++ [d])) = none by rw [HQ.out]; rw [midR_snoc]; simp [hc])
        go_enter Tryz.func18, Tryz.ntmps18
        go_wp2
        rw [HR.out]
        rw [strB_nil0] at b0 b1 c0 c1
        exact bodyPost_ret (v := tgR none) (by simp [results, Tryz.results18, go_sem, tgR, strB_nil0, b0, b1, g0, g1, c0, c1, f0, f1]) rfl ⟨rfl, by (repeat' first | exact HW.out | exact below_newY _ _ _ | refine Below.setCell ?_ (by show w.heap.size ≤ _; omega) _)⟩
end Go.Proofs.YtkpeaghbacoehaaGreatDoor

/- What the reference's ReadAll returns. -/
namespace Go.Proofs.YtkpeaghbacoehaaGreatDoor
open Go.RowKit

def RefAllPost (T : TypeId) (l : List UInt8) (w : World) (e : Ending) (w' : World) : Prop :=
  Below w.heap.size w w' ∧
  ((starL l = true ∧ e = .returned (.tuple #[.slice none 0 0, .bool true, .bool true])) ∨
   (starL l = false ∧ lstL l [] = none ∧ ∃ v, e = .returned (.tuple #[v, .bool false, .bool false])) ∨
   (starL l = false ∧ ∃ v ts, lstL l [] = some ts ∧ e = .returned (.tuple #[v, .bool false, .bool true]) ∧ OwnsT T w.heap.size w' v ts ∧ ts.length ≤ l.length + 1))
def GRel (T : TypeId) (l : List UInt8) (w : World) (v x q i : Value) (wr : World) : Prop :=
  ∃ (acc : List Tg) (k y : Nat) (b : Bool), i = .int .i64 k ∧ x = .int .i64 y ∧ q = .bool b ∧ OwnsT T w.heap.size wr v acc ∧ Below w.heap.size w wr ∧ acc.length ≤ k ∧ y ≤ k ∧
    ((k ≤ l.length ∧ lstG ((l.drop y).take (k - y)) b (l.drop k) acc = lstL l []) ∨ (k = l.length + 1 ∧ finT acc = lstL l []))
theorem cur_more {l : List UInt8} {y k : Nat} {c : UInt8} (hy : y ≤ k) (hc : l[k]? = some c) : (l.drop y).take (k + 1 - y) = (l.drop y).take (k - y) ++ [c] := by
  rw [show k + 1 - y = (k - y) + 1 by omega, List.take_add_one, List.getElem?_drop, show y + (k - y) = k by omega, hc]; rfl
theorem g_more {l : List UInt8} {y k : Nat} {b : Bool} {acc : List Tg} {c : UInt8} {t : Option (List Tg)} (hy : y ≤ k) (hc : l[k]? = some c) (h : lstG ((l.drop y).take (k - y)) b (l.drop k) acc = t) (b' : Bool) (hb : b' = if c = 34 then !b else b) (hg : b' = true ∨ c ≠ 44) :
    lstG ((l.drop y).take (k + 1 - y)) b' (l.drop (k + 1)) acc = t := by
  have hd : l.drop k = c :: l.drop (k + 1) := by
    have hlt : k < l.length := (List.getElem?_eq_some_iff.mp hc).1
    rw [List.drop_eq_getElem_cons hlt]
    congr 1
    exact (List.getElem?_eq_some_iff.mp hc).2
  rw [hd, lstG_cons, ← hb, if_pos hg] at h
  rw [cur_more hy hc]; exact h
theorem g_part {l : List UInt8} {y k : Nat} {acc : List Tg} {t : Option (List Tg)} (hc : l[k]? = some 44) (h : lstG ((l.drop y).take (k - y)) false (l.drop k) acc = t) :
    (addT ((l.drop y).take (k - y)) acc).bind (fun acc' => lstG ((l.drop (k + 1)).take (k + 1 - (k + 1))) false (l.drop (k + 1)) acc') = t := by
  have hd : l.drop k = 44 :: l.drop (k + 1) := by
    have hlt : k < l.length := (List.getElem?_eq_some_iff.mp hc).1
    rw [List.drop_eq_getElem_cons hlt]
    congr 1
    exact (List.getElem?_eq_some_iff.mp hc).2
  rw [hd, lstG_cons, if_neg (by simp)] at h
  rw [show k + 1 - (k + 1) = 0 by omega, List.take_zero]
  simpa using h
theorem g_last {l : List UInt8} {y k : Nat} {b : Bool} {acc : List Tg} {t : Option (List Tg)} (hk : k = l.length) (h : lstG ((l.drop y).take (k - y)) b (l.drop k) acc = t) : (addT ((l.drop y).take (k - y)) acc).bind finT = t := by
  rw [hk, List.drop_length, lstG_end] at h
  rw [hk]; exact h
theorem Tryz.infoTR : (Tryz.prog.info? 23).map (fun i => (i.zero, i.size, i.bytes)) = some (some (.agg #[.bool false, .string ByteArray.empty]), 2, 24) := by kernel_rfl
theorem refTrimS_any (s : ByteArray) (w : World) (hl : s.size ≤ 1000000) : Calls Tryz.prog 40 #[.string s] w fun e w' => e = .returned (.string (strB (trimB s.data.toList))) ∧ w = w' := by
  have := refTrim_any s.data.toList w (by simpa using hl)
  rwa [strB_of] at this
theorem addT_nil {x : List UInt8} (acc : List Tg) (h : trimB x = []) : addT x acc = some acc := by unfold addT; rw [if_pos h]
theorem addT_none {x : List UInt8} (acc : List Tg) (h : trimB x ≠ []) (hq : readTL (trimB x) = none) : addT x acc = none := by unfold addT; rw [if_neg h, hq]; rfl
theorem addT_some {x : List UInt8} (acc : List Tg) {t : Tg} (h : trimB x ≠ []) (hq : readTL (trimB x) = some t) : addT x acc = some (acc ++ [t]) := by unfold addT; rw [if_neg h, hq]; rfl
/-- The end of a round behind a part: a comma, or the text's end. -/
def PartNext (l : List UInt8) (k y : Nat) (b : Bool) (acc : List Tg) : Prop :=
  (addT ((l.drop y).take (k - y)) acc = none → lstL l [] = none) ∧
  ∀ acc', addT ((l.drop y).take (k - y)) acc = some acc' →
    ((k + 1 ≤ l.length ∧ lstG ((l.drop (k + 1)).take (k + 1 - (k + 1))) b (l.drop (k + 1)) acc' = lstL l []) ∨ (k + 1 = l.length + 1 ∧ finT acc' = lstL l []))
theorem partNext_comma {l : List UInt8} {y k : Nat} {acc : List Tg} (hc : l[k]? = some 44) (h : lstG ((l.drop y).take (k - y)) false (l.drop k) acc = lstL l []) : PartNext l k y false acc := by
  have h2 := g_part hc h
  have hlt : k < l.length := (List.getElem?_eq_some_iff.mp hc).1
  exact ⟨fun hn => by rw [hn] at h2; exact h2.symm, fun acc' ha => .inl ⟨hlt, by rw [ha] at h2; exact h2⟩⟩
theorem partNext_end {l : List UInt8} {y k : Nat} {b : Bool} {acc : List Tg} (hk : k = l.length) (h : lstG ((l.drop y).take (k - y)) b (l.drop k) acc = lstL l []) : PartNext l k y b acc := by
  have h2 := g_last hk h
  exact ⟨fun hn => by rw [hn] at h2; exact h2.symm, fun acc' ha => .inr ⟨by omega, by rw [ha] at h2; exact h2⟩⟩
set_option maxHeartbeats 16000000 in
set_option maxRecDepth 100000 in
theorem refAllT_any (l : List UInt8) (w : World) (hl : l.length ≤ 500000) :
    Calls Tryz.prog 20 #[.string (strB l)] w fun e w' => RefAllPost 23 l w e w' := by
  obtain ⟨i0, hi, hz0, hz1, hz2⟩ := info_tag Tryz.infoTR
  have hls : (strB l).size = l.length := strB_size l
  have HS := star_any l
  have HT0 := Lib.hid (fun w => refTrim_any l w (by omega))
  cases hst : starL l with
  | true =>
    rw [hst] at HS
    have HST := Lib.hid hst
    clear hst
    go_enter Tryz.func20, Tryz.ntmps20
    go_wp2_with fail
    refine (HT0.out _).mono ?_
    rintro e w' ⟨rfl, rfl⟩
    go_wp2_with fail
    exact bodyPost_ret (v := .tuple #[.slice none 0 0, .bool true, .bool true]) (by simp [results, Tryz.results20, go_sem]) rfl ⟨Below.refl _ _, .inl ⟨HST.out, rfl⟩⟩
  | false =>
    rw [hst] at HS
    have HST := Lib.hid hst
    clear hst
    go_enter Tryz.func20, Tryz.ntmps20
    go_wp2_with fail
    refine (HT0.out _).mono ?_
    rintro e w' ⟨rfl, rfl⟩
    go_wp2_with fail
    clear HS
    go_loopw [5, 6, 7, 18] (fun v x q i wr => GRel 23 l w v x q i wr) (fun _ _ _ i _ => l.length + 1 - (intOf i).toNat)
    case atStart => exact ⟨[], 0, 0, false, rfl, rfl, rfl, OwnsT.nil _ _ _, Below.refl _ _, Nat.le_refl _, Nat.le_refl _, .inl ⟨Nat.zero_le _, by simp [lstL]⟩⟩
    case round =>
      obtain ⟨acc, k, y, b, rfl, rfl, rfl, hO, hBr, hak, hyk, hcase⟩ := hrel
      have hbr := hBr.size
      have HBR := Lib.hid hBr
      have HO := Lib.hid hO
      clear hBr hO
      rcases hcase with ⟨hk, hK⟩ | ⟨hk, hK⟩
      · have HK := Lib.hid hK
        clear hK
        by_cases hlt : k < l.length
        · have hlt' : k < (strB l).size := by omega
          obtain ⟨c, hc⟩ : ∃ c, (strB l)[k] = c := ⟨_, rfl⟩
          have HC := Lib.hid (show l[k]? = some c by
            rw [List.getElem?_eq_getElem hlt, ← hc]
            have : (strB l)[k] = (strB l).data.toList[k]'(by rw [strB_list]; exact hlt) := rfl
            rw [this]; simp only [strB_list])
          by_cases h34 : c.toNat = 34
          · have e34 : ((c.toNat : Int) == 34) = true := by simp; omega
            have n44 : ((c.toNat : Int) != 44) = true := by simp; omega
            have hc34 : c = 34 := UInt8.toNat_inj.mp h34
            cases b
            · have HN := Lib.hid (g_more hyk HC.out HK.out true (by rw [hc34]; rfl) (.inl rfl))
              clear HK
              go_wp2_with fail
              go_roundw
              case rel => exact ⟨acc, k + 1, y, _, by go_num, rfl, rfl, HO.out, HBR.out, by omega, by omega, .inl ⟨by omega, HN.out⟩⟩
              case measure => simp [intOf]; omega
            · have HN := Lib.hid (g_more hyk HC.out HK.out false (by rw [hc34]; rfl) (.inr (by rw [hc34]; decide)))
              clear HK
              go_wp2_with fail
              go_roundw
              case rel => exact ⟨acc, k + 1, y, _, by go_num, rfl, rfl, HO.out, HBR.out, by omega, by omega, .inl ⟨by omega, HN.out⟩⟩
              case measure => simp [intOf]; omega
          · have e34 : ((c.toNat : Int) == 34) = false := by simp; omega
            have hc34 : c ≠ 34 := fun h => h34 (by rw [h]; rfl)
            cases b
            · by_cases h44 : c.toNat = 44
              · have n44 : ((c.toNat : Int) != 44) = false := by simp; omega
                have hc44 : c = 44 := UInt8.toNat_inj.mp h44
                have HPN := Lib.hid (partNext_comma (by rw [HC.out, hc44]) HK.out)
                have HT := Lib.hid (fun w => refTrimS_any ((strB l).extract y k) w (by rw [ByteArray.size_extract]; omega))
                have hseg : ((strB l).extract y k).data.toList = (l.drop y).take (k - y) := by rw [seg_list, strB_list]
                rw [hseg] at HT
                have htl : (trimB ((l.drop y).take (k - y))).length ≤ 500000 := Nat.le_trans (trimB_le _) (by simp; omega)
                unfold PartNext at HPN
                by_cases hp : trimB ((l.drop y).take (k - y)) = []
                · have HN := Lib.hid (HPN.out.2 acc (addT_nil acc hp))
                  rw [hp] at HT
                  have hE := empty_yes (l := []) rfl
                  have hE2 : (strB []).toList = [] := by rw [ByteArray.toList_eq]; rfl
                  clear hp hseg
                  go_wp2_with fail
                  refine (HT.out _).mono ?_
                  rintro e w' ⟨rfl, rfl⟩
                  go_wp2_with fail
                  go_roundw
                  case rel => exact ⟨acc, k + 1, k + 1, _, by go_num, by go_num, rfl, HO.out, HBR.out, by omega, Nat.le_refl _, HN.out⟩
                  case measure => simp [intOf]; omega
                · have hE := empty_no hp
                  have hE2 : (strB (trimB ((l.drop y).take (k - y)))).toList = trimB ((l.drop y).take (k - y)) := by rw [ByteArray.toList_eq, strB_list]
                  have HQR := Lib.hid (fun w => refRead_any (trimB ((l.drop y).take (k - y))) w (by omega))
                  cases hq : readTL (trimB ((l.drop y).take (k - y))) with
                  | none =>
                    rw [hq] at HQR
                    have HR := Lib.hid (HPN.out.1 (addT_none acc hp hq))
                    clear hq hseg
                    generalize trimB ((l.drop y).take (k - y)) = part at *
                    obtain ⟨d, z, rfl⟩ : ∃ d z, part = d :: z := by
                      cases part with
                      | nil => exact absurd rfl hp
                      | cons d z => exact ⟨d, z, rfl⟩
                    clear hp
                    unfold tgR at HQR
                    go_wp2_with fail
                    refine (HT.out _).mono ?_
                    rintro e w' ⟨rfl, rfl⟩
                    go_wp2_with fail
                    refine (HQR.out _).mono ?_
                    rintro e w2 ⟨rfl, hB2⟩
                    have HB2 := Lib.hid (HBR.out.trans (hB2.mono hbr))
                    clear hB2
                    go_wp2_with fail
                    exact bodyPost_ret (v := .tuple #[.slice none 0 0, .bool false, .bool false]) (by simp [results, Tryz.results20, go_sem]) rfl ⟨HB2.out.alloc HB2.out.size _, .inr (.inl ⟨HST.out, HR.out, _, rfl⟩)⟩
                  | some t =>
                    obtain ⟨tk, ta⟩ := t
                    rw [hq] at HQR
                    have HN := Lib.hid (HPN.out.2 (acc ++ [(tk, ta)]) (addT_some acc hp hq))
                    clear hq hseg
                    generalize trimB ((l.drop y).take (k - y)) = part at *
                    obtain ⟨d, z, rfl⟩ : ∃ d z, part = d :: z := by
                      cases part with
                      | nil => exact absurd rfl hp
                      | cons d z => exact ⟨d, z, rfl⟩
                    clear hp
                    unfold tgR at HQR
                    have hfl := flatT_len acc
                    go_wp2_with fail
                    refine (HT.out _).mono ?_
                    rintro e w' ⟨rfl, rfl⟩
                    go_wp2_with fail
                    refine (HQR.out _).mono ?_
                    rintro e w2 ⟨rfl, hB2⟩
                    have hb2 := hB2.size
                    have HB2 := Lib.hid hB2
                    obtain ⟨c0, c1, f0, f1, hN⟩ := twoT_new w2 tk ta 23
                    have hO4 := (HO.out.below hB2).below (below_new w2 (.cells #[.bool tk, .string (strB ta)] 23))
                    clear hB2
                    go_wp2_with (at_builtin; go_must (refine wpList_append_own _ rfl _ _ 45 rfl w.heap.size 23 i0 (.agg #[.bool false, .string ByteArray.empty]) 2 24 Tryz.underlying45 hi hz0 hz1 hz2 rfl (by decide) _ _ _ rfl (World.ownsRow.alloc hO4 _) ⟨w2.heap.size + 1, 0, none⟩ 1 1 [.bool tk, strV ta] rfl rfl (new_tg2 w2 _ tk ta _) (fun u hu => by simp at hu; rcases hu with rfl | rfl <;> rfl) (by unfold maxLen; omega) (by omega) (by simp; omega) ?_); intro v' w5 hown' hgrow _)
                    go_roundw
                    case rel => exact ⟨acc ++ [(tk, ta)], k + 1, k + 1, _, by go_num, by go_num, rfl, OwnsT.snoc hown', below_appendT HBR.out hbr (HB2.out.alloc hb2 _) HO.out hgrow, by simp; omega, Nat.le_refl _, HN.out⟩
                    case measure => simp [intOf]; omega
              · have n44 : ((c.toNat : Int) != 44) = true := by simp; omega
                have hc44 : c ≠ 44 := fun h => h44 (by rw [h]; rfl)
                have HN := Lib.hid (g_more hyk HC.out HK.out false (by rw [if_neg hc34]) (.inr hc44))
                clear HK
                go_wp2_with fail
                go_roundw
                case rel => exact ⟨acc, k + 1, y, _, by go_num, rfl, rfl, HO.out, HBR.out, by omega, by omega, .inl ⟨by omega, HN.out⟩⟩
                case measure => simp [intOf]; omega
            · have HN := Lib.hid (g_more hyk HC.out HK.out true (by rw [if_neg hc34]) (.inl rfl))
              clear HK
              go_wp2_with fail
              go_roundw
              case rel => exact ⟨acc, k + 1, y, _, by go_num, rfl, rfl, HO.out, HBR.out, by omega, by omega, .inl ⟨by omega, HN.out⟩⟩
              case measure => simp [intOf]; omega
        · have HKL := Lib.hid (show k = l.length by omega)
          have HPN := Lib.hid (partNext_end HKL.out HK.out)
          have HT := Lib.hid (fun w => refTrimS_any ((strB l).extract y k) w (by rw [ByteArray.size_extract]; omega))
          have hseg : ((strB l).extract y k).data.toList = (l.drop y).take (k - y) := by rw [seg_list, strB_list]
          rw [hseg] at HT
          have htl : (trimB ((l.drop y).take (k - y))).length ≤ 500000 := Nat.le_trans (trimB_le _) (by simp; omega)
          unfold PartNext at HPN
          by_cases hp : trimB ((l.drop y).take (k - y)) = []
          · have HN := Lib.hid (HPN.out.2 acc (addT_nil acc hp))
            rw [hp] at HT
            have hE := empty_yes (l := []) rfl
            have hE2 : (strB []).toList = [] := by rw [ByteArray.toList_eq]; rfl
            clear hp hseg
            go_wp2_with fail
            refine (HT.out _).mono ?_
            rintro e w' ⟨rfl, rfl⟩
            go_wp2_with fail
            go_roundw
            case rel => exact ⟨acc, k + 1, k + 1, _, by go_num, by go_num, rfl, HO.out, HBR.out, by omega, Nat.le_refl _, HN.out⟩
            case measure => simp [intOf]; omega
          · have hE := empty_no hp
            have hE2 : (strB (trimB ((l.drop y).take (k - y)))).toList = trimB ((l.drop y).take (k - y)) := by rw [ByteArray.toList_eq, strB_list]
            have HQR := Lib.hid (fun w => refRead_any (trimB ((l.drop y).take (k - y))) w (by omega))
            cases hq : readTL (trimB ((l.drop y).take (k - y))) with
            | none =>
              rw [hq] at HQR
              have HR := Lib.hid (HPN.out.1 (addT_none acc hp hq))
              clear hq hseg
              generalize trimB ((l.drop y).take (k - y)) = part at *
              obtain ⟨d, z, rfl⟩ : ∃ d z, part = d :: z := by
                cases part with
                | nil => exact absurd rfl hp
                | cons d z => exact ⟨d, z, rfl⟩
              clear hp
              unfold tgR at HQR
              go_wp2_with fail
              refine (HT.out _).mono ?_
              rintro e w' ⟨rfl, rfl⟩
              go_wp2_with fail
              refine (HQR.out _).mono ?_
              rintro e w2 ⟨rfl, hB2⟩
              have HB2 := Lib.hid (HBR.out.trans (hB2.mono hbr))
              clear hB2
              go_wp2_with fail
              exact bodyPost_ret (v := .tuple #[.slice none 0 0, .bool false, .bool false]) (by simp [results, Tryz.results20, go_sem]) rfl ⟨HB2.out.alloc HB2.out.size _, .inr (.inl ⟨HST.out, HR.out, _, rfl⟩)⟩
            | some t =>
              obtain ⟨tk, ta⟩ := t
              rw [hq] at HQR
              have HN := Lib.hid (HPN.out.2 (acc ++ [(tk, ta)]) (addT_some acc hp hq))
              clear hq hseg
              generalize trimB ((l.drop y).take (k - y)) = part at *
              obtain ⟨d, z, rfl⟩ : ∃ d z, part = d :: z := by
                cases part with
                | nil => exact absurd rfl hp
                | cons d z => exact ⟨d, z, rfl⟩
              clear hp
              unfold tgR at HQR
              have hfl := flatT_len acc
              go_wp2_with fail
              refine (HT.out _).mono ?_
              rintro e w' ⟨rfl, rfl⟩
              go_wp2_with fail
              refine (HQR.out _).mono ?_
              rintro e w2 ⟨rfl, hB2⟩
              have hb2 := hB2.size
              have HB2 := Lib.hid hB2
              obtain ⟨c0, c1, f0, f1, hN⟩ := twoT_new w2 tk ta 23
              have hO4 := (HO.out.below hB2).below (below_new w2 (.cells #[.bool tk, .string (strB ta)] 23))
              clear hB2
              go_wp2_with (at_builtin; go_must (refine wpList_append_own _ rfl _ _ 45 rfl w.heap.size 23 i0 (.agg #[.bool false, .string ByteArray.empty]) 2 24 Tryz.underlying45 hi hz0 hz1 hz2 rfl (by decide) _ _ _ rfl (World.ownsRow.alloc hO4 _) ⟨w2.heap.size + 1, 0, none⟩ 1 1 [.bool tk, strV ta] rfl rfl (new_tg2 w2 _ tk ta _) (fun u hu => by simp at hu; rcases hu with rfl | rfl <;> rfl) (by unfold maxLen; omega) (by omega) (by simp; omega) ?_); intro v' w5 hown' hgrow _)
              go_roundw
              case rel => exact ⟨acc ++ [(tk, ta)], k + 1, k + 1, _, by go_num, by go_num, rfl, OwnsT.snoc hown', below_appendT HBR.out hbr (HB2.out.alloc hb2 _) HO.out hgrow, by simp; omega, Nat.le_refl _, HN.out⟩
              case measure => simp [intOf]; omega
      · have HK := Lib.hid hK
        clear hK
        by_cases ha : acc = []
        · subst ha
          have HR := Lib.hid (show lstL l [] = none from HK.out.symm)
          obtain ⟨ao, cap, rfl, _⟩ := HO.out.reads
          go_wp2
          exact bodyPost_ret (v := .tuple #[.slice ao ([] : List Tg).length cap, .bool false, .bool false]) (by simp [results, Tryz.results20, go_sem]) rfl ⟨HBR.out, .inr (.inl ⟨HST.out, HR.out, _, rfl⟩)⟩
        · have HR := Lib.hid (show lstL l [] = some acc by rw [← HK.out]; unfold finT; rw [if_neg ha])
          have hpos : 0 < acc.length := List.length_pos_iff.mpr ha
          obtain ⟨ao, cap, rfl, _⟩ := HO.out.reads
          clear ha
          go_wp2
          exact bodyPost_ret (v := .tuple #[.slice ao acc.length cap, .bool false, .bool true]) (by simp [results, Tryz.results20, go_sem]) rfl ⟨HBR.out, .inr (.inr ⟨HST.out, _, acc, HR.out, rfl, HO.out, by omega⟩)⟩
end Go.Proofs.YtkpeaghbacoehaaGreatDoor

/- What the reference's matches returns. -/
namespace Go.Proofs.YtkpeaghbacoehaaGreatDoor
open Go.RowKit

theorem sameT_two (sg : Bool) (t u : Tg) : sameT sg t u = (sameT false t u && (!sg || sameT true t u)) := by
  obtain ⟨k, a⟩ := t
  obtain ⟨j, b⟩ := u
  cases sg <;> cases k <;> cases j <;> simp [sameT]
/-- What the region of a round reads. -/
structure MatS (N g o : Nat) (s : StV) (p : Tg) (w w' : World) : Prop where
  st : StB N w' s
  e1 : w'.cell? ⟨g, o, none⟩ = some (.bool p.1)
  e2 : w'.cell? ⟨g, o + 1, none⟩ = some (.string (strB p.2))
  lt : g < w'.heap.size
  b : Below w.heap.size w w'
theorem MatS.below {N g o : Nat} {s : StV} {p : Tg} {w w1 w2 : World} (h : MatS N g o s p w w1) (hb : Below w1.heap.size w1 w2) : MatS N g o s p w w2 :=
  ⟨h.st.below hb, (hb.cell (p := ⟨g, o, none⟩) h.lt).trans h.e1, (hb.cell (p := ⟨g, o + 1, none⟩) h.lt).trans h.e2, Nat.lt_of_lt_of_le h.lt hb.size, h.b.trans (hb.mono h.b.size)⟩
theorem mat_all {N g o : Nat} {s : StV} {p : Tg} {h : Bool} {w w' : World} (hh : Hid (s.ht = h)) (hM : MatS N g o s p w w') : w'.cell? ⟨N, 1, none⟩ = some (.bool h) ∧ w'.cell? ⟨N, 3, none⟩ = some (.bool s.tag.1) ∧ w'.cell? ⟨N, 4, none⟩ = some (.string (strB s.tag.2)) ∧ w'.cell? ⟨g, o, none⟩ = some (.bool p.1) ∧ w'.cell? ⟨g, o + 1, none⟩ = some (.string (strB p.2)) ∧ MatS N g o s p w w' :=
  ⟨by rw [← hh.out]; exact hM.st.c1, hM.st.c3, hM.st.c4, hM.e1, hM.e2, hM⟩
theorem weak_at {N g o : Nat} {s : StV} {p : Tg} {x : Bool} {w w' : World} (hx : Hid (sameT false p s.tag = x)) (hM : MatS N g o s p w w') :
    Calls Tryz.prog 67 #[tgV p, tgV s.tag] w' fun e w2 => e = .returned (.bool x) ∧ MatS N g o s p w w2 := by
  refine (refWeak_any p s.tag w').mono ?_
  rintro e w2 ⟨rfl, hB⟩
  exact ⟨by rw [hx.out], hM.below hB⟩
theorem strong_at {N g o : Nat} {s : StV} {p : Tg} {x : Bool} {w w' : World} (hx : Hid (sameT true p s.tag = x)) (hM : MatS N g o s p w w') :
    Calls Tryz.prog 50 #[tgV p, tgV s.tag] w' fun e w2 => e = .returned (.bool x) ∧ MatS N g o s p w w2 := by
  refine (refStrong_any p s.tag w').mono ?_
  rintro e w2 ⟨rfl, hB⟩
  exact ⟨by rw [hx.out], hM.below hB⟩
set_option maxHeartbeats 16000000 in
set_option maxRecDepth 100000 in
theorem refMatches_any (sg : Bool) (s : StV) (l : List UInt8) (w : World) (hl : l.length ≤ 400000) :
    Calls Tryz.prog 48 #[.string (strB l), stV s, .bool sg] w fun e w' => e = .returned (.bool (mtL l s sg)) ∧ Below w.heap.size w w' := by
  have HR := Lib.hid (fun (w : World) => refAllT_any l w (by omega))
  have HS := Lib.hid (stB_new w s 52)
  have HW := Lib.hid (below_new w (.cells (stC s) 52))
  have HQ := Lib.hid (show mtL l s sg = (s.ex && (starL l || (s.ht && (tagsL l).any fun t => sameT sg t s.tag))) from rfl)
  go_enter Tryz.func48, Tryz.ntmps48
  go_wp2_with fail
  refine (HR.out _).mono ?_
  rintro e w2 ⟨hB2, hcase⟩
  have HW2 := Lib.hid (HW.out.trans (hB2.mono HW.out.size))
  have HS2 := Lib.hid (HS.out.below hB2)
  clear hB2
  rcases hcase with ⟨hst, rfl⟩ | ⟨hst, hq, v, rfl⟩ | ⟨hst, v, ts, hq, rfl, hO, hln⟩
  · cases hex : s.ex with
    | false =>
      have HX := Lib.hid (show mtL l s sg = false by rw [HQ.out, hex]; rfl)
      have c0 := HS2.out.c0
      rw [hex] at c0
      clear hex hst
      go_wp2
      go_ret
      exact ⟨by rw [HX.out]; rfl, HW2.out⟩
    | true =>
      have HX := Lib.hid (show mtL l s sg = true by rw [HQ.out, hex, hst]; rfl)
      have c0 := HS2.out.c0
      rw [hex] at c0
      clear hex hst
      go_wp2
      go_ret
      exact ⟨by rw [HX.out]; rfl, HW2.out⟩
  · have ht : tagsL l = [] := by unfold tagsL; rw [hq]; rfl
    have HX := Lib.hid (show mtL l s sg = false by rw [HQ.out, hst, ht]; cases s.ex <;> cases s.ht <;> rfl)
    clear hst hq ht
    go_wp2
    go_ret
    exact ⟨by rw [HX.out]; rfl, HW2.out⟩
  · have ht : tagsL l = ts := by unfold tagsL; rw [hq]; rfl
    have HX := Lib.hid (show mtL l s sg = (s.ex && (s.ht && ts.any fun t => sameT sg t s.tag)) by rw [HQ.out, hst, ht]; rfl)
    have hRd := hO.reads
    clear hst hq ht
    obtain ⟨ao, cap, rfl, hc⟩ := hRd
    have HC := Lib.hid hc
    clear hc hO
    cases hex : s.ex with
    | false =>
      have HY := Lib.hid (show mtL l s sg = false by rw [HX.out, hex]; rfl)
      have c0 := HS2.out.c0
      rw [hex] at c0
      clear hex
      go_wp2
      go_ret
      exact ⟨by rw [HY.out]; rfl, HW2.out⟩
    | true =>
      have HY := Lib.hid (show mtL l s sg = (s.ht && ts.any fun t => sameT sg t s.tag) by rw [HX.out, hex]; rfl)
      have c0 := HS2.out.c0
      rw [hex] at c0
      clear hex
      go_wp2
      clear c0
      go_loopw [27] (fun i wr => ∃ k : Nat, i = .int .i64 k ∧ k ≤ ts.length ∧ (s.ht = true → (ts.take k).any (fun t => sameT sg t s.tag) = false) ∧ Below w2.heap.size w2 wr) (fun i _ => ts.length - (intOf i).toNat)
      case atStart => exact ⟨0, rfl, Nat.zero_le _, (fun _ => rfl), Below.refl _ _⟩
      case round =>
        obtain ⟨k, rfl, hk, hn, hBr⟩ := hrel
        have HBR := Lib.hid hBr
        have HN := Lib.hid hn
        have HB3 := Lib.hid (HW2.out.trans (hBr.mono HW2.out.size))
        clear hBr hn
        by_cases hlt : k < ts.length
        · obtain ⟨p, hp⟩ : ∃ p, ts[k]? = some p := ⟨ts[k], by simp [hlt]⟩
          obtain ⟨g, off, rfl, hg, hc1, hc2⟩ := HC.out k p hp
          have HM0 := Lib.hid (show MatS w.heap.size g (off + k * 2) s p wr wr from ⟨HS2.out.below HBR.out, (HBR.out.cell (p := ⟨g, off + k * 2, none⟩) hg).trans hc1, (HBR.out.cell (p := ⟨g, off + k * 2 + 1, none⟩) hg).trans hc2, Nat.lt_of_lt_of_le hg HBR.out.size, Below.refl _ _⟩)
          have HP := Lib.hid hp
          clear hp hc1 hc2 hg
          obtain ⟨h, hh⟩ : ∃ h, s.ht = h := ⟨_, rfl⟩
          obtain ⟨x1, hx1⟩ : ∃ x, sameT false p s.tag = x := ⟨_, rfl⟩
          obtain ⟨x2, hx2⟩ : ∃ x, sameT true p s.tag = x := ⟨_, rfl⟩
          have HH := Lib.hid hh
          have H1 := Lib.hid hx1
          have H2 := Lib.hid hx2
          have HMd := Lib.hid (HM0.out.below (Below.refl wr.heap.size wr).drew)
          clear hh hx1 hx2
          have hcs : h = false ∨ (h = true ∧ x1 = false) ∨ (h = true ∧ x1 = true ∧ sg = false) ∨ (h = true ∧ x1 = true ∧ sg = true ∧ x2 = false) ∨ (h = true ∧ x1 = true ∧ sg = true ∧ x2 = true) := by cases h <;> cases x1 <;> cases sg <;> cases x2 <;> simp
          rcases hcs with rfl | ⟨rfl, rfl⟩ | ⟨rfl, rfl, rfl⟩ | ⟨rfl, rfl, rfl, rfl⟩ | ⟨rfl, rfl, rfl, rfl⟩
          · have HZ := Lib.hid (fun (hx : s.ht = true) => (show (ts.take (k + 1)).any (fun t => sameT sg t s.tag) = false by rw [HH.out] at hx; cases hx))
            obtain ⟨c1, c3, c4, e1, e2, _⟩ := mat_all HH HM0.out
            go_wp2_with fail
            go_quiet (fail)
            go_wp2_with fail
            go_roundw
            case rel => exact ⟨k + 1, by go_num, by omega, HZ.out, below_drewN HBR.out _⟩
            case measure => simp [intOf]; omega
          · have HZ := Lib.hid (fun (hx : s.ht = true) => any_take_step (f := fun t => sameT sg t s.tag) HP.out (HN.out hx) (by rw [sameT_two, H1.out]; rfl))
            go_wp2_with fail
            refine wp_region_held_drew (S := (fun w' => w'.cell? ⟨w.heap.size, 1, none⟩ = some (.bool true) ∧ w'.cell? ⟨w.heap.size, 3, none⟩ = some (.bool s.tag.1) ∧ w'.cell? ⟨w.heap.size, 4, none⟩ = some (.string (strB s.tag.2)) ∧ w'.cell? ⟨g, off + k * 2, none⟩ = some (.bool p.1) ∧ w'.cell? ⟨g, off + k * 2 + 1, none⟩ = some (.string (strB p.2)) ∧ MatS w.heap.size g (off + k * 2) s p wr w')) (by kernel_rfl) (mat_all HH HMd.out) (fun hHeld => ?_)
            refine wpAnyH_take (i := 0) (oi := { dst := some 30, op := _, type := _, pos := _, after := _, guard := _ }) (v := ?_) rfl (by kernel_rfl) (by kernel_rfl) (by kernel_rfl) (fun _ _ _ h => h) (Or.inl ⟨by rfl, ?_⟩) (by assumption) ?_
            rotate_left
            focus (intro w hSw; (try dsimp only at hSw); first | (go_simp; done) | (go_simp; with_reducible rfl))
            (try simp only [Act.put, List.setIfInBounds_toArray, List.set_cons_zero, List.set_cons_succ])
            refine wpAnyH_take (i := 1) (oi := { dst := some 31, op := _, type := _, pos := _, after := _, guard := _ }) (v := ?_) rfl (by kernel_rfl) (by kernel_rfl) (by kernel_rfl) (fun _ _ _ h => h) (Or.inl ⟨by rfl, ?_⟩) (by assumption) ?_
            rotate_left
            focus (intro w hSw; (try dsimp only at hSw); first | (go_simp; done) | (go_simp; with_reducible rfl))
            (try simp only [Act.put, List.setIfInBounds_toArray, List.set_cons_zero, List.set_cons_succ])
            refine wpAnyH_take (i := 2) (oi := { dst := some 32, op := _, type := _, pos := _, after := _, guard := _ }) (v := ?_) rfl (by kernel_rfl) (by kernel_rfl) (by kernel_rfl) (fun _ _ _ h => h) (Or.inl ⟨by rfl, ?_⟩) (by assumption) ?_
            rotate_left
            focus (intro w hSw; (try dsimp only at hSw); first | (go_simp; done) | (go_simp; with_reducible rfl))
            (try simp only [Act.put, List.setIfInBounds_toArray, List.set_cons_zero, List.set_cons_succ])
            refine wpAnyH_take (i := 3) (oi := { dst := some 33, op := _, type := _, pos := _, after := _, guard := _ }) (v := ?_) rfl (by kernel_rfl) (by kernel_rfl) (by kernel_rfl) (fun _ _ _ h => h) (Or.inl ⟨by rfl, ?_⟩) (by assumption) ?_
            rotate_left
            focus (intro w hSw; (try dsimp only at hSw); first | (go_simp; done) | (go_simp; with_reducible rfl))
            (try simp only [Act.put, List.setIfInBounds_toArray, List.set_cons_zero, List.set_cons_succ])
            refine wpAnyH_take (i := 4) (oi := { dst := some 34, op := _, type := _, pos := _, after := _, guard := _ }) (v := ?_) rfl (by kernel_rfl) (by kernel_rfl) (by kernel_rfl) (fun _ _ _ h => h) (Or.inl ⟨by rfl, ?_⟩) (by assumption) ?_
            rotate_left
            focus (intro w hSw; (try dsimp only at hSw); first | (go_simp; done) | (go_simp; with_reducible rfl))
            (try simp only [Act.put, List.setIfInBounds_toArray, List.set_cons_zero, List.set_cons_succ])
            refine wpAnyH_take (i := 5) (oi := { dst := some 35, op := _, type := _, pos := _, after := _, guard := _ }) (v := ?_) rfl (by kernel_rfl) (by kernel_rfl) (by kernel_rfl) (fun _ _ _ h => h) (Or.inl ⟨by rfl, ?_⟩) (by assumption) ?_
            rotate_left
            focus (intro w hSw; (try dsimp only at hSw); first | (go_simp; done) | (go_simp; with_reducible rfl))
            (try simp only [Act.put, List.setIfInBounds_toArray, List.set_cons_zero, List.set_cons_succ])
            refine wpAnyH_take (i := 6) (oi := { dst := some 36, op := _, type := _, pos := _, after := _, guard := _ }) (v := ?_) rfl (by kernel_rfl) (by kernel_rfl) (by kernel_rfl) (fun _ _ _ h => h) (Or.inl ⟨by rfl, ?_⟩) (by assumption) ?_
            rotate_left
            focus (intro w hSw; (try dsimp only at hSw); first | (go_simp; done) | (go_simp; with_reducible rfl))
            (try simp only [Act.put, List.setIfInBounds_toArray, List.set_cons_zero, List.set_cons_succ])
            refine wpAnyH_take (i := 7) (oi := { dst := some 37, op := _, type := _, pos := _, after := _, guard := _ }) (v := ?_) rfl (by kernel_rfl) (by kernel_rfl) (by kernel_rfl) (fun _ _ _ h => h) (Or.inl ⟨by rfl, ?_⟩) (by assumption) ?_
            rotate_left
            focus (intro w hSw; (try dsimp only at hSw); first | (go_simp; done) | (go_simp; with_reducible rfl))
            (try simp only [Act.put, List.setIfInBounds_toArray, List.set_cons_zero, List.set_cons_succ])
            refine wpAnyH_take (i := 8) (oi := { dst := some 38, op := _, type := _, pos := _, after := _, guard := _ }) (v := ?_) rfl (by kernel_rfl) (by kernel_rfl) (by kernel_rfl) (fun _ _ _ h => h) (Or.inl ⟨by rfl, ?_⟩) (by assumption) ?_
            rotate_left
            focus (intro w hSw; (try dsimp only at hSw); first | (go_simp; done) | (go_simp; with_reducible rfl))
            (try simp only [Act.put, List.setIfInBounds_toArray, List.set_cons_zero, List.set_cons_succ])
            refine wpAnyH_ready (rs := [9]) (by kernel_rfl) (by simp) ?_
            refine AllReadyH.cons (o := { dst := some 39, op := _, type := _, pos := _, after := _, guard := _ }) rfl (fun K hK => ?_) AllReadyH.nil
            go_simp
            go_at_call 67
            refine (weak_at H1 hHeld.2.2.2.2.2).mono ?_
            rintro e w10 ⟨rfl, hK2⟩
            refine hK.out _ _ (mat_all HH hK2) (fun hHeld2 => ?_)
            clear hK K hHeld
            (try simp only [Act.put, List.setIfInBounds_toArray, List.set_cons_zero, List.set_cons_succ])
            refine wpAnyH_take (i := 10) (oi := { dst := some 40, op := _, type := _, pos := _, after := _, guard := _ }) (v := ?_) rfl (by kernel_rfl) (by kernel_rfl) (by kernel_rfl) (fun _ _ _ h => h) (Or.inl ⟨by rfl, ?_⟩) (by assumption) ?_
            rotate_left
            focus (intro w hSw; (try dsimp only at hSw); first | (go_simp; done) | (go_simp; with_reducible rfl))
            (try simp only [Act.put, List.setIfInBounds_toArray, List.set_cons_zero, List.set_cons_succ])
            refine wpAnyH_take (i := 11) (oi := { dst := some 41, op := _, type := _, pos := _, after := _, guard := _ }) (v := ?_) rfl (by kernel_rfl) (by kernel_rfl) (by kernel_rfl) (fun _ _ _ h => h) (Or.inl ⟨by rfl, ?_⟩) (by assumption) ?_
            rotate_left
            focus (intro w hSw; (try dsimp only at hSw); first | (go_simp; done) | (go_simp; with_reducible rfl))
            (try simp only [Act.put, List.setIfInBounds_toArray, List.set_cons_zero, List.set_cons_succ])
            refine wpAnyH_take (i := 12) (oi := { dst := some 42, op := _, type := _, pos := _, after := _, guard := _ }) (v := undef) rfl (by kernel_rfl) (by kernel_rfl) (by kernel_rfl) (fun _ _ _ h => h) (Or.inr ⟨by rfl, rfl⟩) (by assumption) ?_
            (try simp only [Act.put, List.setIfInBounds_toArray, List.set_cons_zero, List.set_cons_succ])
            refine wpAnyH_take (i := 13) (oi := { dst := some 43, op := _, type := _, pos := _, after := _, guard := _ }) (v := undef) rfl (by kernel_rfl) (by kernel_rfl) (by kernel_rfl) (fun _ _ _ h => h) (Or.inr ⟨by rfl, rfl⟩) (by assumption) ?_
            (try simp only [Act.put, List.setIfInBounds_toArray, List.set_cons_zero, List.set_cons_succ])
            refine wpAnyH_take (i := 14) (oi := { dst := some 44, op := _, type := _, pos := _, after := _, guard := _ }) (v := undef) rfl (by kernel_rfl) (by kernel_rfl) (by kernel_rfl) (fun _ _ _ h => h) (Or.inr ⟨by rfl, rfl⟩) (by assumption) ?_
            (try simp only [Act.put, List.setIfInBounds_toArray, List.set_cons_zero, List.set_cons_succ])
            refine wpAnyH_take (i := 15) (oi := { dst := some 45, op := _, type := _, pos := _, after := _, guard := _ }) (v := undef) rfl (by kernel_rfl) (by kernel_rfl) (by kernel_rfl) (fun _ _ _ h => h) (Or.inr ⟨by rfl, rfl⟩) (by assumption) ?_
            (try simp only [Act.put, List.setIfInBounds_toArray, List.set_cons_zero, List.set_cons_succ])
            refine wpAnyH_take (i := 16) (oi := { dst := some 46, op := _, type := _, pos := _, after := _, guard := _ }) (v := undef) rfl (by kernel_rfl) (by kernel_rfl) (by kernel_rfl) (fun _ _ _ h => h) (Or.inr ⟨by rfl, rfl⟩) (by assumption) ?_
            (try simp only [Act.put, List.setIfInBounds_toArray, List.set_cons_zero, List.set_cons_succ])
            refine wpAnyH_take (i := 17) (oi := { dst := some 47, op := _, type := _, pos := _, after := _, guard := _ }) (v := undef) rfl (by kernel_rfl) (by kernel_rfl) (by kernel_rfl) (fun _ _ _ h => h) (Or.inr ⟨by rfl, rfl⟩) (by assumption) ?_
            (try simp only [Act.put, List.setIfInBounds_toArray, List.set_cons_zero, List.set_cons_succ])
            refine wpAnyH_take (i := 18) (oi := { dst := some 48, op := _, type := _, pos := _, after := _, guard := _ }) (v := undef) rfl (by kernel_rfl) (by kernel_rfl) (by kernel_rfl) (fun _ _ _ h => h) (Or.inr ⟨by rfl, rfl⟩) (by assumption) ?_
            (try simp only [Act.put, List.setIfInBounds_toArray, List.set_cons_zero, List.set_cons_succ])
            refine wpAnyH_take (i := 19) (oi := { dst := some 49, op := _, type := _, pos := _, after := _, guard := _ }) (v := undef) rfl (by kernel_rfl) (by kernel_rfl) (by kernel_rfl) (fun _ _ _ h => h) (Or.inr ⟨by rfl, rfl⟩) (by assumption) ?_
            (try simp only [Act.put, List.setIfInBounds_toArray, List.set_cons_zero, List.set_cons_succ])
            refine wpAnyH_take (i := 20) (oi := { dst := some 50, op := _, type := _, pos := _, after := _, guard := _ }) (v := undef) rfl (by kernel_rfl) (by kernel_rfl) (by kernel_rfl) (fun _ _ _ h => h) (Or.inr ⟨by rfl, rfl⟩) (by assumption) ?_
            (try simp only [Act.put, List.setIfInBounds_toArray, List.set_cons_zero, List.set_cons_succ])
            refine wpAnyH_take (i := 21) (oi := { dst := some 51, op := _, type := _, pos := _, after := _, guard := _ }) (v := undef) rfl (by kernel_rfl) (by kernel_rfl) (by kernel_rfl) (fun _ _ _ h => h) (Or.inr ⟨by rfl, rfl⟩) (by assumption) ?_
            (try simp only [Act.put, List.setIfInBounds_toArray, List.set_cons_zero, List.set_cons_succ])
            refine wpAnyH_take (i := 22) (oi := { dst := some 52, op := _, type := _, pos := _, after := _, guard := _ }) (v := undef) rfl (by kernel_rfl) (by kernel_rfl) (by kernel_rfl) (fun _ _ _ h => h) (Or.inr ⟨by rfl, rfl⟩) (by assumption) ?_
            (try simp only [Act.put, List.setIfInBounds_toArray, List.set_cons_zero, List.set_cons_succ])
            refine wpAnyH_take (i := 23) (oi := { dst := some 53, op := _, type := _, pos := _, after := _, guard := _ }) (v := ?_) rfl (by kernel_rfl) (by kernel_rfl) (by kernel_rfl) (fun _ _ _ h => h) (Or.inl ⟨by rfl, ?_⟩) (by assumption) ?_
            rotate_left
            focus (intro w hSw; (try dsimp only at hSw); first | (go_simp; done) | (go_simp; with_reducible rfl))
            (try simp only [Act.put, List.setIfInBounds_toArray, List.set_cons_zero, List.set_cons_succ])
            refine wpAnyH_done (by kernel_rfl) ?_ _
            go_wp2_with fail
            go_roundw
            case rel => exact ⟨k + 1, by go_num, by omega, HZ.out, HBR.out.trans (hK2.b.mono HBR.out.size)⟩
            case measure => simp [intOf]; omega
          · have HZ := Lib.hid (show mtL l s false = true by rw [HY.out, HH.out, any_hit (f := fun t => sameT false t s.tag) HP.out H1.out]; rfl)
            go_wp2_with fail
            refine wp_region_held_drew (S := (fun w' => w'.cell? ⟨w.heap.size, 1, none⟩ = some (.bool true) ∧ w'.cell? ⟨w.heap.size, 3, none⟩ = some (.bool s.tag.1) ∧ w'.cell? ⟨w.heap.size, 4, none⟩ = some (.string (strB s.tag.2)) ∧ w'.cell? ⟨g, off + k * 2, none⟩ = some (.bool p.1) ∧ w'.cell? ⟨g, off + k * 2 + 1, none⟩ = some (.string (strB p.2)) ∧ MatS w.heap.size g (off + k * 2) s p wr w')) (by kernel_rfl) (mat_all HH HMd.out) (fun hHeld => ?_)
            refine wpAnyH_take (i := 0) (oi := { dst := some 30, op := _, type := _, pos := _, after := _, guard := _ }) (v := ?_) rfl (by kernel_rfl) (by kernel_rfl) (by kernel_rfl) (fun _ _ _ h => h) (Or.inl ⟨by rfl, ?_⟩) (by assumption) ?_
            rotate_left
            focus (intro w hSw; (try dsimp only at hSw); first | (go_simp; done) | (go_simp; with_reducible rfl))
            (try simp only [Act.put, List.setIfInBounds_toArray, List.set_cons_zero, List.set_cons_succ])
            refine wpAnyH_take (i := 1) (oi := { dst := some 31, op := _, type := _, pos := _, after := _, guard := _ }) (v := ?_) rfl (by kernel_rfl) (by kernel_rfl) (by kernel_rfl) (fun _ _ _ h => h) (Or.inl ⟨by rfl, ?_⟩) (by assumption) ?_
            rotate_left
            focus (intro w hSw; (try dsimp only at hSw); first | (go_simp; done) | (go_simp; with_reducible rfl))
            (try simp only [Act.put, List.setIfInBounds_toArray, List.set_cons_zero, List.set_cons_succ])
            refine wpAnyH_take (i := 2) (oi := { dst := some 32, op := _, type := _, pos := _, after := _, guard := _ }) (v := ?_) rfl (by kernel_rfl) (by kernel_rfl) (by kernel_rfl) (fun _ _ _ h => h) (Or.inl ⟨by rfl, ?_⟩) (by assumption) ?_
            rotate_left
            focus (intro w hSw; (try dsimp only at hSw); first | (go_simp; done) | (go_simp; with_reducible rfl))
            (try simp only [Act.put, List.setIfInBounds_toArray, List.set_cons_zero, List.set_cons_succ])
            refine wpAnyH_take (i := 3) (oi := { dst := some 33, op := _, type := _, pos := _, after := _, guard := _ }) (v := ?_) rfl (by kernel_rfl) (by kernel_rfl) (by kernel_rfl) (fun _ _ _ h => h) (Or.inl ⟨by rfl, ?_⟩) (by assumption) ?_
            rotate_left
            focus (intro w hSw; (try dsimp only at hSw); first | (go_simp; done) | (go_simp; with_reducible rfl))
            (try simp only [Act.put, List.setIfInBounds_toArray, List.set_cons_zero, List.set_cons_succ])
            refine wpAnyH_take (i := 4) (oi := { dst := some 34, op := _, type := _, pos := _, after := _, guard := _ }) (v := ?_) rfl (by kernel_rfl) (by kernel_rfl) (by kernel_rfl) (fun _ _ _ h => h) (Or.inl ⟨by rfl, ?_⟩) (by assumption) ?_
            rotate_left
            focus (intro w hSw; (try dsimp only at hSw); first | (go_simp; done) | (go_simp; with_reducible rfl))
            (try simp only [Act.put, List.setIfInBounds_toArray, List.set_cons_zero, List.set_cons_succ])
            refine wpAnyH_take (i := 5) (oi := { dst := some 35, op := _, type := _, pos := _, after := _, guard := _ }) (v := ?_) rfl (by kernel_rfl) (by kernel_rfl) (by kernel_rfl) (fun _ _ _ h => h) (Or.inl ⟨by rfl, ?_⟩) (by assumption) ?_
            rotate_left
            focus (intro w hSw; (try dsimp only at hSw); first | (go_simp; done) | (go_simp; with_reducible rfl))
            (try simp only [Act.put, List.setIfInBounds_toArray, List.set_cons_zero, List.set_cons_succ])
            refine wpAnyH_take (i := 6) (oi := { dst := some 36, op := _, type := _, pos := _, after := _, guard := _ }) (v := ?_) rfl (by kernel_rfl) (by kernel_rfl) (by kernel_rfl) (fun _ _ _ h => h) (Or.inl ⟨by rfl, ?_⟩) (by assumption) ?_
            rotate_left
            focus (intro w hSw; (try dsimp only at hSw); first | (go_simp; done) | (go_simp; with_reducible rfl))
            (try simp only [Act.put, List.setIfInBounds_toArray, List.set_cons_zero, List.set_cons_succ])
            refine wpAnyH_take (i := 7) (oi := { dst := some 37, op := _, type := _, pos := _, after := _, guard := _ }) (v := ?_) rfl (by kernel_rfl) (by kernel_rfl) (by kernel_rfl) (fun _ _ _ h => h) (Or.inl ⟨by rfl, ?_⟩) (by assumption) ?_
            rotate_left
            focus (intro w hSw; (try dsimp only at hSw); first | (go_simp; done) | (go_simp; with_reducible rfl))
            (try simp only [Act.put, List.setIfInBounds_toArray, List.set_cons_zero, List.set_cons_succ])
            refine wpAnyH_take (i := 8) (oi := { dst := some 38, op := _, type := _, pos := _, after := _, guard := _ }) (v := ?_) rfl (by kernel_rfl) (by kernel_rfl) (by kernel_rfl) (fun _ _ _ h => h) (Or.inl ⟨by rfl, ?_⟩) (by assumption) ?_
            rotate_left
            focus (intro w hSw; (try dsimp only at hSw); first | (go_simp; done) | (go_simp; with_reducible rfl))
            (try simp only [Act.put, List.setIfInBounds_toArray, List.set_cons_zero, List.set_cons_succ])
            refine wpAnyH_ready (rs := [9]) (by kernel_rfl) (by simp) ?_
            refine AllReadyH.cons (o := { dst := some 39, op := _, type := _, pos := _, after := _, guard := _ }) rfl (fun K hK => ?_) AllReadyH.nil
            go_simp
            go_at_call 67
            refine (weak_at H1 hHeld.2.2.2.2.2).mono ?_
            rintro e w10 ⟨rfl, hK2⟩
            refine hK.out _ _ (mat_all HH hK2) (fun hHeld2 => ?_)
            clear hK K hHeld
            (try simp only [Act.put, List.setIfInBounds_toArray, List.set_cons_zero, List.set_cons_succ])
            refine wpAnyH_take (i := 10) (oi := { dst := some 40, op := _, type := _, pos := _, after := _, guard := _ }) (v := ?_) rfl (by kernel_rfl) (by kernel_rfl) (by kernel_rfl) (fun _ _ _ h => h) (Or.inl ⟨by rfl, ?_⟩) (by assumption) ?_
            rotate_left
            focus (intro w hSw; (try dsimp only at hSw); first | (go_simp; done) | (go_simp; with_reducible rfl))
            (try simp only [Act.put, List.setIfInBounds_toArray, List.set_cons_zero, List.set_cons_succ])
            refine wpAnyH_take (i := 11) (oi := { dst := some 41, op := _, type := _, pos := _, after := _, guard := _ }) (v := ?_) rfl (by kernel_rfl) (by kernel_rfl) (by kernel_rfl) (fun _ _ _ h => h) (Or.inl ⟨by rfl, ?_⟩) (by assumption) ?_
            rotate_left
            focus (intro w hSw; (try dsimp only at hSw); first | (go_simp; done) | (go_simp; with_reducible rfl))
            (try simp only [Act.put, List.setIfInBounds_toArray, List.set_cons_zero, List.set_cons_succ])
            refine wpAnyH_take (i := 12) (oi := { dst := some 42, op := _, type := _, pos := _, after := _, guard := _ }) (v := ?_) rfl (by kernel_rfl) (by kernel_rfl) (by kernel_rfl) (fun _ _ _ h => h) (Or.inl ⟨by rfl, ?_⟩) (by assumption) ?_
            rotate_left
            focus (intro w hSw; (try dsimp only at hSw); first | (go_simp; done) | (go_simp; with_reducible rfl))
            (try simp only [Act.put, List.setIfInBounds_toArray, List.set_cons_zero, List.set_cons_succ])
            refine wpAnyH_take (i := 13) (oi := { dst := some 43, op := _, type := _, pos := _, after := _, guard := _ }) (v := ?_) rfl (by kernel_rfl) (by kernel_rfl) (by kernel_rfl) (fun _ _ _ h => h) (Or.inl ⟨by rfl, ?_⟩) (by assumption) ?_
            rotate_left
            focus (intro w hSw; (try dsimp only at hSw); first | (go_simp; done) | (go_simp; with_reducible rfl))
            (try simp only [Act.put, List.setIfInBounds_toArray, List.set_cons_zero, List.set_cons_succ])
            refine wpAnyH_take (i := 14) (oi := { dst := some 44, op := _, type := _, pos := _, after := _, guard := _ }) (v := ?_) rfl (by kernel_rfl) (by kernel_rfl) (by kernel_rfl) (fun _ _ _ h => h) (Or.inl ⟨by rfl, ?_⟩) (by assumption) ?_
            rotate_left
            focus (intro w hSw; (try dsimp only at hSw); first | (go_simp; done) | (go_simp; with_reducible rfl))
            (try simp only [Act.put, List.setIfInBounds_toArray, List.set_cons_zero, List.set_cons_succ])
            refine wpAnyH_take (i := 15) (oi := { dst := some 45, op := _, type := _, pos := _, after := _, guard := _ }) (v := undef) rfl (by kernel_rfl) (by kernel_rfl) (by kernel_rfl) (fun _ _ _ h => h) (Or.inr ⟨by rfl, rfl⟩) (by assumption) ?_
            (try simp only [Act.put, List.setIfInBounds_toArray, List.set_cons_zero, List.set_cons_succ])
            refine wpAnyH_take (i := 16) (oi := { dst := some 46, op := _, type := _, pos := _, after := _, guard := _ }) (v := undef) rfl (by kernel_rfl) (by kernel_rfl) (by kernel_rfl) (fun _ _ _ h => h) (Or.inr ⟨by rfl, rfl⟩) (by assumption) ?_
            (try simp only [Act.put, List.setIfInBounds_toArray, List.set_cons_zero, List.set_cons_succ])
            refine wpAnyH_take (i := 17) (oi := { dst := some 47, op := _, type := _, pos := _, after := _, guard := _ }) (v := undef) rfl (by kernel_rfl) (by kernel_rfl) (by kernel_rfl) (fun _ _ _ h => h) (Or.inr ⟨by rfl, rfl⟩) (by assumption) ?_
            (try simp only [Act.put, List.setIfInBounds_toArray, List.set_cons_zero, List.set_cons_succ])
            refine wpAnyH_take (i := 18) (oi := { dst := some 48, op := _, type := _, pos := _, after := _, guard := _ }) (v := undef) rfl (by kernel_rfl) (by kernel_rfl) (by kernel_rfl) (fun _ _ _ h => h) (Or.inr ⟨by rfl, rfl⟩) (by assumption) ?_
            (try simp only [Act.put, List.setIfInBounds_toArray, List.set_cons_zero, List.set_cons_succ])
            refine wpAnyH_take (i := 19) (oi := { dst := some 49, op := _, type := _, pos := _, after := _, guard := _ }) (v := undef) rfl (by kernel_rfl) (by kernel_rfl) (by kernel_rfl) (fun _ _ _ h => h) (Or.inr ⟨by rfl, rfl⟩) (by assumption) ?_
            (try simp only [Act.put, List.setIfInBounds_toArray, List.set_cons_zero, List.set_cons_succ])
            refine wpAnyH_take (i := 20) (oi := { dst := some 50, op := _, type := _, pos := _, after := _, guard := _ }) (v := undef) rfl (by kernel_rfl) (by kernel_rfl) (by kernel_rfl) (fun _ _ _ h => h) (Or.inr ⟨by rfl, rfl⟩) (by assumption) ?_
            (try simp only [Act.put, List.setIfInBounds_toArray, List.set_cons_zero, List.set_cons_succ])
            refine wpAnyH_take (i := 21) (oi := { dst := some 51, op := _, type := _, pos := _, after := _, guard := _ }) (v := undef) rfl (by kernel_rfl) (by kernel_rfl) (by kernel_rfl) (fun _ _ _ h => h) (Or.inr ⟨by rfl, rfl⟩) (by assumption) ?_
            (try simp only [Act.put, List.setIfInBounds_toArray, List.set_cons_zero, List.set_cons_succ])
            refine wpAnyH_take (i := 22) (oi := { dst := some 52, op := _, type := _, pos := _, after := _, guard := _ }) (v := ?_) rfl (by kernel_rfl) (by kernel_rfl) (by kernel_rfl) (fun _ _ _ h => h) (Or.inl ⟨by rfl, ?_⟩) (by assumption) ?_
            rotate_left
            focus (intro w hSw; (try dsimp only at hSw); first | (go_simp; done) | (go_simp; with_reducible rfl))
            (try simp only [Act.put, List.setIfInBounds_toArray, List.set_cons_zero, List.set_cons_succ])
            refine wpAnyH_take (i := 23) (oi := { dst := some 53, op := _, type := _, pos := _, after := _, guard := _ }) (v := ?_) rfl (by kernel_rfl) (by kernel_rfl) (by kernel_rfl) (fun _ _ _ h => h) (Or.inl ⟨by rfl, ?_⟩) (by assumption) ?_
            rotate_left
            focus (intro w hSw; (try dsimp only at hSw); first | (go_simp; done) | (go_simp; with_reducible rfl))
            (try simp only [Act.put, List.setIfInBounds_toArray, List.set_cons_zero, List.set_cons_succ])
            refine wpAnyH_done (by kernel_rfl) ?_ _
            go_wp2_with fail
            go_ret
            exact ⟨by rw [HZ.out]; rfl, HB3.out.trans (hK2.b.mono HB3.out.size)⟩
          · have HZ := Lib.hid (fun (hx : s.ht = true) => any_take_step (f := fun t => sameT true t s.tag) HP.out (HN.out hx) H2.out)
            go_wp2
            go_region_held3 (fun w' => w'.cell? ⟨w.heap.size, 1, none⟩ = some (.bool true) ∧ w'.cell? ⟨w.heap.size, 3, none⟩ = some (.bool s.tag.1) ∧ w'.cell? ⟨w.heap.size, 4, none⟩ = some (.string (strB s.tag.2)) ∧ w'.cell? ⟨g, off + k * 2, none⟩ = some (.bool p.1) ∧ w'.cell? ⟨g, off + k * 2 + 1, none⟩ = some (.string (strB p.2)) ∧ MatS w.heap.size g (off + k * 2) s p wr w')
              (first | with_reducible exact mat_all HH hK | with_reducible exact mat_all HH HMd.out)
              (first
              | (go_at_call 67; refine (weak_at H1 (by first | exact HMd.out | assumption)).mono ?_; rintro e w10 ⟨rfl, hK⟩)
              | (go_at_call 50; refine (strong_at H2 (by first | assumption | exact HMd.out)).mono ?_; rintro e w10 ⟨rfl, hK⟩))
            go_wp2_with fail
            go_roundw
            case rel => exact ⟨k + 1, by go_num, by omega, HZ.out, HBR.out.trans (hK.b.mono HBR.out.size)⟩
            case measure => simp [intOf]; omega
          · have HZ := Lib.hid (show mtL l s true = true by rw [HY.out, HH.out, any_hit (f := fun t => sameT true t s.tag) HP.out H2.out]; rfl)
            go_wp2
            go_region_held3 (fun w' => w'.cell? ⟨w.heap.size, 1, none⟩ = some (.bool true) ∧ w'.cell? ⟨w.heap.size, 3, none⟩ = some (.bool s.tag.1) ∧ w'.cell? ⟨w.heap.size, 4, none⟩ = some (.string (strB s.tag.2)) ∧ w'.cell? ⟨g, off + k * 2, none⟩ = some (.bool p.1) ∧ w'.cell? ⟨g, off + k * 2 + 1, none⟩ = some (.string (strB p.2)) ∧ MatS w.heap.size g (off + k * 2) s p wr w')
              (first | with_reducible exact mat_all HH hK | with_reducible exact mat_all HH HMd.out)
              (first
              | (go_at_call 67; refine (weak_at H1 (by first | exact HMd.out | assumption)).mono ?_; rintro e w10 ⟨rfl, hK⟩)
              | (go_at_call 50; refine (strong_at H2 (by first | assumption | exact HMd.out)).mono ?_; rintro e w10 ⟨rfl, hK⟩))
            go_wp2_with fail
            go_ret
            exact ⟨by rw [HZ.out]; rfl, HB3.out.trans (hK.b.mono HB3.out.size)⟩
        · have HZ := Lib.hid (show mtL l s sg = false by
            rw [HY.out]
            cases hh : s.ht with
            | false => rfl
            | true => rw [any_all (f := fun t => sameT sg t s.tag) (by omega) (HN.out hh)]; rfl)
          go_wp2
          go_ret
          exact ⟨by rw [HZ.out]; rfl, HB3.out⟩
end Go.Proofs.YtkpeaghbacoehaaGreatDoor

/- What the reference's Evaluate and UseRange, and the program's UseRange return. -/
namespace Go.Proofs.YtkpeaghbacoehaaGreatDoor
open Go.RowKit

theorem refParseD_any (l : List UInt8) (d : Option Nat) (hd : DateIs l d) (w : World) (hl : l.length ≤ 1000000) :
    Calls Tryz.prog 47 #[.string (strB l)] w fun e w' => ∃ x, e = .returned (.tuple #[x, .bool d.isSome]) ∧ (∀ n, d = some n → x = .int .i64 (n : Int)) ∧ Below w.heap.size w w' := by
  have hv : ∀ e, ParseR (strB l).data.toList e → ∃ x, e = .returned (.tuple #[x, .bool d.isSome]) ∧ (∀ n, d = some n → x = .int .i64 (n : Int)) := by
    intro e h
    rw [strB_list] at h
    rcases h with ⟨n, hn, rfl⟩ | ⟨hn, v, rfl⟩
    · have : d = some n := hd.uniq (e := some n) hn
      subst this; exact ⟨_, rfl, fun k hk => by cases hk; rfl⟩
    · have : d = none := hd.uniq (e := none) hn
      subst this; exact ⟨v, rfl, fun k hk => by cases hk⟩
  by_cases hs : (strB l).size = 29
  · refine (refParse_any (strB l) w hs).mono ?_
    rintro e w' ⟨h, hB⟩
    obtain ⟨x, hx, hy⟩ := hv e h
    exact ⟨x, hx, hy, hB⟩
  · refine (refParse_short (strB l) w hs (by rw [strB_size]; unfold maxLen; omega)).mono ?_
    rintro e w' ⟨h, rfl⟩
    obtain ⟨x, hx, hy⟩ := hv e h
    exact ⟨x, hx, hy, Below.refl _ _⟩
theorem refGetY_any (fv : Value) (ps : Flds) (n : List UInt8) (w : World) (hr : ReadsQ w fv ps) (hf : FitY ps) (hn : n.length ≤ 100) :
    Calls Tryz.prog 46 #[fv, .string (strB n)] w fun e w' => e = .returned (.tuple #[.string (strB (valF ps n)), .bool (fnd ps n)]) ∧ Below w.heap.size w w' :=
  refGet_any fv ps n w hr (by omega) (by have := hf.len; omega) hf.each
def evR (f1 m1 la f3 m3 rd si : Bool) : Int := if (if f1 = true then !m1 else la) = true then 3 else if f3 = true then (if m3 = true then (if rd = true then 2 else 3) else 1) else if rd = true ∧ si = true then 2 else 1
theorem evalL_R (m : List UInt8) (ps : Flds) (s : StV) (du dm : Option Nat) : evalL m ps s du dm = evR (fnd ps nIM) (mtL (valF ps nIM) s true) (laterL s du) (fnd ps nIN) (mtL (valF ps nIN) s false) (readsM m) (sinceL s dm) := rfl
theorem date_fnd {ps : Flds} {n : List UInt8} {d : Option Nat} (hd : DateIs (valF ps n) d) (h : fnd ps n = false) : d = none := by
  rw [val_none h] at hd; exact hd.uniq date_nil
set_option maxHeartbeats 16000000 in
set_option maxRecDepth 100000 in
theorem refEvaluate_any (m : List UInt8) (fv : Value) (ps : Flds) (s : StV) (du dm : Option Nat) (w : World) (hr : ReadsQ w fv ps) (hf : FitY ps) (hdu : DateIs (valF ps nIU) du) (hdm : DateIs (valF ps nIS) dm) :
    Calls Tryz.prog 27 #[.string (strB m), fv, stV s] w fun e w' => e = .returned (.int .i64 (evalL m ps s du dm)) ∧ Below w.heap.size w w' := by
  have HW := Lib.hid (below_new w (.cells (stC s) 52))
  have HS := Lib.hid (stB_new w s 52)
  have HR := Lib.hid hr
  have HFU := Lib.hid (date_fnd hdu)
  have HFS := Lib.hid (date_fnd hdm)
  have HG1 := Lib.hid (fun (w : World) (hr : ReadsQ w fv ps) => refGetY_any fv ps nIM w hr hf (by decide))
  have HG2 := Lib.hid (fun (w : World) (hr : ReadsQ w fv ps) => refGetY_any fv ps nIU w hr hf (by decide))
  have HG3 := Lib.hid (fun (w : World) (hr : ReadsQ w fv ps) => refGetY_any fv ps nIN w hr hf (by decide))
  have HG4 := Lib.hid (fun (w : World) (hr : ReadsQ w fv ps) => refGetY_any fv ps nIS w hr hf (by decide))
  have v1 := hf.val nIM
  have v2 := hf.val nIU
  have v3 := hf.val nIN
  have v4 := hf.val nIS
  have HP2 := Lib.hid (fun (w : World) => refParseD_any (valF ps nIU) du hdu w (by omega))
  have HP4 := Lib.hid (fun (w : World) => refParseD_any (valF ps nIS) dm hdm w (by omega))
  have HM1 := Lib.hid (fun (w : World) => refMatches_any true s (valF ps nIM) w (by omega))
  have HM3 := Lib.hid (fun (w : World) => refMatches_any false s (valF ps nIN) w (by omega))
  have HGT := Lib.hid (meth_any m [71, 69, 84])
  have HHD := Lib.hid (meth_any m [72, 69, 65, 68])
  have HQ := Lib.hid (evalL_R m ps s du dm)
  obtain ⟨rd, hrd⟩ : ∃ x, readsM m = x := ⟨_, rfl⟩
  have HRD := Lib.hid hrd
  clear v1 v2 v3 v4 hr hf hrd hdu hdm
  obtain ⟨f1, hf1⟩ : ∃ x, fnd ps nIM = x := ⟨_, rfl⟩
  obtain ⟨f2, hf2⟩ : ∃ x, fnd ps nIU = x := ⟨_, rfl⟩
  obtain ⟨f3, hf3⟩ : ∃ x, fnd ps nIN = x := ⟨_, rfl⟩
  obtain ⟨f4, hf4⟩ : ∃ x, fnd ps nIS = x := ⟨_, rfl⟩
  obtain ⟨m1, hm1⟩ : ∃ x, mtL (valF ps nIM) s true = x := ⟨_, rfl⟩
  obtain ⟨m3, hm3⟩ : ∃ x, mtL (valF ps nIN) s false = x := ⟨_, rfl⟩
  rw [hf1] at HG1
  rw [hf2] at HG2 HFU
  rw [hf3] at HG3
  rw [hf4] at HG4 HFS
  rw [hm1] at HM1
  rw [hm3] at HM3
  rw [hf1, hf3, hm1, hm3, HRD.out] at HQ
  clear hf1 hf2 hf3 hf4 hm1 hm3
  generalize evalL m ps s du dm = res at *
  generalize valF ps nIM = x1 at *
  generalize valF ps nIU = x2 at *
  generalize valF ps nIN = x3 at *
  generalize valF ps nIS = x4 at *
  obtain ⟨kn, hkn⟩ : ∃ x, (s.ex && s.hm) = x := ⟨_, rfl⟩
  have HKN := Lib.hid hkn
  clear hkn
  go_enter Tryz.func27, Tryz.ntmps27
  go_upto_region 1 with fail
  generalize hW0 : w.alloc (.cells (stC s) 52) = W0 at *
  go_cut [7] (fun u7 wx => u7 = .bool rd ∧ wx = W0)
  case first =>
    have hgt := HGT.out
    have hhd := HHD.out
    by_cases hg : m = [71, 69, 84]
    · rw [decide_eq_true hg] at hgt
      have hZ := Lib.hid (show rd = true by rw [← HRD.out]; unfold readsM mGET; rw [decide_eq_true hg]; rfl)
      clear hg
      go_wp2_with fail
      go_meet
      exact ⟨by rw [hZ.out], rfl⟩
    · rw [decide_eq_false hg] at hgt
      have hZ := Lib.hid (show rd = decide (m = [72, 69, 65, 68]) by rw [← HRD.out]; unfold readsM mGET mHEAD; rw [decide_eq_false hg]; rfl)
      clear hg
      go_wp2_with fail
      go_meet
      exact ⟨by rw [hZ.out], rfl⟩
  case rest =>
    obtain ⟨rfl, hw⟩ := hcut
    have hw' := hw.symm
    subst hw'
    clear hw
    obtain ⟨c0, c1, c2, c3, c4, c5, fr, lt⟩ := HS.out
    go_upto_region 2 with fail
    go_cut [8] (fun u8 wx => u8 = .bool kn ∧ wx = W0)
    case first =>
      obtain ⟨ex, hex⟩ : ∃ x, s.ex = x := ⟨_, rfl⟩
      obtain ⟨hm, hhm⟩ : ∃ x, s.hm = x := ⟨_, rfl⟩
      rw [hex] at c0
      rw [hhm] at c2
      have hZ := Lib.hid (show kn = (ex && hm) by rw [← HKN.out, hex, hhm])
      clear hex hhm
      cases ex
      · go_wp2_with fail
        go_meet
        exact ⟨by rw [hZ.out]; rfl, rfl⟩
      · go_wp2_with fail
        go_meet
        exact ⟨by rw [hZ.out]; rfl, rfl⟩
    case rest =>
      obtain ⟨rfl, hw⟩ := hcut
      have hw' := hw.symm
      subst hw'
      clear hw
      clear c0 c1 c2 c3 c4 c5 fr lt
      go_wp2_with fail
      refine (HG1.out _ (HR.out.below HW.out)).mono ?_
      rintro e w1 ⟨rfl, hB1⟩
      have HW1 := Lib.hid (HW.out.trans (hB1.mono HW.out.size))
      have HS1 := Lib.hid (HS.out.below hB1)
      clear hB1
      go_wp2_with fail
      refine (HG2.out _ (HR.out.below HW1.out)).mono ?_
      rintro e w2 ⟨rfl, hB2⟩
      have HW2 := Lib.hid (HW1.out.trans (hB2.mono HW1.out.size))
      have HS2 := Lib.hid (HS1.out.below hB2)
      clear hB2
      go_wp2_with fail
      refine (HP2.out _).mono ?_
      rintro e w3 ⟨y2, rfl, hy2, hB3⟩
      have HW3 := Lib.hid (HW2.out.trans (hB3.mono HW2.out.size))
      have HS3 := Lib.hid (HS2.out.below hB3)
      have HY2 := Lib.hid hy2
      clear hB3 hy2
      obtain ⟨d2, hd2⟩ : ∃ x, du.isSome = x := ⟨_, rfl⟩
      rw [hd2]
      have HD2 := Lib.hid hd2
      clear hd2
      go_upto_region 6 with fail
      go_cut [54] (fun u54 wx => u54 = .bool (f1 && !m1) ∧ Below w3.heap.size w3 wx)
      case first =>
        obtain ⟨c0, c1, c2, c3, c4, c5, fr, lt⟩ := HS3.out
        cases f1
        · go_wp2_with fail
          go_meet
          exact ⟨rfl, Below.refl _ _⟩
        · go_wp2_with fail
          refine (HM1.out _).mono ?_
          rintro e w4 ⟨rfl, hB4⟩
          go_wp2_with fail
          go_meet
          exact ⟨rfl, hB4⟩
      case rest =>
        obtain ⟨rfl, hBx⟩ := hcut
        have HW4 := Lib.hid (HW3.out.trans (hBx.mono HW3.out.size))
        have HS4 := Lib.hid (HS3.out.below hBx)
        clear hBx
        obtain ⟨b6, hb6⟩ : ∃ x, (f1 && !m1) = x := ⟨_, rfl⟩
        rw [hb6]
        have HB6 := Lib.hid hb6
        clear hb6
        rcases b6.eq_false_or_eq_true with hb | hb
        · subst hb
          have HZ := Lib.hid (show res = 3 by
            have h6 := HB6.out
            rw [HQ.out]
            cases f1 <;> cases m1 <;> simp at h6
            rfl)
          go_wp2_with fail
          go_ret
          exact ⟨by rw [HZ.out]; rfl, HW4.out⟩
        · subst hb
          go_upto_region 8 with fail
          obtain ⟨la, hla⟩ : ∃ x, laterL s du = x := ⟨_, rfl⟩
          have HLA := Lib.hid hla
          rw [hla] at HQ
          clear hla
          go_cut [71] (fun u71 wx => u71 = .bool (!f1 && la) ∧ wx = wc)
          case first =>
            obtain ⟨c0, c1, c2, c3, c4, c5, fr, lt⟩ := HS4.out
            cases f1
            · cases f2
              · have HZ := Lib.hid (show la = false by rw [← HLA.out, HFU.out rfl]; unfold laterL; cases s.ex <;> cases s.hm <;> rfl)
                go_wp2_with fail
                go_meet
                exact ⟨by rw [HZ.out]; rfl, rfl⟩
              · cases hdu : du with
                | none =>
                  have HZ := Lib.hid (show la = false by rw [← HLA.out, hdu]; unfold laterL; cases s.ex <;> cases s.hm <;> rfl)
                  have hd := HD2.out
                  rw [hdu] at hd
                  subst hd
                  clear hdu
                  go_wp2_with fail
                  go_meet
                  exact ⟨by rw [HZ.out]; rfl, rfl⟩
                | some n =>
                  have hd := HD2.out
                  rw [hdu] at hd
                  subst hd
                  have hy := HY2.out n hdu
                  subst hy
                  have HZ := Lib.hid (show la = (kn && decide ((n : Int) < s.md)) by rw [← HLA.out, hdu, ← HKN.out]; rfl)
                  clear hdu
                  cases kn
                  · go_wp2_with fail
                    go_meet
                    exact ⟨by rw [HZ.out]; rfl, rfl⟩
                  · go_wp2_with fail
                    go_meet
                    exact ⟨by rw [HZ.out]; rfl, rfl⟩
            · go_wp2_with fail
              go_meet
              exact ⟨rfl, rfl⟩
          case rest =>
            obtain ⟨rfl, hw⟩ := hcut
            have hw' := hw.symm
            subst hw'
            clear hw
            obtain ⟨b8, hb8⟩ : ∃ x, (!f1 && la) = x := ⟨_, rfl⟩
            rw [hb8]
            have HB8 := Lib.hid hb8
            clear hb8
            rcases b8.eq_false_or_eq_true with hb | hb
            · subst hb
              have HZ := Lib.hid (show res = 3 by
                have h8 := HB8.out
                rw [HQ.out]
                cases f1 <;> cases la <;> simp at h8
                rfl)
              go_wp2_with fail
              go_ret
              exact ⟨by rw [HZ.out]; rfl, HW4.out⟩
            · subst hb
              have HO := Lib.hid (show (if f1 = true then !m1 else la) = false by
                have h8 := HB8.out
                have h6 := HB6.out
                cases f1 <;> cases m1 <;> cases la <;> simp at h6 h8 ⊢)
              go_wp2_with fail
              refine (HG3.out _ (HR.out.below HW4.out)).mono ?_
              rintro e w5 ⟨rfl, hB5⟩
              have HW5 := Lib.hid (HW4.out.trans (hB5.mono HW4.out.size))
              have HS5 := Lib.hid (HS4.out.below hB5)
              clear hB5
              go_wp2_with fail
              refine (HG4.out _ (HR.out.below HW5.out)).mono ?_
              rintro e w6 ⟨rfl, hB6⟩
              have HW6 := Lib.hid (HW5.out.trans (hB6.mono HW5.out.size))
              have HS6 := Lib.hid (HS5.out.below hB6)
              clear hB6
              go_wp2_with fail
              refine (HP4.out _).mono ?_
              rintro e w7 ⟨y4, rfl, hy4, hB7⟩
              have HW7 := Lib.hid (HW6.out.trans (hB7.mono HW6.out.size))
              have HS7 := Lib.hid (HS6.out.below hB7)
              have HY4 := Lib.hid hy4
              clear hB7 hy4
              obtain ⟨d4, hd4⟩ : ∃ x, dm.isSome = x := ⟨_, rfl⟩
              rw [hd4]
              have HD4 := Lib.hid hd4
              clear hd4
              go_upto_region 13 with fail
              go_cut [92] (fun u92 wx => u92 = .bool (f3 && m3) ∧ Below w7.heap.size w7 wx)
              case first =>
                obtain ⟨c0, c1, c2, c3, c4, c5, fr, lt⟩ := HS7.out
                cases f3
                · go_wp2_with fail
                  go_meet
                  exact ⟨rfl, Below.refl _ _⟩
                · go_wp2_with fail
                  refine (HM3.out _).mono ?_
                  rintro e w8 ⟨rfl, hB8⟩
                  go_wp2_with fail
                  go_meet
                  exact ⟨rfl, hB8⟩
              case rest =>
                obtain ⟨rfl, hBy⟩ := hcut
                have HW8 := Lib.hid (HW7.out.trans (hBy.mono HW7.out.size))
                have HS8 := Lib.hid (HS7.out.below hBy)
                clear hBy
                obtain ⟨b9, hb9⟩ : ∃ x, (f3 && m3) = x := ⟨_, rfl⟩
                rw [hb9]
                have HB9 := Lib.hid hb9
                clear hb9
                rcases b9.eq_false_or_eq_true with hb | hb
                · subst hb
                  have HZ := Lib.hid (show res = if rd = true then 2 else 3 by
                    have h9 := HB9.out
                    have ho := HO.out
                    rw [HQ.out]
                    unfold evR
                    rw [ho]
                    cases f3 <;> cases m3 <;> simp at h9
                    rfl)
                  cases rd
                  · go_wp2_with fail
                    go_ret
                    exact ⟨by rw [HZ.out]; rfl, HW8.out⟩
                  · go_wp2_with fail
                    go_ret
                    exact ⟨by rw [HZ.out]; rfl, HW8.out⟩
                · subst hb
                  obtain ⟨si, hsi⟩ : ∃ x, sinceL s dm = x := ⟨_, rfl⟩
                  have HSI := Lib.hid hsi
                  rw [hsi] at HQ
                  clear hsi
                  have HZ := Lib.hid (show res = if (!f3 && (rd && si)) = true then 2 else 1 by
                    have h9 := HB9.out
                    have ho := HO.out
                    rw [HQ.out]
                    unfold evR
                    rw [ho]
                    cases f3 <;> cases m3 <;> simp at h9 <;> simp)
                  go_upto_region 17 with fail
                  go_cut [113] (fun u113 wx => u113 = .bool (!f3 && (rd && si)) ∧ Below w.heap.size w wx)
                  case first =>
                    obtain ⟨c0, c1, c2, c3, c4, c5, fr, lt⟩ := HS8.out
                    cases f3
                    · cases f4
                      · have HX := Lib.hid (show si = false by rw [← HSI.out, HFS.out rfl]; unfold sinceL; cases s.ex <;> cases s.hm <;> rfl)
                        go_wp2_with fail
                        go_meet
                        exact ⟨by rw [HX.out]; cases rd <;> rfl, HW8.out⟩
                      · cases rd
                        · go_wp2_with fail
                          go_meet
                          exact ⟨rfl, HW8.out⟩
                        · cases hdm : dm with
                          | none =>
                            have HX := Lib.hid (show si = false by rw [← HSI.out, hdm]; unfold sinceL; cases s.ex <;> cases s.hm <;> rfl)
                            have hd := HD4.out
                            rw [hdm] at hd
                            subst hd
                            clear hdm
                            go_wp2_with fail
                            go_meet
                            exact ⟨by rw [HX.out]; rfl, HW8.out⟩
                          | some n =>
                            have hd := HD4.out
                            rw [hdm] at hd
                            subst hd
                            have hy := HY4.out n hdm
                            subst hy
                            have HX := Lib.hid (show si = (kn && decide (s.md ≤ (n : Int))) by rw [← HSI.out, hdm, ← HKN.out]; rfl)
                            clear hdm
                            cases kn
                            · go_wp2_with fail
                              go_meet
                              exact ⟨by rw [HX.out]; rfl, HW8.out⟩
                            · go_wp2_with fail
                              go_meet
                              exact ⟨by rw [HX.out]; rfl, HW8.out⟩
                    · go_wp2_with fail
                      go_meet
                      exact ⟨rfl, HW8.out⟩
                  case rest =>
                    obtain ⟨rfl, hBz⟩ := hcut
                    have HBz := Lib.hid hBz
                    clear hBz
                    obtain ⟨b17, hb17⟩ : ∃ x, (!f3 && (rd && si)) = x := ⟨_, rfl⟩
                    rw [hb17] at HZ ⊢
                    clear hb17
                    cases b17
                    · go_wp2_with fail
                      go_ret
                      exact ⟨by rw [HZ.out]; rfl, HBz.out⟩
                    · go_wp2_with fail
                      go_ret
                      exact ⟨by rw [HZ.out]; rfl, HBz.out⟩
end Go.Proofs.YtkpeaghbacoehaaGreatDoor

/- What the program's and the reference's UseRange return. -/
namespace Go.Proofs.YtkpeaghbacoehaaGreatDoor
open Go.RowKit

def useQ (g f : Bool) (q : Option Tg) (s : StV) (dr : Option Nat) : Bool := if g = true then (if f = true then (match q with
  | some t => s.ex && s.ht && sameT true t s.tag
  | none => s.ex && s.hm && (match dr with
    | some n => decide ((n : Int) = s.md)
    | none => false)) else true) else false
theorem useL_Q (m : List UInt8) (ps : Flds) (s : StV) (dr : Option Nat) : useL m ps s dr = useQ (decide (m = mGET)) (fnd ps nIR) (readTL (valF ps nIR)) s dr := by
  cases hq : readTL (valF ps nIR) <;> cases dr <;> by_cases h : m = mGET <;> cases hf : fnd ps nIR <;> simp [useL, useQ, h, hq, hf]
theorem useQ_tag (s : StV) (t : Tg) (dr : Option Nat) : useQ true true (some t) s dr = ((knownS s).ht && sameT true t (knownS s).tag) := by
  unfold useQ knownS
  cases h : s.ex <;> simp
theorem useQ_date (s : StV) (dr : Option Nat) : useQ true true none s dr = (dr.isSome && ((knownS s).hm && decide (dN dr = (knownS s).md))) := by
  unfold useQ knownS dN
  cases h : s.ex <;> cases dr <;> simp
theorem eq_dec (a b : Int) : (a == b) = decide (a = b) := by
  by_cases h : a = b
  · subst h; simp
  · simp [h]
set_option maxHeartbeats 16000000 in
set_option maxRecDepth 100000 in
theorem useRange_any (m : List UInt8) (fv : Value) (ps : Flds) (s : StV) (dr : Option Nat) (w : World) (hr : ReadsQ w fv ps) (hf : FitY ps) (hd : DateIs (valF ps nIR) dr) (hE : EnvY w) :
    Calls Tryz.prog 28 #[.string (strB m), fv, stV s] w fun e w' => e = .returned (.bool (useL m ps s dr)) ∧ Below w.heap.size w w' := by
  have HW := Lib.hid (below_new w (.cells (stC s) 61))
  have HS := Lib.hid (stB_new w s 61)
  have HE := Lib.hid hE
  have HR := Lib.hid hr
  have hvl := hf.val nIR
  have HG := Lib.hid (fun (w : World) (hr : ReadsQ w fv ps) => getY_any fv ps ⟨#[105, 102, 45, 114, 97, 110, 103, 101]⟩ w hr hf (by decide))
  have HT := Lib.hid (fun (w : World) (hM : MaxIs w) => readTag_any (valF ps nIR) w hM (by omega))
  have HP := Lib.hid (fun (w : World) (hE : EnvP w) => parseD_any (valF ps nIR) dr hd w hE (by omega))
  have HK := Lib.hid (fun (w : World) => known_any s w)
  have HQ := Lib.hid (useL_Q m ps s dr)
  clear hr hf hd hE hvl
  generalize useL m ps s dr = res at *
  have hgo : ∀ (g f : Bool), decide (m = mGET) = g → fnd ps nIR = f → Calls Tryz.prog 28 #[.string (strB m), fv, stV s] w fun e w' => e = .returned (.bool res) ∧ Below w.heap.size w w' := by
    intro g f hg hf
    have hGT := meth_any m [71, 69, 84]
    rw [show decide (m = [71, 69, 84]) = g from hg] at hGT
    have HG2 := Lib.hid (fun (w : World) (hr : ReadsQ w fv ps) => HG.out w hr)
    rw [show fnd ps (⟨#[105, 102, 45, 114, 97, 110, 103, 101]⟩ : ByteArray).data.toList = f from hf, show valF ps (⟨#[105, 102, 45, 114, 97, 110, 103, 101]⟩ : ByteArray).data.toList = valF ps nIR from rfl] at HG2
    rw [hg, hf] at HQ
    clear HG hg hf
    generalize valF ps nIR = z at *
    cases g
    · go_enter Tryz.func28, Tryz.ntmps28
      go_wp2_with fail
      go_ret
      exact ⟨by rw [HQ.out]; rfl, HW.out⟩
    · go_enter Tryz.func28, Tryz.ntmps28
      go_wp2_with fail
      clear hGT
      refine (HG2.out _ (HR.out.below HW.out)).mono ?_
      rintro e w1 ⟨rfl, hB1⟩
      have HW1 := Lib.hid (HW.out.trans (hB1.mono HW.out.size))
      have HS1 := Lib.hid (HS.out.below hB1)
      have hS1 := HS.out.below hB1
      clear hB1
      cases f
      · go_wp2_with fail
        go_ret
        exact ⟨by rw [HQ.out]; rfl, HW1.out⟩
      · obtain ⟨c0, c1, c2, c3, c4, c5, fr, lt⟩ := hS1
        go_wp2_with fail
        refine (HK.out _).mono ?_
        rintro e w2 ⟨rfl, hB2⟩
        have hS2 := HS1.out.below hB2
        have HW2 := Lib.hid (HW1.out.trans (hB2.mono HW1.out.size))
        have HQT := Lib.hid (useQ_tag s)
        have HQD := Lib.hid (useQ_date s)
        generalize knownS s = ks at *
        have HS2 := Lib.hid (hS2.set ks)
        have HW3 := Lib.hid (below_six HW2.out (Nat.le_refl _) (.bool ks.ex) (.bool ks.ht) (.bool ks.hm) (.bool ks.tag.1) (.string (strB ks.tag.2)) (.int .i64 ks.md))
        clear c0 c1 c2 c3 c4 c5 fr lt hB2
        obtain ⟨c0, c1, c2, c3, c4, c5, fr, lt⟩ := hS2
        have f0 := fr 0
        have f1 := fr 1
        have f2 := fr 2
        have f3 := fr 3
        have f4 := fr 4
        have f5 := fr 5
        clear fr
        go_wp2_with fail
        refine (HT.out _ (HE.out.below HW3.out).1).mono ?_
        rintro e w4 ⟨rfl, hB4⟩
        have HW4 := Lib.hid (HW3.out.trans (hB4.mono HW3.out.size))
        have HS4 := Lib.hid (HS2.out.below hB4)
        clear hB4 c0 c1 c2 c3 c4 c5 f0 f1 f2 f3 f4 f5 lt
        obtain ⟨q, hq⟩ : ∃ q, readTL z = q := ⟨_, rfl⟩
        rw [hq] at HQ ⊢
        clear hq
        cases q with
        | some t =>
          obtain ⟨k, a⟩ := t
          have HX := Lib.hid (HQ.out.trans (HQT.out (k, a) dr))
          unfold tgO
          obtain ⟨h, hh⟩ : ∃ h, ks.ht = h := ⟨_, rfl⟩
          obtain ⟨c0, c1, c2, c3, c4, c5, fr, lt⟩ := HS4.out.below (below_new w4 (.cells #[.bool k, .string (strB a)] 29))
          obtain ⟨d0, d1, g0, g1, hN⟩ := twoT_new w4 k a 29
          rw [hh] at c1
          have HX2 := Lib.hid (show res = (h && sameT true (k, a) ks.tag) by rw [HX.out, hh])
          clear hh fr
          cases h
          · go_wp2_with fail
            go_ret
            exact ⟨by rw [HX2.out]; rfl, HW4.out.alloc HW4.out.size _⟩
          · go_wp2_with fail
            refine (strong_any (k, a) ks.tag _).mono ?_
            rintro e w5 ⟨rfl, hB5⟩
            go_wp2_with fail
            go_ret
            exact ⟨by rw [HX2.out]; rfl, (HW4.out.alloc HW4.out.size _).trans (hB5.mono (by have := HW4.out.size; simp; omega))⟩
        | none =>
          have HX := Lib.hid (HQ.out.trans (HQD.out dr))
          unfold tgO
          have HS5 := Lib.hid (HS4.out.below (below_new w4 (.cells #[.bool false, .string (strB [])] 29)))
          have HW5 := Lib.hid (HW4.out.alloc HW4.out.size (.cells #[.bool false, .string (strB [])] 29))
          go_wp2_with fail
          refine (HP.out _ (HE.out.below HW5.out).2).mono ?_
          rintro e w6 ⟨rfl, hB6⟩
          have HW6 := Lib.hid (HW5.out.trans (hB6.mono HW5.out.size))
          obtain ⟨c0, c1, c2, c3, c4, c5, fr, lt⟩ := HS5.out.below hB6
          clear hB6 fr
          cases dr with
          | none =>
            unfold dV
            go_wp2_with fail
            go_ret
            exact ⟨by rw [HX.out]; rfl, HW6.out⟩
          | some n =>
            unfold dV
            obtain ⟨h, hh⟩ : ∃ h, ks.hm = h := ⟨_, rfl⟩
            rw [hh] at c2
            have HX2 := Lib.hid (show res = (h && ((n : Int) == ks.md)) by rw [HX.out, hh, eq_dec]; rfl)
            clear hh
            cases h
            · go_wp2_with fail
              go_ret
              exact ⟨by rw [HX2.out]; rfl, HW6.out⟩
            · go_wp2_with fail
              go_ret
              exact ⟨by rw [HX2.out]; rfl, HW6.out⟩
  exact hgo _ _ rfl rfl
theorem useQ_tagR (s : StV) (t : Tg) (dr : Option Nat) : useQ true true (some t) s dr = (s.ex && (s.ht && sameT true t s.tag)) := by
  unfold useQ
  cases s.ex <;> cases s.ht <;> simp
theorem useQ_dateR (s : StV) (dr : Option Nat) : useQ true true none s dr = (dr.isSome && (s.ex && (s.hm && decide (dN dr = s.md)))) := by
  unfold useQ dN
  cases s.ex <;> cases s.hm <;> cases dr <;> simp
set_option maxHeartbeats 16000000 in
set_option maxRecDepth 100000 in
theorem refUseRange_any (m : List UInt8) (fv : Value) (ps : Flds) (s : StV) (dr : Option Nat) (w : World) (hr : ReadsQ w fv ps) (hf : FitY ps) (hd : DateIs (valF ps nIR) dr) :
    Calls Tryz.prog 29 #[.string (strB m), fv, stV s] w fun e w' => e = .returned (.bool (useL m ps s dr)) ∧ Below w.heap.size w w' := by
  have HW := Lib.hid (below_new w (.cells (stC s) 52))
  have HS := Lib.hid (stB_new w s 52)
  have HR := Lib.hid hr
  have hvl := hf.val nIR
  have HG := Lib.hid (fun (w : World) (hr : ReadsQ w fv ps) => refGetY_any fv ps nIR w hr hf (by decide))
  have HT := Lib.hid (fun (w : World) => refRead_any (valF ps nIR) w (by omega))
  have HP := Lib.hid (fun (w : World) => refParseD_any (valF ps nIR) dr hd w (by omega))
  have HQ := Lib.hid (useL_Q m ps s dr)
  clear hr hf hd hvl
  generalize useL m ps s dr = res at *
  have hgo : ∀ (g f : Bool), decide (m = mGET) = g → fnd ps nIR = f → Calls Tryz.prog 29 #[.string (strB m), fv, stV s] w fun e w' => e = .returned (.bool res) ∧ Below w.heap.size w w' := by
    intro g f hg hf
    have hGT := meth_any m [71, 69, 84]
    rw [show decide (m = [71, 69, 84]) = g from hg] at hGT
    rw [hg, hf] at HQ
    rw [hf] at HG
    clear hg hf
    generalize valF ps nIR = z at *
    cases g
    · go_enter Tryz.func29, Tryz.ntmps29
      go_wp2_with fail
      go_ret
      exact ⟨by rw [HQ.out]; rfl, HW.out⟩
    · go_enter Tryz.func29, Tryz.ntmps29
      go_wp2_with fail
      clear hGT
      refine (HG.out _ (HR.out.below HW.out)).mono ?_
      rintro e w1 ⟨rfl, hB1⟩
      have HW1 := Lib.hid (HW.out.trans (hB1.mono HW.out.size))
      have HS1 := Lib.hid (HS.out.below hB1)
      clear hB1
      cases f
      · go_wp2_with fail
        go_ret
        exact ⟨by rw [HQ.out]; rfl, HW1.out⟩
      · go_wp2_with fail
        refine (HT.out _).mono ?_
        rintro e w4 ⟨rfl, hB4⟩
        have HW4 := Lib.hid (HW1.out.trans (hB4.mono HW1.out.size))
        have HS4 := Lib.hid (HS1.out.below hB4)
        clear hB4
        obtain ⟨q, hq⟩ : ∃ q, readTL z = q := ⟨_, rfl⟩
        rw [hq] at HQ ⊢
        clear hq
        obtain ⟨ex, hex⟩ : ∃ h, s.ex = h := ⟨_, rfl⟩
        have HEX := Lib.hid hex
        clear hex
        cases q with
        | some t =>
          obtain ⟨k, a⟩ := t
          have HX := Lib.hid (HQ.out.trans (useQ_tagR s (k, a) dr))
          unfold tgR
          obtain ⟨h, hh⟩ : ∃ h, s.ht = h := ⟨_, rfl⟩
          obtain ⟨c0, c1, c2, c3, c4, c5, fr, lt⟩ := HS4.out.below (below_new w4 (.cells #[.bool k, .string (strB a)] 23))
          obtain ⟨d0, d1, g0, g1, hN⟩ := twoT_new w4 k a 23
          rw [hh] at c1
          rw [HEX.out] at c0
          have HX2 := Lib.hid (show res = (ex && (h && sameT true (k, a) s.tag)) by rw [HX.out, hh, HEX.out])
          clear hh fr
          cases ex
          · go_wp2_with fail
            go_ret
            exact ⟨by rw [HX2.out]; rfl, HW4.out.alloc HW4.out.size _⟩
          · cases h
            · go_wp2_with fail
              go_ret
              exact ⟨by rw [HX2.out]; rfl, HW4.out.alloc HW4.out.size _⟩
            · go_wp2_with fail
              refine (refStrong_any (k, a) s.tag _).mono ?_
              rintro e w5 ⟨rfl, hB5⟩
              go_wp2_with fail
              go_ret
              exact ⟨by rw [HX2.out]; rfl, (HW4.out.alloc HW4.out.size _).trans (hB5.mono (by have := HW4.out.size; simp; omega))⟩
        | none =>
          have HX := Lib.hid (HQ.out.trans (useQ_dateR s dr))
          unfold tgR
          have HS5 := Lib.hid (HS4.out.below (below_new w4 (.cells #[.bool false, .string (strB [])] 23)))
          have HW5 := Lib.hid (HW4.out.alloc HW4.out.size (.cells #[.bool false, .string (strB [])] 23))
          go_wp2_with fail
          refine (HP.out _).mono ?_
          rintro e w6 ⟨y, rfl, hy, hB6⟩
          have HY := Lib.hid hy
          have HW6 := Lib.hid (HW5.out.trans (hB6.mono HW5.out.size))
          obtain ⟨c0, c1, c2, c3, c4, c5, fr, lt⟩ := HS5.out.below hB6
          rw [HEX.out] at c0
          clear hB6 fr hy
          cases dr with
          | none =>
            rw [show (none : Option Nat).isSome = false from rfl]
            go_wp2_with fail
            go_ret
            exact ⟨by rw [HX.out]; rfl, HW6.out⟩
          | some n =>
            rw [show (some n : Option Nat).isSome = true from rfl]
            have hy := HY.out n rfl
            subst hy
            obtain ⟨h, hh⟩ : ∃ h, s.hm = h := ⟨_, rfl⟩
            rw [hh] at c2
            have HX2 := Lib.hid (show res = (ex && (h && ((n : Int) == s.md))) by rw [HX.out, hh, HEX.out, eq_dec]; rfl)
            clear hh
            cases ex
            · go_wp2_with fail
              go_ret
              exact ⟨by rw [HX2.out]; rfl, HW6.out⟩
            · cases h
              · go_wp2_with fail
                go_ret
                exact ⟨by rw [HX2.out]; rfl, HW6.out⟩
              · go_wp2_with fail
                go_ret
                exact ⟨by rw [HX2.out]; rfl, HW6.out⟩
  exact hgo _ _ rfl rfl
end Go.Proofs.YtkpeaghbacoehaaGreatDoor
