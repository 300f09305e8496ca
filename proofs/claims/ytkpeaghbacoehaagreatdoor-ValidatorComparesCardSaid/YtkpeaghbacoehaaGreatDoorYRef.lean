/- What the reference's Right, Write, Read, Strong and Weak return. -/
import Derived.Test.YtkpeaghbacoehaaGreatDoorYList
namespace Go.Proofs.YtkpeaghbacoehaaGreatDoor
open Go.RowKit

set_option maxHeartbeats 2000000 in
set_option maxRecDepth 100000 in
theorem right_any (s : ByteArray) (w : World) (hs : s.size ≤ 4611686018427387904) :
    Calls Tryz.prog 35 #[.string s] w fun e w' => e = .returned (.bool (txtB s.data.toList)) ∧ w = w' := by
  go_enter Tryz.func35, Tryz.ntmps35
  go_wp2
  go_loop [6] (fun i => ∃ k : Nat, k ≤ s.size ∧ i = .int .i64 k ∧ txtB (s.data.toList.take k) = true) (fun i => s.size - (intOf i).toNat)
  case atStart => exact ⟨0, by omega, rfl, by simp [txtB]⟩
  case round =>
    obtain ⟨k, hk, rfl, hn⟩ := hrel
    have HN := Lib.hid hn
    clear hn
    by_cases hlt : k < s.size
    · by_cases c1 : s[k].toNat ≤ 32
      · have HR := Lib.hid (txt_bad hlt ((txtC_iff _).mpr (.inl c1)))
        have hc1 : (s[k].toNat : Int) ≤ 32 := by omega
        go_wp2
        go_ret
        exact ⟨by first | (rw [HR.out]; rfl) | rw [HR.out], rfl⟩
      · have hc1 : ¬ (s[k].toNat : Int) ≤ 32 := by omega
        by_cases c2 : s[k].toNat = 34
        · have HR := Lib.hid (txt_bad hlt ((txtC_iff _).mpr (.inr (.inl c2))))
          have hc2 : ((s[k].toNat : Int) == 34) = true := by simp; omega
          go_wp2
          go_ret
          exact ⟨by first | (rw [HR.out]; rfl) | rw [HR.out], rfl⟩
        · have hc2 : ((s[k].toNat : Int) == 34) = false := by simp; omega
          by_cases c3 : s[k].toNat = 127
          · have HR := Lib.hid (txt_bad hlt ((txtC_iff _).mpr (.inr (.inr c3))))
            have hc3 : ((s[k].toNat : Int) == 127) = true := by simp; omega
            go_wp2
            go_ret
            exact ⟨by first | (rw [HR.out]; rfl) | rw [HR.out], rfl⟩
          · have hc3 : ((s[k].toNat : Int) == 127) = false := by simp; omega
            have HT := Lib.hid (txt_step hlt HN.out (by
              cases hx : txtC s[k] with
              | true => rfl
              | false => rcases (txtC_iff _).mp hx with h | h | h <;> omega))
            go_wp2
            go_round
            case rel => exact ⟨k + 1, by omega, by go_num, HT.out⟩
            case measure => simp [intOf]; omega
    · have HR := Lib.hid (txt_all (by omega) HN.out)
      go_wp2
      go_ret
      exact ⟨by first | (rw [HR.out]; rfl) | rw [HR.out], rfl⟩

def texR (t : Tg) : Value := if txtB t.2 = true then .tuple #[strV (texL t), .bool true] else .tuple #[strV [], .bool false]
def tgR : Option Tg → Value
  | none => .tuple #[tgV (false, []), .bool false]
  | some t => .tuple #[tgV t, .bool true]
set_option maxHeartbeats 1000000 in
theorem refWrite_any (t : Tg) (w : World) (ht : t.2.length ≤ 1000000) :
    Calls Tryz.prog 14 #[tgV t] w fun e w' => e = .returned (texR t) ∧ Below w.heap.size w w' := by
  obtain ⟨k, a⟩ := t
  have ht' : a.length ≤ 1000000 := ht
  have HT := Lib.hid (fun (w : World) => right_any (strB a) w (by rw [strB_size]; omega))
  rw [strB_list] at HT
  have HR := Lib.hid (show texR (k, a) = if txtB a = true then .tuple #[strV (texL (k, a)), .bool true] else .tuple #[strV [], .bool false] from rfl)
  have hsz : (strB a).size = a.length := strB_size a
  have hgo : ∀ x : Bool, txtB a = x → Calls Tryz.prog 14 #[tgV (k, a)] w fun e w' => e = .returned (texR (k, a)) ∧ Below w.heap.size w w' := by
    intro x hx
    rw [hx] at HT HR
    clear hx
    cases x
    · have HR2 := Lib.hid (show texR (k, a) = .tuple #[strV [], .bool false] by rw [HR.out]; rfl)
      go_enter Tryz.func14, Tryz.ntmps14
      go_wp2_with fail
      refine (HT.out _).mono ?_
      rintro e w' ⟨rfl, rfl⟩
      go_wp2_with fail
      go_ret2
      exact ⟨by first | (rw [HR2.out]; rfl) | rw [HR2.out], below_new _ _⟩
    · have HR2 := Lib.hid (show texR (k, a) = .tuple #[strV (texL (k, a)), .bool true] by rw [HR.out]; rfl)
      cases k
      · have HE := Lib.hid (show (⟨#[34]⟩ : ByteArray) ++ strB a ++ ⟨#[34]⟩ = strB (texL (false, a)) by apply strB_ext; simp [strB, texL])
        go_enter Tryz.func14, Tryz.ntmps14
        go_wp2_with fail
        refine (HT.out _).mono ?_
        rintro e w' ⟨rfl, rfl⟩
        go_wp2_with fail
        go_ret2
        exact ⟨by rw [HR2.out]; show _ = Ending.returned (.tuple #[.string (strB (texL (false, a))), .bool true]); rw [← HE.out]; rfl, below_new _ _⟩
      · have HE := Lib.hid (show (⟨#[87, 47, 34]⟩ : ByteArray) ++ strB a ++ ⟨#[34]⟩ = strB (texL (true, a)) by apply strB_ext; simp [strB, texL])
        go_enter Tryz.func14, Tryz.ntmps14
        go_wp2_with fail
        refine (HT.out _).mono ?_
        rintro e w' ⟨rfl, rfl⟩
        go_wp2_with fail
        go_ret2
        exact ⟨by rw [HR2.out]; show _ = Ending.returned (.tuple #[.string (strB (texL (true, a))), .bool true]); rw [← HE.out]; rfl, below_new _ _⟩
  exact hgo _ rfl
set_option maxHeartbeats 1000000 in
theorem refWeak_any (t u : Tg) (w : World) :
    Calls Tryz.prog 67 #[tgV t, tgV u] w fun e w' => e = .returned (.bool (sameT false t u)) ∧ Below w.heap.size w w' := by
  obtain ⟨k, a⟩ := t
  obtain ⟨j, b⟩ := u
  have hs := same_strB a b
  go_enter Tryz.func67, Tryz.ntmps67
  go_wp2
  go_ret
  exact ⟨by simp [sameT, hs], below_newY _ _ _⟩
set_option maxHeartbeats 1000000 in
theorem refStrong_any (t u : Tg) (w : World) :
    Calls Tryz.prog 50 #[tgV t, tgV u] w fun e w' => e = .returned (.bool (sameT true t u)) ∧ Below w.heap.size w w' := by
  obtain ⟨k, a⟩ := t
  obtain ⟨j, b⟩ := u
  have hs := same_strB a b
  cases k <;> cases j
  all_goals
    go_enter Tryz.func50, Tryz.ntmps50
    go_wp2
    go_ret
    exact ⟨by simp [sameT, hs], below_newY _ _ _⟩

/-- What the reference makes of a text behind its mark. -/
def midR (k : Bool) : List UInt8 → Option Tg
  | [] => none
  | c :: r => if c = 34 ∧ r.getLast? = some 34 ∧ txtB r.dropLast = true then some (k, r.dropLast) else none
theorem midR_cons (k : Bool) (c : UInt8) (r : List UInt8) : midR k (c :: r) = if c = 34 ∧ r.getLast? = some 34 ∧ txtB r.dropLast = true then some (k, r.dropLast) else none := rfl
theorem midR_snoc (k : Bool) (c d : UInt8) (a : List UInt8) : midR k (c :: (a ++ [d])) = if c = 34 ∧ d = 34 ∧ txtB a = true then some (k, a) else none := by
  rw [midR_cons]; simp
theorem unw_tex (k : Bool) (a : List UInt8) : wkL (texL (k, a)) = k ∧ unwL (texL (k, a)) = 34 :: (a ++ [34]) := by
  cases k <;> exact ⟨rfl, rfl⟩
theorem shape (s : List UInt8) : s = [] ∨ (∃ c, s = [c]) ∨ ∃ c a d, s = c :: (a ++ [d]) := by
  cases s with
  | nil => exact .inl rfl
  | cons c r =>
    rcases List.eq_nil_or_concat r with rfl | ⟨a, d, rfl⟩
    · exact .inr (.inl ⟨c, rfl⟩)
    · exact .inr (.inr ⟨c, a, d, by rw [List.concat_eq_append]⟩)
theorem readTL_mid (l : List UInt8) : readTL l = midR (wkL l) (unwL l) := by
  cases h : readTL l with
  | some t =>
    obtain ⟨ht, rfl⟩ := readTL_some h
    obtain ⟨k, a⟩ := t
    have ht' : txtB a = true := ht
    rw [(unw_tex k a).1, (unw_tex k a).2, midR_snoc, if_pos ⟨rfl, rfl, ht'⟩]
  | none =>
    cases hm : midR (wkL l) (unwL l) with
    | none => rfl
    | some t =>
      rcases shape (unwL l) with hu | ⟨c, hu⟩ | ⟨c, a, d, hu⟩
      · rw [hu] at hm; cases hm
      · rw [hu, midR_cons] at hm
        simp at hm
      · rw [hu, midR_snoc] at hm
        by_cases hc : c = 34 ∧ d = 34 ∧ txtB a = true
        · obtain ⟨rfl, rfl, h3⟩ := hc
          have hl : l = texL (wkL l, a) := by
            rcases wk_cases l with ⟨x, hx, hw, hux⟩ | ⟨hw, hux⟩
            · rw [hw]
              rw [hux] at hu
              rw [hx, hu]; simp [texL]
            · rw [hw]
              rw [hux] at hu
              rw [hu]; simp [texL]
          rw [hl, readTL_tex (wkL l, a) h3] at h
          cases h
        · rw [if_neg hc] at hm; cases hm
theorem cmp_strB (s : ByteArray) (x : List UInt8) : (s.toList == x) = decide (s.data.toList = x) := by
  rw [ByteArray.toList_eq]
  by_cases h : s.data.toList = x
  · rw [h]; simp
  · simp [h]
theorem strB_drop2 (c d : UInt8) (t : List UInt8) : (strB (c :: d :: t)).extract 2 (t.length + 2) = strB t := by
  apply strB_ext; rw [Lib.extract_data, strB_list]; simp
theorem pre2 (l : List UInt8) (h : 2 ≤ l.length) : (((strB l).extract 0 2).toList == [87, 47]) = wkL l := by
  rw [cmp_strB, Lib.extract_data, strB_list]
  match l, h with
  | c :: d :: t, _ =>
    by_cases h1 : c = 87
    · by_cases h2 : d = 47
      · subst h1 h2; simp [wkL]
      · subst h1; simp [wkL, h2, Ne.symm h2, List.isPrefixOf]
    · simp [wkL, h1, Ne.symm h1, List.isPrefixOf]
theorem mid_bytes (c d : UInt8) (a : List UInt8) : (strB (c :: (a ++ [d]))).extract 1 (a.length + 1) = strB a := by
  apply strB_ext; rw [Lib.extract_data, strB_list]; simp
theorem mid_last (c d : UInt8) (a : List UInt8) (h : a.length + 1 < (strB (c :: (a ++ [d]))).size) : (strB (c :: (a ++ [d])))[a.length + 1] = d := by
  have : (strB (c :: (a ++ [d])))[a.length + 1] = (strB (c :: (a ++ [d]))).data.toList[a.length + 1]'(by rw [strB_list]; simp) := rfl
  rw [this]; simp only [strB_list]; simp
theorem ne34 {c : UInt8} (h : c ≠ 34) : ((c.toNat : Int) != 34) = true := by
  have : c.toNat ≠ 34 := fun e => h (UInt8.toNat_inj.mp e)
  simp; omega
set_option maxHeartbeats 16000000 in
set_option maxRecDepth 100000 in
theorem refRead_any (l : List UInt8) (w : World) (hl : l.length ≤ 1000000) :
    Calls Tryz.prog 18 #[.string (strB l)] w fun e w' => e = .returned (tgR (readTL l)) ∧ Below w.heap.size w w' := by
  have HW := Lib.hid (below_newY w (.cells #[.bool false, .string ⟨#[]⟩] 23) (.cells #[.bool false, .string ⟨#[]⟩] 23))
  have HQ := Lib.hid (readTL_mid l)
  obtain ⟨b0, b1, g0, g1, hN0⟩ := (twoT_new w false [] 23).below (below_new _ (.cells #[.bool false, .string ⟨#[]⟩] 23))
  obtain ⟨c0, c1, f0, f1, hN⟩ := twoT_new (w.alloc (.cells #[.bool false, .string ⟨#[]⟩] 23)) false [] 23
  have e1 : (w.alloc (.cells #[.bool false, .string ⟨#[]⟩] 23)).heap.size = w.heap.size + 1 := by simp
  rw [e1] at c0 c1 f0 f1 hN
  clear e1 hN hN0
  rcases wk_cases l with ⟨x, rfl, hw, hu⟩ | ⟨hw, hu⟩
  · rcases shape x with rfl | ⟨c, rfl⟩ | ⟨c, a, d, rfl⟩
    · have ez : (strB []).size = 0 := rfl
      have hp2 := pre2 (87 :: 47 :: []) (by simp)
      have hd2 := strB_drop2 87 47 []
      rw [hw] at hp2 HQ
      rw [hu] at HQ
      have hls : (strB (87 :: 47 :: [])).size = 2 := rfl
      simp only [List.length_nil, Nat.zero_add] at hd2
      have HR := Lib.hid (show readTL (87 :: 47 :: []) = none by rw [HQ.out]; rfl)
      go_enter Tryz.func18, Tryz.ntmps18
      go_wp2
      rw [HR.out]
      rw [strB_nil0] at b0 b1 c0 c1
      exact bodyPost_ret (v := tgR none) (by simp [results, Tryz.results18, go_sem, tgR, strB_nil0, b0, b1, g0, g1, c0, c1, f0, f1]) rfl ⟨rfl, by (repeat' first | exact HW.out | exact below_newY _ _ _ | refine Below.setCell ?_ (by show w.heap.size ≤ _; omega) _)⟩
    · have ez : (strB [c]).size = 1 := rfl
      have hp2 := pre2 (87 :: 47 :: [c]) (by simp)
      have hd2 := strB_drop2 87 47 [c]
      rw [hw] at hp2 HQ
      rw [hu] at HQ
      have hls : (strB (87 :: 47 :: [c])).size = 3 := rfl
      simp only [List.length_cons, List.length_nil, Nat.zero_add, Nat.reduceAdd] at hd2
      have HR := Lib.hid (show readTL (87 :: 47 :: [c]) = none by rw [HQ.out]; rw [midR_cons]; simp)
      go_enter Tryz.func18, Tryz.ntmps18
      go_wp2
      rw [HR.out]
      rw [strB_nil0] at b0 b1 c0 c1
      exact bodyPost_ret (v := tgR none) (by simp [results, Tryz.results18, go_sem, tgR, strB_nil0, b0, b1, g0, g1, c0, c1, f0, f1]) rfl ⟨rfl, by (repeat' first | exact HW.out | exact below_newY _ _ _ | refine Below.setCell ?_ (by show w.heap.size ≤ _; omega) _)⟩
    · have ez : (strB (c :: (a ++ [d]))).size = a.length + 2 := by rw [strB_size]; simp
      have e0 : (strB (c :: (a ++ [d])))[0]'(by omega) = c := rfl
      have eL := mid_last c d a (by omega)
      have eM := mid_bytes c d a
      have hp2 := pre2 (87 :: 47 :: (c :: (a ++ [d]))) (by simp)
      have hd2 := strB_drop2 87 47 (c :: (a ++ [d]))
      rw [hw] at hp2 HQ
      rw [hu] at HQ
      have hls : (strB (87 :: 47 :: (c :: (a ++ [d])))).size = a.length + 4 := by rw [strB_size]; simp
      rw [show (c :: (a ++ [d])).length + 2 = a.length + 4 by simp] at hd2
      simp only [List.length_cons, List.length_append, List.length_nil] at hl
      by_cases hc : c = 34
      · by_cases hd : d = 34
        · have HT := Lib.hid (fun (w : World) => right_any (strB a) w (by rw [strB_size]; omega))
          rw [strB_list] at HT
          have hgo : ∀ y : Bool, txtB a = y → Calls Tryz.prog 18 #[.string (strB (87 :: 47 :: (c :: (a ++ [d]))))] w fun e w' => e = .returned (tgR (readTL (87 :: 47 :: (c :: (a ++ [d]))))) ∧ Below w.heap.size w w' := by
            intro y hy
            rw [hy] at HT
            have HY := Lib.hid hy
            subst hc hd
            clear hy
            cases y
            · have HR := Lib.hid (show readTL (87 :: 47 :: (34 :: (a ++ [34]))) = none by rw [HQ.out, midR_snoc, HY.out]; simp)
              go_enter Tryz.func18, Tryz.ntmps18
              go_wp2_with fail
              refine (HT.out _).mono ?_
              rintro e w' ⟨rfl, rfl⟩
              go_wp2_with fail
              rw [HR.out]
              rw [strB_nil0] at b0 b1 c0 c1
              exact bodyPost_ret (v := tgR none) (by simp [results, Tryz.results18, go_sem, tgR, strB_nil0, b0, b1, g0, g1, c0, c1, f0, f1]) rfl ⟨rfl, by (repeat' first | exact HW.out | exact below_newY _ _ _ | refine Below.setCell ?_ (by show w.heap.size ≤ _; omega) _)⟩
            · have HR := Lib.hid (show readTL (87 :: 47 :: (34 :: (a ++ [34]))) = some (true, a) by rw [HQ.out, midR_snoc, HY.out]; simp)
              go_enter Tryz.func18, Tryz.ntmps18
              go_wp2_with fail
              refine (HT.out _).mono ?_
              rintro e w' ⟨rfl, rfl⟩
              go_wp2_with fail
              rw [HR.out]
              rw [strB_nil0] at b0 b1 c0 c1
              exact bodyPost_ret (v := tgR (some (true, a))) (by simp [results, Tryz.results18, go_sem, tgR, strB_nil0, b0, b1, g0, g1, c0, c1, f0, f1]) rfl ⟨rfl, by (repeat' first | exact HW.out | exact below_newY _ _ _ | refine Below.setCell ?_ (by show w.heap.size ≤ _; omega) _)⟩
          exact hgo _ rfl
        · have hd34 := ne34 hd
          subst hc
          have HR := Lib.hid (show readTL (87 :: 47 :: (34 :: (a ++ [d]))) = none by rw [HQ.out]; rw [midR_snoc]; simp [hd])
          go_enter Tryz.func18, Tryz.ntmps18
          go_wp2
          rw [HR.out]
          rw [strB_nil0] at b0 b1 c0 c1
          exact bodyPost_ret (v := tgR none) (by simp [results, Tryz.results18, go_sem, tgR, strB_nil0, b0, b1, g0, g1, c0, c1, f0, f1]) rfl ⟨rfl, by (repeat' first | exact HW.out | exact below_newY _ _ _ | refine Below.setCell ?_ (by show w.heap.size ≤ _; omega) _)⟩
      · have hc34 := ne34 hc
        have HR := Lib.hid (show readTL (87 :: 47 :: (c :: (a ++ [d]))) = none by rw [HQ.out]; rw [midR_snoc]; simp [hc])
        go_enter Tryz.func18, Tryz.ntmps18
        go_wp2
        rw [HR.out]
        rw [strB_nil0] at b0 b1 c0 c1
        exact bodyPost_ret (v := tgR none) (by simp [results, Tryz.results18, go_sem, tgR, strB_nil0, b0, b1, g0, g1, c0, c1, f0, f1]) rfl ⟨rfl, by (repeat' first | exact HW.out | exact below_newY _ _ _ | refine Below.setCell ?_ (by show w.heap.size ≤ _; omega) _)⟩
  · rcases shape l with rfl | ⟨c, rfl⟩ | ⟨c, a, d, rfl⟩
    · have ez : (strB []).size = 0 := rfl
      rw [hw, hu] at HQ
      have HR := Lib.hid (show readTL [] = none by rw [HQ.out]; rfl)
      go_enter Tryz.func18, Tryz.ntmps18
      go_wp2
      rw [HR.out]
      rw [strB_nil0] at b0 b1 c0 c1
      exact bodyPost_ret (v := tgR none) (by simp [results, Tryz.results18, go_sem, tgR, strB_nil0, b0, b1, g0, g1, c0, c1, f0, f1]) rfl ⟨rfl, by (repeat' first | exact HW.out | exact below_newY _ _ _ | refine Below.setCell ?_ (by show w.heap.size ≤ _; omega) _)⟩
    · have ez : (strB [c]).size = 1 := rfl
      rw [hw, hu] at HQ
      have HR := Lib.hid (show readTL [c] = none by rw [HQ.out]; rw [midR_cons]; simp)
      go_enter Tryz.func18, Tryz.ntmps18
      go_wp2
      rw [HR.out]
      rw [strB_nil0] at b0 b1 c0 c1
      exact bodyPost_ret (v := tgR none) (by simp [results, Tryz.results18, go_sem, tgR, strB_nil0, b0, b1, g0, g1, c0, c1, f0, f1]) rfl ⟨rfl, by (repeat' first | exact HW.out | exact below_newY _ _ _ | refine Below.setCell ?_ (by show w.heap.size ≤ _; omega) _)⟩
    · have ez : (strB (c :: (a ++ [d]))).size = a.length + 2 := by rw [strB_size]; simp
      have e0 : (strB (c :: (a ++ [d])))[0]'(by omega) = c := rfl
      have eL := mid_last c d a (by omega)
      have eM := mid_bytes c d a
      rw [hw, hu] at HQ
      have hp2 := pre2 (c :: (a ++ [d])) (by simp)
      rw [hw] at hp2
      simp only [List.length_cons, List.length_append, List.length_nil] at hl
      by_cases hc : c = 34
      · by_cases hd : d = 34
        · have HT := Lib.hid (fun (w : World) => right_any (strB a) w (by rw [strB_size]; omega))
          rw [strB_list] at HT
          have hgo : ∀ y : Bool, txtB a = y → Calls Tryz.prog 18 #[.string (strB (c :: (a ++ [d])))] w fun e w' => e = .returned (tgR (readTL (c :: (a ++ [d])))) ∧ Below w.heap.size w w' := by
            intro y hy
            rw [hy] at HT
            have HY := Lib.hid hy
            subst hc hd
            clear hy
            cases y
            · have HR := Lib.hid (show readTL (34 :: (a ++ [34])) = none by rw [HQ.out, midR_snoc, HY.out]; simp)
              go_enter Tryz.func18, Tryz.ntmps18
              go_wp2_with fail
              refine (HT.out _).mono ?_
              rintro e w' ⟨rfl, rfl⟩
              go_wp2_with fail
              rw [HR.out]
              rw [strB_nil0] at b0 b1 c0 c1
              exact bodyPost_ret (v := tgR none) (by simp [results, Tryz.results18, go_sem, tgR, strB_nil0, b0, b1, g0, g1, c0, c1, f0, f1]) rfl ⟨rfl, by (repeat' first | exact HW.out | exact below_newY _ _ _ | refine Below.setCell ?_ (by show w.heap.size ≤ _; omega) _)⟩
            · have HR := Lib.hid (show readTL (34 :: (a ++ [34])) = some (false, a) by rw [HQ.out, midR_snoc, HY.out]; simp)
              go_enter Tryz.func18, Tryz.ntmps18
              go_wp2_with fail
              refine (HT.out _).mono ?_
              rintro e w' ⟨rfl, rfl⟩
              go_wp2_with fail
              rw [HR.out]
              rw [strB_nil0] at b0 b1 c0 c1
              exact bodyPost_ret (v := tgR (some (false, a))) (by simp [results, Tryz.results18, go_sem, tgR, strB_nil0, b0, b1, g0, g1, c0, c1, f0, f1]) rfl ⟨rfl, by (repeat' first | exact HW.out | exact below_newY _ _ _ | refine Below.setCell ?_ (by show w.heap.size ≤ _; omega) _)⟩
          exact hgo _ rfl
        · have hd34 := ne34 hd
          subst hc
          have HR := Lib.hid (show readTL (34 :: (a ++ [d])) = none by rw [HQ.out]; rw [midR_snoc]; simp [hd])
          go_enter Tryz.func18, Tryz.ntmps18
          go_wp2
          rw [HR.out]
          rw [strB_nil0] at b0 b1 c0 c1
          exact bodyPost_ret (v := tgR none) (by simp [results, Tryz.results18, go_sem, tgR, strB_nil0, b0, b1, g0, g1, c0, c1, f0, f1]) rfl ⟨rfl, by (repeat' first | exact HW.out | exact below_newY _ _ _ | refine Below.setCell ?_ (by show w.heap.size ≤ _; omega) _)⟩
      · have hc34 := ne34 hc
        have HR := Lib.hid (show readTL (c :: (a ++ [d])) = none by rw [HQ.out]; rw [midR_snoc]; simp [hc])
        go_enter Tryz.func18, Tryz.ntmps18
        go_wp2
        rw [HR.out]
        rw [strB_nil0] at b0 b1 c0 c1
        exact bodyPost_ret (v := tgR none) (by simp [results, Tryz.results18, go_sem, tgR, strB_nil0, b0, b1, g0, g1, c0, c1, f0, f1]) rfl ⟨rfl, by (repeat' first | exact HW.out | exact below_newY _ _ _ | refine Below.setCell ?_ (by show w.heap.size ≤ _; omega) _)⟩
end Go.Proofs.YtkpeaghbacoehaaGreatDoor
