import Derived.Test.YtoiampkdmjpljaaGreatDoorPa27
import Derived.Test.YtoiampkdmjpljaaGreatDoorPa14
import Derived.Laws.IdiomStrings
import Derived.Test.YtoiampkdmjpljaaGreatDoorPa13
/- What the reference's Right, Write, Read, Strong and Weak return. -/
namespace Go.Proofs.YtoiampkdmjpljaaGreatDoor
open Go.RowKit

def texR (t : Tg) : Value := if txtB t.2 = true then .tuple #[strV (texL t), .bool true] else .tuple #[strV [], .bool false]
def tgR : Option Tg → Value
  | none => .tuple #[tgV (false, []), .bool false]
  | some t => .tuple #[tgV t, .bool true]
/-- What the reference makes of a text behind its mark. -/
def midR (k : Bool) : List UInt8 → Option Tg
  | [] => none
  | c :: r => if c = 34 ∧ r.getLast? = some 34 ∧ txtB r.dropLast = true then some (k, r.dropLast) else none
theorem midR_cons (k : Bool) (c : UInt8) (r : List UInt8) : midR k (c :: r) = if c = 34 ∧ r.getLast? = some 34 ∧ txtB r.dropLast = true then some (k, r.dropLast) else none := rfl
theorem midR_snoc (k : Bool) (c d : UInt8) (a : List UInt8) : midR k (c :: (a ++ [d])) = if c = 34 ∧ d = 34 ∧ txtB a = true then some (k, a) else none := by
  rw [midR_cons]; simp
theorem unw_tex (k : Bool) (a : List UInt8) : wkL (texL (k, a)) = k ∧ unwL (texL (k, a)) = 34 :: (a ++ [34]) := by
  cases k <;> exact ⟨rfl, rfl⟩
theorem shape (s : List UInt8) : s = [] ∨ (∃ c, s = [c]) ∨ ∃ c a d, s = c :: (a ++ [d]) := by
  cases s with
  | nil => exact .inl rfl
  | cons c r =>
    rcases List.eq_nil_or_concat r with rfl | ⟨a, d, rfl⟩
    · exact .inr (.inl ⟨c, rfl⟩)
    · exact .inr (.inr ⟨c, a, d, by rw [List.concat_eq_append]⟩)
theorem readTL_mid (l : List UInt8) : readTL l = midR (wkL l) (unwL l) := by
  cases h : readTL l with
  | some t =>
    obtain ⟨ht, rfl⟩ := readTL_some h
    obtain ⟨k, a⟩ := t
    have ht' : txtB a = true := ht
    rw [(unw_tex k a).1, (unw_tex k a).2, midR_snoc, if_pos ⟨rfl, rfl, ht'⟩]
  | none =>
    cases hm : midR (wkL l) (unwL l) with
    | none => rfl
    | some t =>
      rcases shape (unwL l) with hu | ⟨c, hu⟩ | ⟨c, a, d, hu⟩
      · rw [hu] at hm; cases hm
      · rw [hu, midR_cons] at hm
        simp at hm
      · rw [hu, midR_snoc] at hm
        by_cases hc : c = 34 ∧ d = 34 ∧ txtB a = true
        · obtain ⟨rfl, rfl, h3⟩ := hc
          have hl : l = texL (wkL l, a) := by
            rcases wk_cases l with ⟨x, hx, hw, hux⟩ | ⟨hw, hux⟩
            · rw [hw]
              rw [hux] at hu
              rw [hx, hu]; simp [texL]
            · rw [hw]
              rw [hux] at hu
              rw [hu]; simp [texL]
          rw [hl, readTL_tex (wkL l, a) h3] at h
          cases h
        · rw [if_neg hc] at hm; cases hm
theorem cmp_strB (s : ByteArray) (x : List UInt8) : (s.toList == x) = decide (s.data.toList = x) := by
  rw [ByteArray.toList_eq]
  by_cases h : s.data.toList = x
  · rw [h]; simp
  · simp [h]
theorem strB_drop2 (c d : UInt8) (t : List UInt8) : (strB (c :: d :: t)).extract 2 (t.length + 2) = strB t := by
  apply strB_ext; rw [Lib.extract_data, strB_list]; simp
theorem pre2 (l : List UInt8) (h : 2 ≤ l.length) : (((strB l).extract 0 2).toList == [87, 47]) = wkL l := by
  rw [cmp_strB, Lib.extract_data, strB_list]
  match l, h with
  | c :: d :: t, _ =>
    by_cases h1 : c = 87
    · by_cases h2 : d = 47
      · subst h1 h2; simp [wkL]
      · subst h1; simp [wkL, h2, Ne.symm h2, List.isPrefixOf]
    · simp [wkL, h1, Ne.symm h1, List.isPrefixOf]
theorem mid_bytes (c d : UInt8) (a : List UInt8) : (strB (c :: (a ++ [d]))).extract 1 (a.length + 1) = strB a := by
  apply strB_ext; rw [Lib.extract_data, strB_list]; simp
theorem mid_last (c d : UInt8) (a : List UInt8) (h : a.length + 1 < (strB (c :: (a ++ [d]))).size) : (strB (c :: (a ++ [d])))[a.length + 1] = d := by
  have : (strB (c :: (a ++ [d])))[a.length + 1] = (strB (c :: (a ++ [d]))).data.toList[a.length + 1]'(by rw [strB_list]; simp) := rfl
  rw [this]; simp only [strB_list]; simp
theorem ne34 {c : UInt8} (h : c ≠ 34) : ((c.toNat : Int) != 34) = true := by
  have : c.toNat ≠ 34 := fun e => h (UInt8.toNat_inj.mp e)
  simp; omega
end Go.Proofs.YtoiampkdmjpljaaGreatDoor

/- What the reference's digits and number return. -/
namespace Go.Proofs.YtoiampkdmjpljaaGreatDoor
open Go.RowKit

theorem convD (z : Int) (c : UInt8) (hz : z = (c.toNat : Int)) (W : World) :
    (convert 80 9 (.slice (some ⟨W.heap.size, 0, none⟩) 1 1)).run Tryz.prog (W.alloc (.cells #[.int .u8 z] 5)) = .ok (.string ⟨#[c]⟩) (W.alloc (.cells #[.int .u8 z] 5)) :=
  run_convert_bytes_back _ _ _ 5 ⟨W.heap.size, 0, none⟩ 1 [c] Tryz.underlying80 Tryz.underlying5 Tryz.underlying9 (fun j hj => by
    have : j = 0 := by simp at hj; omega
    subst this
    subst hz
    simp [Addr.add])
def DgRel (n many : Nat) (w : World) (r o i : Value) (wr : World) : Prop :=
  ∃ k : Nat, k ≤ many ∧ i = .int .i64 (k : Int) ∧ r = .int .i64 ((n / 10 ^ k : Nat) : Int) ∧ o = .string (strB (dgs k n)) ∧ Below w.heap.size w wr
theorem dgs_cons (k n : Nat) : (⟨#[dig (n / 10 ^ k)]⟩ : ByteArray) ++ strB (dgs k n) = strB (dgs (k + 1) n) := by apply ByteArray.ext; simp [strB, dgs]
set_option maxHeartbeats 1000000 in
theorem digits_any (n many : Nat) (w : World) (hm : many ≤ 4) (hn : n ≤ 1000000) :
    Calls Tryz.prog 138 #[.int .i64 (n : Int), .int .i64 (many : Int)] w fun e w' => e = .returned (.string (strB (dgs many n))) ∧ Below w.heap.size w w' := by
  go_enter Tryz.func138, Tryz.ntmps138
  go_wp2
  go_loopw [0, 5, 7] (fun r o i wr => DgRel n many w r o i wr) (fun _ _ i _ => many - (intOf i).toNat)
  case atStart => exact ⟨0, by omega, rfl, by simp, rfl, Below.refl _ _⟩
  case round =>
    obtain ⟨k, hk, rfl, rfl, rfl, hB⟩ := hrel
    have HS := Lib.hid (div_pow_succ n k)
    have HC := Lib.hid (dgs_cons k n)
    have hq : n / 10 ^ k ≤ 1000000 := Nat.le_trans (Nat.div_le_self _ _) hn
    have hcv := fun W => convD (48 + ((n / 10 ^ k : Nat) : Int) % 10) (dig (n / 10 ^ k)) (by rw [dig_nat]; omega) W
    have hz : (strB (dgs k n)).size ≤ 4 := by rw [strB_size, dgs_len]; omega
    obtain ⟨q, hqq⟩ : ∃ q, n / 10 ^ k = q := ⟨_, rfl⟩
    rw [hqq] at HS HC hq hcv ⊢
    clear hqq
    by_cases hlt : k < many
    · go_wp2
      go_roundw
      case rel => exact ⟨k + 1, by omega, by go_num, by rw [← HS.out]; go_num, by rw [← HC.out], hB.alloc hB.size _⟩
      case measure => simp [intOf]; omega
    · obtain rfl : k = many := by omega
      have HB := Lib.hid hB
      clear hB
      go_wp2
      go_ret
      exact ⟨rfl, HB.out⟩
theorem get_all {s : ByteArray} {k : Nat} (h : k < s.size) (hb : dgtB s[k] = false) : s.data.toList.all dgtB = false := all_bad (l := s.data.toList) (k := k) (by simpa using h) hb
set_option maxHeartbeats 1000000 in
theorem refNumber_any (s : ByteArray) (w : World) (hs : s.size ≤ 4) :
    Calls Tryz.prog 112 #[.string s] w fun e w' => e = .returned (.int .i64 (rn s.data.toList)) ∧ w = w' := by
  go_enter Tryz.func112, Tryz.ntmps112
  go_wp2
  go_loop [3, 7] (fun v i => ∃ k : Nat, k ≤ s.size ∧ i = .int .i64 (k : Int) ∧ v = .int .i64 (rnv (s.data.toList.take k) : Int) ∧ (s.data.toList.take k).all dgtB = true) (fun _ i => s.size - (intOf i).toNat)
  case atStart => exact ⟨0, by omega, rfl, by simp [rnv], by simp⟩
  case round =>
    obtain ⟨k, hk, rfl, rfl, ha⟩ := hrel
    have hb : rnv (s.data.toList.take k) < 10 ^ k := by
      have := rnv_lt _ ha
      rwa [List.length_take_of_le (by simpa using hk)] at this
    have hb2 : rnv (s.data.toList.take k) < 10000 := Nat.lt_of_lt_of_le hb (Nat.pow_le_pow_right (n := 10) (by omega) (show k ≤ 4 by omega))
    have HA := Lib.hid ha
    clear ha hb
    by_cases hlt : k < s.size
    · have HT := Lib.hid (take_snoc s k hlt)
      by_cases h48 : s[k].toNat < 48
      · have HN := Lib.hid (rn_no (get_all hlt (show dgtB s[k] = false from decide_eq_false (by omega))))
        go_wp2
        go_ret
        exact ⟨ret_int HN.out.symm, rfl⟩
      · by_cases h57 : 57 < s[k].toNat
        · have HN := Lib.hid (rn_no (get_all hlt (show dgtB s[k] = false from decide_eq_false (by omega))))
          go_wp2
          go_ret
          exact ⟨ret_int HN.out.symm, rfl⟩
        · have HD := Lib.hid (show dgtB s[k] = true from decide_eq_true (by omega))
          have HV := Lib.hid (rnv_snoc (s.data.toList.take k) s[k])
          go_wp2
          go_round
          case rel => exact ⟨k + 1, by omega, by go_num, by rw [HT.out, HV.out]; go_num, by rw [HT.out, List.all_append, HA.out]; simp [HD.out]⟩
          case measure => simp [intOf]; omega
    · have HE := Lib.hid (take_all s k (by omega))
      go_wp2
      go_ret
      exact ⟨ret_int (by rw [HE.out, rn_yes (by rw [← HE.out]; exact HA.out)]), rfl⟩
end Go.Proofs.YtoiampkdmjpljaaGreatDoor

/- What the reference's leap, length, Day, Date and Weekday return. -/
namespace Go.Proofs.YtoiampkdmjpljaaGreatDoor
open Go.RowKit

set_option maxHeartbeats 400000 in
theorem refLeap_any (y : Int) (w : World) (h : 0 ≤ y) :
    Calls Tryz.prog 135 #[.int .i64 y] w fun e w' => e = .returned (.int .i64 (lp y)) ∧ w = w' := by
  by_cases h4 : y % 4 = 0
  · have d4 : ((y % 4 : Int) == 0) = true := by rw [h4]; rfl
    by_cases h100 : y % 100 = 0
    · have d100 : ((y % 100 : Int) != 0) = false := by rw [h100]; rfl
      by_cases h400 : y % 400 = 0
      · have e := Lib.hid (lp_yes (leap_yes (y := y) (.inr h400)))
        have d400 : ((y % 400 : Int) == 0) = true := by rw [h400]; rfl
        clear h4 h100 h400
        go_enter Tryz.func135, Tryz.ntmps135
        go_wp2
        go_ret
        exact ⟨ret_int e.out.symm, rfl⟩
      · have e := Lib.hid (lp_no (leap_no (y := y) (by omega)))
        have d400 : ((y % 400 : Int) == 0) = false := by simpa using h400
        clear h4 h100 h400
        go_enter Tryz.func135, Tryz.ntmps135
        go_wp2
        go_ret
        exact ⟨ret_int e.out.symm, rfl⟩
    · have e := Lib.hid (lp_yes (leap_yes (y := y) (.inl ⟨h4, h100⟩)))
      have d100 : ((y % 100 : Int) != 0) = true := by simpa using h100
      clear h4 h100
      go_enter Tryz.func135, Tryz.ntmps135
      go_wp2
      go_ret
      exact ⟨ret_int e.out.symm, rfl⟩
  · have e := Lib.hid (lp_no (leap_no (y := y) (by omega)))
    have d4 : ((y % 4 : Int) == 0) = false := by simpa using h4
    have d400 : ((y % 400 : Int) == 0) = false := by simp; omega
    clear h4
    go_enter Tryz.func135, Tryz.ntmps135
    go_wp2
    go_ret
    exact ⟨ret_int e.out.symm, rfl⟩
set_option maxHeartbeats 400000 in
theorem refLength_any (y m : Int) (w : World) (h : 0 ≤ y) :
    Calls Tryz.prog 134 #[.int .i64 y, .int .i64 m] w fun e w' => e = .returned (.int .i64 (md y m)) ∧ w = w' := by
  by_cases h2 : m = 2
  · subst h2
    have lb := lp_01 y
    go_enter Tryz.func134, Tryz.ntmps134
    go_wp2_with (go_at_call 135; refine (refLeap_any _ _ h).mono ?_; rintro e w' ⟨rfl, rfl⟩)
    go_ret
    exact ⟨ret_int (md_2 y).symm, rfl⟩
  · have d2 : ((m : Int) == 2) = false := by simpa using h2
    by_cases h30 : m = 4 ∨ m = 6 ∨ m = 9 ∨ m = 11
    · have e := Lib.hid (md_30 y m h30)
      clear h2 d2
      rcases h30 with rfl | rfl | rfl | rfl
      all_goals
        go_enter Tryz.func134, Tryz.ntmps134
        go_wp2
        go_ret
        exact ⟨ret_int e.out.symm, rfl⟩
    · have e := Lib.hid (md_31 y m h2 h30)
      have a4 : ((m : Int) == 4) = false := by simp; omega
      have a6 : ((m : Int) == 6) = false := by simp; omega
      have a9 : ((m : Int) == 9) = false := by simp; omega
      have a11 : ((m : Int) == 11) = false := by simp; omega
      clear h2 h30
      go_enter Tryz.func134, Tryz.ntmps134
      go_wp2
      go_ret
      exact ⟨ret_int e.out.symm, rfl⟩
set_option maxHeartbeats 400000 in
theorem refDay_no (y m d : Int) (w : World) (h : vldB y m d = false) :
    Calls Tryz.prog 111 #[.int .i64 y, .int .i64 m, .int .i64 d] w fun e w' => e = .returned (.tuple #[.int .i64 0, .bool false]) ∧ w = w' := by
  have h0 := of_decide_eq_false h
  clear h
  by_cases h1 : y < 1970
  · clear h0
    go_enter Tryz.func111, Tryz.ntmps111
    go_wp2
    go_ret2
    exact ⟨rfl, rfl⟩
  · by_cases h2 : 9999 < y
    · clear h0
      go_enter Tryz.func111, Tryz.ntmps111
      go_wp2
      go_ret2
      exact ⟨rfl, rfl⟩
    · by_cases h3 : m < 1
      · clear h0
        go_enter Tryz.func111, Tryz.ntmps111
        go_wp2
        go_ret2
        exact ⟨rfl, rfl⟩
      · by_cases h4 : 12 < m
        · clear h0
          go_enter Tryz.func111, Tryz.ntmps111
          go_wp2
          go_ret2
          exact ⟨rfl, rfl⟩
        · by_cases h5 : d < 1
          · clear h0
            go_enter Tryz.func111, Tryz.ntmps111
            go_wp2
            go_ret2
            exact ⟨rfl, rfl⟩
          · have h6 : md y m < d := by omega
            clear h0
            go_enter Tryz.func111, Tryz.ntmps111
            go_wp2_with (go_at_call 134; refine (refLength_any _ _ _ (by omega)).mono ?_; rintro e w' ⟨rfl, rfl⟩)
            go_ret2
            exact ⟨rfl, rfl⟩
set_option maxHeartbeats 1000000 in
theorem refDay_yes (y m d n : Int) (w : World) (h : isD y m d n) :
    Calls Tryz.prog 111 #[.int .i64 y, .int .i64 m, .int .i64 d] w fun e w' => e = .returned (.tuple #[.int .i64 n, .bool true]) ∧ w = w' := by
  have HD := Lib.hid h
  have b := isD_bd h
  have hmd := h.2.2.2.2.2.1
  clear h
  go_enter Tryz.func111, Tryz.ntmps111
  go_wp2_with (go_at_call 134; refine (refLength_any _ _ _ (by omega)).mono ?_; rintro e w' ⟨rfl, rfl⟩)
  go_loop [8, 9] (fun t k => ∃ Y : Int, 1970 ≤ Y ∧ Y ≤ y ∧ k = .int .i64 Y ∧ t = .int .i64 (d - 1 + ys Y)) (fun _ k => (y - intOf k).toNat)
  case atStart => exact ⟨1970, by omega, by omega, rfl, by rw [ys_first]; simp⟩
  case round =>
    obtain ⟨Y, hy1, hy2, rfl, rfl⟩ := hrel
    have yb := ys_bd Y hy1 (by omega)
    have lb := lp_01 Y
    by_cases hlt : Y < y
    · have ysc := Lib.hid (ys_succ Y)
      go_wp2_with (go_at_call 135; refine (refLeap_any _ _ (by omega)).mono ?_; rintro e w' ⟨rfl, rfl⟩)
      go_round
      case rel => exact ⟨Y + 1, by omega, by omega, rfl, by rw [ysc.out]; go_num⟩
      case measure => simp [intOf]; omega
    · obtain rfl : Y = y := by omega
      go_wp2
      go_loop [8, 10] (fun t k => ∃ M : Int, 1 ≤ M ∧ M ≤ m ∧ k = .int .i64 M ∧ t = .int .i64 (d - 1 + ys Y + cum Y M)) (fun _ k => (m - intOf k).toNat)
      case atStart => exact ⟨1, by omega, by omega, rfl, by rw [cum_1]; simp⟩
      case round =>
        obtain ⟨M, hm1, hm2, rfl, rfl⟩ := hrel
        have cb := cum_bd Y M hm1 (by omega)
        have mb := md_bd Y M
        by_cases hlt2 : M < m
        · have cs := Lib.hid (cum_succ Y M hm1 (by omega))
          go_wp2_with (go_at_call 134; refine (refLength_any _ _ _ (by omega)).mono ?_; rintro e w' ⟨rfl, rfl⟩)
          go_round
          case rel => exact ⟨M + 1, by omega, by omega, rfl, by rw [cs.out]; go_num⟩
          case measure => simp [intOf]; omega
        · obtain rfl : M = m := by omega
          go_wp2
          go_ret2
          exact ⟨ret2_int (by rw [HD.out.2.2.2.2.2.2]; unfold num; omega), rfl⟩
set_option maxHeartbeats 1000000 in
theorem refDate_yes (y m d n : Int) (w : World) (h : isD y m d n) :
    Calls Tryz.prog 136 #[.int .i64 n] w fun e w' => e = .returned (.tuple #[.int .i64 y, .int .i64 m, .int .i64 d]) ∧ w = w' := by
  have HD := Lib.hid h
  have b := isD_bd h
  obtain ⟨n0, n1⟩ : 0 ≤ n ∧ n ≤ 2932896 := by omega
  clear h b
  go_enter Tryz.func136, Tryz.ntmps136
  go_wp2
  go_loop [0, 5] (fun r k => ∃ Y : Int, 1970 ≤ Y ∧ Y ≤ 9999 ∧ 0 ≤ n - ys Y ∧ k = .int .i64 Y ∧ r = .int .i64 (n - ys Y)) (fun _ k => (9999 - intOf k).toNat)
  case atStart => exact ⟨1970, by omega, by omega, by rw [ys_first]; omega, rfl, by rw [ys_first]; simp⟩
  case round =>
    obtain ⟨Y, hy1, hy2, hy3, rfl, rfl⟩ := hrel
    have lb := lp_01 Y
    have yb := ys_bd Y hy1 (by omega)
    by_cases hc : 365 + lp Y ≤ n - ys Y
    · have hlt : Y < 9999 := by
        by_cases e : Y = 9999
        · have h1 := ys_succ Y; have h2 := ys_end; rw [e] at h1 hc; have h3 : ys (9999 + 1) = 2932897 := h2; omega
        · omega
      have ysc := Lib.hid (ys_succ Y)
      go_wp2_with (go_at_call 135; refine (refLeap_any _ _ (by omega)).mono ?_; rintro e w' ⟨rfl, rfl⟩)
      go_round
      case rel => exact ⟨Y + 1, by omega, by omega, by rw [ysc.out]; omega, rfl, by rw [ysc.out]; go_num⟩
      case measure => simp [intOf]; omega
    · obtain ⟨r0, r1⟩ : 0 ≤ n - ys Y ∧ n - ys Y < 365 + lp Y := by omega
      clear hc
      go_wp2_with (go_at_call 135; refine (refLeap_any _ _ (by omega)).mono ?_; rintro e w' ⟨rfl, rfl⟩)
      go_loop [0, 6] (fun r k => ∃ M : Int, 1 ≤ M ∧ M ≤ 12 ∧ k = .int .i64 M ∧ 0 ≤ n - ys Y - cum Y M ∧ r = .int .i64 (n - ys Y - cum Y M)) (fun _ k => (12 - intOf k).toNat)
      case atStart => exact ⟨1, by omega, by omega, rfl, by rw [cum_1]; omega, by rw [cum_1]; simp⟩
      case round =>
        obtain ⟨M, hm1, hm2, rfl, hr, rfl⟩ := hrel
        have cb := cum_bd Y M hm1 (by omega)
        have db := md_bd Y M
        by_cases hm : md Y M ≤ n - ys Y - cum Y M
        · have hlt : M < 12 := by
            by_cases e : M = 12
            · subst e; have := cum_succ Y 12 (by omega) (by omega); have h13 : cum Y (12 + 1) = 365 + lp Y := cum_13 Y; omega
            · omega
          have cs := Lib.hid (cum_succ Y M hm1 hm2)
          go_wp2_with (go_at_call 134; refine (refLength_any _ _ _ (by omega)).mono ?_; rintro e w' ⟨rfl, rfl⟩)
          go_round
          case rel => exact ⟨M + 1, by omega, by omega, rfl, by rw [cs.out]; omega, by rw [cs.out]; go_num⟩
          case measure => simp [intOf]; omega
        · have E := Lib.hid (isD_uniq (isD_found hy1 hy2 hm1 hm2 (show 1 ≤ n - ys Y - cum Y M + 1 by omega) (by omega) rfl) HD.out)
          go_wp2_with (go_at_call 134; refine (refLength_any _ _ _ (by omega)).mono ?_; rintro e w' ⟨rfl, rfl⟩)
          go_ret3
          exact ⟨ret3_int E.out, rfl⟩
set_option maxHeartbeats 400000 in
theorem refWeekday_any (n : Int) (w : World) :
    Calls Tryz.prog 137 #[.int .i64 n] w fun e w' => e = .returned (.int .i64 (wdI n)) ∧ w = w' := by
  have b1 : -7 < n.tmod 7 := by rw [Int.tmod_eq_emod]; split <;> omega
  have b2 : n.tmod 7 < 7 := by rw [Int.tmod_eq_emod]; split <;> omega
  have b3 : -7 < (n.tmod 7 + 4).tmod 7 := by rw [Int.tmod_eq_emod (a := n.tmod 7 + 4)]; split <;> omega
  have b4 : (n.tmod 7 + 4).tmod 7 < 7 := by rw [Int.tmod_eq_emod (a := n.tmod 7 + 4)]; split <;> omega
  have HE : Hid (((n.tmod 7 + 4).tmod 7 + 7) % 7 = wdI n) := by
    show _ = _
    have e1 : n.tmod 7 = n % 7 ∨ n.tmod 7 = n % 7 - 7 := by rw [Int.tmod_eq_emod]; split <;> omega
    have e2 : (n.tmod 7 + 4).tmod 7 = (n.tmod 7 + 4) % 7 ∨ (n.tmod 7 + 4).tmod 7 = (n.tmod 7 + 4) % 7 - 7 := by rw [Int.tmod_eq_emod (a := n.tmod 7 + 4)]; split <;> omega
    unfold wdI; omega
  go_enter Tryz.func137, Tryz.ntmps137
  go_wp2
  go_ret
  exact ⟨ret_int HE.out, rfl⟩
end Go.Proofs.YtoiampkdmjpljaaGreatDoor
