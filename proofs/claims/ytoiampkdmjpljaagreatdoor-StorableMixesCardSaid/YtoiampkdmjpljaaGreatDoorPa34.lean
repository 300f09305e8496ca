import Derived.Test.YtoiampkdmjpljaaGreatDoorPa33
import Derived.Test.YtoiampkdmjpljaaGreatDoorPa26
import Derived.Test.YtoiampkdmjpljaaGreatDoorPa28
import Derived.Test.YtoiampkdmjpljaaGreatDoorPa32
/- What the reference's Of, Explicit, Allowance return. -/
namespace Go.Proofs.YtoiampkdmjpljaaGreatDoor
open Go.RowKit

theorem of_sa {s : Int} {D : Dv} {x : Bool} {dd de dl : Option Nat} (h : 0 ≤ D.sa) : ofV s D x dd de dl = (1000 * D.sa, 1) := by
  unfold ofV expV; simp [h]
theorem of_ma {s : Int} {D : Dv} {x : Bool} {dd de dl : Option Nat} (h : ¬ 0 ≤ D.sa) (h2 : 0 ≤ D.ma) : ofV s D x dd de dl = (1000 * D.ma, 2) := by
  unfold ofV expV; simp [h, h2]
theorem of_exp {s : Int} {D : Dv} {dd de dl : Option Nat} (h : ¬ 0 ≤ D.sa) (h2 : ¬ 0 ≤ D.ma) : ofV s D true dd de dl = (betV dd de, 3) := by
  unfold ofV expV; simp [h, h2]
theorem of_non {s : Int} {D : Dv} {dd de dl : Option Nat} (h : ¬ 0 ≤ D.sa) (h2 : ¬ 0 ≤ D.ma) (h3 : cacB s = false) : ofV s D false dd de dl = (0, 5) := by
  unfold ofV expV; simp [h, h2, h3]
theorem of_heu {s : Int} {D : Dv} {dd de dl : Option Nat} (h : ¬ 0 ≤ D.sa) (h2 : ¬ 0 ≤ D.ma) (h3 : cacB s = true) : ofV s D false dd de dl = heuV s dl dd := by
  unfold ofV expV; simp [h, h2, h3]
theorem bet_lt {a b : Nat} (h : a < b) : betV (some a) (some b) = 1000 * ((b : Int) - (a : Int)) := by
  unfold betV; show 1000 * max _ _ = _; omega
theorem bet_ge {a b : Nat} (h : ¬ a < b) : betV (some a) (some b) = 0 := by
  unfold betV; show 1000 * max _ _ = _; omega
theorem heu_zero {s : Int} {dl dd : Option Nat} (h : betV dl dd = 0) : heuV s dl dd = (0, 5) := by unfold heuV; rw [if_pos h]
theorem heu_some {s : Int} {a b : Nat} (h : a < b) : heuV s (some a) (some b) = (min (if negB s = true then 10000 else 86400000) ((1000 * ((b : Int) - (a : Int))) / 10), 4) := by
  unfold heuV
  rw [bet_lt h, if_neg (by omega)]
  congr 1
  omega
theorem ret2_of {p q : Int × Int} (h : p = q) : Ending.returned (.tuple #[.int .i64 q.1, .int .i64 q.2]) = .returned (.tuple #[.int .i64 p.1, .int .i64 p.2]) := by rw [h]
set_option maxHeartbeats 8000000 in
set_option maxRecDepth 100000 in
theorem lfRefOf_any (s : Int) (fv : Value) (ps : Flds) (dd de dl : Option Nat) (w : World) (hr : ReadsQ w fv ps) (hf : FitL ps) (hd : DatF ps nDA dd) (he : DatF ps nEX de) (hl : DatF ps nLM dl) :
    Calls Tryz.prog 31 #[.int .i64 s, fv] w fun e w' => e = .returned (.tuple #[.int .i64 (ofV s (parseD (allL ps nCC)) (hasF ps nEX) dd de dl).1, .int .i64 (ofV s (parseD (allL ps nCC)) (hasF ps nEX) dd de dl).2]) ∧ Below w.heap.size w w' := by
  have hlen := hf.len
  have hal := all_len ps nEX
  have HP := Lib.hid (refDirectives_any fv ps w hr hf)
  have HD := Lib.hid (fun (w : World) (hr : ReadsQ w fv ps) => lfRefDate_any fv ps nDA dd w hr hf (by decide) hd)
  have HX := Lib.hid (fun (w : World) (hr : ReadsQ w fv ps) => lfRefDate_any fv ps nEX de w hr hf (by decide) he)
  have HL := Lib.hid (fun (w : World) (hr : ReadsQ w fv ps) => lfRefDate_any fv ps nLM dl w hr hf (by decide) hl)
  have HA := Lib.hid (fun (w : World) (hr : ReadsQ w fv ps) => refAll_any fv ps nEX w hr (by decide) (by omega) hf.each6)
  have HC := Lib.hid (fun w => refCacheable_any s w)
  have HN := Lib.hid (fun w => refNegative_any s w)
  have HR := Lib.hid hr
  have bd : ∀ k, dd = some k → k ≤ 253402300799 := fun k hk => by subst hk; exact oneIs_le hd
  have be : ∀ k, de = some k → k ≤ 253402300799 := fun k hk => by subst hk; exact oneIs_le he
  have bl : ∀ k, dl = some k → k ≤ 253402300799 := fun k hk => by subst hk; exact oneIs_le hl
  have hnor := nor_parse (allL ps nCC)
  have hsa := hnor.sa
  have hma := hnor.ma
  generalize parseD (allL ps nCC) = D at *
  have hx : hasF ps nEX = decide (0 < (allL ps nEX).length) := rfl
  have HXX := Lib.hid hx
  generalize hasF ps nEX = x at *
  have hlx : (allL ps nEX).length ≤ 10000 := by omega
  generalize allL ps nEX = ls at *
  clear hr hf hd he hl hnor hx hlen hal
  go_enter Tryz.func31, Tryz.ntmps31
  go_wp2_with fail
  refine HP.out.mono ?_
  rintro e w1 ⟨rfl, hB1⟩
  have HB1 := Lib.hid (hB1.alloc hB1.size (.cells (dvC D) 64))
  have HNN := Lib.hid (dvB_new w1 D 64)
  clear hB1
  go_upto_region 2 with fail
  change Code.wp _ _ _ _ (w1.alloc (.cells (dvC D) 64))
  generalize w1.heap.size = M at *
  generalize (w1.alloc (.cells (dvC D) 64)) = W3 at *
  obtain ⟨c0, c1, c2, c3, c4, c5, c6, c7, c8, c9, c10, c11, fr, lt⟩ := HNN.out
  clear c0 c1 c2 c3 c4 c5 c8 c9 c10 c11 HNN
  by_cases h1 : 0 ≤ D.sa
  · have HV := Lib.hid (of_sa (s := s) (D := D) (x := x) (dd := dd) (de := de) (dl := dl) h1)
    generalize D.sa = sa at *
    go_wp2_with fail
    go_ret2
    exact ⟨ret2_of HV.out, HB1.out⟩
  · by_cases h2 : 0 ≤ D.ma
    · have HV := Lib.hid (of_ma (s := s) (D := D) (x := x) (dd := dd) (de := de) (dl := dl) h1 h2)
      generalize D.ma = ma at *
      generalize D.sa = sa at *
      go_wp2_with fail
      go_ret2
      exact ⟨ret2_of HV.out, HB1.out⟩
    · have HV1 := Lib.hid (fun de => of_exp (s := s) (D := D) (dd := dd) (de := de) (dl := dl) h1 h2)
      have HV2 := Lib.hid (fun h3 => of_non (s := s) (D := D) (dd := dd) (de := de) (dl := dl) h1 h2 h3)
      have HV3 := Lib.hid (fun dd dl h3 => of_heu (s := s) (D := D) (dd := dd) (de := de) (dl := dl) h1 h2 h3)
      generalize D.ma = ma at *
      generalize D.sa = sa at *
      clear hsa hma
      go_wp2_with fail
      refine (HD.out _ (HR.out.below HB1.out)).mono ?_
      rintro e w2 ⟨z, rfl, hz, hB2⟩
      have HB2 := Lib.hid (HB1.out.trans (hB2.mono HB1.out.size))
      clear hB2
      go_wp2_with fail
      refine (HA.out _ (HR.out.below HB2.out)).mono ?_
      rintro e w3 ⟨v, rfl, hO, hB3⟩
      have HB3 := Lib.hid (HB2.out.trans (hB3.mono HB2.out.size))
      clear hB3
      cases hxx : x with
      | true =>
        subst hxx
        have hl0 : 0 < ls.length := of_decide_eq_true HXX.out.symm
        rcases hO.opens with ⟨_, rfl⟩ | ⟨g, cap, rfl, hcap, hg, hc⟩
        · simp at hl0
        · clear hO hc
          go_wp2_with fail
          refine (HX.out _ (HR.out.below HB3.out)).mono ?_
          rintro e w4 ⟨y, rfl, hy, hB4⟩
          have HB4 := Lib.hid (HB3.out.trans (hB4.mono HB3.out.size))
          clear hB4
          cases de with
          | none =>
            have HV := Lib.hid (HV1.out none)
            simp only [Option.isSome_none]
            go_wp2_with fail
            go_ret2
            exact ⟨ret2_of (q := (0, 3)) (HV.out.trans (by rw [bet_none])), HB4.out⟩
          | some b =>
            obtain rfl := hy b rfl
            have lb := be b rfl
            cases dd with
            | none =>
              have HV := Lib.hid (HV1.out (some b))
              simp only [Option.isSome_none, Option.isSome_some]
              go_wp2_with fail
              go_ret2
              exact ⟨ret2_of (q := (0, 3)) HV.out, HB4.out⟩
            | some a =>
              obtain rfl := hz a rfl
              have la := bd a rfl
              simp only [Option.isSome_some]
              by_cases hab : a < b
              · have HV := Lib.hid (HV1.out (some b))
                have HW := Lib.hid (bet_lt hab)
                have hg : (a : Int) < (b : Int) := by omega
                clear hab
                go_wp2_with fail
                go_ret2
                exact ⟨ret2_of (q := (1000 * ((b : Int) - (a : Int)), 3)) (HV.out.trans (by rw [HW.out])), HB4.out⟩
              · have HV := Lib.hid (HV1.out (some b))
                have HW := Lib.hid (bet_ge hab)
                have hg : ¬ (a : Int) < (b : Int) := by omega
                clear hab
                go_wp2_with fail
                go_ret2
                exact ⟨ret2_of (q := (0, 3)) (HV.out.trans (by rw [HW.out])), HB4.out⟩
      | false =>
        subst hxx
        have hl0 : ls.length = 0 := by have := of_decide_eq_false HXX.out.symm; omega
        have hls : ls = [] := List.length_eq_zero_iff.mp hl0
        subst hls
        rcases hO.opens with ⟨rfl, _⟩ | ⟨g, cap, rfl, hcap, hg, hc⟩
        all_goals
          (try rw [hl0])
          clear hO
          (try clear hc hcap)
          go_wp2_with fail
          refine (HL.out _ (HR.out.below HB3.out)).mono ?_
          rintro e w4 ⟨y, rfl, hy, hB4⟩
          have HB4 := Lib.hid (HB3.out.trans (hB4.mono HB3.out.size))
          clear hB4
          go_wp2_with fail
          refine (HC.out _).mono ?_
          rintro e w5 ⟨rfl, hB5⟩
          have HB5 := Lib.hid (HB4.out.trans (hB5.mono HB4.out.size))
          clear hB5
          cases hcc : cacB s with
          | false =>
            have HV := Lib.hid (HV2.out hcc)
            clear hcc
            go_wp2_with fail
            go_ret2
            exact ⟨ret2_of (q := (0, 5)) HV.out, HB5.out⟩
          | true =>
            have HV := Lib.hid (fun dd dl => HV3.out dd dl hcc)
            clear hcc
            cases dd with
            | none =>
              have HW := Lib.hid (HV.out none dl)
              simp only [Option.isSome_none]
              go_wp2_with fail
              go_ret2
              exact ⟨ret2_of (q := (0, 5)) (HW.out.trans (heu_zero (bet_none _))), HB5.out⟩
            | some a =>
              obtain rfl := hz a rfl
              have la := bd a rfl
              cases dl with
              | none =>
                have HW := Lib.hid (HV.out (some a) none)
                simp only [Option.isSome_none, Option.isSome_some]
                go_wp2_with fail
                go_ret2
                exact ⟨ret2_of (q := (0, 5)) (HW.out.trans (heu_zero rfl)), HB5.out⟩
              | some b =>
                obtain rfl := hy b rfl
                have lb := bl b rfl
                simp only [Option.isSome_some]
                have HW := Lib.hid (HV.out (some a) (some b))
                by_cases hab : b < a
                · have HU := Lib.hid (heu_some (s := s) hab)
                  have hg : (b : Int) < (a : Int) := by omega
                  have hq : (1000 * ((a : Int) - (b : Int))).tdiv 10 = (1000 * ((a : Int) - (b : Int))) / 10 := Int.tdiv_eq_ediv_of_nonneg (by omega)
                  clear hab
                  cases hn : negB s with
                  | true =>
                    rw [hn] at HN HU
                    go_wp2_with fail
                    refine (HN.out _).mono ?_
                    rintro e w6 ⟨rfl, rfl⟩
                    go_wp2_with fail
                    go_ret2
                    exact ⟨ret2_of (HW.out.trans HU.out), HB5.out⟩
                  | false =>
                    rw [hn] at HN HU
                    go_wp2_with fail
                    refine (HN.out _).mono ?_
                    rintro e w6 ⟨rfl, rfl⟩
                    go_wp2_with fail
                    go_ret2
                    exact ⟨ret2_of (HW.out.trans HU.out), HB5.out⟩
                · have hg : ¬ (b : Int) < (a : Int) := by omega
                  have HU := Lib.hid (heu_zero (s := s) (bet_ge hab))
                  clear hab
                  go_wp2_with fail
                  go_ret2
                  exact ⟨ret2_of (q := (0, 5)) (HW.out.trans HU.out), HB5.out⟩
theorem exp_of (D : Dv) (x : Bool) (dd de dl : Option Nat) : decide ((ofV 0 D x dd de dl).2 ≤ 3) = decide ((expV D x dd de).2 ≠ 5) := by
  have h0 : cacB 0 = false := by decide
  have : ofV 0 D x dd de dl = expV D x dd de := by unfold ofV; rw [if_neg (fun h => by rw [h0] at h; cases h.2)]
  rw [this]
  unfold expV
  split
  · rfl
  · split
    · rfl
    · split <;> rfl
set_option maxHeartbeats 4000000 in
set_option maxRecDepth 100000 in
theorem lfRefExplicit_any (fv : Value) (ps : Flds) (dd de dl : Option Nat) (w : World) (hr : ReadsQ w fv ps) (hf : FitL ps) (hd : DatF ps nDA dd) (he : DatF ps nEX de) (hl : DatF ps nLM dl) :
    Calls Tryz.prog 33 #[fv] w fun e w' => e = .returned (.bool (decide ((expV (parseD (allL ps nCC)) (hasF ps nEX) dd de).2 ≠ 5))) ∧ Below w.heap.size w w' := by
  have HX := Lib.hid (lfRefOf_any 0 fv ps dd de dl w hr hf hd he hl)
  rw [← exp_of _ _ _ _ dl]
  generalize ofV 0 (parseD (allL ps nCC)) (hasF ps nEX) dd de dl = Y at *
  obtain ⟨a, k⟩ := Y
  clear hr hf hd he hl
  go_enter Tryz.func33, Tryz.ntmps33
  go_wp2_with fail
  refine HX.out.mono ?_
  rintro e w1 ⟨rfl, hB1⟩
  go_wp2_with fail
  go_ret
  exact ⟨rfl, hB1⟩
end Go.Proofs.YtoiampkdmjpljaaGreatDoor

/- What the reference's tag, Tag, Validator and star of chapter 15 return. -/
namespace Go.Proofs.YtoiampkdmjpljaaGreatDoor
open Go.RowKit

def tagB : Option Tg → Value
  | some t => .tuple #[.string (strB t.2), .bool true]
  | none => .tuple #[.string ⟨#[]⟩, .bool false]
set_option maxHeartbeats 16000000 in
set_option maxRecDepth 100000 in
theorem refTag_any (l : List UInt8) (w : World) (hl : l.length ≤ 1000000) :
    Calls Tryz.prog 69 #[.string (strB l)] w fun e w' => e = .returned (tagB (readTL l)) ∧ Below w.heap.size w w' := by
  have HQ := Lib.hid (readTL_mid l)
  rcases wk_cases l with ⟨x, rfl, hw, hu⟩ | ⟨hw, hu⟩
  · rcases shape x with rfl | ⟨c, rfl⟩ | ⟨c, a, d, rfl⟩
    · have ez : (strB []).size = 0 := rfl
      have hp2 := pre2 (87 :: 47 :: []) (by simp)
      have hd2 := strB_drop2 87 47 []
      rw [hw] at hp2
      have hls : (strB (87 :: 47 :: [])).size = 2 := rfl
      simp only [List.length_nil, Nat.zero_add] at hd2
      rw [hw, hu] at HQ
      have HR := Lib.hid (show readTL (87 :: 47 :: []) = none by rw [HQ.out]; rfl)
      clear HQ
      go_enter Tryz.func69, Tryz.ntmps69
      go_wp2
      go_ret2
      exact ⟨by rw [HR.out]; rfl, Below.refl _ _⟩
    · have ez : (strB [c]).size = 1 := rfl
      have hp2 := pre2 (87 :: 47 :: [c]) (by simp)
      have hd2 := strB_drop2 87 47 [c]
      rw [hw] at hp2
      have hls : (strB (87 :: 47 :: [c])).size = 3 := rfl
      simp only [List.length_cons, List.length_nil, Nat.zero_add, Nat.reduceAdd] at hd2
      rw [hw, hu] at HQ
      have HR := Lib.hid (show readTL (87 :: 47 :: [c]) = none by rw [HQ.out]; rw [midR_cons]; simp)
      clear HQ
      go_enter Tryz.func69, Tryz.ntmps69
      go_wp2
      go_ret2
      exact ⟨by rw [HR.out]; rfl, Below.refl _ _⟩
    · have ez : (strB (c :: (a ++ [d]))).size = a.length + 2 := by rw [strB_size]; simp
      have e0 : (strB (c :: (a ++ [d])))[0]'(by omega) = c := rfl
      have eL := mid_last c d a (by omega)
      have eM := mid_bytes c d a
      have hp2 := pre2 (87 :: 47 :: (c :: (a ++ [d]))) (by simp)
      have hd2 := strB_drop2 87 47 (c :: (a ++ [d]))
      rw [hw] at hp2
      have hls : (strB (87 :: 47 :: (c :: (a ++ [d])))).size = a.length + 4 := by rw [strB_size]; simp
      rw [show (c :: (a ++ [d])).length + 2 = a.length + 4 by simp] at hd2
      rw [hw, hu] at HQ
      simp only [List.length_cons, List.length_append, List.length_nil] at hl
      by_cases hc : c = 34
      · by_cases hd : d = 34
        · have HV := Lib.hid (show readTL (87 :: 47 :: (c :: (a ++ [d]))) = if txtB (strB a).data.toList = true then some (true, a) else none by rw [HQ.out, midR_snoc, hc, hd, strB_list]; simp)
          have hsa : (strB a).size = a.length := strB_size a
          have hcc : ((c.toNat : Int) != 34) = false := by rw [hc]; rfl
          have hdd : ((d.toNat : Int) != 34) = false := by rw [hd]; rfl
          have HVn := Lib.hid (show txtB (strB a).data.toList = false → readTL (87 :: 47 :: (c :: (a ++ [d]))) = none from fun h => by rw [HV.out, h]; simp)
          have HVs := Lib.hid (show txtB (strB a).data.toList = true → tagB (readTL (87 :: 47 :: (c :: (a ++ [d])))) = .tuple #[.string (strB a), .bool true] from fun h => by rw [HV.out, if_pos h]; rfl)
          clear HQ hw hu hc hd HV
          generalize strB a = s at *
          go_enter Tryz.func69, Tryz.ntmps69
          go_wp2
          go_loop [38] (fun i => ∃ k : Nat, k ≤ s.size ∧ i = .int .i64 k ∧ txtB (s.data.toList.take k) = true) (fun i => s.size - (intOf i).toNat)
          case atStart => exact ⟨0, by omega, rfl, by simp [txtB]⟩
          case round =>
            obtain ⟨k, hk, rfl, hn⟩ := hrel
            have HN := Lib.hid hn
            clear hn
            by_cases hlt : k < s.size
            · by_cases c1 : s[k].toNat < 33
              · have HR := Lib.hid (HVn.out (txt_bad hlt ((txtC_iff _).mpr (.inl (by omega)))))
                have hc1 : (s[k].toNat : Int) < 33 := by omega
                go_wp2
                (try simp only [Exit.inBlock, Exit.then])
                go_ret2
                exact ⟨by rw [HR.out]; rfl, Below.refl _ _⟩
              · have hc1 : ¬ (s[k].toNat : Int) < 33 := by omega
                by_cases c2 : s[k].toNat = 34
                · have HR := Lib.hid (HVn.out (txt_bad hlt ((txtC_iff _).mpr (.inr (.inl c2)))))
                  have hc2 : ((s[k].toNat : Int) == 34) = true := by simp; omega
                  go_wp2
                  (try simp only [Exit.inBlock, Exit.then])
                  go_ret2
                  exact ⟨by rw [HR.out]; rfl, Below.refl _ _⟩
                · have hc2 : ((s[k].toNat : Int) == 34) = false := by simp; omega
                  by_cases c3 : s[k].toNat = 127
                  · have HR := Lib.hid (HVn.out (txt_bad hlt ((txtC_iff _).mpr (.inr (.inr c3)))))
                    have hc3 : ((s[k].toNat : Int) == 127) = true := by simp; omega
                    go_wp2
                    (try simp only [Exit.inBlock, Exit.then])
                    go_ret2
                    exact ⟨by rw [HR.out]; rfl, Below.refl _ _⟩
                  · have hc3 : ((s[k].toNat : Int) == 127) = false := by simp; omega
                    have HT := Lib.hid (txt_step hlt HN.out (by
                      cases hx : txtC s[k] with
                      | true => rfl
                      | false => rcases (txtC_iff _).mp hx with h | h | h <;> omega))
                    go_wp2
                    go_round
                    case rel => exact ⟨k + 1, by omega, by go_num, HT.out⟩
                    case measure => simp [intOf]; omega
            · have HR := Lib.hid (HVs.out (txt_all (by omega) HN.out))
              go_wp2
              go_ret2
              exact ⟨by rw [HR.out]; rfl, Below.refl _ _⟩
        · have hd34 := ne34 hd
          subst hc
          have HR := Lib.hid (show readTL (87 :: 47 :: (34 :: (a ++ [d]))) = none by rw [HQ.out]; rw [midR_snoc]; simp [hd])
          clear HQ
          go_enter Tryz.func69, Tryz.ntmps69
          go_wp2
          go_ret2
          exact ⟨by rw [HR.out]; rfl, Below.refl _ _⟩
      · have hc34 := ne34 hc
        have HR := Lib.hid (show readTL (87 :: 47 :: (c :: (a ++ [d]))) = none by rw [HQ.out]; rw [midR_snoc]; simp [hc])
        clear HQ
        go_enter Tryz.func69, Tryz.ntmps69
        go_wp2
        go_ret2
        exact ⟨by rw [HR.out]; rfl, Below.refl _ _⟩
  · rcases shape l with rfl | ⟨c, rfl⟩ | ⟨c, a, d, rfl⟩
    · have ez : (strB []).size = 0 := rfl
      rw [hw, hu] at HQ
      have HR := Lib.hid (show readTL [] = none by rw [HQ.out]; rfl)
      clear HQ
      go_enter Tryz.func69, Tryz.ntmps69
      go_wp2
      go_ret2
      exact ⟨by rw [HR.out]; rfl, Below.refl _ _⟩
    · have ez : (strB [c]).size = 1 := rfl
      rw [hw, hu] at HQ
      have HR := Lib.hid (show readTL [c] = none by rw [HQ.out]; rw [midR_cons]; simp)
      clear HQ
      go_enter Tryz.func69, Tryz.ntmps69
      go_wp2
      go_ret2
      exact ⟨by rw [HR.out]; rfl, Below.refl _ _⟩
    · have ez : (strB (c :: (a ++ [d]))).size = a.length + 2 := by rw [strB_size]; simp
      have e0 : (strB (c :: (a ++ [d])))[0]'(by omega) = c := rfl
      have eL := mid_last c d a (by omega)
      have eM := mid_bytes c d a
      have hp2 := pre2 (c :: (a ++ [d])) (by simp)
      rw [hw] at hp2
      rw [hw, hu] at HQ
      simp only [List.length_cons, List.length_append, List.length_nil] at hl
      by_cases hc : c = 34
      · by_cases hd : d = 34
        · have HV := Lib.hid (show readTL (c :: (a ++ [d])) = if txtB (strB a).data.toList = true then some (false, a) else none by rw [HQ.out, midR_snoc, hc, hd, strB_list]; simp)
          have hsa : (strB a).size = a.length := strB_size a
          have hcc : ((c.toNat : Int) != 34) = false := by rw [hc]; rfl
          have hdd : ((d.toNat : Int) != 34) = false := by rw [hd]; rfl
          have HVn := Lib.hid (show txtB (strB a).data.toList = false → readTL (c :: (a ++ [d])) = none from fun h => by rw [HV.out, h]; simp)
          have HVs := Lib.hid (show txtB (strB a).data.toList = true → tagB (readTL (c :: (a ++ [d]))) = .tuple #[.string (strB a), .bool true] from fun h => by rw [HV.out, if_pos h]; rfl)
          clear HQ hw hu hc hd HV
          generalize strB a = s at *
          go_enter Tryz.func69, Tryz.ntmps69
          go_wp2
          go_loop [38] (fun i => ∃ k : Nat, k ≤ s.size ∧ i = .int .i64 k ∧ txtB (s.data.toList.take k) = true) (fun i => s.size - (intOf i).toNat)
          case atStart => exact ⟨0, by omega, rfl, by simp [txtB]⟩
          case round =>
            obtain ⟨k, hk, rfl, hn⟩ := hrel
            have HN := Lib.hid hn
            clear hn
            by_cases hlt : k < s.size
            · by_cases c1 : s[k].toNat < 33
              · have HR := Lib.hid (HVn.out (txt_bad hlt ((txtC_iff _).mpr (.inl (by omega)))))
                have hc1 : (s[k].toNat : Int) < 33 := by omega
                go_wp2
                (try simp only [Exit.inBlock, Exit.then])
                go_ret2
                exact ⟨by rw [HR.out]; rfl, Below.refl _ _⟩
              · have hc1 : ¬ (s[k].toNat : Int) < 33 := by omega
                by_cases c2 : s[k].toNat = 34
                · have HR := Lib.hid (HVn.out (txt_bad hlt ((txtC_iff _).mpr (.inr (.inl c2)))))
                  have hc2 : ((s[k].toNat : Int) == 34) = true := by simp; omega
                  go_wp2
                  (try simp only [Exit.inBlock, Exit.then])
                  go_ret2
                  exact ⟨by rw [HR.out]; rfl, Below.refl _ _⟩
                · have hc2 : ((s[k].toNat : Int) == 34) = false := by simp; omega
                  by_cases c3 : s[k].toNat = 127
                  · have HR := Lib.hid (HVn.out (txt_bad hlt ((txtC_iff _).mpr (.inr (.inr c3)))))
                    have hc3 : ((s[k].toNat : Int) == 127) = true := by simp; omega
                    go_wp2
                    (try simp only [Exit.inBlock, Exit.then])
                    go_ret2
                    exact ⟨by rw [HR.out]; rfl, Below.refl _ _⟩
                  · have hc3 : ((s[k].toNat : Int) == 127) = false := by simp; omega
                    have HT := Lib.hid (txt_step hlt HN.out (by
                      cases hx : txtC s[k] with
                      | true => rfl
                      | false => rcases (txtC_iff _).mp hx with h | h | h <;> omega))
                    go_wp2
                    go_round
                    case rel => exact ⟨k + 1, by omega, by go_num, HT.out⟩
                    case measure => simp [intOf]; omega
            · have HR := Lib.hid (HVs.out (txt_all (by omega) HN.out))
              go_wp2
              go_ret2
              exact ⟨by rw [HR.out]; rfl, Below.refl _ _⟩
        · have hd34 := ne34 hd
          subst hc
          have HR := Lib.hid (show readTL (34 :: (a ++ [d])) = none by rw [HQ.out]; rw [midR_snoc]; simp [hd])
          clear HQ
          go_enter Tryz.func69, Tryz.ntmps69
          go_wp2
          go_ret2
          exact ⟨by rw [HR.out]; rfl, Below.refl _ _⟩
      · have hc34 := ne34 hc
        have HR := Lib.hid (show readTL (c :: (a ++ [d])) = none by rw [HQ.out]; rw [midR_snoc]; simp [hc])
        clear HQ
        go_enter Tryz.func69, Tryz.ntmps69
        go_wp2
        go_ret2
        exact ⟨by rw [HR.out]; rfl, Below.refl _ _⟩
theorem tagO_one (v : List UInt8) : tagO [v] = readTL v := rfl
theorem tagO_len {ls : List (List UInt8)} (h : ls.length ≠ 1) : tagO ls = none := by
  match ls, h with
  | [], _ => exact tagO_nil
  | [v], h => exact absurd rfl h
  | _ :: _ :: _, _ => exact tagO_nil
set_option maxHeartbeats 4000000 in
set_option maxRecDepth 100000 in
theorem refTagF_any (fv : Value) (ps : Flds) (w : World) (hr : ReadsQ w fv ps) (hf : FitL ps) :
    Calls Tryz.prog 44 #[fv] w fun e w' => e = .returned (tagB (tagO (allL ps nET))) ∧ Below w.heap.size w w' := by
  have hlen := hf.len
  have HA := Lib.hid (refAll_any fv ps nET w hr (by decide) (by omega) hf.each6)
  have hsm := all_small (n := nET) hf.each
  have hll := all_len ps nET
  clear hr hf
  generalize allL ps nET = ls at *
  by_cases h1 : ls.length = 1
  · obtain ⟨v, rfl⟩ := List.length_eq_one_iff.mp h1
    have HT := Lib.hid (fun (w : World) => refTag_any v w (by have := hsm v (List.mem_singleton.mpr rfl); omega))
    rw [tagO_one]
    generalize readTL v = t at *
    have hone : ([v] : List (List UInt8)).length = 1 := rfl
    cases t with
    | none =>
      unfold tagB at HT
      go_enter Tryz.func44, Tryz.ntmps44
      go_wp2_with fail
      refine HA.out.mono ?_
      rintro e w1 ⟨x, rfl, hO, hB1⟩
      rcases hO.opens with ⟨rfl, hz⟩ | ⟨g, cap, rfl, hcap, hg, hc⟩
      · cases hz
      · have hc0 : w1.cell? ⟨g, 0, none⟩ = some (.string (strB v)) := hc 0 v rfl
        rw [hone] at hcap ⊢
        clear hc hO
        go_wp2_with fail
        refine (HT.out _).mono ?_
        rintro e w2 ⟨rfl, hB2⟩
        go_wp2_with fail
        go_ret2
        exact ⟨rfl, hB1.trans (hB2.mono hB1.size)⟩
    | some t =>
      unfold tagB at HT
      go_enter Tryz.func44, Tryz.ntmps44
      go_wp2_with fail
      refine HA.out.mono ?_
      rintro e w1 ⟨x, rfl, hO, hB1⟩
      rcases hO.opens with ⟨rfl, hz⟩ | ⟨g, cap, rfl, hcap, hg, hc⟩
      · cases hz
      · have hc0 : w1.cell? ⟨g, 0, none⟩ = some (.string (strB v)) := hc 0 v rfl
        rw [hone] at hcap ⊢
        clear hc hO
        go_wp2_with fail
        refine (HT.out _).mono ?_
        rintro e w2 ⟨rfl, hB2⟩
        go_wp2_with fail
        go_ret2
        exact ⟨rfl, hB1.trans (hB2.mono hB1.size)⟩
  · have hT := tagO_len h1
    rw [hT]
    have hb : ((ls.length : Int) != 1) = true := by simp; omega
    clear hsm hT
    go_enter Tryz.func44, Tryz.ntmps44
    go_wp2_with fail
    refine HA.out.mono ?_
    rintro e w1 ⟨x, rfl, hO, hB1⟩
    rcases hO.opens with ⟨rfl, hz⟩ | ⟨g, cap, rfl, hcap, hg, hc⟩
    · go_wp2_with fail
      go_ret2
      exact ⟨rfl, hB1⟩
    · clear hc hO h1
      go_wp2_with fail
      go_ret2
      exact ⟨rfl, hB1⟩
set_option maxHeartbeats 4000000 in
set_option maxRecDepth 100000 in
theorem refValid_any15 (fv : Value) (ps : Flds) (d : Option Nat) (w : World) (hr : ReadsQ w fv ps) (hf : FitL ps) (hd : DatF ps nLM d) :
    Calls Tryz.prog 36 #[fv] w fun e w' => e = .returned (.bool ((tagO (allL ps nET)).isSome || d.isSome)) ∧ Below w.heap.size w w' := by
  have HT := Lib.hid (refTagF_any fv ps w hr hf)
  have HD := Lib.hid (fun (w : World) (hr : ReadsQ w fv ps) => lfRefDate_any fv ps nLM d w hr hf (by decide) hd)
  have HR := Lib.hid hr
  clear hr hf hd
  generalize tagO (allL ps nET) = t at *
  cases t with
  | none =>
    unfold tagB at HT
    go_enter Tryz.func36, Tryz.ntmps36
    go_wp2_with fail
    refine HT.out.mono ?_
    rintro e w1 ⟨rfl, hB1⟩
    go_wp2_with fail
    refine (HD.out _ (HR.out.below hB1)).mono ?_
    rintro e w2 ⟨y, rfl, hy, hB2⟩
    clear hy
    go_wp2_with fail
    go_ret
    exact ⟨retB (by simp), hB1.trans (hB2.mono hB1.size)⟩
  | some t =>
    unfold tagB at HT
    go_enter Tryz.func36, Tryz.ntmps36
    go_wp2_with fail
    refine HT.out.mono ?_
    rintro e w1 ⟨rfl, hB1⟩
    go_wp2_with fail
    refine (HD.out _ (HR.out.below hB1)).mono ?_
    rintro e w2 ⟨y, rfl, hy, hB2⟩
    clear hy
    go_wp2_with fail
    go_ret
    exact ⟨retB (by simp), hB1.trans (hB2.mono hB1.size)⟩
set_option maxHeartbeats 4000000 in
set_option maxRecDepth 100000 in
theorem refStar_any (fv : Value) (ps : Flds) (w : World) (hr : ReadsQ w fv ps) (hf : FitL ps) :
    Calls Tryz.prog 35 #[fv] w fun e w' => e = .returned (.bool ((allL ps nVY).any starV)) ∧ Below w.heap.size w w' := by
  have hlen := hf.len
  have HA := Lib.hid (refAll_any fv ps nVY w hr (by decide) (by omega) hf.each6)
  have HSm := Lib.hid (all_small (n := nVY) hf.each)
  have hll := all_len ps nVY
  clear hr hf
  generalize allL ps nVY = ls at *
  go_enter Tryz.func35, Tryz.ntmps35
  go_wp2_with fail
  refine HA.out.mono ?_
  rintro e w1 ⟨x, rfl, hO, hB1⟩
  obtain ⟨ao, cap, rfl, hc⟩ := hO.reads
  have HC := Lib.hid hc
  have hs1 := hB1.size
  have HB1 := Lib.hid hB1
  clear hO hc hB1
  go_wp2_with fail
  go_loopw [12] (fun i wr => ∃ k : Nat, i = .int .i64 k ∧ k ≤ ls.length ∧ (ls.take k).any starV = false ∧ Below w1.heap.size w1 wr) (fun i _ => ls.length - (intOf i).toNat)
  case atStart => exact ⟨0, rfl, Nat.zero_le _, rfl, Below.refl _ _⟩
  case round =>
    obtain ⟨k, rfl, hk, hs, hBr⟩ := hrel
    have hbr := hBr.size
    have HS := Lib.hid hs
    have HB := Lib.hid hBr
    clear hs hBr
    by_cases hlt : k < ls.length
    · obtain ⟨l, hl⟩ : ∃ l, ls[k]? = some l := ⟨ls[k], by simp [hlt]⟩
      obtain ⟨g, off, rfl, hg, hc1⟩ := HC.out k l hl
      have hd1 : wr.cell? ⟨g, off + k, none⟩ = some (.string (strB l)) := (HB.out.cell (p := ⟨g, off + k, none⟩) hg).trans hc1
      have hll2 := HSm.out l (List.mem_of_getElem? hl)
      have HL := Lib.hid hl
      have HG := Lib.hid (refList_any (strB l) wr (by rw [strB_size]; exact hll2))
      have HV := Lib.hid (show starV l = match listO (strB l).data.toList with | none => true | some l => decide ([42] ∈ l) by rw [strB_list]; rfl)
      unfold RefListPost at HG
      clear hl hc1
      generalize listO (strB l).data.toList = q at *
      cases q with
      | none =>
        have HR := Lib.hid (anyS_hit HL.out HV.out)
        go_wp2_with fail
        refine HG.out.mono ?_
        rintro e w2 ⟨hB2, he⟩
        try simp only at he
        obtain ⟨u, rfl⟩ := he
        go_wp2_with fail
        (try simp only [Exit.inBlock, Exit.then])
        go_ret
        exact ⟨by rw [HR.out]; rfl, HB1.out.trans ((HB.out.trans (hB2.mono hbr)).mono hs1)⟩
      | some es =>
        go_wp2_with fail
        refine HG.out.mono ?_
        rintro e w2 ⟨hB2, he⟩
        try simp only at he
        obtain ⟨u, rfl, hU, hel⟩ := he
        obtain ⟨bo, cb, rfl, hcb⟩ := hU.reads
        have HCB := Lib.hid hcb
        have HB2 := Lib.hid (HB.out.trans (hB2.mono hbr))
        have hs2 := HB2.out.size
        clear hU hcb hB2
        go_wp2_with fail
        go_loopw [25] (fun i wi => ∃ j : Nat, i = .int .i64 j ∧ j ≤ es.length ∧ decide ([42] ∈ es.take j) = false ∧ Below w2.heap.size w2 wi) (fun i _ => es.length - (intOf i).toNat)
        case atStart => exact ⟨0, rfl, Nat.zero_le _, rfl, Below.refl _ _⟩
        case round =>
          obtain ⟨j, rfl, hj, hm, hBi⟩ := hrel
          have HM := Lib.hid hm
          have HBi := Lib.hid hBi
          clear hm hBi
          by_cases hlj : j < es.length
          · obtain ⟨m, hm⟩ : ∃ m, es[j]? = some m := ⟨es[j], by simp [hlj]⟩
            obtain ⟨g2, off2, rfl, hg2, hc2⟩ := HCB.out j m hm
            have hd2 : wr.cell? ⟨g2, off2 + j, none⟩ = some (.string (strB m)) := (HBi.out.cell (p := ⟨g2, off2 + j, none⟩) hg2).trans hc2
            have HMM := Lib.hid hm
            clear hm hc2
            by_cases he : m = [42]
            · have heq : ((strB m).toList == [42]) = true := by rw [cmp_strB, strB_list]; exact decide_eq_true he
              have HR := Lib.hid (anyS_hit HL.out (HV.out.trans (mem_hit HMM.out he)))
              clear he
              go_wp2
              (try simp only [Exit.inBlock, Exit.then])
              go_ret
              exact ⟨by rw [HR.out]; rfl, HB1.out.trans ((HB2.out.trans (HBi.out.mono hs2)).mono hs1)⟩
            · have heq : ((strB m).toList == [42]) = false := by rw [cmp_strB, strB_list]; exact decide_eq_false he
              have HR := Lib.hid (mem_step HMM.out HM.out he)
              clear he
              go_wp2
              go_roundw
              case rel => exact ⟨j + 1, by go_num, by omega, HR.out, HBi.out⟩
              case measure => simp [intOf]; omega
          · have HR := Lib.hid (anyS_step HL.out HS.out (HV.out.trans (mem_end (by omega) HM.out)))
            have HB3 := Lib.hid (HB2.out.trans (HBi.out.mono hs2))
            go_wp2
            go_roundw
            case rel => exact ⟨k + 1, by go_num, by omega, HR.out, HB3.out⟩
            case measure => simp [intOf]; omega
    · have HR := Lib.hid (anyS_all (by omega) HS.out)
      go_wp2
      go_ret
      exact ⟨by rw [HR.out]; rfl, HB1.out.trans (HB.out.mono hs1)⟩
end Go.Proofs.YtoiampkdmjpljaaGreatDoor

/- What the reference's Of of chapter 15 returns. -/
namespace Go.Proofs.YtoiampkdmjpljaaGreatDoor
open Go.RowKit

theorem refLen_any (fv : Value) (ps : Flds) (n : List UInt8) (w : World) (hr : ReadsQ w fv ps) (hf : FitL ps) (hn : n.length ≤ 100) :
    Calls Tryz.prog 34 #[fv, .string (strB n)] w fun e w' => ∃ a c, e = .returned (.slice a (allL ps n).length c) ∧ Below w.heap.size w w' := by
  refine (refAll_any fv ps n w hr (by omega) (by have := hf.len; omega) hf.each6).mono ?_
  rintro e w' ⟨v, rfl, hO, hB⟩
  obtain ⟨a, c, rfl, _⟩ := hO.reads
  exact ⟨a, c, rfl, hB⟩
set_option maxHeartbeats 16000000 in
set_option maxRecDepth 100000 in
theorem refOf15_any (m : List UInt8) (qv : Value) (q : Flds) (s : Int) (rv : Value) (r : Flds) (dd de dl : Option Nat) (w : World) (hq : ReadsQ w qv q) (hfq : FitL q) (hr : ReadsQ w rv r) (hf : FitL r)
    (hd : DatF r nDA dd) (he : DatF r nEX de) (hl : DatF r nLM dl) :
    Calls Tryz.prog 14 #[.string (strB m), qv, .int .i64 s, rv] w fun e w' => e = .returned (.int .i64 (storV m q r s dd de dl)) ∧ Below w.heap.size w w' := by
  have HPr := Lib.hid (refDirectives_any rv r w hr hf)
  have HPq := Lib.hid (fun (w : World) (hq : ReadsQ w qv q) => refDirectives_any qv q w hq hfq)
  have HO := Lib.hid (fun (w : World) (hr : ReadsQ w rv r) => lfRefOf_any s rv r dd de dl w hr hf hd he hl)
  have HC := Lib.hid (fun (w : World) => refCacheable_any s w)
  have HX := Lib.hid (fun (w : World) (hr : ReadsQ w rv r) => lfRefExplicit_any rv r dd de dl w hr hf hd he hl)
  have HS := Lib.hid (fun (w : World) (hr : ReadsQ w rv r) => refLen_any rv r nSC w hr hf (by decide))
  have HY := Lib.hid (fun (w : World) (hr : ReadsQ w rv r) => refStar_any rv r w hr hf)
  have HA := Lib.hid (fun (w : World) (hq : ReadsQ w qv q) => refLen_any qv q nAU w hq hfq (by decide))
  have HU := Lib.hid (fun (w : World) (hr : ReadsQ w rv r) => refValid_any15 rv r dl w hr hf hl)
  have HR := Lib.hid hr
  have HQ := Lib.hid hq
  have hm := getM m
  have HV := Lib.hid (show storV m q r s dd de dl = reaV (decide (m ≠ mGET)) (!wholeB s || (!cacB s && !decide ((expV (parseD (allL r nCC)) (hasF r nEX) dd de).2 ≠ 5))) ((parseD (allL r nCC)).ns || (parseD (allL q nCC)).ns) (parseD (allL r nCC)).pr (decide (0 < (allL r nSC).length)) ((allL r nVY).any starV) (decide (0 < (allL q nAU).length) && !permB (parseD (allL r nCC))) (decide ((ofV s (parseD (allL r nCC)) (hasF r nEX) dd de dl).2 = 5) && !((tagO (allL r nET)).isSome || dl.isSome)) by
    unfold storV whyS whyU hasF
    rw [Bool.or_comm (parseD (allL q nCC)).ns]
    congr 1
    · simp
    · cases tagO (allL r nET) <;> cases dl <;> rfl)
  clear hq hfq hr hf hd he hl
  generalize storV m q r s dd de dl = res at *
  generalize decide ((expV (parseD (allL r nCC)) (hasF r nEX) dd de).2 ≠ 5) = bX at *
  generalize ofV s (parseD (allL r nCC)) (hasF r nEX) dd de dl = Y at *
  generalize decide (m ≠ mGET) = b1 at *
  generalize ((tagO (allL r nET)).isSome || dl.isSome) = bU at *
  have HPm := Lib.hid (show permB (parseD (allL r nCC)) = ((parseD (allL r nCC)).pu || ((parseD (allL r nCC)).mr || decide (0 ≤ (parseD (allL r nCC)).sa))) from rfl)
  generalize permB (parseD (allL r nCC)) = bP at *
  generalize (allL r nSC).length = lS at *
  generalize (allL q nAU).length = lA at *
  generalize (allL r nVY).any starV = bV at *
  generalize parseD (allL r nCC) = D2 at *
  generalize parseD (allL q nCC) = D1 at *
  have HWh := Lib.hid (show wholeB s = (decide (200 ≤ s) && (decide (s ≤ 599) && (decide (s ≠ 206) && decide (s ≠ 304)))) from rfl)
  generalize wholeB s = bW at *
  generalize cacB s = bC at *
  obtain ⟨ya, yk⟩ := Y
  go_enter Tryz.func14, Tryz.ntmps14
  go_wp2_with fail
  refine HPr.out.mono ?_
  rintro e w1 ⟨rfl, hB1⟩
  have HB1 := Lib.hid hB1
  clear hB1
  go_wp2_with fail
  refine (HPq.out _ (HQ.out.below HB1.out)).mono ?_
  rintro e w2 ⟨rfl, hB2⟩
  have HB2 := Lib.hid (HB1.out.trans (hB2.mono HB1.out.size))
  have hs2 := HB2.out.size
  have HT2 := Lib.hid (twS_new w2 D2 D1 64)
  clear hB2 HB1
  go_upto_region 2 with fail
  change Code.wp _ _ _ _ ((w2.alloc (.cells (dvC D2) 64)).alloc (.cells (dvC D1) 64))
  have HB3 := Lib.hid ((HB2.out.alloc hs2 (.cells (dvC D2) 64)).alloc (Nat.le_trans hs2 (by simp)) (.cells (dvC D1) 64))
  have HA3 := Lib.hid HT2.out.a
  have HZ3 := Lib.hid HT2.out.b
  clear HT2 HB2 hs2
  generalize ((w2.alloc (.cells (dvC D2) 64)).alloc (.cells (dvC D1) 64)) = W at *
  generalize w2.heap.size = N at *
  go_wp2_with fail
  refine (HO.out _ (HR.out.below HB3.out)).mono ?_
  rintro e w3 ⟨rfl, hB4⟩
  have HB4 := Lib.hid (HB3.out.trans (hB4.mono HB3.out.size))
  have HA4 := Lib.hid (HA3.out.below hB4)
  have HZ4 := Lib.hid (HZ3.out.below hB4)
  clear hB4 HB3 HA3 HZ3
  go_upto_region 3 with fail
  go_cut [13] (fun u wx => u = .bool bP ∧ w3 = wx)
  case first =>
    have a3 := HA4.out.c3
    have a4 := HA4.out.c4
    have a7 := HA4.out.c7
    cases h3 : D2.pu with
    | true =>
      rw [h3] at a3 HPm
      have HZ := Lib.hid (show bP = true by rw [HPm.out]; rfl)
      clear h3
      go_wp2_with fail
      go_meet
      exact ⟨by rw [HZ.out], rfl⟩
    | false =>
      rw [h3] at a3 HPm
      cases h4 : D2.mr with
      | true =>
        rw [h4] at a4 HPm
        have HZ := Lib.hid (show bP = true by rw [HPm.out]; simp)
        clear h3 h4
        go_wp2_with fail
        go_meet
        exact ⟨by rw [HZ.out], rfl⟩
      | false =>
        rw [h4] at a4 HPm
        have HZ := Lib.hid (show bP = decide (0 ≤ D2.sa) by rw [HPm.out]; simp)
        clear h3 h4
        go_wp2_with fail
        go_meet
        exact ⟨by rw [HZ.out], rfl⟩
  case rest =>
    obtain ⟨rfl, hw⟩ := hcut
    subst hw
    cases b1 with
    | true =>
      go_wp2_with fail
      go_ret
      exact ⟨by rw [HV.out]; rfl, HB4.out⟩
    | false =>
    go_upto_region 6 with fail
    go_cut [38] (fun u wx => u = .bool (!bW || (!bC && !bX)) ∧ Below w3.heap.size w3 wx)
    case first =>
      by_cases k1 : s < 200
      · have HZ := Lib.hid (show bW = false by rw [HWh.out]; simp; omega)
        go_wp2_with fail
        go_meet
        exact ⟨by rw [HZ.out]; rfl, Below.refl _ _⟩
      · by_cases k2 : 599 < s
        · have HZ := Lib.hid (show bW = false by rw [HWh.out]; simp; omega)
          go_wp2_with fail
          go_meet
          exact ⟨by rw [HZ.out]; rfl, Below.refl _ _⟩
        · by_cases k3 : s = 206
          · have HZ := Lib.hid (show bW = false by rw [HWh.out]; simp; omega)
            have e3 : (s == 206) = true := by simpa using k3
            clear k3
            go_wp2_with fail
            go_meet
            exact ⟨by rw [HZ.out]; rfl, Below.refl _ _⟩
          · have e3 : (s == 206) = false := by simpa using k3
            by_cases k4 : s = 304
            · have HZ := Lib.hid (show bW = false by rw [HWh.out]; simp; omega)
              have e4 : (s == 304) = true := by simpa using k4
              clear k3 k4
              go_wp2_with fail
              go_meet
              exact ⟨by rw [HZ.out]; rfl, Below.refl _ _⟩
            · have HZ := Lib.hid (show bW = true by rw [HWh.out]; simp; omega)
              have e4 : (s == 304) = false := by simpa using k4
              clear k3 k4
              cases bC with
              | true =>
                go_wp2_with fail
                refine (HC.out _).mono ?_
                rintro e w5 ⟨rfl, hB5⟩
                go_wp2_with fail
                go_meet
                exact ⟨by rw [HZ.out]; rfl, hB5⟩
              | false =>
                go_wp2_with fail
                refine (HC.out _).mono ?_
                rintro e w5 ⟨rfl, hB5⟩
                have HB5 := Lib.hid hB5
                clear hB5
                go_wp2_with fail
                refine (HX.out _ (HR.out.below (HB4.out.trans (HB5.out.mono HB4.out.size)))).mono ?_
                rintro e w6 ⟨rfl, hB6⟩
                go_wp2_with fail
                go_meet
                exact ⟨by rw [HZ.out]; rfl, HB5.out.trans (hB6.mono HB5.out.size)⟩
    case rest =>
      obtain ⟨rfl, hBx⟩ := hcut
      have HB5 := Lib.hid (HB4.out.trans (hBx.mono HB4.out.size))
      have HA5 := Lib.hid (HA4.out.below hBx)
      have HZ5 := Lib.hid (HZ4.out.below hBx)
      clear hBx HB4 HA4 HZ4 HWh
      generalize (!bW || (!bC && !bX)) = b2 at *
      cases b2 with
      | true =>
        go_wp2_with fail
        go_ret
        exact ⟨by rw [HV.out]; rfl, HB5.out⟩
      | false =>
      have a0 := HA5.out.c0
      have a2 := HA5.out.c2
      have z0 := HZ5.out.c0
      clear HPm
      cases h1 : D2.ns with
      | true =>
        rw [h1] at a0 HV
        clear h1
        go_wp2_with fail
        go_ret
        exact ⟨by rw [HV.out]; rfl, HB5.out⟩
      | false =>
      rw [h1] at a0 HV
      cases h2 : D1.ns with
      | true =>
        rw [h2] at z0 HV
        clear h1 h2
        go_wp2_with fail
        go_ret
        exact ⟨by rw [HV.out]; rfl, HB5.out⟩
      | false =>
      rw [h2] at z0 HV
      cases h3 : D2.pr with
      | true =>
        rw [h3] at a2 HV
        clear h1 h2 h3
        go_wp2_with fail
        go_ret
        exact ⟨by rw [HV.out]; rfl, HB5.out⟩
      | false =>
      rw [h3] at a2 HV
      clear h1 h2 h3
      by_cases kS : 0 < lS
      · rw [decide_eq_true kS] at HV
        have kS1 : (0 : Int) < (lS : Int) := by omega
        clear kS
        go_wp2_with fail
        refine (HS.out _ (HR.out.below HB5.out)).mono ?_
        rintro e w6 ⟨ga, gc, rfl, hB6⟩
        go_wp2_with fail
        go_ret
        exact ⟨by rw [HV.out]; rfl, HB5.out.trans (hB6.mono HB5.out.size)⟩
      rw [decide_eq_false kS] at HV
      have kS1 : ¬ (0 : Int) < (lS : Int) := by omega
      clear kS
      go_wp2_with fail
      refine (HS.out _ (HR.out.below HB5.out)).mono ?_
      rintro e w6 ⟨ga, gc, rfl, hB6⟩
      have HB6 := Lib.hid (HB5.out.trans (hB6.mono HB5.out.size))
      clear hB6 a0 z0 a2 HA5 HZ5 HB5
      cases bV with
      | true =>
        go_wp2_with fail
        refine (HY.out _ (HR.out.below HB6.out)).mono ?_
        rintro e w7 ⟨rfl, hB7⟩
        go_wp2_with fail
        go_ret
        exact ⟨by rw [HV.out]; rfl, HB6.out.trans (hB7.mono HB6.out.size)⟩
      | false =>
      go_wp2_with fail
      refine (HY.out _ (HR.out.below HB6.out)).mono ?_
      rintro e w7 ⟨rfl, hB7⟩
      have HB7 := Lib.hid (HB6.out.trans (hB7.mono HB6.out.size))
      clear hB7 HB6
      go_upto_region 16 with fail
      go_cut [81] (fun u wx => u = .bool (decide (0 < lA) && !bP) ∧ Below w7.heap.size w7 wx)
      case first =>
        by_cases kA : 0 < lA
        · have HZ := Lib.hid (show (decide (0 < lA) && !bP) = !bP by simp [kA])
          have kA1 : (0 : Int) < (lA : Int) := by omega
          clear kA
          go_wp2_with fail
          refine (HA.out _ (HQ.out.below HB7.out)).mono ?_
          rintro e w8 ⟨ha, hc, rfl, hB8⟩
          go_wp2_with fail
          go_meet
          exact ⟨by rw [HZ.out], hB8⟩
        · have HZ := Lib.hid (show (decide (0 < lA) && !bP) = false by simp [kA])
          have kA1 : ¬ (0 : Int) < (lA : Int) := by omega
          clear kA
          go_wp2_with fail
          refine (HA.out _ (HQ.out.below HB7.out)).mono ?_
          rintro e w8 ⟨ha, hc, rfl, hB8⟩
          go_wp2_with fail
          go_meet
          exact ⟨by rw [HZ.out], hB8⟩
      case rest =>
        obtain ⟨rfl, hBx⟩ := hcut
        have HB8 := Lib.hid (HB7.out.trans (hBx.mono HB7.out.size))
        clear hBx HB7
        generalize (decide (0 < lA) && !bP) = b7 at *
        cases b7 with
        | true =>
          go_wp2_with fail
          go_ret
          exact ⟨by rw [HV.out]; rfl, HB8.out⟩
        | false =>
        by_cases k5 : yk = 5
        · have e5 : (yk == 5) = true := by simpa using k5
          have HV2 := Lib.hid (show res = reaV false false (false || false) false false false false (!bU) by rw [HV.out, k5]; rfl)
          clear k5 HV
          cases bU with
          | true =>
            go_wp2_with fail
            refine (HU.out _ (HR.out.below HB8.out)).mono ?_
            rintro e w9 ⟨rfl, hB9⟩
            go_wp2_with fail
            go_ret
            exact ⟨by rw [HV2.out]; rfl, HB8.out.trans (hB9.mono HB8.out.size)⟩
          | false =>
            go_wp2_with fail
            refine (HU.out _ (HR.out.below HB8.out)).mono ?_
            rintro e w9 ⟨rfl, hB9⟩
            go_wp2_with fail
            go_ret
            exact ⟨by rw [HV2.out]; rfl, HB8.out.trans (hB9.mono HB8.out.size)⟩
        · have e5 : (yk == 5) = false := by simpa using k5
          have HV2 := Lib.hid (show res = 0 by rw [HV.out, decide_eq_false k5]; rfl)
          clear k5 HV
          go_wp2_with fail
          go_ret
          exact ⟨by rw [HV2.out]; rfl, HB8.out⟩
end Go.Proofs.YtoiampkdmjpljaaGreatDoor
