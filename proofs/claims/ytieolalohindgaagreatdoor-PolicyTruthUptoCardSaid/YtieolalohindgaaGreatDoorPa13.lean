import Derived.Test.YtieolalohindgaaGreatDoorPa10
import Derived.Laws.Rows
import Derived.Test.YtieolalohindgaaGreatDoorPa12
import Derived.Test.YtieolalohindgaaGreatDoorPa5
/- What the program's number and month return. -/
namespace Go.Proofs.YtieolalohindgaaGreatDoor
open Go.RowKit

structure EnvP (w : World) : Prop where
  env : EnvH w
  err : ∃ ev, w.cell? ⟨5, 0, none⟩ = some ev ∧ (ev = .nilIface ∨ ∃ te pe, ev = .iface te pe)
theorem EnvP.below {w w' : World} (h : EnvP w) (hb : Below w.heap.size w w') : EnvP w' := by
  obtain ⟨ev, h1, h2⟩ := h.err
  exact ⟨h.env.below hb, ev, (hb.cell (p := ⟨5, 0, none⟩) (World.block_lt_of_cell? w _ h1)).trans h1, h2⟩
theorem atoi_any (s : ByteArray) (hs : s.size ≤ 18) (w : World) (hE : EnvP w) :
    Calls Tryz.prog 145 #[.string s] w fun e w' => ∃ x, e = .returned (.tuple #[.int .i64 (av s.data.toList), x]) ∧ Below w.heap.size w w' := by
  cases h : Lib.atoi s.data.toList with
  | some n =>
    refine (Tryz.strconv_Atoi s n hs h w).mono ?_
    rintro e w' ⟨rfl, t, rfl⟩
    exact ⟨_, by unfold av; rw [h]; rfl, Lib.bytesWorld_below _ _ _⟩
  | none =>
    obtain ⟨ev, h1, h2⟩ := hE.err
    refine (Tryz.strconv_Atoi_err s hs h ev w h1 h2).mono ?_
    rintro e w' ⟨N, rfl, _, _, hb⟩
    exact ⟨_, by unfold av; rw [h]; rfl, hb⟩
set_option maxHeartbeats 400000 in
theorem number_any (s : ByteArray) (hs : s.size ≤ 18) (w : World) (hE : EnvP w) :
    Calls Tryz.prog 126 #[.string s] w fun e w' => e = .returned (.int .i64 (av s.data.toList)) ∧ Below w.heap.size w w' := by
  have HA := Lib.hid (atoi_any s hs w hE)
  clear hE
  go_enter Tryz.func126, Tryz.ntmps126
  go_wp2_with fail
  refine HA.out.mono ?_
  rintro e w' ⟨x, rfl, hB⟩
  have HB := Lib.hid hB
  clear hB
  go_wp2_with fail
  go_ret
  exact ⟨rfl, HB.out⟩
/-- What lies in the array at an index. -/
theorem mon_at (j : Nat) (h : j < 12) (w : World) : (Instr.index 159 (.agg monA) (.int .i64 (j : Int))).run Tryz.prog w = .ok (.string (strB (moS (j + 1)))) w := by
  rcases twelve h with rfl | rfl | rfl | rfl | rfl | rfl | rfl | rfl | rfl | rfl | rfl | rfl <;> kernel_rfl
def MoTo (l : List UInt8) (j : Nat) : Prop := ∀ i, 1 ≤ i → i ≤ j → moS i ≠ l
theorem MoTo.step {l : List UInt8} {j : Nat} (h : MoTo l j) (hn : moS (j + 1) ≠ l) : MoTo l (j + 1) := fun i h1 h2 => by
  by_cases e : i = j + 1
  · rw [e]; exact hn
  · exact h i h1 (by omega)
theorem strB_eq {l : List UInt8} {s : ByteArray} (h : (strB l).toList = s.toList) : l = s.data.toList := by
  rw [ByteArray.toList_eq, ByteArray.toList_eq, strB_list] at h; exact h
set_option maxHeartbeats 1000000 in
theorem month_any (s : ByteArray) (w : World) (hE : EnvH w) :
    Calls Tryz.prog 127 #[.string s] w fun e w' => ∃ k : Nat, e = .returned (.int .i64 (k : Int)) ∧ isMo s.data.toList k ∧ w = w' := by
  obtain ⟨t, fr, hg⟩ := hE.row
  have HG := Lib.hid hg
  clear hE hg
  go_enter Tryz.func127, Tryz.ntmps127
  go_wp2_with (refine wpList_load_row rfl 159 _ rfl 1 rfl t _ fr _ HG.out Tryz.underlying159 rfl (by kernel_rfl) ?_)
  go_loop [6] (fun i => ∃ j : Nat, j ≤ 12 ∧ i = .int .i64 j ∧ MoTo s.data.toList j) (fun i => (12 - intOf i).toNat)
  case atStart => exact ⟨0, by omega, rfl, fun i h1 h2 => by omega⟩
  case round =>
    obtain ⟨j, hj, rfl, hM⟩ := hrel
    have HM := Lib.hid hM
    clear hM
    by_cases hlt : j < 12
    · have hix := mon_at j hlt
      by_cases he : (strB (moS (j + 1))).toList = s.toList
      · have HE := Lib.hid (strB_eq he)
        go_wp2_with fail
        go_ret
        exact ⟨j + 1, by congr 2, .inl ⟨by omega, by omega, HE.out⟩, rfl⟩
      · have HE := Lib.hid (fun h : moS (j + 1) = s.data.toList => he (by rw [h, strB_of]))
        have hb : ((strB (moS (j + 1))).toList == s.toList) = false := by simpa using he
        clear he
        go_wp2_with fail
        go_round
        case rel => exact ⟨j + 1, by omega, by go_num, HM.out.step HE.out⟩
        case measure => simp [intOf]; omega
    · obtain rfl : j = 12 := by omega
      go_wp2_with fail
      go_ret
      exact ⟨0, rfl, .inr ⟨rfl, fun i h1 h2 => HM.out i h1 h2⟩, rfl⟩
end Go.Proofs.YtieolalohindgaaGreatDoor

/- What Parse returns: the second of a date text, or ErrForm. -/
namespace Go.Proofs.YtieolalohindgaaGreatDoor
open Go.RowKit

theorem isMo_ex (l : List UInt8) : ∃ k, isMo l k := by
  by_cases h : ∃ k, 1 ≤ k ∧ k ≤ 12 ∧ moS k = l
  · obtain ⟨k, a, b, c⟩ := h; exact ⟨k, .inl ⟨a, b, c⟩⟩
  · exact ⟨0, .inr ⟨rfl, fun j a b c => h ⟨j, a, b, c⟩⟩⟩
theorem isMo_uniq {l : List UInt8} {k m : Nat} (h : isMo l k) (h' : isMo l m) : k = m := by
  rcases h with ⟨a, b, c⟩ | ⟨a, c⟩ <;> rcases h' with ⟨a', b', c'⟩ | ⟨a', c'⟩
  · exact moS_inj k m a b a' b' (c.trans c'.symm)
  · exact absurd c (c' k a b)
  · exact absurd c' (c m a' b')
  · omega
theorem month_is (s : ByteArray) (k : Nat) (w : World) (hE : EnvH w) (hk : isMo s.data.toList k) :
    Calls Tryz.prog 127 #[.string s] w fun e w' => e = .returned (.int .i64 (k : Int)) ∧ w = w' :=
  (month_any s w hE).mono fun _ _ ⟨_, he, hm, hw⟩ => ⟨by rw [he, isMo_uniq hm hk], hw⟩
/-- What the parts of a date text make. -/
theorem isT_fields {n k : Nat} {l : List UInt8} (h : isT n l) (hk : isMo (part l 8 11) k) :
    isD (av (part l 12 16)) (k : Int) (av (part l 5 7)) ((n / 86400 : Nat) : Int) ∧ (n : Int) = ((n / 86400 : Nat) : Int) * 86400 + av (part l 17 19) * 3600 + av (part l 20 22) * 60 + av (part l 23 25) := by
  obtain ⟨_, y, m, d, hD, p1, p2, p3, p4, p5, p6⟩ := isT_parts h
  have b := isD_bd hD
  obtain rfl := isMo_of hk (by omega) (by omega) p2
  rw [p1, p3, p4, p5, p6, av_d4 y (by omega), av_dd d (by omega), av_dd _ (by omega), av_dd _ (by omega), av_dd _ (by omega)]
  exact ⟨hD, by omega⟩
/-- What Parse returns of a text: the second of which it is the date text, or ErrForm. -/
def ParseV (l : List UInt8) (e : Ending) : Prop := (∃ n : Nat, isT n l ∧ e = .returned (.tuple #[.int .i64 (n : Int), .nilIface])) ∨ ((∀ n, ¬ isT n l) ∧ e = .returned (.tuple #[.int .i64 0, .iface 92 (.int .i64 2)]))
theorem number_in {w wr : World} (s : ByteArray) (l : List UInt8) (i j : Nat) (hl : s.data.toList = l) (hz : (s.extract i j).size ≤ 18) (hS : EnvP wr ∧ Below w.heap.size w wr) :
    Calls Tryz.prog 126 #[.string (s.extract i j)] wr fun e w' => e = .returned (.int .i64 (av (part l i j))) ∧ (EnvP w' ∧ Below w.heap.size w w') := by
  refine (number_any (s.extract i j) hz wr hS.1).mono ?_
  rintro e w' ⟨rfl, hB⟩
  exact ⟨by rw [seg_list, hl]; rfl, hS.1.below hB, hS.2.trans (hB.mono hS.2.size)⟩
theorem month_in {w wr : World} (s : ByteArray) (l : List UInt8) (k : Nat) (hl : s.data.toList = l) (hk : isMo (part l 8 11) k) (hS : EnvP wr ∧ Below w.heap.size w wr) :
    Calls Tryz.prog 127 #[.string (s.extract 8 11)] wr fun e w' => e = .returned (.int .i64 (k : Int)) ∧ (EnvP w' ∧ Below w.heap.size w w') := by
  refine (month_is (s.extract 8 11) k wr hS.1.env (by rw [seg_list, hl]; exact hk)).mono ?_
  rintro e w' ⟨rfl, rfl⟩
  exact ⟨rfl, hS⟩
theorem inP_drew {b : Nat} {w W : World} (h : EnvP W ∧ Below b w W) : EnvP W.drew ∧ Below b w W.drew := ⟨h.1.below (Below.refl _ _).drew, h.2.drew⟩
set_option maxHeartbeats 400000 in
theorem parse_short (s : ByteArray) (w : World) (hs : s.size ≠ 29) (_hm : s.size ≤ maxLen) :
    Calls Tryz.prog 109 #[.string s] w fun e w' => ParseV s.data.toList e ∧ w = w' := by
  have HN := Lib.hid (show ∀ n, ¬ isT n s.data.toList from fun n h => hs (by have := (isT_parts h).1; simpa using this))
  have hb : ((s.size : Int) != 29) = true := by simp; omega
  unfold maxLen at _hm
  clear hs
  go_enter Tryz.func109, Tryz.ntmps109
  go_wp2_with fail
  go_ret2
  exact ⟨.inr ⟨HN.out, rfl⟩, rfl⟩
set_option maxHeartbeats 4000000 in
theorem parse_any (s : ByteArray) (w : World) (hE : EnvP w) (hs : s.size = 29) :
    Calls Tryz.prog 109 #[.string s] w fun e w' => ParseV s.data.toList e ∧ Below w.heap.size w w' := by
  obtain ⟨l, hl⟩ : ∃ l, s.data.toList = l := ⟨_, rfl⟩
  have hll : l.length = 29 := by rw [← hl]; simpa using hs
  rw [hl]
  obtain ⟨k, hk⟩ := isMo_ex (part l 8 11)
  have hk12 := isMo_bd hk
  have HF := Lib.hid (fun n (h : isT n l) => isT_fields h hk)
  have bY := av_4 (part l 12 16) (part_len l 12 16 (by omega) (by omega))
  have bD := av_2 (part l 5 7) (part_len l 5 7 (by omega) (by omega))
  have bh := av_2 (part l 17 19) (part_len l 17 19 (by omega) (by omega))
  have bm := av_2 (part l 20 22) (part_len l 20 22 (by omega) (by omega))
  have bs := av_2 (part l 23 25) (part_len l 23 25 (by omega) (by omega))
  have HL := Lib.hid hl
  have HK := Lib.hid hk
  have hz : ∀ i j, (s.extract i j).size ≤ j - i := fun i j => by rw [ByteArray.size_extract]; omega
  have HZ1 := Lib.hid (show (s.extract 12 16).size ≤ 18 by have := hz 12 16; omega)
  have HZ3 := Lib.hid (show (s.extract 5 7).size ≤ 18 by have := hz 5 7; omega)
  have HZ4 := Lib.hid (show (s.extract 17 19).size ≤ 18 by have := hz 17 19; omega)
  have HZ5 := Lib.hid (show (s.extract 20 22).size ≤ 18 by have := hz 20 22; omega)
  have HZ6 := Lib.hid (show (s.extract 23 25).size ≤ 18 by have := hz 23 25; omega)
  have hS : EnvP w.drew ∧ Below w.heap.size w w.drew := ⟨hE.below (Below.refl _ _).drew, (Below.refl _ _).drew⟩
  clear hl hk hll hz hE
  cases hv : vldB (av (part l 12 16)) (k : Int) (av (part l 5 7)) with
  | false =>
    have HN := Lib.hid (show ∀ n, ¬ isT n l from fun n h => by have := vld_of (HF.out n h).1; rw [hv] at this; cases this)
    have HV := Lib.hid hv
    clear hv
    go_enter Tryz.func109, Tryz.ntmps109
    go_wp2_with fail
    go_region_held3 (fun w' => EnvP w' ∧ Below w.heap.size w w')
      (first | (with_reducible exact h5) | (with_reducible exact hS))
      (first
        | (go_at_call_of 126 (Value.string (s.extract 12 16)); refine (number_in s l 12 16 HL.out HZ1.out (by assumption)).mono ?_; rintro e w' ⟨rfl, h5⟩)
        | (go_at_call_of 126 (Value.string (s.extract 5 7)); refine (number_in s l 5 7 HL.out HZ3.out (by assumption)).mono ?_; rintro e w' ⟨rfl, h5⟩)
        | (go_at_call 127; refine (month_in s l k HL.out HK.out (by assumption)).mono ?_; rintro e w' ⟨rfl, h5⟩)
        | (go_at_call 125; refine (day_no _ _ _ _ HV.out).mono ?_; rintro e w' ⟨rfl, rfl⟩))
    go_wp2_with fail
    go_ret2
    exact ⟨.inr ⟨HN.out, rfl⟩, h5.2⟩
  | true =>
    have hD := isD_of hv
    obtain ⟨N, hN⟩ : ∃ N, num (av (part l 12 16)) (k : Int) (av (part l 5 7)) = N := ⟨_, rfl⟩
    rw [hN] at hD
    have bN := isD_bd hD
    have HD := Lib.hid (fun w => day_yes _ _ _ _ w hD)
    have HX := Lib.hid (show ∀ n : Nat, isT n l → (n : Int) = N * 86400 + av (part l 17 19) * 3600 + av (part l 20 22) * 60 + av (part l 23 25) from fun n h => by
      obtain ⟨h1, h2⟩ := HF.out n h
      have e1 := h1.2.2.2.2.2.2
      rw [hN] at e1
      rw [← e1]; exact h2)
    obtain ⟨b0, b1⟩ : 0 ≤ N ∧ N ≤ 2932896 := by omega
    clear hv hD hN bN
    go_enter Tryz.func109, Tryz.ntmps109
    go_wp2_with fail
    go_region_held3 (fun w' => EnvP w' ∧ Below w.heap.size w w')
      (first | (with_reducible exact h5) | (with_reducible exact hS))
      (first
        | (go_at_call_of 126 (Value.string (s.extract 12 16)); refine (number_in s l 12 16 HL.out HZ1.out (by assumption)).mono ?_; rintro e w' ⟨rfl, h5⟩)
        | (go_at_call_of 126 (Value.string (s.extract 5 7)); refine (number_in s l 5 7 HL.out HZ3.out (by assumption)).mono ?_; rintro e w' ⟨rfl, h5⟩)
        | (go_at_call 127; refine (month_in s l k HL.out HK.out (by assumption)).mono ?_; rintro e w' ⟨rfl, h5⟩)
        | (go_at_call 125; refine (HD.out _).mono ?_; rintro e w' ⟨rfl, rfl⟩))
    clear hS
    have hS := inP_drew h5
    clear h5
    go_wp2_with fail
    have w1 : IntKind.i64.wrap (N * 86400) = N * 86400 := IntWalk.i64_in _ (by omega)
    have w2 : IntKind.i64.wrap (av (part l 17 19) * 3600) = av (part l 17 19) * 3600 := IntWalk.i64_in _ (by omega)
    have w3 : IntKind.i64.wrap (N * 86400 + av (part l 17 19) * 3600) = N * 86400 + av (part l 17 19) * 3600 := IntWalk.i64_in _ (by omega)
    have w4 : IntKind.i64.wrap (av (part l 20 22) * 60) = av (part l 20 22) * 60 := IntWalk.i64_in _ (by omega)
    have w5 : IntKind.i64.wrap (N * 86400 + av (part l 17 19) * 3600 + av (part l 20 22) * 60) = N * 86400 + av (part l 17 19) * 3600 + av (part l 20 22) * 60 := IntWalk.i64_in _ (by omega)
    have w6 : IntKind.i64.wrap (N * 86400 + av (part l 17 19) * 3600 + av (part l 20 22) * 60 + av (part l 23 25)) = N * 86400 + av (part l 17 19) * 3600 + av (part l 20 22) * 60 + av (part l 23 25) := IntWalk.i64_in _ (by omega)
    go_region_held3 (fun w' => EnvP w' ∧ Below w.heap.size w w')
      (first | (with_reducible exact h5) | (with_reducible exact hS))
      (first
        | (go_at_call_of 126 (Value.string (s.extract 17 19)); refine (number_in s l 17 19 HL.out HZ4.out (by assumption)).mono ?_; rintro e w' ⟨rfl, h5⟩)
        | (go_at_call_of 126 (Value.string (s.extract 20 22)); refine (number_in s l 20 22 HL.out HZ5.out (by assumption)).mono ?_; rintro e w' ⟨rfl, h5⟩)
        | (go_at_call_of 126 (Value.string (s.extract 23 25)); refine (number_in s l 23 25 HL.out HZ6.out (by assumption)).mono ?_; rintro e w' ⟨rfl, h5⟩))
    obtain ⟨X, hX⟩ : ∃ X, N * 86400 + av (part l 17 19) * 3600 + av (part l 20 22) * 60 + av (part l 23 25) = X := ⟨_, rfl⟩
    have bX : -400000 ≤ X ∧ X ≤ 253403000000 := by omega
    rw [hX] at HX ⊢
    clear w1 w2 w3 w4 w5 w6 hX hS
    obtain ⟨hE5, hB5⟩ := h5
    have HE5 := Lib.hid hE5
    have HB5 := Lib.hid hB5
    clear hE5 hB5
    by_cases hr : X < 0 ∨ 253402300799 < X
    · have HN := Lib.hid (show ∀ n, ¬ isT n l from fun n h => by have := HX.out n h; have := h.1; omega)
      have HR := Lib.hid hr
      clear hr
      go_wp2_with fail
      refine (format_no X _ HR.out (by omega)).mono ?_
      rintro e w' ⟨rfl, rfl⟩
      go_wp2_with fail
      go_ret2
      exact ⟨.inr ⟨HN.out, rfl⟩, HB5.out⟩
    · obtain ⟨x, rfl⟩ : ∃ x : Nat, X = x := ⟨X.toNat, by omega⟩
      obtain ⟨t, ht⟩ := isT_ex x (by omega)
      clear hr
      by_cases he : t = l
      · subst he
        have HT := Lib.hid ht
        have hd : ((strB t).toList == s.toList) = true := by
          have : strB t = s := by rw [← HL.out, strB_of]
          rw [this]; simp
        clear ht
        go_wp2_with fail
        refine (format_yes x t _ HE5.out.env HT.out).mono ?_
        rintro e w' ⟨rfl, hB⟩
        have HB := Lib.hid hB
        clear hB
        go_wp2_with fail
        go_ret2
        exact ⟨.inl ⟨x, HT.out, rfl⟩, HB5.out.trans (HB.out.mono HB5.out.size)⟩
      · have HT := Lib.hid ht
        have HN := Lib.hid (show ∀ n, ¬ isT n l from fun n h => by
          have e := HX.out n h
          have e2 : n = x := by omega
          subst e2
          exact he (isT_uniq ht h))
        have hd : ((strB t).toList == s.toList) = false := by
          rw [beq_eq_false_iff_ne]
          intro h
          exact he ((strB_eq h).trans HL.out)
        clear ht he
        go_wp2_with fail
        refine (format_yes x t _ HE5.out.env HT.out).mono ?_
        rintro e w' ⟨rfl, hB⟩
        have HB := Lib.hid hB
        clear hB
        go_wp2_with fail
        go_ret2
        exact ⟨.inr ⟨HN.out, rfl⟩, HB5.out.trans (HB.out.mono HB5.out.size)⟩
end Go.Proofs.YtieolalohindgaaGreatDoor

/- What Parse returns, said by the date that a text is: dV. -/
namespace Go.Proofs.YtieolalohindgaaGreatDoor
open Go.RowKit

def dnV : Option Nat → Int
  | some n => (n : Int)
  | none => 0
def dtV : Option Nat → Value
  | some n => .tuple #[.int .i64 (n : Int), .nilIface]
  | none => .tuple #[.int .i64 0, .iface 92 (.int .i64 2)]
theorem hParse_any (l : List UInt8) (d : Option Nat) (hd : DateIs l d) (w : World) (hE : EnvP w) (hl : l.length ≤ 1000000) :
    Calls Tryz.prog 109 #[.string (strB l)] w fun e w' => e = .returned (dtV d) ∧ Below w.heap.size w w' := by
  have hv : ∀ e, ParseV (strB l).data.toList e → e = .returned (dtV d) := by
    intro e h
    rw [strB_list] at h
    rcases h with ⟨n, hn, rfl⟩ | ⟨hn, rfl⟩
    · have : d = some n := hd.uniq (e := some n) hn
      subst this; rfl
    · have : d = none := hd.uniq (e := none) hn
      subst this; rfl
  by_cases hs : (strB l).size = 29
  · refine (parse_any (strB l) w hE hs).mono ?_
    rintro e w' ⟨h, hB⟩
    exact ⟨hv e h, hB⟩
  · refine (parse_short (strB l) w hs (by rw [strB_size]; unfold maxLen; omega)).mono ?_
    rintro e w' ⟨h, rfl⟩
    exact ⟨hv e h, Below.refl _ _⟩
end Go.Proofs.YtieolalohindgaaGreatDoor
