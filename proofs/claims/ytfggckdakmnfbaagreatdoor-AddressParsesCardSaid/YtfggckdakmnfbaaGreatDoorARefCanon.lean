/- What the reference's canonical returns. -/
import Derived.Test.YtfggckdakmnfbaaGreatDoorARefByte
import Derived.BigQuiet
namespace Go.Proofs.YtfggckdakmnfbaaGreatDoor
open Go.RowKit

def refCanV (q : Bool) (l : List UInt8) : Value := match canO q l with
  | none => .tuple #[.string (strB []), .bool false]
  | some x => .tuple #[.string (strB x), .bool true]
theorem refCanV_no {q : Bool} {l : List UInt8} (h : canO q l = none) : refCanV q l = .tuple #[.string (strB []), .bool false] := by unfold refCanV; rw [h]
theorem refCanV_yes {q : Bool} {l x : List UInt8} (h : canO q l = some x) : refCanV q l = .tuple #[.string (strB x), .bool true] := by unfold refCanV; rw [h]
def moreB (q : Bool) : ByteArray := if q then ⟨#[63]⟩ else ⟨#[]⟩
theorem more_has (q : Bool) (c : UInt8) : (moreB q).data.toList.contains c = (q && c.toNat == 63) := by
  cases q with
  | false => rfl
  | true =>
    have : ∀ n : Fin 256, ([63] : List UInt8).contains (UInt8.ofNat n.val) = ((UInt8.ofNat n.val).toNat == 63) := by decide +kernel
    have h := this ⟨c.toNat, UInt8.toNat_lt c⟩
    simp only [UInt8.ofNat_toNat] at h
    rw [Bool.true_and, ← h]; rfl
theorem more_size (q : Bool) : (moreB q).size ≤ 1000 := by cases q <;> decide
theorem pln_or (q : Bool) (c : UInt8) : plnB q c = (unrB c || (([33, 36, 38, 39, 40, 41, 42, 43, 44, 59, 61, 58, 64, 47] : List UInt8).contains c || (moreB q).data.toList.contains c)) := by
  rw [more_has, path_has']
  unfold plnB pathB
  cases (q && c.toNat == 63) <;> simp
def RCanRel (q : Bool) (s : ByteArray) (w : World) (u i : Value) (wr : World) : Prop :=
  ∃ (k : Nat) (out : List UInt8), u = .string (strB out) ∧ i = .int .i64 k ∧ k ≤ s.size ∧ Below w.heap.size w wr ∧ CanTo q s k out
theorem strB_one (l : List UInt8) (s : ByteArray) (k : Nat) (h : k < s.size) : strB l ++ s.extract k (k + 1) = strB (l ++ [s[k]]) := by
  rw [strB_app, one_byte s k h]
theorem hex_nat {c : UInt8} (h : 0 ≤ hexI c) : ∃ n : Nat, hexI c = n ∧ n ≤ 15 := ⟨(hexI c).toNat, by omega, by have := hexI_le c; omega⟩
theorem okB_of {a b : UInt8} {m n : Nat} (ha : hexI a = m) (hb : hexI b = n) (h1 : 32 ≤ 16 * m + n) (h2 : 16 * m + n ≠ 127) : okB a b = true := by
  rw [okB_iff]; unfold valN; rw [ha, hb]; omega
theorem okB_no {a b : UInt8} {m n : Nat} (ha : hexI a = m) (hb : hexI b = n) (h : 16 * m + n < 32 ∨ 16 * m + n = 127) : okB a b = false := by
  rw [Bool.eq_false_iff, Ne, okB_iff]; unfold valN; rw [ha, hb]; omega
theorem okB_neg {a b : UInt8} (h : hexI a < 0 ∨ hexI b < 0) : okB a b = false := by
  rw [Bool.eq_false_iff, Ne, okB_iff]; omega
theorem val_of {a b : UInt8} {m n : Nat} (ha : hexI a = m) (hb : hexI b = n) : valN a b = 16 * m + n := by
  unfold valN; rw [ha, hb]; omega
def hexDigits : ByteArray := ⟨#[48, 49, 50, 51, 52, 53, 54, 55, 56, 57, 65, 66, 67, 68, 69, 70]⟩
theorem digit_at (n : Nat) (h : n < 16) : hexDigits.extract n (n + 1) = strB [hexD n] := by
  have : ∀ m : Fin 16, hexDigits.extract m.val (m.val + 1) = strB [hexD m.val] := by
    intro m
    apply strB_ext
    rw [one_byte hexDigits m.val m.isLt]
    have : ∀ m : Fin 16, hexDigits[m.val]'m.isLt = hexD m.val := by decide +kernel
    rw [this m]
  exact this ⟨n, h⟩
theorem hex_text (out : List UInt8) (i j : Nat) (h1 : hexDigits.extract (i / 16) (i / 16 + 1) = strB [hexD (i / 16)]) (h2 : hexDigits.extract (j % 16) (j % 16 + 1) = strB [hexD (j % 16)]) :
    Value.string (strB out ++ ((⟨#[37]⟩ : ByteArray) ++ hexDigits.extract (i / 16) (i / 16 + 1) ++ hexDigits.extract (j % 16) (j % 16 + 1))) = .string (strB (out ++ [37, hexD (i / 16), hexD (j % 16)])) := by
  rw [h1, h2]
  refine congrArg Value.string ?_
  apply ByteArray.ext; simp [strB]
set_option maxHeartbeats 1500000 in
set_option maxRecDepth 100000 in
theorem refCanonical_any (q : Bool) (s : ByteArray) (w : World) (hs : s.size ≤ 100000) :
    Calls Tryz.prog 17 #[.string s, .string (moreB q)] w fun e w' => e = .returned (refCanV q s.data.toList) ∧ Below w.heap.size w w' := by
  have hms := more_size q
  go_enter Tryz.func17, Tryz.ntmps17
  go_wp2
  go_loopw [6, 7] (fun u i wr => RCanRel q s w u i wr) (fun _ i _ => s.size - (intOf i).toNat)
  case atStart => exact ⟨0, [], rfl, rfl, by omega, Below.refl _ _, canTo0 q s⟩
  case round =>
    obtain ⟨k, out, rfl, rfl, hk, hB, hC⟩ := hrel
    have hsz := hB.size
    have hol := hC.2
    have hso : (strB out).size ≤ 100000 := by rw [strB_size]; omega
    by_cases hlt : k < s.size
    · by_cases h37 : s[k].toNat = 37
      · have h37' : ((s[k].toNat : Int) != 37) = false := by rw [h37]; rfl
        by_cases h3 : s.size < k + 3
        · have HR := Lib.hid (refCanV_no (canTo_short hC hlt h37 h3))
          have h3' : decide ((s.size : Int) ≤ (k : Int) + 2) = true := by simp; omega
          clear h37
          go_wp2
          go_ret2
          exact ⟨by rw [HR.out]; rfl, hB⟩
        · have h3' : decide ((s.size : Int) ≤ (k : Int) + 2) = false := by simp; omega
          have hk3 : k + 3 ≤ s.size := by omega
          have HNO := Lib.hid (fun h => refCanV_no (canTo_pctNo hC hk3 h37 h))
          by_cases ha : hexI s[k + 1] < 0
          · have HR := Lib.hid (HNO.out (okB_neg (Or.inl ha)))
            clear h37
            have ha' : decide (hexI s[k + 1] < 0) = true := decide_eq_true ha
            clear ha
            go_wp2_with (go_at_call 37; refine (refHex_any _ _).mono ?_; rintro e w' ⟨rfl, rfl⟩)
            all_goals
              go_ret2
              exact ⟨by rw [HR.out]; rfl, hB⟩
          · obtain ⟨m, hm, hm15⟩ := hex_nat (c := s[k + 1]) (by omega)
            clear ha
            by_cases hb : hexI s[k + 2] < 0
            · have HR := Lib.hid (HNO.out (okB_neg (Or.inr hb)))
              have HX := Lib.hid hm
              clear h37 hm
              go_wp2_with (first
                | (go_at_call_of 37 (Value.int .u8 (s[k + 1].toNat : Int)); refine (refHex_any _ _).mono ?_; rintro e w' ⟨rfl, rfl⟩; rw [HX.out])
                | (go_at_call 37; refine (refHex_any _ _).mono ?_; rintro e w' ⟨rfl, rfl⟩))
              all_goals
                go_ret2
                exact ⟨by rw [HR.out]; rfl, hB⟩
            · obtain ⟨n, hn, hn15⟩ := hex_nat (c := s[k + 2]) (by omega)
              clear hb
              have HV := Lib.hid (val_of hm hn)
              have HXA := Lib.hid (fun w => (refHex_any s[k + 1] w))
              have HXB := Lib.hid (fun w => (refHex_any s[k + 2] w))
              rw [hm] at HXA
              rw [hn] at HXB
              have HQA := Lib.hid (fun n => Calls.quiet_of_same (w := wr) (n := n) ((HXA.out (wr.drewN n)).mono fun _ _ ⟨he, hw⟩ => ⟨he, hw.symm⟩))
              have HQB := Lib.hid (fun n => Calls.quiet_of_same (w := wr) (n := n) ((HXB.out (wr.drewN n)).mono fun _ _ ⟨he, hw⟩ => ⟨he, hw.symm⟩))
              have HOK := Lib.hid (fun h1 h2 => okB_of hm hn h1 h2)
              have HBAD := Lib.hid (fun h => HNO.out (okB_no hm hn h))
              have HSTEP := Lib.hid (fun h => canTo_pct hC hk3 h37 h)
              rw [HV.out] at HSTEP
              clear hm hn h37 HNO HV
              go_wp2_with (first
                | (go_at_call 37; (first | (with_reducible refine (HXA.out _).mono ?_) | (with_reducible refine (HXB.out _).mono ?_)); rintro e w' ⟨rfl, rfl⟩))
              go_quiet ((first | with_reducible exact HQA.out _ | with_reducible exact HQB.out _))
              clear HQA HQB HXA HXB
              have hBq := below_drewN hB nq
              by_cases h32 : 16 * m + n < 32
              · have HR := Lib.hid (HBAD.out (Or.inl h32))
                have h32' : decide (16 * (m : Int) + (n : Int) < 32) = true := by simp; omega
                go_wp2
                go_ret2
                exact ⟨by rw [HR.out]; rfl, hBq⟩
              · have h32' : decide (16 * (m : Int) + (n : Int) < 32) = false := by simp; omega
                by_cases h127 : 16 * m + n = 127
                · have HR := Lib.hid (HBAD.out (Or.inr h127))
                  have h127' : (16 * (m : Int) + (n : Int) == 127) = true := by simp; omega
                  clear h127
                  go_wp2
                  go_ret2
                  exact ⟨by rw [HR.out]; rfl, hBq⟩
                · have h127' : (16 * (m : Int) + (n : Int) == 127) = false := by simp; omega
                  have HN := Lib.hid (HSTEP.out (HOK.out (by omega) h127))
                  clear h127
                  obtain ⟨c, hc, hcv⟩ : ∃ c : UInt8, (c.toNat : Int) = 16 * m + n ∧ c = UInt8.ofNat (16 * m + n) := ⟨UInt8.ofNat (16 * m + n), by simp; omega, rfl⟩
                  have HU := Lib.hid (fun w => refUnr_any c w)
                  rw [hc] at HU
                  have HCV := Lib.hid hcv
                  have HC := Lib.hid hc
                  clear hc hcv
                  cases hu : unrB c with
                  | true =>
                    rw [hu] at HU
                    have HE := Lib.hid (show encB (16 * m + n) = [c] by unfold encB; rw [← HCV.out, hu]; rfl)
                    clear hu
                    have HCONV := Lib.hid (conv_one (16 * (m : Int) + (n : Int)) c HC.out.symm)
                    have HBN := Lib.hid (hBq.alloc hBq.size (.cells #[.int .u8 (16 * (m : Int) + (n : Int))] 5))
                    have hsc : (⟨#[c]⟩ : ByteArray).size = 1 := rfl
                    have HST := Lib.hid (strB_snoc out c)
                    go_wp2_with (first
                      | (go_at_call 35; refine (HU.out _).mono ?_; rintro e w' ⟨rfl, rfl⟩)
                      | (rw [show (wr.heap.size : Nat) = (wr.drewN nq).heap.size from rfl, HCONV.out]))
                    go_roundw
                    case rel => exact ⟨k + 3, _, by rw [HST.out], by go_num, by omega, HBN.out, by have h := HN.out; rw [HE.out] at h; exact h⟩
                    case measure => simp [intOf]; omega
                  | false =>
                    rw [hu] at HU
                    have HE := Lib.hid (show encB (16 * m + n) = [37, hexD ((16 * m + n) / 16), hexD ((16 * m + n) % 16)] by unfold encB; rw [← HCV.out, hu]; rfl)
                    clear hu
                    go_wp2_with (go_at_call 35; refine (HU.out _).mono ?_; rintro e w' ⟨rfl, rfl⟩)
                    have d1 := digit_at ((16 * m + n) / 16) (by omega)
                    have d2 := digit_at ((16 * m + n) % 16) (by omega)
                    have HD := Lib.hid (hex_text out _ _ d1 d2)
                    have e1 : (hexDigits.extract ((16 * m + n) / 16) ((16 * m + n) / 16 + 1)).size = 1 := by rw [d1]; rfl
                    have e2 : (hexDigits.extract ((16 * m + n) % 16) ((16 * m + n) % 16 + 1)).size = 1 := by rw [d2]; rfl
                    clear d1 d2
                    have emod : (16 * m + n) % 16 = n % 16 := by omega
                    have EM := Lib.hid emod
                    clear emod
                    go_quiet (fail)
                    go_wp2
                    go_roundw
                    have HD2 := HD.out
                    have HN2 := HN.out
                    rw [HE.out] at HN2
                    rw [EM.out] at HD2 HN2
                    case rel => exact ⟨k + 3, _, HD2, by go_num, by omega, by rw [← World.drewN_drewN]; exact below_drewN hBq _, HN2⟩
                    case measure => simp [intOf]; omega
      · have h37' : ((s[k].toNat : Int) != 37) = true := by simp; omega
        have HP := Lib.hid (pln_or q s[k])
        have HU := Lib.hid (fun w => refUnr_any s[k] w)
        have HI1 := Lib.hid (fun (b : Bool) (hb : ([33, 36, 38, 39, 40, 41, 42, 43, 44, 59, 61, 58, 64, 47] : List UInt8).contains s[k] = b) w => refIn_any ⟨#[33, 36, 38, 39, 40, 41, 42, 43, 44, 59, 61, 58, 64, 47]⟩ s[k] b w (by decide) hb)
        have HI2 := Lib.hid (fun (b : Bool) (hb : (moreB q).data.toList.contains s[k] = b) w => refIn_any (moreB q) s[k] b w hms hb)
        have HYES := Lib.hid (fun (h : plnB q s[k] = true) => canTo_plain hC hlt h)
        have HNO := Lib.hid (fun (h : plnB q s[k] = false) => refCanV_no (canTo_bad hC hlt h h37))
        have HS := Lib.hid (strB_one out s k hlt)
        have hse : (s.extract k (k + 1)).size = 1 := by rw [ByteArray.size_extract]; omega
        clear h37
        cases hu : unrB s[k] with
        | true =>
          have HN := Lib.hid (HYES.out (by rw [HP.out, hu]; rfl))
          rw [hu] at HU
          clear hu
          go_wp2_with (go_at_call 35; refine (HU.out _).mono ?_; rintro e w' ⟨rfl, rfl⟩)
          rw [HS.out]
          go_roundw
          case rel => exact ⟨k + 1, _, rfl, by go_num, by omega, hB, HN.out⟩
          case measure => simp [intOf]; omega
        | false =>
          rw [hu] at HU
          cases hp : ([33, 36, 38, 39, 40, 41, 42, 43, 44, 59, 61, 58, 64, 47] : List UInt8).contains s[k] with
          | true =>
            have HN := Lib.hid (HYES.out (by rw [HP.out, hp]; simp))
            have HI := Lib.hid (HI1.out true hp)
            clear hu hp
            go_wp2_with (first
              | (go_at_call 35; refine (HU.out _).mono ?_; rintro e w' ⟨rfl, rfl⟩)
              | (go_at_call 36; refine (HI.out _).mono ?_; rintro e w' ⟨rfl, rfl⟩))
            rw [HS.out]
            go_roundw
            case rel => exact ⟨k + 1, _, rfl, by go_num, by omega, hB, HN.out⟩
            case measure => simp [intOf]; omega
          | false =>
            have HI := Lib.hid (HI1.out false hp)
            cases hm : (moreB q).data.toList.contains s[k] with
            | true =>
              have HN := Lib.hid (HYES.out (by rw [HP.out, hm]; simp))
              have HJ := Lib.hid (HI2.out true hm)
              clear hu hp hm
              go_wp2_with (first
                | (go_at_call 35; refine (HU.out _).mono ?_; rintro e w' ⟨rfl, rfl⟩)
                | (go_at_call 36; (first | (with_reducible refine (HI.out _).mono ?_) | (with_reducible refine (HJ.out _).mono ?_)); rintro e w' ⟨rfl, rfl⟩))
              rw [HS.out]
              go_roundw
              case rel => exact ⟨k + 1, _, rfl, by go_num, by omega, hB, HN.out⟩
              case measure => simp [intOf]; omega
            | false =>
              have HR := Lib.hid (HNO.out (by rw [HP.out, hu, hp, hm]; rfl))
              have HJ := Lib.hid (HI2.out false hm)
              clear hu hp hm
              go_wp2_with (first
                | (go_at_call 35; refine (HU.out _).mono ?_; rintro e w' ⟨rfl, rfl⟩)
                | (go_at_call 36; (first | (with_reducible refine (HI.out _).mono ?_) | (with_reducible refine (HJ.out _).mono ?_)); rintro e w' ⟨rfl, rfl⟩))
              go_ret2
              exact ⟨by rw [HR.out]; rfl, hB⟩
    · have HR := Lib.hid (refCanV_yes (canTo_end hC (by omega)))
      go_wp2
      go_ret2
      exact ⟨by rw [HR.out]; rfl, hB⟩
end Go.Proofs.YtfggckdakmnfbaaGreatDoor
