/- What the library's ParseUint and package address's canonicalByte return for an encoded byte. -/
import Derived.Test.YtfggckdakmnfbaaDoorAHex
import Derived.Test.YtfggckdakmnfbaaDoorBuild
namespace Go.Proofs.YtfggckdakmnfbaaDoor
open Go.RowKit

def PuPost (a b : UInt8) (e : Ending) : Prop :=
  if 0 ≤ hexI a ∧ 0 ≤ hexI b then e = .returned (.tuple #[.int .u64 ((UInt8.ofNat (valN a b)).toNat : Int), .nilIface])
  else ∃ N, e = .returned (.tuple #[.int .u64 0, .iface 105 (.pointer (some ⟨N, 0, none⟩))])
theorem puPost_ok {a b : UInt8} {e : Ending} (h : 0 ≤ hexI a ∧ 0 ≤ hexI b) : PuPost a b e ↔ e = .returned (.tuple #[.int .u64 ((UInt8.ofNat (valN a b)).toNat : Int), .nilIface]) := by unfold PuPost; rw [if_pos h]
theorem puPost_no {a b : UInt8} {e : Ending} (h : ¬ (0 ≤ hexI a ∧ 0 ≤ hexI b)) : PuPost a b e ↔ ∃ N, e = .returned (.tuple #[.int .u64 0, .iface 105 (.pointer (some ⟨N, 0, none⟩))]) := by unfold PuPost; rw [if_neg h]
theorem puV_is {a b : UInt8} (h : 0 ≤ hexI a ∧ 0 ≤ hexI b) : puV a b = .tuple #[.int .u64 ((UInt8.ofNat (valN a b)).toNat : Int), .nilIface] := by
  rw [puV_ok h.1 h.2]
  have := valN_lt h.1 h.2
  have e : ((UInt8.ofNat (valN a b)).toNat : Int) = 16 * hexI a + hexI b := by
    rw [UInt8.toNat_ofNat']
    omega
  rw [e]
theorem puV_not {a b : UInt8} (h : ¬ (0 ≤ hexI a ∧ 0 ≤ hexI b)) : puV a b = .tuple #[.int .u64 0, .iface 102 (.int .i64 2)] := by unfold puV; rw [if_neg h]
set_option maxHeartbeats 2000000 in
set_option maxRecDepth 100000 in
theorem pub_any (a b : UInt8) (w : World) (hE : Env w) :
    Calls Tryd.prog 75 #[.string (strB [a, b]), .int .i64 16, .int .i64 8] w fun e w' => PuPost a b e ∧ Below w.heap.size w w' := by
  have hsz : (strB [a, b]).size ≤ 281474976710656 := by show (2 : Nat) ≤ _; decide
  by_cases h : 0 ≤ hexI a ∧ 0 ≤ hexI b
  · have HV := Lib.hid (puV_is h)
    have HP := Lib.hid (fun e => puPost_ok (a := a) (b := b) (e := e) h)
    have HI := Lib.hid (fun w => inner_any a b w)
    clear h
    generalize strB [a, b] = t at *
    go_enter Tryd.func75, Tryd.ntmps75
    go_wp2_with fail
    refine (HI.out _).mono ?_
    rintro e w1 ⟨rfl, hB⟩
    rw [HV.out]
    go_wp2_with fail
    go_ret2
    exact ⟨(HP.out _).mpr rfl, hB⟩
  · have HV := Lib.hid (puV_not h)
    have HP := Lib.hid (fun e => puPost_no (a := a) (b := b) (e := e) h)
    have HI := Lib.hid (fun w => inner_any a b w)
    have HE := Lib.hid hE
    clear h hE
    generalize strB [a, b] = t at *
    go_enter Tryd.func75, Tryd.ntmps75
    go_wp2_with fail
    refine (HI.out _).mono ?_
    rintro e w1 ⟨rfl, hB⟩
    rw [HV.out]
    have HE1 := Lib.hid (HE.out.below hB)
    go_wp2_with fail
    obtain ⟨_, ev, hev1, hev2⟩ := HE1.out
    refine (Tryd.strconv_toError_syntax _ t _ _ ev w1 hsz hev1 hev2).mono ?_
    rintro e w2 ⟨N, rfl, _, _, hB2⟩
    clear hev1
    go_wp2_with fail
    go_ret2
    exact ⟨(HP.out _).mpr ⟨N, rfl⟩, hB.trans (hB2.mono hB.size)⟩
theorem upper_fin : ∀ n : Fin 256, 0 ≤ hexI (UInt8.ofNat n.val) → Lib.upperB (UInt8.ofNat n.val) = hexD (hexI (UInt8.ofNat n.val)).toNat ∧ n.val < 128 := by decide +kernel
theorem upper_hex {c : UInt8} (h : 0 ≤ hexI c) : Lib.upperB c = hexD (hexI c).toNat ∧ c.toNat < 128 := by
  have := upper_fin ⟨c.toNat, UInt8.toNat_lt c⟩
  simp only [UInt8.ofNat_toNat] at this
  exact this h
/-- What canonicalByte returns for an encoded byte. -/
def cbV (a b : UInt8) : Value := if okB a b then .tuple #[.string (strB (encB (valN a b))), .nilIface] else .tuple #[.string (strB []), errA 27]
theorem cbV_no {a b : UInt8} (h : okB a b = false) : cbV a b = .tuple #[.string (strB []), errA 27] := by unfold cbV; rw [h]; rfl
theorem cbV_yes {a b : UInt8} (h : okB a b = true) : cbV a b = .tuple #[.string (strB (encB (valN a b))), .nilIface] := by unfold cbV; rw [h]; rfl
theorem enc_unr {a b : UInt8} (h : 0 ≤ hexI a ∧ 0 ≤ hexI b) (hu : unrB (UInt8.ofNat (valN a b)) = true) : strB (encB (valN a b)) = ⟨#[UInt8.ofNat (valN a b)]⟩ := by
  unfold encB; rw [if_pos hu]; rfl
theorem enc_up {s : ByteArray} {a b : UInt8} (hs : s.data.toList = [37, a, b]) (h : 0 ≤ hexI a ∧ 0 ≤ hexI b) (hu : unrB (UInt8.ofNat (valN a b)) = false) : strB (encB (valN a b)) = ⟨(Lib.toUpperA s.data.toList).toArray⟩ := by
  have hv := valN_lt h.1 h.2
  have e1 : valN a b / 16 = (hexI a).toNat := by have := hexI_le b; omega
  have e2 : valN a b % 16 = (hexI b).toNat := by have := hexI_le b; omega
  unfold encB; rw [if_neg (by rw [hu]; decide), hs, e1, e2]
  unfold Lib.toUpperA
  simp only [List.map_cons, List.map_nil]
  rw [(upper_hex h.1).1, (upper_hex h.2).1]; rfl
theorem three_ascii {s : ByteArray} {a b : UInt8} (hs : s.data.toList = [37, a, b]) (h : 0 ≤ hexI a ∧ 0 ≤ hexI b) : ∀ (j : Nat) (c : UInt8), s.data.toList[j]? = some c → c.toNat < 128 := by
  intro j c hj
  rw [hs] at hj
  match j, hj with
  | 0, hj => simp at hj; subst hj; decide
  | 1, hj => simp at hj; subst hj; exact (upper_hex h.1).2
  | 2, hj => simp at hj; subst hj; exact (upper_hex h.2).2
  | j + 3, hj => simp at hj
theorem three_tail {s : ByteArray} {a b : UInt8} (hs : s.data.toList = [37, a, b]) : s.extract 1 s.size = strB [a, b] := by
  apply strB_ext
  rw [seg_list, hs]
  have : s.size = 3 := by
    have : s.data.toList.length = 3 := by rw [hs]; rfl
    rw [Array.length_toList] at this; exact this
  rw [this]; rfl
set_option maxHeartbeats 2000000 in
set_option maxRecDepth 100000 in
theorem cbyte_short (s : ByteArray) (w : World) (hs : s.size < 3) :
    Calls Tryd.prog 58 #[.string s] w fun e w' => e = .returned (.tuple #[.string (strB []), errA 27]) ∧ w = w' := by
  have h3 : ((s.size : Int) != 3) = true := by simp; omega
  go_enter Tryd.func58, Tryd.ntmps58
  go_wp2
  go_ret2
  exact ⟨rfl, rfl⟩
set_option maxHeartbeats 4000000 in
set_option maxRecDepth 100000 in
theorem cbyte_any (s : ByteArray) (a b : UInt8) (w : World) (hE : Env w) (hs : s.data.toList = [37, a, b]) :
    Calls Tryd.prog 58 #[.string s] w fun e w' => e = .returned (cbV a b) ∧ Below w.heap.size w w' := by
  have hsz : s.size = 3 := by
    have : s.data.toList.length = 3 := by rw [hs]; rfl
    rw [Array.length_toList] at this; exact this
  have hz1 : s.size ≤ 3 := by omega
  have hz2 : 3 ≤ s.size := by omega
  have h3 : ((s.size : Int) != 3) = false := by rw [hsz]; rfl
  have HT := Lib.hid (three_tail hs)
  have HS := Lib.hid hs
  have HE := Lib.hid hE
  clear hsz hs hE
  by_cases h : 0 ≤ hexI a ∧ 0 ≤ hexI b
  · have hv := valN_lt h.1 h.2
    have HP := Lib.hid (fun e => puPost_ok (a := a) (b := b) (e := e) h)
    obtain ⟨c, hc⟩ : ∃ c, c = UInt8.ofNat (valN a b) := ⟨_, rfl⟩
    have hcn : c.toNat = valN a b := by rw [hc, UInt8.toNat_ofNat']; omega
    have hc256 : c.toNat < 256 := UInt8.toNat_lt c
    have HC := Lib.hid hc
    have HCN := Lib.hid hcn
    have HH := Lib.hid h
    rw [← hc] at HP
    by_cases hlo : c.toNat < 32
    · have HR := Lib.hid (cbV_no (a := a) (b := b) (by unfold okB; rw [← hcn]; simp; omega))
      clear hc hcn hv h
      go_enter Tryd.func58, Tryd.ntmps58
      go_wp2_with (go_at_call 75; rw [HT.out]; refine (pub_any a b _ HE.out).mono ?_; rintro e w1 ⟨he, hB⟩; rw [HP.out] at he; subst he)
      go_ret2
      exact ⟨by rw [HR.out]; rfl, hB⟩
    · by_cases h127 : c.toNat = 127
      · have HR := Lib.hid (cbV_no (a := a) (b := b) (by unfold okB; rw [← hcn]; simp; omega))
        have h7 : ((c.toNat : Int) == 127) = true := by rw [h127]; rfl
        clear hc hcn hv h h127
        go_enter Tryd.func58, Tryd.ntmps58
        go_wp2_with (go_at_call 75; rw [HT.out]; refine (pub_any a b _ HE.out).mono ?_; rintro e w1 ⟨he, hB⟩; rw [HP.out] at he; subst he)
        go_ret2
        exact ⟨by rw [HR.out]; rfl, hB⟩
      · have h7 : ((c.toNat : Int) == 127) = false := by simp; omega
        have HR := Lib.hid (cbV_yes (a := a) (b := b) (okB_iff.mpr ⟨h.1, h.2, by omega, by omega⟩))
        clear hc hcn hv h h127
        by_cases hu : unrB c = true
        · have hcv := fun W => conv_one (c.toNat : Int) c rfl W
          go_enter Tryd.func58, Tryd.ntmps58
          go_wp2_with (first
            | (go_at_call 75; rw [HT.out]; refine (pub_any a b _ HE.out).mono ?_; rintro e w1 ⟨he, hB⟩; rw [HP.out] at he; subst he)
            | (go_at_call 71; refine (isUnreserved_any _ _).mono ?_; rintro e w' ⟨rfl, rfl⟩; rw [hu]))
          go_ret2
          exact ⟨by rw [HR.out, enc_unr HH.out (by rw [← HC.out]; exact hu), HC.out]; rfl, hB.alloc hB.size _⟩
        · have hu' : unrB c = false := by simpa using hu
          go_enter Tryd.func58, Tryd.ntmps58
          go_wp2_with (first
            | (go_at_call 75; rw [HT.out]; refine (pub_any a b _ HE.out).mono ?_; rintro e w1 ⟨he, hB⟩; rw [HP.out] at he; subst he)
            | (go_at_call 71; refine (isUnreserved_any _ _).mono ?_; rintro e w' ⟨rfl, rfl⟩; rw [hu'])
            | (go_at_call 76; refine (Tryd.strings_ToUpper_ascii s _ (by omega) (three_ascii HS.out HH.out)).mono ?_; rintro e w2 ⟨rfl, hB2⟩))
          go_ret2
          exact ⟨by rw [HR.out, enc_up HS.out HH.out (by rw [← HC.out]; exact hu')]; rfl, hB.trans (hB2.mono hB.size)⟩
  · have HP := Lib.hid (fun e => puPost_no (a := a) (b := b) (e := e) h)
    have HR := Lib.hid (cbV_no (a := a) (b := b) (by
      rw [Bool.eq_false_iff]; intro e
      obtain ⟨h1, h2, _⟩ := okB_iff.mp e
      exact h ⟨h1, h2⟩))
    clear h
    go_enter Tryd.func58, Tryd.ntmps58
    go_wp2_with (go_at_call 75; rw [HT.out]; refine (pub_any a b _ HE.out).mono ?_; rintro e w1 ⟨he, hB⟩; rw [HP.out] at he; obtain ⟨N, rfl⟩ := he)
    go_ret2
    exact ⟨by rw [HR.out]; rfl, hB⟩
end Go.Proofs.YtfggckdakmnfbaaDoor
