/- What canonical returns: the canonical form of a path or of a query, or ErrTarget. -/
import Derived.Test.YtfggckdakmnfbaaDoorAByte
namespace Go.Proofs.YtfggckdakmnfbaaDoor
open Go.RowKit

def canV (q : Bool) (l : List UInt8) : Value := match canO q l with
  | none => .tuple #[.string (strB []), errA 27]
  | some x => .tuple #[.string (strB x), .nilIface]
theorem canV_no {q : Bool} {l : List UInt8} (h : canO q l = none) : canV q l = .tuple #[.string (strB []), errA 27] := by unfold canV; rw [h]
theorem canV_yes {q : Bool} {l x : List UInt8} (h : canO q l = some x) : canV q l = .tuple #[.string (strB x), .nilIface] := by unfold canV; rw [h]
/-- The first k bytes are read, and written as out. -/
def CanTo (q : Bool) (s : ByteArray) (k : Nat) (out : List UInt8) : Prop := canO q s.data.toList = (canO q (s.data.toList.drop k)).map (out ++ ·) ∧ out.length ≤ k
theorem canTo0 (q : Bool) (s : ByteArray) : CanTo q s 0 [] := by
  refine ⟨?_, Nat.le_refl _⟩
  rw [List.drop_zero]; cases canO q s.data.toList <;> rfl
theorem drop_at (s : ByteArray) (k : Nat) (h : k < s.size) : s.data.toList.drop k = s[k] :: s.data.toList.drop (k + 1) := by
  rw [List.drop_eq_getElem_cons (by simpa using h)]; rfl
theorem canTo_plain {q : Bool} {s : ByteArray} {k : Nat} {out : List UInt8} (h : CanTo q s k out) (hk : k < s.size) (hp : plnB q s[k] = true) : CanTo q s (k + 1) (out ++ [s[k]]) := by
  obtain ⟨h1, h2⟩ := h
  refine ⟨?_, by simp; omega⟩
  rw [h1, drop_at s k hk, canO_plain q hp]
  cases canO q (s.data.toList.drop (k + 1)) <;> simp
theorem canTo_bad {q : Bool} {s : ByteArray} {k : Nat} {out : List UInt8} (h : CanTo q s k out) (hk : k < s.size) (hp : plnB q s[k] = false) (h37 : s[k].toNat ≠ 37) : canO q s.data.toList = none := by
  rw [h.1, drop_at s k hk, canO_bad q hp (fun e => h37 (by rw [e]; rfl))]; rfl
theorem canTo_short {q : Bool} {s : ByteArray} {k : Nat} {out : List UInt8} (h : CanTo q s k out) (hk : k < s.size) (h37 : s[k].toNat = 37) (hs : s.size < k + 3) : canO q s.data.toList = none := by
  have e : s[k] = 37 := nat_of_u8 h37
  rw [h.1, drop_at s k hk, e]
  have hl : (s.data.toList.drop (k + 1)).length ≤ 1 := by rw [List.length_drop, Array.length_toList]; show s.size - (k + 1) ≤ 1; omega
  match s.data.toList.drop (k + 1), hl with
  | [], _ => rw [canO_pct0]; rfl
  | [a], _ => rw [canO_pct1]; rfl
  | a :: b :: r, hl => simp at hl
theorem canTo_pct {q : Bool} {s : ByteArray} {k : Nat} {out : List UInt8} (h : CanTo q s k out) (hk : k + 3 ≤ s.size) (h37 : s[k].toNat = 37) (hok : okB s[k + 1] s[k + 2] = true) : CanTo q s (k + 3) (out ++ encB (valN s[k + 1] s[k + 2])) := by
  obtain ⟨h1, h2⟩ := h
  have e : s[k] = 37 := nat_of_u8 h37
  refine ⟨?_, by have := enc_len (valN s[k + 1] s[k + 2]); simp; omega⟩
  rw [h1, drop_at s k (by omega), drop_at s (k + 1) (by omega), drop_at s (k + 1 + 1) (by omega), e]
  show Option.map _ (canO q (37 :: s[k + 1] :: s[k + 2] :: s.data.toList.drop (k + 3))) = _
  rw [canO_pct, if_pos hok]
  cases canO q (s.data.toList.drop (k + 3)) <;> simp
theorem canTo_pctNo {q : Bool} {s : ByteArray} {k : Nat} {out : List UInt8} (h : CanTo q s k out) (hk : k + 3 ≤ s.size) (h37 : s[k].toNat = 37) (hok : okB s[k + 1] s[k + 2] = false) : canO q s.data.toList = none := by
  have e : s[k] = 37 := nat_of_u8 h37
  rw [h.1, drop_at s k (by omega), drop_at s (k + 1) (by omega), drop_at s (k + 1 + 1) (by omega), e]
  show Option.map _ (canO q (37 :: s[k + 1] :: s[k + 2] :: s.data.toList.drop (k + 3))) = _
  rw [canO_pct, if_neg (by rw [hok]; decide)]; rfl
theorem canTo_end {q : Bool} {s : ByteArray} {k : Nat} {out : List UInt8} (h : CanTo q s k out) (hk : s.size ≤ k) : canO q s.data.toList = some out := by
  rw [h.1, List.drop_eq_nil_of_le (by rw [Array.length_toList]; exact hk)]; simp [canO]
theorem seg_three (s : ByteArray) (k : Nat) (hk : k + 3 ≤ s.size) (h37 : s[k].toNat = 37) : (s.extract k (k + 3)).data.toList = [37, s[k + 1], s[k + 2]] := by
  have e : s[k] = 37 := nat_of_u8 h37
  rw [seg_list, show k + 3 - k = 3 by omega, drop_at s k (by omega), drop_at s (k + 1) (by omega), drop_at s (k + 1 + 1) (by omega), e]; rfl
def CanRel (q : Bool) (s : ByteArray) (w : World) (i : Value) (wr : World) : Prop :=
  ∃ (k : Nat) (out : List UInt8), i = .int .i64 k ∧ k ≤ s.size ∧ Bld w.heap.size w.heap.size out wr ∧ Below w.heap.size w wr ∧ CanTo q s k out
set_option maxHeartbeats 8000000 in
set_option maxRecDepth 100000 in
theorem canonical_any (q : Bool) (g : Nat) (eg : ∀ args w, (callFunc g args).run Tryd.prog w = .ok (.enter g args) w)
    (hg : ∀ (c : UInt8) (w : World), Calls Tryd.prog g #[.int .u8 (c.toNat : Int)] w fun e w' => e = .returned (.bool (plnB q c)) ∧ w = w')
    (s : ByteArray) (w : World) (hE : Env w) (hs : s.size ≤ 100000) :
    Calls Tryd.prog 35 #[.string s, .func (.func g) #[] #[]] w fun e w' => e = .returned (canV q s.data.toList) ∧ Below w.heap.size w w' := by
  have HE := Lib.hid hE
  have HG := Lib.hid hg
  clear hE hg
  go_enter Tryd.func35, Tryd.ntmps35
  go_wp2
  go_loopw [7] (fun i wr => CanRel q s w i wr) (fun i _ => s.size - (intOf i).toNat)
  case atStart => exact ⟨0, [], rfl, by omega, bld_new w, below_new w _, canTo0 q s⟩
  case round =>
    obtain ⟨k, out, rfl, hk, hBl, hB, hC⟩ := hrel
    have hsz := hB.size
    have hol := hC.2
    have HB := Lib.hid hBl
    have HE1 := Lib.hid (HE.out.below hB)
    clear hBl
    by_cases hlt : k < s.size
    · by_cases h37 : s[k].toNat = 37
      · have h37' : ((s[k].toNat : Int) == 37) = true := by rw [h37]; rfl
        by_cases h3 : s.size < k + 3
        · have HR := Lib.hid (canV_no (canTo_short hC hlt h37 h3))
          have hmin : min ((k : Int) + 3) (s.size : Int) = (s.size : Int) := by omega
          clear h37
          go_wp2_with (go_at_call 58; refine (cbyte_short (s.extract k s.size) _ (by rw [ByteArray.size_extract]; omega)).mono ?_; rintro e w' ⟨rfl, rfl⟩)
          go_ret2
          exact ⟨by rw [HR.out]; rfl, hB⟩
        · have hk3 : k + 3 ≤ s.size := by omega
          have hmin : min ((k : Int) + 3) (s.size : Int) = (k : Int) + 3 := by omega
          have hseg := seg_three s k hk3 h37
          by_cases hok : okB s[k + 1] s[k + 2] = true
          · have HC := Lib.hid (canTo_pct hC hk3 h37 hok)
            have HV := Lib.hid (cbV_yes hok)
            have hel := enc_len (valN s[k + 1] s[k + 2])
            have HS := Lib.hid hseg
            clear h37 hseg
            generalize s[k + 1] = a at *
            generalize s[k + 2] = b at *
            generalize encB (valN a b) = x at *
            go_wp2_with (first
              | (go_at_call 58; refine (cbyte_any (s.extract k (k + 3)) a b _ HE1.out HS.out).mono ?_; rintro e w1 ⟨rfl, hB1⟩; rw [HV.out])
              | (go_at_call 59; refine (writeString_any w.heap.size w.heap.size out x _ (HB.out.below hB1) (by omega) (by have := hB1.size; omega)).mono ?_; rintro e w2 ⟨rfl, hBl2, hB2⟩))
            go_roundw
            case rel => exact ⟨k + 3, _, by go_num, by omega, hBl2, (hB.trans (hB1.mono hsz)).trans hB2, HC.out⟩
            case measure => simp [intOf]; omega
          · have hok' : okB s[k + 1] s[k + 2] = false := by simpa using hok
            have HR := Lib.hid (canV_no (canTo_pctNo hC hk3 h37 hok'))
            have HV := Lib.hid (cbV_no hok')
            have HS := Lib.hid hseg
            clear h37 hseg hok hok'
            generalize s[k + 1] = a at *
            generalize s[k + 2] = b at *
            go_wp2_with (go_at_call 58; refine (cbyte_any (s.extract k (k + 3)) a b _ HE1.out HS.out).mono ?_; rintro e w1 ⟨rfl, hB1⟩; rw [HV.out])
            go_ret2
            exact ⟨by rw [HR.out]; rfl, hB.trans (hB1.mono hsz)⟩
      · have h37' : ((s[k].toNat : Int) == 37) = false := by simp; omega
        by_cases hp : plnB q s[k] = true
        · have HC := Lib.hid (canTo_plain hC hlt hp)
          clear h37
          go_wp2_with (first
            | (go_at_fn g; refine (HG.out _ _).mono ?_; rintro e w' ⟨rfl, rfl⟩; rw [hp])
            | (go_at_call 60; refine (writeByte_any w.heap.size w.heap.size out s[k] _ HB.out (by omega) (by omega)).mono ?_; rintro e w1 ⟨rfl, hBl1, hB1⟩))
          go_roundw
          case rel => exact ⟨k + 1, _, by go_num, by omega, hBl1, hB.trans hB1, HC.out⟩
          case measure => simp [intOf]; omega
        · have hp' : plnB q s[k] = false := by simpa using hp
          have HR := Lib.hid (canV_no (canTo_bad hC hlt hp' h37))
          clear h37
          go_wp2_with (go_at_fn g; refine (HG.out _ _).mono ?_; rintro e w' ⟨rfl, rfl⟩; rw [hp'])
          go_ret2
          exact ⟨by rw [HR.out]; rfl, hB⟩
    · have HR := Lib.hid (canV_yes (canTo_end hC (by omega)))
      go_wp2_with (go_at_call 61; refine (builder_string w.heap.size w.heap.size out _ HB.out (by omega)).mono ?_; rintro e w1 ⟨rfl, hB1⟩)
      go_ret2
      exact ⟨by rw [HR.out]; rfl, hB.trans hB1⟩
end Go.Proofs.YtfggckdakmnfbaaDoor
