/- What the code's ReadContentRange returns. -/
import Derived.Test.YtdcnoegnkopfdaaDoorRRgText
import Derived.Test.YtdcnoegnkopfdaaDoorRElem
import Derived.Test.YtdcnoegnkopfdaaDoorRBack
namespace Go.Proofs.YtdcnoegnkopfdaaDoor
open Go.RowKit

def progTail (s : List UInt8) (q : Option Rg) (m : Option Nat) : Option (Rg × Int) :=
  match q, m with
  | some r, some n => if crR r (n : Int) = some s then some (r, (n : Int)) else none
  | _, _ => none
theorem progRead_eq {s t a b size span : List UInt8} {f g : Bool} (ht : (if preC.isPrefixOf s = true then s.drop 6 else s) = t) (h1 : cut9 47 t = (span, size, f)) (h2 : cut9 45 span = (a, b, g)) :
    progRead s = progTail s (spanO a b) (num9 size) := by
  unfold progRead
  rw [ht, h1]
  simp only
  rw [h2]
  simp only
  cases ha : num9 a with
  | none => rw [spanO_none1 ha]; rfl
  | some x =>
    cases hb : num9 b with
    | none => rw [spanO_none2 hb]; rfl
    | some y =>
      cases hn : num9 size with
      | none => cases spanO a b <;> rfl
      | some n =>
        by_cases hc : y < x
        · rw [spanO_no ha hb hc]; simp only; rw [if_pos hc]; rfl
        · rw [spanO_yes ha hb (by omega)]; simp only; rw [if_neg hc]; rfl
def rdE : Value := .tuple #[rgV (0, 0), .int .i64 0, errForm']
def rdV : Option (Rg × Int) → Value
  | none => rdE
  | some p => .tuple #[rgV p.1, .int .i64 p.2, .nilIface]
theorem tail_none1 (s : List UInt8) (m : Option Nat) : progTail s none m = none := rfl
theorem tail_none2 (s : List UInt8) (q : Option Rg) : progTail s q none = none := by cases q <;> rfl
theorem tail_no {s : List UInt8} {r : Rg} {n : Nat} (h : crR r (n : Int) ≠ some s) : progTail s (some r) (some n) = none := if_neg h
theorem tail_yes {s : List UInt8} {r : Rg} {n : Nat} (h : crR r (n : Int) = some s) : progTail s (some r) (some n) = some (r, (n : Int)) := if_pos h
theorem strB_beq {a : List UInt8} {s : ByteArray} (h : a = s.data.toList) : ((strB a).toList == s.toList) = true := by
  rw [ByteArray.toList_eq, ByteArray.toList_eq, strB_list, h]; exact beq_self_eq_true _
theorem strB_bne {a : List UInt8} {s : ByteArray} (h : a ≠ s.data.toList) : ((strB a).toList == s.toList) = false := by
  rw [ByteArray.toList_eq, ByteArray.toList_eq, strB_list]; simpa using h
set_option maxHeartbeats 8000000 in
set_option maxRecDepth 100000 in
theorem readCR_any (s : ByteArray) (w : World) (hM : MaxIs w) (hT : HasTab w) (hs : s.size ≤ 100000) :
    Calls Tryd.prog 21 #[.string s] w fun e w' => e = .returned (rdV (progRead s.data.toList)) ∧ Below w.heap.size w w' := by
  obtain ⟨pb, hpb⟩ : ∃ b, preC.isPrefixOf s.data.toList = b := ⟨_, rfl⟩
  obtain ⟨t, ht⟩ : ∃ t, (if pb = true then s.data.toList.drop 6 else s.data.toList) = t := ⟨_, rfl⟩
  have htl : t.length ≤ 100000 := by
    have hl : s.data.toList.length = s.size := by simp
    rw [← ht]; split
    · rw [List.length_drop]; omega
    · omega
  obtain ⟨span, size, f, h1⟩ : ∃ a b f, cut9 47 t = (a, b, f) := ⟨_, _, _, rfl⟩
  obtain ⟨a, b, g, h2⟩ : ∃ a b f, cut9 45 span = (a, b, f) := ⟨_, _, _, rfl⟩
  have HP := Lib.hid (progRead_eq (s := s.data.toList) (by rw [hpb]; exact ht) h1 h2)
  have l1 := cut9_len 47 t
  rw [h1] at l1
  have l2 := cut9_len 45 span
  rw [h2] at l2
  simp only at l1 l2
  have HC := Lib.hid (fun w => (show Calls Tryd.prog 34 #[.string s, .string ⟨#[98, 121, 116, 101, 115, 32]⟩] w fun e w' => e = .returned (.tuple #[.string (strB t), .bool pb]) ∧ w = w' by
    have := cutPre_any s ⟨#[98, 121, 116, 101, 115, 32]⟩ w hpb
    rw [show (⟨#[98, 121, 116, 101, 115, 32]⟩ : ByteArray).size = 6 from rfl, ht] at this
    exact this))
  have HC1 := Lib.hid (fun (w : World) (hM : MaxIs w) => cutR_any 47 (strB t) w hM (by rw [strB_size]; omega) (a := span) (b := size) (f := f) (by rw [strB_list]; exact h1))
  have HC2 := Lib.hid (fun (w : World) (hM : MaxIs w) => cutR_any 45 (strB span) w hM (by rw [strB_size]; omega) (a := a) (b := b) (f := g) (by rw [strB_list]; exact h2))
  have HS := Lib.hid (fun (w : World) => parseSpan_any (strB a) (strB b) w (by rw [strB_size]; unfold maxLen; omega) (by rw [strB_size]; unfold maxLen; omega))
  have HN := Lib.hid (fun (w : World) => number9_any (strB size) w (by rw [strB_size]; unfold maxLen; omega))
  rw [strB_list] at HN
  rw [strB_list, strB_list] at HS
  have HM := Lib.hid hM
  have HT := Lib.hid hT
  clear hM hT ht htl h1 h2 l1 l2
  go_enter Tryd.func21, Tryd.ntmps21
  go_wp2_with (go_at_call 34; refine (HC.out _).mono ?_; rintro e w' ⟨rfl, rfl⟩)
  refine (HC1.out _ (HM.out.alloc _)).mono ?_
  rintro e w' ⟨rfl, k1, rfl⟩
  go_wp2_with fail
  refine (HC2.out _ ((HM.out.alloc _).drewN _)).mono ?_
  rintro e w' ⟨rfl, k2, rfl⟩
  go_wp2_with fail
  refine (HS.out _).mono ?_
  rintro e w2 ⟨he, hB⟩
  have hT2 := ((twoI_new w 0 0 46).drewN (k1 + k2)).below hB
  have hW2 := (below_drewN (below_new w (.cells #[.int .i64 0, .int .i64 0] 46)) (k1 + k2)).trans (hB.mono (by simp))
  have HTW := Lib.hid hT2
  have HW := Lib.hid hW2
  have hsz := hW2.size
  clear hB hT2 hW2
  cases hq : spanO a b with
  | none =>
    rw [hq] at he
    have HR : Hid (progRead s.data.toList = none) := HP.out.trans (by rw [hq]; rfl)
    unfold rgO rgE at he
    subst he
    obtain ⟨c0, c1, f0, f1, hN⟩ := (HTW.out.below (below_new w2 (.cells #[.int .i64 0, .int .i64 0] 46)))
    clear hq
    go_wp2_with fail
    exact bodyPost_ret (v := rdE) (by simp [results, Tryd.results21, go_sem, rdE, c0, c1, f0, f1]) rfl ⟨by rw [HR.out]; rfl, below_two (HW.out.alloc hsz _) (Nat.le_refl _) _ _⟩
  | some r =>
    obtain ⟨x, y⟩ := r
    rw [hq] at he
    unfold rgO rgOk at he
    subst he
    have hTn := HTW.out.below (below_new w2 (.cells #[.int .i64 x, .int .i64 y] 46))
    obtain ⟨c0, c1, f0, f1, hN⟩ := hTn
    have hTr := twoI_new w2 x y 46
    have HWn := Lib.hid (HW.out.alloc hsz (.cells #[.int .i64 x, .int .i64 y] 46))
    cases hn : num9 size with
    | none =>
      rw [num9V_none hn] at HN
      have HR : Hid (progRead s.data.toList = none) := HP.out.trans (by rw [hn]; exact tail_none2 _ _)
      clear hq hn hTr
      go_wp2_with (go_at_call 48; refine (HN.out _).mono ?_; rintro e w' ⟨rfl, rfl⟩)
      exact bodyPost_ret (v := rdE) (by simp [results, Tryd.results21, go_sem, rdE, c0, c1, f0, f1]) rfl ⟨by rw [HR.out]; rfl, below_two HWn.out (Nat.le_refl _) _ _⟩
    | some n =>
      rw [num9V_some hn] at HN
      have HR : Hid (progRead s.data.toList = progTail s.data.toList (some (x, y)) (some n)) := HP.out.trans (by rw [hq, hn])
      obtain ⟨d0, d1, _, _, _⟩ := hTr
      have HTn := Lib.hid (HTW.out.below (below_new w2 (.cells #[.int .i64 x, .int .i64 y] 46)))
      have HCR := Lib.hid (contentRange_any (x, y) (n : Int) (w2.alloc (.cells #[.int .i64 x, .int .i64 y] 46)) (HT.out.below HWn.out))
      have HTR := Lib.hid (twoI_new w2 x y 46)
      clear hq hn
      go_wp2_with (go_at_call 48; refine (HN.out _).mono ?_; rintro e w' ⟨rfl, rfl⟩)
      refine HCR.out.mono ?_
      rintro e w3 ⟨he, hB3⟩
      have h3 := HTn.out.below hB3
      have h4 := HTR.out.below hB3
      have HW3 := Lib.hid (HWn.out.trans (hB3.mono HWn.out.size))
      clear c0 c1 f0 f1 hN d0 d1 hB3
      obtain ⟨c0, c1, f0, f1, hN⟩ := h3
      obtain ⟨d0, d1, g0, g1, hN2⟩ := h4
      cases hcr : crR (x, y) (n : Int) with
      | none =>
        rw [hcr] at he
        have HE := Lib.hid (tail_no (s := s.data.toList) (r := (x, y)) (n := n) (by rw [hcr]; simp))
        unfold crV at he
        subst he
        clear hcr
        go_wp2_with fail
        exact bodyPost_ret (v := rdE) (by simp [results, Tryd.results21, go_sem, rdE, c0, c1, f0, f1]) rfl ⟨by rw [HR.out, HE.out]; rfl, below_two HW3.out (Nat.le_refl _) _ _⟩
      | some u =>
        rw [hcr] at he
        unfold crV at he
        subst he
        by_cases hus : u = s.data.toList
        · have HE := Lib.hid (tail_yes (s := s.data.toList) (r := (x, y)) (n := n) (by rw [hcr, hus]))
          have heq := strB_beq hus
          clear hcr hus
          go_wp2_with fail
          exact bodyPost_ret (v := .tuple #[rgV (x, y), .int .i64 (n : Int), .nilIface]) (by simp [results, Tryd.results21, go_sem, c0, c1, f0, f1]) rfl ⟨by rw [HR.out, HE.out]; rfl, below_two HW3.out (Nat.le_refl _) _ _⟩
        · have HE := Lib.hid (tail_no (s := s.data.toList) (r := (x, y)) (n := n) (by rw [hcr]; simpa using hus))
          have heq := strB_bne hus
          clear hcr hus
          go_wp2_with fail
          exact bodyPost_ret (v := rdE) (by simp [results, Tryd.results21, go_sem, rdE, c0, c1, f0, f1]) rfl ⟨by rw [HR.out, HE.out]; rfl, below_two HW3.out (Nat.le_refl _) _ _⟩
end Go.Proofs.YtdcnoegnkopfdaaDoor
