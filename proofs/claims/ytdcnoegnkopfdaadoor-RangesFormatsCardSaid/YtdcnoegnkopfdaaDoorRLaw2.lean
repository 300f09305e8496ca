/- RangesFormats: for every list of ranges and every further length the statement's function returns true: the walk. -/
import Derived.Test.YtdcnoegnkopfdaaDoorRAwake
import Derived.Test.YtdcnoegnkopfdaaDoorRRefFmt
import Derived.Test.YtdcnoegnkopfdaaDoorRFmt
import Derived.Test.YtdcnoegnkopfdaaDoorROf
import Derived.Test.YtdcnoegnkopfdaaDoorIs
namespace Go.Proofs.YtdcnoegnkopfdaaDoor
open Go.RowKit

def maxTo (l : List Rg) : Int := l.foldl (fun a r => max a r.2) 0
theorem maxTo_snoc (l : List Rg) (r : Rg) : maxTo (l ++ [r]) = max (maxTo l) r.2 := by unfold maxTo; rw [List.foldl_append]; rfl
theorem maxTo_step {l : List Rg} {k : Nat} {r : Rg} (h : l[k]? = some r) : maxTo (l.take (k + 1)) = max (maxTo (l.take k)) r.2 := by
  rw [List.take_add_one, h, Option.toList_some, maxTo_snoc]
theorem foldTo_ge : ∀ (l : List Rg) (a : Int), a ≤ l.foldl (fun a r => max a r.2) a ∧ ∀ r ∈ l, r.2 ≤ l.foldl (fun a r => max a r.2) a := by
  intro l
  induction l with
  | nil => intro a; exact ⟨Int.le_refl _, fun r h => by cases h⟩
  | cons x t ih =>
    intro a
    have h1 := ih (max a x.2)
    rw [List.foldl_cons]
    refine ⟨by omega, fun r hr => ?_⟩
    rcases List.mem_cons.mp hr with rfl | hr
    · omega
    · exact h1.2 r hr
theorem maxTo_ge (l : List Rg) : ∀ r ∈ l, r.2 ≤ maxTo l := (foldTo_ge l 0).2
theorem foldTo_bd : ∀ (l : List Rg) (a : Int), (∀ r ∈ l, properR r) → 0 ≤ a → a ≤ 999999999999999 → 0 ≤ l.foldl (fun a r => max a r.2) a ∧ l.foldl (fun a r => max a r.2) a ≤ 999999999999999 := by
  intro l
  induction l with
  | nil => intro a _ h1 h2; exact ⟨h1, h2⟩
  | cons x t ih =>
    intro a h h1 h2
    have h3 := h x (by simp)
    unfold properR at h3
    rw [List.foldl_cons]
    exact ih _ (fun r hr => h r (List.mem_cons_of_mem _ hr)) (by omega) (by omega)
theorem maxTo_bd (l : List Rg) (h : ∀ r ∈ l, properR r) : 0 ≤ maxTo l ∧ maxTo l ≤ 999999999999999 := foldTo_bd l 0 h (by omega) (by omega)
theorem fmt_some {l : List Rg} {t : List UInt8} (h : fmtR l = some t) : l ≠ [] ∧ goodR l ∧ t = preB ++ formR l := by
  unfold fmtR at h
  split at h
  · rename_i hc; exact ⟨hc.1, hc.2, by simpa using h.symm⟩
  · cases h
set_option maxHeartbeats 8000000 in
set_option maxRecDepth 100000 in
theorem formats_walk (va : Value) (l : List Rg) (m : Nat) (w : World) (hM : MaxIs w) (hT : HasTab w) (ha : ReadsI w va l) (hl : l.length ≤ maxLen) (hm : m ≤ 65535) :
    Calls Tryd.prog 4 #[va, .int .u16 m] w fun e w' => e = .returned (.bool true) ∧ Below w.heap.size w w' := by
  have HM := Lib.hid hM
  have HT := Lib.hid hT
  have HA := Lib.hid ha
  have ha' := ha
  clear hM hT ha
  obtain ⟨ao, ca, rfl, hca⟩ := ha'
  have HC := Lib.hid hca
  clear hca
  go_enter Tryd.func4, Tryd.ntmps4
  go_wp2_with fail
  refine (awake9_any _ HM.out).mono ?_
  rintro e w1 ⟨rfl, hB⟩
  have HW1 := Lib.hid hB
  clear hB
  by_cases h5 : l.length ≤ 20
  · have h5' : ¬ 20 < l.length := by omega
    go_wp2_with fail
    refine (of_any _ l _ (HA.out.below HW1.out) (by omega)).mono ?_
    rintro e w2 ⟨v, rfl, hO, hB2⟩
    have HRv := Lib.hid hO.reads
    have HW2 := Lib.hid (HW1.out.trans (hB2.mono HW1.out.size))
    clear hB2 hO
    go_wp2_with fail
    refine (format_any v l _ (HT.out.below HW2.out) HRv.out (by omega)).mono ?_
    rintro e w3 ⟨he, hB3⟩
    have HW3 := Lib.hid (HW2.out.trans (hB3.mono HW2.out.size))
    clear hB3
    cases hf : fmtR l with
    | none =>
      rw [hf] at he
      unfold crV at he
      subst he
      have HF := Lib.hid hf
      clear hf
      go_wp2_with fail
      refine (refFormat_any _ l _ (HA.out.below HW3.out) (by omega)).mono ?_
      rintro e w4 ⟨s, f, rfl, hff, hB4⟩
      rw [HF.out] at hff
      simp only at hff
      subst hff
      have HW4 := Lib.hid (HW3.out.trans (hB4.mono HW3.out.size))
      clear hB4
      go_wp2_with fail
      refine (is_errno 2 (by decide) _).mono ?_
      rintro e w' ⟨rfl, rfl⟩
      go_wp2_with fail
      go_ret
      exact ⟨rfl, HW4.out⟩
    | some t =>
      obtain ⟨hne, hgd, ht⟩ := fmt_some hf
      rw [hf] at he
      unfold crV at he
      subst he
      have HF := Lib.hid hf
      have HG := Lib.hid hgd
      have HNE := Lib.hid hne
      have HTX := Lib.hid ht
      have htz : (strB t).size ≤ 100000 := by
        have := formR_len l hgd
        rw [strB_size, ht, List.length_append]
        have h6 : preB.length = 6 := rfl
        omega
      clear hf hne hgd ht
      go_wp2_with fail
      refine (refFormat_any _ l _ (HA.out.below HW3.out) (by omega)).mono ?_
      rintro e w4 ⟨s, f, rfl, hff, hB4⟩
      rw [HF.out] at hff
      obtain ⟨rfl, rfl⟩ := hff
      have HW4 := Lib.hid (HW3.out.trans (hB4.mono HW3.out.size))
      clear hB4
      go_wp2_with fail
      go_loopw [9, 43] (fun v i wr => ∃ k : Nat, i = .int .i64 k ∧ k ≤ l.length ∧ v = .int .i64 (maxTo (l.take k)) ∧ Below w.heap.size w wr) (fun _ i _ => l.length - (intOf i).toNat)
      case atStart => exact ⟨0, rfl, Nat.zero_le _, rfl, HW4.out⟩
      case round =>
        obtain ⟨k, rfl, hk, rfl, hBr⟩ := hrel
        have hbr := hBr.size
        have HBR := Lib.hid hBr
        clear hBr
        by_cases hlt : k < l.length
        · obtain ⟨p, hp⟩ : ∃ p, l[k]? = some p := ⟨l[k], by simp [hlt]⟩
          obtain ⟨g, off, rfl, hg, hc1, hc2⟩ := HC.out k p hp
          have hd1 := (HBR.out.cell (p := ⟨g, off + k * 2, none⟩) hg).trans hc1
          have hd2 := (HBR.out.cell (p := ⟨g, off + k * 2 + 1, none⟩) hg).trans hc2
          have HS := Lib.hid (maxTo_step hp)
          clear hp hc1 hc2
          obtain ⟨x, y⟩ := p
          simp only at hd1 hd2
          go_wp2
          go_roundw
          case rel => exact ⟨k + 1, by go_num, by omega, by rw [HS.out], HBR.out.alloc hbr _⟩
          case measure => simp [intOf]; omega
        · have HTT := Lib.hid (show l.take k = l from List.take_of_length_le (by omega))
          rw [HTT.out]
          obtain ⟨b1, b2⟩ := maxTo_bd l HG.out
          obtain ⟨z, hz⟩ : ∃ z, maxTo l = z := ⟨_, rfl⟩
          have HPF := Lib.hid (parse_form l (z + m) HNE.out (fun r hr => ⟨HG.out r hr, by have := maxTo_ge l r hr; omega⟩))
          rw [hz] at b1 b2
          rw [hz]
          clear hz
          have heq : ((strB t).toList == (strB t).toList) = true := beq_self_eq_true _
          have HPA := Lib.hid (fun (w : World) (hM : MaxIs w) => parse_any (strB t) (z + m) w hM htz (by omega) (by omega))
          by_cases h8 : l.length ≤ 8
          · have h8' : ¬ 8 < l.length := by omega
            have HR := Lib.hid (show parseR (strB t).data.toList (z + m) = .ok l by rw [strB_list, HTX.out, HPF.out, if_neg h8'])
            go_wp2_with fail
            refine (HPA.out _ (HM.out.below HBR.out)).mono ?_
            rintro e w5 ⟨hB5, he⟩
            rw [HR.out] at he
            obtain ⟨u, rfl, hu, _, _⟩ := he
            have HW5 := Lib.hid (HBR.out.trans (hB5.mono hbr))
            have HU := Lib.hid hu.reads
            clear hB5 hu
            go_wp2_with fail
            refine (are_any _ _ l l _ HU.out (HA.out.below HW5.out) (by omega) (by omega)).mono ?_
            rintro e w' ⟨he, n, rfl⟩
            rw [decide_eq_true rfl] at he
            subst he
            go_wp2_with fail
            go_ret
            exact ⟨rfl, below_drewN HW5.out n⟩
          · have h8' : 8 < l.length := by omega
            have HR := Lib.hid (show parseR (strB t).data.toList (z + m) = .err 5 by rw [strB_list, HTX.out, HPF.out, if_pos h8'])
            go_wp2_with fail
            refine (HPA.out _ (HM.out.below HBR.out)).mono ?_
            rintro e w5 ⟨hB5, he⟩
            rw [HR.out] at he
            simp only at he
            subst he
            have HW5 := Lib.hid (HBR.out.trans (hB5.mono hbr))
            clear hB5
            go_wp2_with fail
            refine (is_errno 5 (by decide) _).mono ?_
            rintro e w' ⟨rfl, rfl⟩
            go_wp2_with fail
            go_ret
            exact ⟨rfl, HW5.out⟩
  · have h5' : 20 < l.length := by omega
    go_wp2_with fail
    refine (awake9_any _ (HM.out.below HW1.out)).mono ?_
    rintro e w2 ⟨rfl, hB2⟩
    have HW2 := Lib.hid (HW1.out.trans (hB2.mono HW1.out.size))
    go_wp2_with fail
    go_ret
    exact ⟨rfl, HW2.out⟩
end Go.Proofs.YtdcnoegnkopfdaaDoor
