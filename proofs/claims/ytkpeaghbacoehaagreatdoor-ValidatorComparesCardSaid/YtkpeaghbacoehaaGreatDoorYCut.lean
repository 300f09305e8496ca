/- What cutTag, ReadTag and WriteTag return. -/
import Derived.Test.YtkpeaghbacoehaaGreatDoorYTag
namespace Go.Proofs.YtkpeaghbacoehaaGreatDoor
open Go.RowKit

abbrev errY : Value := .iface 34 (.int .i64 2)
def cutV : Option (Tg × List UInt8) → Value
  | none => .tuple #[tgV (false, []), strV [], errY]
  | some (t, r) => .tuple #[tgV t, strV r, .nilIface]
def tgO : Option Tg → Value
  | none => .tuple #[tgV (false, []), errY]
  | some t => .tuple #[tgV t, .nilIface]
def texO (t : Tg) : Value := if txtB t.2 = true then .tuple #[strV (texL t), .nilIface] else .tuple #[strV [], errY]
theorem cutW_any (l : List UInt8) (w : World) : Calls Tryz.prog 55 #[.string (strB l), .string ⟨#[87, 47]⟩] w fun e w' => e = .returned (.tuple #[.string (strB (unwL l)), .bool (wkL l)]) ∧ w = w' := by
  refine (cutPre_any (strB l) ⟨#[87, 47]⟩ w (b := wkL l) (by rw [strB_list]; rfl)).mono ?_
  rintro e w' ⟨rfl, rfl⟩
  rw [strB_list]
  exact ⟨rfl, rfl⟩
theorem cutQ_any (l : List UInt8) (w : World) : Calls Tryz.prog 55 #[.string (strB l), .string ⟨#[34]⟩] w fun e w' => e = .returned (.tuple #[.string (strB (unqL l)), .bool (qtL l)]) ∧ w = w' := by
  refine (cutPre_any (strB l) ⟨#[34]⟩ w (b := qtL l) (by rw [strB_list]; rfl)).mono ?_
  rintro e w' ⟨rfl, rfl⟩
  rw [strB_list]
  exact ⟨rfl, rfl⟩
theorem strB_nil0 : strB [] = ⟨#[]⟩ := rfl
theorem unw_len (l : List UInt8) : (unqL (unwL l)).length ≤ l.length := by
  unfold unqL unwL
  split <;> split <;> simp
set_option maxHeartbeats 4000000 in
set_option maxRecDepth 100000 in
theorem cutTag_any (l : List UInt8) (w : World) (hM : MaxIs w) (hl : l.length ≤ 1000000) :
    Calls Tryz.prog 37 #[.string (strB l)] w fun e w' => e = .returned (cutV (cutTL l)) ∧ Below w.heap.size w w' := by
  have HW := Lib.hid (cutW_any l)
  have HQ := Lib.hid (cutQ_any (unwL l))
  have hu := unw_len l
  obtain ⟨a, b, f, hc⟩ : ∃ a b f, cut9 34 (unqL (unwL l)) = (a, b, f) := ⟨_, _, _, rfl⟩
  have hal := cut9_len 34 (unqL (unwL l))
  rw [hc] at hal
  simp only at hal
  have HC := Lib.hid (fun (w : World) (hM : MaxIs w) => cutR_any 34 (strB (unqL (unwL l))) w hM (by rw [strB_size]; omega) (a := a) (b := b) (f := f) (by rw [strB_list]; exact hc))
  have HT := Lib.hid (fun (w : World) => isText_any (strB a) w (by rw [strB_size]; omega))
  rw [strB_list] at HT
  have HM := Lib.hid hM
  have HR := Lib.hid (show cutTL l = if qtL (unwL l) = true ∧ f = true ∧ txtB a = true then some ((wkL l, a), b) else none by unfold cutTL; rw [hc])
  clear hM hc hal hu
  generalize unqL (unwL l) = l2 at *
  generalize qtL (unwL l) = q at *
  generalize wkL l = k at *
  generalize unwL l = l1 at *
  have hgo : ∀ x : Bool, txtB a = x → Calls Tryz.prog 37 #[.string (strB l)] w fun e w' => e = .returned (cutV (cutTL l)) ∧ Below w.heap.size w w' := by
    intro x hx
    rw [hx] at HT HR
    have HR2 := Lib.hid HR.out
    clear hx
    cases q
    · have HR3 := Lib.hid (show cutTL l = none by rw [HR2.out]; simp)
      go_enter Tryz.func37, Tryz.ntmps37
      go_wp2_with fail
      refine (HW.out _).mono ?_
      rintro e w' ⟨rfl, rfl⟩
      go_wp2_with fail
      refine (HQ.out _).mono ?_
      rintro e w' ⟨rfl, rfl⟩
      go_wp2_with fail
      refine (HC.out _ (HM.out.alloc _)).mono ?_
      rintro e w' ⟨rfl, n, rfl⟩
      obtain ⟨c0, c1, f0, f1, hN⟩ := (twoT_zero w 29).drewN n
      go_wp2_with fail
      rw [HR3.out]
      exact bodyPost_ret (v := cutV none) (by simp [results, Tryz.results37, go_sem, cutV, strB_nil0]) rfl ⟨rfl, below_twoT (below_drewN (below_new _ _) _) (Nat.le_refl _) _ _⟩
    · cases f
      · have HR3 := Lib.hid (show cutTL l = none by rw [HR2.out]; simp)
        go_enter Tryz.func37, Tryz.ntmps37
        go_wp2_with fail
        refine (HW.out _).mono ?_
        rintro e w' ⟨rfl, rfl⟩
        go_wp2_with fail
        refine (HQ.out _).mono ?_
        rintro e w' ⟨rfl, rfl⟩
        go_wp2_with fail
        refine (HC.out _ (HM.out.alloc _)).mono ?_
        rintro e w' ⟨rfl, n, rfl⟩
        obtain ⟨c0, c1, f0, f1, hN⟩ := (twoT_zero w 29).drewN n
        go_wp2_with fail
        rw [HR3.out]
        exact bodyPost_ret (v := cutV none) (by simp [results, Tryz.results37, go_sem, cutV, strB_nil0]) rfl ⟨rfl, below_twoT (below_drewN (below_new _ _) _) (Nat.le_refl _) _ _⟩
      · cases x
        · have HR3 := Lib.hid (show cutTL l = none by rw [HR2.out]; simp)
          go_enter Tryz.func37, Tryz.ntmps37
          go_wp2_with fail
          refine (HW.out _).mono ?_
          rintro e w' ⟨rfl, rfl⟩
          go_wp2_with fail
          refine (HQ.out _).mono ?_
          rintro e w' ⟨rfl, rfl⟩
          go_wp2_with fail
          refine (HC.out _ (HM.out.alloc _)).mono ?_
          rintro e w' ⟨rfl, n, rfl⟩
          obtain ⟨c0, c1, f0, f1, hN⟩ := (twoT_zero w 29).drewN n
          go_wp2_with fail
          refine (HT.out _).mono ?_
          rintro e w' ⟨rfl, rfl⟩
          go_wp2_with fail
          rw [HR3.out]
          exact bodyPost_ret (v := cutV none) (by simp [results, Tryz.results37, go_sem, cutV, strB_nil0]) rfl ⟨rfl, below_twoT (below_drewN (below_new _ _) _) (Nat.le_refl _) _ _⟩
        · have HR3 := Lib.hid (show cutTL l = some ((k, a), b) by rw [HR2.out]; simp)
          go_enter Tryz.func37, Tryz.ntmps37
          go_wp2_with fail
          refine (HW.out _).mono ?_
          rintro e w' ⟨rfl, rfl⟩
          go_wp2_with fail
          refine (HQ.out _).mono ?_
          rintro e w' ⟨rfl, rfl⟩
          go_wp2_with fail
          refine (HC.out _ (HM.out.alloc _)).mono ?_
          rintro e w' ⟨rfl, n, rfl⟩
          obtain ⟨c0, c1, f0, f1, hN⟩ := (twoT_zero w 29).drewN n
          go_wp2_with fail
          refine (HT.out _).mono ?_
          rintro e w' ⟨rfl, rfl⟩
          go_wp2_with fail
          rw [HR3.out]
          exact bodyPost_ret (v := cutV (some ((k, a), b))) (by simp [results, Tryz.results37, go_sem, cutV]) rfl ⟨rfl, below_twoT (below_drewN (below_new _ _) _) (Nat.le_refl _) _ _⟩
  exact hgo _ rfl
set_option maxHeartbeats 4000000 in
set_option maxRecDepth 100000 in
theorem readTag_any (l : List UInt8) (w : World) (hM : MaxIs w) (hl : l.length ≤ 1000000) :
    Calls Tryz.prog 16 #[.string (strB l)] w fun e w' => e = .returned (tgO (readTL l)) ∧ Below w.heap.size w w' := by
  have HC := Lib.hid (fun (w : World) (hM : MaxIs w) => cutTag_any l w hM hl)
  have HM := Lib.hid hM
  clear hM
  have HR := Lib.hid (show readTL l = match cutTL l with | some (t, r) => if r = [] then some t else none | none => none from rfl)
  generalize cutTL l = q at *
  cases q with
  | none =>
    have HR2 := Lib.hid (show readTL l = none from HR.out)
    go_enter Tryz.func16, Tryz.ntmps16
    go_wp2_with fail
    refine (HC.out _ (HM.out.alloc _)).mono ?_
    rintro e w1 ⟨rfl, hB⟩
    obtain ⟨c0, c1, f0, f1, hN⟩ := ((twoT_zero w 29).below hB).below (below_new w1 (.cells #[.bool false, .string (strB [])] 29))
    have HB := Lib.hid ((below_new w (.cells #[.bool false, .string ByteArray.empty] 29)).trans (hB.mono (by simp)))
    have hb := hB.size
    simp at hb
    clear hB
    unfold cutV
    go_wp2_with fail
    rw [HR2.out]
    rw [strB_nil0] at c0 c1 f0 f1
    exact bodyPost_ret (v := tgO none) (by simp [results, Tryz.results16, go_sem, tgO, c0, c1, strB_nil0]) rfl ⟨rfl, below_twoT (HB.out.alloc (by omega) _) (Nat.le_refl _) _ _⟩
  | some p =>
    obtain ⟨⟨k, a⟩, r⟩ := p
    by_cases hr : r = []
    · subst hr
      have HR2 := Lib.hid (show readTL l = some (k, a) from HR.out)
      go_enter Tryz.func16, Tryz.ntmps16
      go_wp2_with fail
      refine (HC.out _ (HM.out.alloc _)).mono ?_
      rintro e w1 ⟨rfl, hB⟩
      obtain ⟨c0, c1, f0, f1, hN⟩ := ((twoT_zero w 29).below hB).below (below_new w1 (.cells #[.bool k, .string (strB a)] 29))
      obtain ⟨d0, d1, g0, g1, hN2⟩ := twoT_new w1 k a 29
      have HB := Lib.hid ((below_new w (.cells #[.bool false, .string ByteArray.empty] 29)).trans (hB.mono (by simp)))
      have hb := hB.size
      simp at hb
      have hE := empty_yes (l := []) rfl
      clear hB
      unfold cutV
      go_wp2_with fail
      rw [HR2.out]
      exact bodyPost_ret (v := tgO (some (k, a))) (by simp [results, Tryz.results16, go_sem, tgO, c0, c1, strB_nil0]) rfl ⟨rfl, below_twoT (HB.out.alloc (by omega) _) (Nat.le_refl _) _ _⟩
    · have HR2 := Lib.hid (show readTL l = none by rw [HR.out]; simp only; rw [if_neg hr])
      have hE := empty_no hr
      clear hr
      go_enter Tryz.func16, Tryz.ntmps16
      go_wp2_with fail
      refine (HC.out _ (HM.out.alloc _)).mono ?_
      rintro e w1 ⟨rfl, hB⟩
      obtain ⟨c0, c1, f0, f1, hN⟩ := ((twoT_zero w 29).below hB).below (below_new w1 (.cells #[.bool k, .string (strB a)] 29))
      have HB := Lib.hid ((below_new w (.cells #[.bool false, .string ByteArray.empty] 29)).trans (hB.mono (by simp)))
      have hb := hB.size
      simp at hb
      clear hB
      unfold cutV
      go_wp2_with fail
      rw [HR2.out]
      exact bodyPost_ret (v := tgO none) (by simp [results, Tryz.results16, go_sem, tgO, c0, c1, strB_nil0]) rfl ⟨rfl, below_twoT (HB.out.alloc (by omega) _) (Nat.le_refl _) _ _⟩
end Go.Proofs.YtkpeaghbacoehaaGreatDoor
