/- What the code's parseElement returns. -/
import Derived.Test.YtdcnoegnkopfdaaDoorRNum
import Derived.Test.YtdcnoegnkopfdaaDoorRCut
namespace Go.Proofs.YtdcnoegnkopfdaaDoor
open Go.RowKit

theorem elemR_no {l a b : List UInt8} (n : Int) (h : cut9 45 l = (a, b, false)) : elemR l n = none := by unfold elemR; rw [h]; rfl
theorem elemR_last {l b : List UInt8} (n : Int) (h : cut9 45 l = ([], b, true)) : elemR l n = (num9 b).map fun y : Nat => ((n - (y : Int), n) : Rg) := by unfold elemR; rw [h]; rfl
theorem elemR_from {l a : List UInt8} (n : Int) (h : cut9 45 l = (a, [], true)) (ha : a ≠ []) : elemR l n = (num9 a).map fun x : Nat => (((x : Int), n) : Rg) := by
  unfold elemR; rw [h]; simp only [if_true]; rw [if_neg ha]
theorem elemR_span {l a b : List UInt8} (n : Int) (h : cut9 45 l = (a, b, true)) (ha : a ≠ []) (hb : b ≠ []) : elemR l n = spanO a b := by
  unfold elemR; rw [h]; simp only [if_true]; rw [if_neg ha, if_neg hb]; rfl
set_option maxHeartbeats 4000000 in
set_option maxRecDepth 100000 in
theorem parseElement_any (s : ByteArray) (n : Int) (w : World) (hM : MaxIs w) (hs : s.size ≤ 100000) (h0 : 0 ≤ n) (h1 : n ≤ 9223372036854775807) :
    Calls Tryd.prog 36 #[.string s, .int .i64 n] w fun e w' => e = .returned (rgO (elemR s.data.toList n)) ∧ Below w.heap.size w w' := by
  obtain ⟨a, b, f, hc⟩ : ∃ a b f, cut9 45 s.data.toList = (a, b, f) := ⟨_, _, _, rfl⟩
  have HC := Lib.hid (fun (w : World) (hM : MaxIs w) => cutR_any 45 s w hM (by omega) hc)
  have hsz := cut9_sizes hc
  have hsa : (strB a).size ≤ maxLen := by unfold maxLen; omega
  have hsb : (strB b).size ≤ maxLen := by unfold maxLen; omega
  have HM := Lib.hid hM
  clear hM
  cases f with
  | false =>
    rw [elemR_no n hc]
    clear hc hsz hsa hsb
    go_enter Tryd.func36, Tryd.ntmps36
    go_wp2_with (go_at_call 46; refine (HC.out _ (HM.out.alloc _)).mono ?_; rintro e w' ⟨rfl, k, rfl⟩)
    exact bodyPost_ret (v := rgE) (by simp [results, Tryd.results36, go_sem, rgE]) rfl ⟨rfl, below_two (below_drewN (below_new _ _) _) (Nat.le_refl _) _ _⟩
  | true =>
    by_cases ha : a = []
    · subst ha
      have hE := empty_yes (l := []) rfl
      have HN := Lib.hid (fun w => number9_any (strB b) w hsb)
      rw [strB_list] at HN
      rw [elemR_last n hc]
      cases hb : num9 b with
      | none =>
        rw [num9V_none hb] at HN
        clear hc hsz hsa hsb hb
        go_enter Tryd.func36, Tryd.ntmps36
        go_wp2_with (first | (go_at_call 46; refine (HC.out _ (HM.out.alloc _)).mono ?_; rintro e w' ⟨rfl, k, rfl⟩) | (go_at_call 48; refine (HN.out _).mono ?_; rintro e w' ⟨rfl, rfl⟩))
        exact bodyPost_ret (v := rgE) (by simp [results, Tryd.results36, go_sem, rgE]) rfl ⟨rfl, below_two (below_drewN (below_new _ _) _) (Nat.le_refl _) _ _⟩
      | some y =>
        have hy := num9_lt hb
        rw [num9V_some hb] at HN
        clear hc hsz hsa hsb hb
        go_enter Tryd.func36, Tryd.ntmps36
        go_wp2_with (first | (go_at_call 46; refine (HC.out _ (HM.out.alloc _)).mono ?_; rintro e w' ⟨rfl, k, rfl⟩) | (go_at_call 48; refine (HN.out _).mono ?_; rintro e w' ⟨rfl, rfl⟩))
        exact bodyPost_ret (v := rgOk (n - (y : Int), n)) (by simp [results, Tryd.results36, go_sem]) rfl ⟨rfl, below_two (below_drewN (below_new _ _) _) (Nat.le_refl _) _ _⟩
    · have hE := empty_no ha
      by_cases hb : b = []
      · subst hb
        have hE2 := empty_yes (l := []) rfl
        have HN := Lib.hid (fun w => number9_any (strB a) w hsa)
        rw [strB_list] at HN
        rw [elemR_from n hc ha]
        cases ha2 : num9 a with
        | none =>
          rw [num9V_none ha2] at HN
          clear hc hsz hsa hsb ha2
          go_enter Tryd.func36, Tryd.ntmps36
          go_wp2_with (first | (go_at_call 46; refine (HC.out _ (HM.out.alloc _)).mono ?_; rintro e w' ⟨rfl, k, rfl⟩) | (go_at_call 48; refine (HN.out _).mono ?_; rintro e w' ⟨rfl, rfl⟩))
          exact bodyPost_ret (v := rgE) (by simp [results, Tryd.results36, go_sem, rgE]) rfl ⟨rfl, below_two (below_drewN (below_new _ _) _) (Nat.le_refl _) _ _⟩
        | some y =>
          have hy := num9_lt ha2
          rw [num9V_some ha2] at HN
          clear hc hsz hsa hsb ha2
          go_enter Tryd.func36, Tryd.ntmps36
          go_wp2_with (first | (go_at_call 46; refine (HC.out _ (HM.out.alloc _)).mono ?_; rintro e w' ⟨rfl, k, rfl⟩) | (go_at_call 48; refine (HN.out _).mono ?_; rintro e w' ⟨rfl, rfl⟩))
          exact bodyPost_ret (v := rgOk ((y : Int), n)) (by simp [results, Tryd.results36, go_sem]) rfl ⟨rfl, below_two (below_drewN (below_new _ _) _) (Nat.le_refl _) _ _⟩
      · have hE2 := empty_no hb
        have HN := Lib.hid (fun w => parseSpan_any (strB a) (strB b) w hsa hsb)
        rw [strB_list, strB_list] at HN
        rw [elemR_span n hc ha hb]
        generalize spanO a b = q at HN ⊢
        clear hc hsz hsa hsb ha hb
        go_enter Tryd.func36, Tryd.ntmps36
        go_wp2_with (go_at_call 46; refine (HC.out _ (HM.out.alloc _)).mono ?_; rintro e w' ⟨rfl, k, rfl⟩)
        refine (HN.out _).mono ?_
        rintro e w' ⟨he, hB⟩
        have h2 := ((twoI_new w 0 0 46).drewN k).below hB
        have hW := Lib.hid ((below_drewN (below_new w _) k).trans (hB.mono (by simp)))
        obtain ⟨c0, c1, f0, f1, hN⟩ := h2
        clear hB
        cases q with
        | none =>
          unfold rgO rgE at he
          subst he
          go_wp2
          exact bodyPost_ret (v := rgE) (by simp [results, Tryd.results36, go_sem, rgE, c0, c1, f0, f1]) rfl ⟨rfl, below_two hW.out (Nat.le_refl _) _ _⟩
        | some r =>
          obtain ⟨x, y⟩ := r
          unfold rgO rgOk at he
          subst he
          go_wp2
          exact bodyPost_ret (v := rgOk (x, y)) (by simp [results, Tryd.results36, go_sem, c0, c1, f0, f1]) rfl ⟨rfl, below_two hW.out (Nat.le_refl _) _ _⟩
end Go.Proofs.YtdcnoegnkopfdaaDoor
