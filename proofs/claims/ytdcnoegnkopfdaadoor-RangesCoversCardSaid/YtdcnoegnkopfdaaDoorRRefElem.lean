/- What the reference's element returns. -/
import Derived.Test.YtdcnoegnkopfdaaDoorRRefNum
import Derived.Test.YtdcnoegnkopfdaaDoorRElem
namespace Go.Proofs.YtdcnoegnkopfdaaDoor
open Go.RowKit

def rgF : Value := .tuple #[rgV (0, 0), .bool false]
abbrev rgT (r : Rg) : Value := .tuple #[rgV r, .bool true]
def rfO : Option Rg → Value
  | none => rgF
  | some r => rgT r
theorem digT (l : List UInt8) (w : World) (hl : l.length ≤ 1000000) {n : Nat} (h : num9 l = some n) : Calls Tryd.prog 50 #[.string (strB l)] w fun e w' => e = .returned (.bool true) ∧ w = w' := by
  have := refDigits_any (strB l) w (by rw [strB_size]; exact hl)
  rw [strB_list, (isNum_some h).1] at this
  exact this
theorem digF (l : List UInt8) (w : World) (hl : l.length ≤ 1000000) (h : num9 l = none) : Calls Tryd.prog 50 #[.string (strB l)] w fun e w' => e = .returned (.bool false) ∧ w = w' := by
  have := refDigits_any (strB l) w (by rw [strB_size]; exact hl)
  rw [strB_list, isNum_none h] at this
  exact this
theorem valN (l : List UInt8) (w : World) {n : Nat} (h : num9 l = some n) : Calls Tryd.prog 51 #[.string (strB l)] w fun e w' => e = .returned (.int .i64 (n : Int)) ∧ w = w' := by
  obtain ⟨_, h1, h2, h3⟩ := isNum_some h
  have := refValue_any (strB l) w (by rw [strB_list]; exact h2) (by rw [strB_size]; exact h3)
  rw [strB_list, ← h1] at this
  exact this
theorem emp_no {l : List UInt8} (h : l ≠ []) : ((strB l).toList.isEmpty = false) := empty_no h
set_option maxHeartbeats 8000000 in
set_option maxRecDepth 100000 in
theorem refElem_any (s : ByteArray) (n : Int) (w : World) (hs : s.size ≤ 1000000) (h0 : 0 ≤ n) (h1 : n ≤ 9223372036854775807) :
    Calls Tryd.prog 40 #[.string s, .int .i64 n] w fun e w' => e = .returned (rfO ((elemR s.data.toList n).map (withinR · n))) ∧ Below w.heap.size w w' := by
  obtain ⟨a, b, f, hc⟩ : ∃ a b f, cut9 45 s.data.toList = (a, b, f) := ⟨_, _, _, rfl⟩
  have HC := Lib.hid (fun (w : World) => refCut_any s 45 w hs hc)
  have hsz := cut9_sizes hc
  rw [strB_size, strB_size] at hsz
  have hsa : a.length ≤ 1000000 := by omega
  have hsb : b.length ≤ 1000000 := by omega
  cases f with
  | false =>
    have HR := Lib.hid (elemR_no n hc)
    clear hc hsz
    go_enter Tryd.func40, Tryd.ntmps40
    go_wp2_with fail
    refine (HC.out _).mono ?_
    rintro e w' ⟨rfl, k, rfl⟩
    go_wp2_with fail
    exact bodyPost_ret (v := rgF) (by simp [results, Tryd.results40, go_sem, rgF]) rfl ⟨by rw [HR.out]; rfl, below_two (below_drewN (below_new _ _) _) (Nat.le_refl _) _ _⟩
  | true =>
    by_cases ha : a = []
    · subst ha
      have hE := empty_yes (l := []) rfl
      have HR := Lib.hid (elemR_last n hc)
      by_cases hb : b = []
      · subst hb
        clear hc hsz
        go_enter Tryd.func40, Tryd.ntmps40
        go_wp2_with fail
        refine (HC.out _).mono ?_
        rintro e w' ⟨rfl, k, rfl⟩
        go_wp2_with fail
        exact bodyPost_ret (v := rgF) (by simp [results, Tryd.results40, go_sem, rgF]) rfl ⟨by rw [HR.out]; rfl, below_two (below_drewN (below_new _ _) _) (Nat.le_refl _) _ _⟩
      · have hE2 := empty_no hb
        cases hb2 : num9 b with
        | none =>
          have HD := Lib.hid (fun w => digF b w hsb hb2)
          rw [hb2] at HR
          clear hc hsz hb hb2
          go_enter Tryd.func40, Tryd.ntmps40
          go_wp2_with fail
          refine (HC.out _).mono ?_
          rintro e w' ⟨rfl, k, rfl⟩
          go_wp2_with (go_at_call 50; refine (HD.out _).mono ?_; rintro e w' ⟨rfl, rfl⟩)
          exact bodyPost_ret (v := rgF) (by simp [results, Tryd.results40, go_sem, rgF]) rfl ⟨by rw [HR.out]; rfl, below_two (below_drewN (below_new _ _) _) (Nat.le_refl _) _ _⟩
        | some y =>
          have HD := Lib.hid (fun w => digT b w hsb hb2)
          have HV := Lib.hid (fun w => valN b w hb2)
          have hy := num9_lt hb2
          rw [hb2] at HR
          obtain ⟨z, hz⟩ : ∃ z : Int, max 0 (n - (y : Int)) = z := ⟨_, rfl⟩
          have HZ := Lib.hid hz
          have HW := Lib.hid (show withinR (n - (y : Int), n) n = (z, n) from Prod.ext (by simp only [withinR]; omega) (by simp [withinR]))
          clear hc hsz hb hb2
          go_enter Tryd.func40, Tryd.ntmps40
          go_wp2_with fail
          refine (HC.out _).mono ?_
          rintro e w' ⟨rfl, k, rfl⟩
          go_wp2_with (first | (go_at_call 50; refine (HD.out _).mono ?_; rintro e w' ⟨rfl, rfl⟩) | (go_at_call 51; refine (HV.out _).mono ?_; rintro e w' ⟨rfl, rfl⟩))
          exact bodyPost_ret (v := rgT (z, n)) (by simp [results, Tryd.results40, go_sem]) rfl ⟨by rw [HR.out]; simp only [Option.map_some]; rw [HW.out]; rfl, below_two (below_drewN (below_new _ _) _) (Nat.le_refl _) _ _⟩
    · have hE := empty_no ha
      cases ha2 : num9 a with
      | none =>
        have HD := Lib.hid (fun w => digF a w hsa ha2)
        have HR : Hid (elemR s.data.toList n = none) := by
          by_cases hb : b = []
          · subst hb; rw [Hid, elemR_from n hc ha, ha2]; rfl
          · rw [Hid, elemR_span n hc ha hb]; exact spanO_none1 ha2
        by_cases hb : b = []
        · have hE2 := empty_yes hb
          clear hc hsz ha hb ha2
          go_enter Tryd.func40, Tryd.ntmps40
          go_wp2_with fail
          refine (HC.out _).mono ?_
          rintro e w' ⟨rfl, k, rfl⟩
          go_wp2_with (go_at_call 50; refine (HD.out _).mono ?_; rintro e w' ⟨rfl, rfl⟩)
          exact bodyPost_ret (v := rgF) (by simp [results, Tryd.results40, go_sem, rgF]) rfl ⟨by rw [HR.out]; rfl, below_two (below_drewN (below_new _ _) _) (Nat.le_refl _) _ _⟩
        · have hE2 := empty_no hb
          clear hc hsz ha hb ha2
          go_enter Tryd.func40, Tryd.ntmps40
          go_wp2_with fail
          refine (HC.out _).mono ?_
          rintro e w' ⟨rfl, k, rfl⟩
          go_wp2_with (go_at_call 50; refine (HD.out _).mono ?_; rintro e w' ⟨rfl, rfl⟩)
          exact bodyPost_ret (v := rgF) (by simp [results, Tryd.results40, go_sem, rgF]) rfl ⟨by rw [HR.out]; rfl, below_two (below_drewN (below_new _ _) _) (Nat.le_refl _) _ _⟩
      | some x =>
        have HD := Lib.hid (fun w => digT a w hsa ha2)
        have HV := Lib.hid (fun w => valN a w ha2)
        have hx := num9_lt ha2
        by_cases hb : b = []
        · subst hb
          have hE2 := empty_yes (l := []) rfl
          have HR := Lib.hid (elemR_from n hc ha)
          rw [ha2] at HR
          have HW := Lib.hid (show withinR ((x : Int), n) n = ((x : Int), n) from Prod.ext (by simp only [withinR]; omega) (by simp [withinR]))
          clear hc hsz ha ha2
          go_enter Tryd.func40, Tryd.ntmps40
          go_wp2_with fail
          refine (HC.out _).mono ?_
          rintro e w' ⟨rfl, k, rfl⟩
          go_wp2_with (first | (go_at_call 50; refine (HD.out _).mono ?_; rintro e w' ⟨rfl, rfl⟩) | (go_at_call 51; refine (HV.out _).mono ?_; rintro e w' ⟨rfl, rfl⟩))
          exact bodyPost_ret (v := rgT ((x : Int), n)) (by simp [results, Tryd.results40, go_sem]) rfl ⟨by rw [HR.out]; simp only [Option.map_some]; rw [HW.out]; rfl, below_two (below_drewN (below_new _ _) _) (Nat.le_refl _) _ _⟩
        · have hE2 := empty_no hb
          have HS := Lib.hid (elemR_span n hc ha hb)
          cases hb2 : num9 b with
          | none =>
            have HD2 := Lib.hid (fun w => digF b w hsb hb2)
            have HR := Lib.hid (spanO_none2 (a := a) hb2)
            clear hc hsz ha ha2 hb hb2
            go_enter Tryd.func40, Tryd.ntmps40
            go_wp2_with fail
            refine (HC.out _).mono ?_
            rintro e w' ⟨rfl, k, rfl⟩
            go_wp2_with fail
            refine (HD.out _).mono ?_
            rintro e w' ⟨rfl, rfl⟩
            go_wp2_with fail
            refine (HD2.out _).mono ?_
            rintro e w' ⟨rfl, rfl⟩
            go_wp2_with fail
            exact bodyPost_ret (v := rgF) (by simp [results, Tryd.results40, go_sem, rgF]) rfl ⟨by rw [HS.out, HR.out]; rfl, below_two (below_drewN (below_new _ _) _) (Nat.le_refl _) _ _⟩
          | some y =>
            have HD2 := Lib.hid (fun w => digT b w hsb hb2)
            have HV2 := Lib.hid (fun w => valN b w hb2)
            have hy := num9_lt hb2
            by_cases hxy : y < x
            · have HR := Lib.hid (spanO_no ha2 hb2 hxy)
              have hxy2 : (y : Int) < (x : Int) := by omega
              clear hc hsz ha ha2 hb hb2 hxy
              go_enter Tryd.func40, Tryd.ntmps40
              go_wp2_with fail
              refine (HC.out _).mono ?_
              rintro e w' ⟨rfl, k, rfl⟩
              go_wp2_with fail
              refine (HD.out _).mono ?_
              rintro e w' ⟨rfl, rfl⟩
              go_wp2_with fail
              refine (HD2.out _).mono ?_
              rintro e w' ⟨rfl, rfl⟩
              go_wp2_with fail
              refine (HV.out _).mono ?_
              rintro e w' ⟨rfl, rfl⟩
              go_wp2_with fail
              refine (HV2.out _).mono ?_
              rintro e w' ⟨rfl, rfl⟩
              go_wp2_with fail
              exact bodyPost_ret (v := rgF) (by simp [results, Tryd.results40, go_sem, rgF]) rfl ⟨by rw [HS.out, HR.out]; rfl, below_two (below_drewN (below_new _ _) _) (Nat.le_refl _) _ _⟩
            · have HR := Lib.hid (spanO_yes ha2 hb2 (by omega))
              have hxy2 : (x : Int) ≤ (y : Int) := by omega
              obtain ⟨z, hz⟩ : ∃ z : Int, min ((y : Int) + 1) n = z := ⟨_, rfl⟩
              have HW := Lib.hid (show withinR ((x : Int), (y : Int) + 1) n = ((x : Int), z) from Prod.ext (by simp only [withinR]; omega) (by simp only [withinR]; omega))
              clear hc hsz ha ha2 hb hb2 hxy
              go_enter Tryd.func40, Tryd.ntmps40
              go_wp2_with fail
              refine (HC.out _).mono ?_
              rintro e w' ⟨rfl, k, rfl⟩
              go_wp2_with fail
              refine (HD.out _).mono ?_
              rintro e w' ⟨rfl, rfl⟩
              go_wp2_with fail
              refine (HD2.out _).mono ?_
              rintro e w' ⟨rfl, rfl⟩
              go_wp2_with fail
              refine (HV.out _).mono ?_
              rintro e w' ⟨rfl, rfl⟩
              go_wp2_with fail
              refine (HV2.out _).mono ?_
              rintro e w' ⟨rfl, rfl⟩
              go_wp2_with fail
              refine (HV.out _).mono ?_
              rintro e w' ⟨rfl, rfl⟩
              go_wp2_with fail
              refine (HV2.out _).mono ?_
              rintro e w' ⟨rfl, rfl⟩
              go_wp2_with fail
              exact bodyPost_ret (v := rgT ((x : Int), z)) (by simp [results, Tryd.results40, go_sem]) rfl ⟨by rw [HS.out, HR.out]; simp only [Option.map_some]; rw [HW.out]; rfl, below_two (below_drewN (below_new _ _) _) (Nat.le_refl _) _ _⟩
end Go.Proofs.YtdcnoegnkopfdaaDoor
