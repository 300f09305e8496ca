import Derived.Test.YtfmgfcddnnggeaaGreatDoorPa9
import Derived.Test.YtfmgfcddnnggeaaGreatDoorPa22
import Derived.Test.YtfmgfcddnnggeaaGreatDoorPa3
import Derived.Test.YtfmgfcddnnggeaaGreatDoorPa21
import Derived.Test.YtfmgfcddnnggeaaGreatDoorPa12
import Derived.Test.YtfmgfcddnnggeaaGreatDoorPa17
/- What the code's Size returns, for every list of fields. -/
namespace Go.Proofs.YtfmgfcddnnggeaaGreatDoor
open Go.RowKit

end Go.Proofs.YtfmgfcddnnggeaaGreatDoor

/- What the program's Reason, isStatus, checkSize and canonicalFields return. -/
namespace Go.Proofs.YtfmgfcddnnggeaaGreatDoor
open Go.RowKit

def phZ (l : List (Nat × List UInt8)) (z : Int) : List UInt8 := ((l.find? fun p => decide ((p.1 : Int) = z)).map (·.2)).getD []
theorem phZ_nat (l : List (Nat × List UInt8)) (n : Nat) : phZ l (n : Int) = ((l.find? fun p => decide (p.1 = n)).map (·.2)).getD [] := by
  unfold phZ
  have : (fun p : Nat × List UInt8 => decide ((p.1 : Int) = (n : Int))) = fun p => decide (p.1 = n) := by
    funext p; rw [decide_eq_decide]; omega
  rw [this]
theorem phZ_skip {k : Nat} {t : List UInt8} {l : List (Nat × List UInt8)} {z : Int} (h : ¬ z = (k : Int)) : phZ ((k, t) :: l) z = phZ l z := by
  unfold phZ; rw [List.find?_cons_of_neg (by simp; omega)]
theorem phZ_hit {k : Nat} {t : List UInt8} {l : List (Nat × List UInt8)} {z : Int} (h : z = (k : Int)) : phZ ((k, t) :: l) z = t := by
  unfold phZ; rw [List.find?_cons_of_pos (by simp; omega)]; rfl
def reasonZ (z : Int) : List UInt8 := phZ phrases z
theorem reasonZ_nat (n : Nat) : reasonZ (n : Int) = reasonL n := by unfold reasonZ; rw [phZ_nat]; rfl
theorem reasonZ_neg {z : Int} (h : z < 100 ∨ 599 < z) : reasonZ z = [] := by
  unfold reasonZ phZ
  have : phrases.find? (fun p => decide ((p.1 : Int) = z)) = none := by
    rw [List.find?_eq_none]
    intro p hp
    have hb : (phrases.all fun p => decide (100 ≤ p.1) && decide (p.1 ≤ 599)) = true := by decide +kernel
    have := List.all_eq_true.1 hb p hp
    simp at this
    simp; omega
  rw [this]; rfl
theorem reason_len_tab : (phrases.all fun p => decide (p.2.length ≤ 31)) = true := by decide +kernel
theorem reasonZ_len (z : Int) : (reasonZ z).length ≤ 31 := by
  unfold reasonZ phZ
  cases h : phrases.find? fun p => decide ((p.1 : Int) = z) with
  | none => simp
  | some p =>
    have := List.all_eq_true.1 reason_len_tab p (List.mem_of_find?_eq_some h)
    simpa using this
theorem str_lit {l : List UInt8} (s : ByteArray) (h : s = strB l) : Ending.returned (.string s) = .returned (.string (strB l)) := by rw [h]
def stB (z : Int) : Bool := decide (100 ≤ z) && decide (z ≤ 599)
set_option maxHeartbeats 400000 in
theorem isStatus_any (z : Int) (w : World) :
    Calls Tryz.prog 57 #[.int .i64 z] w fun e w' => e = .returned (.bool (stB z)) ∧ w = w' := by
  go_enter Tryz.func57, Tryz.ntmps57
  by_cases h : 100 ≤ z
  all_goals
    go_wp2
    go_ret
    refine ⟨ret_bool ?_, rfl⟩
    rw [Bool.eq_iff_iff]
    simp [stB]
    try omega
/-- The number of the error of a head's size. -/
def sizeC (n : Nat) (fs : Fs) : Nat := if 64 < fs.length ∨ 8192 < n + 4 + sizL fs then 5 else 0
theorem sizL_le {fs : Fs} {M : Nat} (hb : ∀ p ∈ fs, p.1.length + p.2.length ≤ M) : sizL fs ≤ fs.length * (M + 4) := by
  induction fs with
  | nil => simp [sizL]
  | cons p r ih =>
    have h1 := hb p (by simp)
    have h2 := ih fun q hq => hb q (by simp [hq])
    have e : sizL (p :: r) = p.1.length + p.2.length + 4 + sizL r := rfl
    rw [e, List.length_cons, Nat.succ_mul]; omega
end Go.Proofs.YtfmgfcddnnggeaaGreatDoor

/- The status line: what the program's readStatusLine and the reference's status return. -/
namespace Go.Proofs.YtfmgfcddnnggeaaGreatDoor
open Go.RowKit

theorem statusN_eq (l : List UInt8) : statusN l = if 3 ≤ l.length ∧ (l.length = 3 ∨ l[3]? = some 32) ∧ (l.take 3).all digB = true ∧ (l.drop 3).any ctlB = false ∧ 100 ≤ numV (l.take 3) ∧ numV (l.take 3) ≤ 599 then numV (l.take 3) else 0 := by
  match l with
  | [] => rfl
  | [_] => rfl
  | [_, _] => rfl
  | a :: b :: c :: r =>
    have e1 : numV ((a :: b :: c :: r).take 3) = 100 * (a.toNat - 48) + 10 * (b.toNat - 48) + (c.toNat - 48) := by
      show 10 * (10 * (10 * 0 + (a.toNat - 48)) + (b.toNat - 48)) + (c.toNat - 48) = _
      omega
    have e2 : ((a :: b :: c :: r).take 3).all digB = (dgB a && (dgB b && (dgB c && true))) := rfl
    have e3 : ((a :: b :: c :: r).drop 3).any ctlB = r.any ctlG := rfl
    have e4 : 3 ≤ (a :: b :: c :: r).length := by simp
    have e5 : ((a :: b :: c :: r).length = 3 ∨ (a :: b :: c :: r)[3]? = some 32) ↔ (r = [] ∨ r.head? = some 32) := by
      cases r <;> simp
    simp only [statusN]
    rw [e1, e2, e3]
    generalize 100 * (a.toNat - 48) + 10 * (b.toNat - 48) + (c.toNat - 48) = n
    by_cases h1 : (r = [] ∨ r.head? = some 32) ∧ dgB a = true ∧ dgB b = true ∧ dgB c = true ∧ r.any ctlG = false
    · rw [if_pos h1]
      obtain ⟨x1, x2, x3, x4, x5⟩ := h1
      by_cases h2 : 100 ≤ n ∧ n ≤ 599
      · rw [if_pos h2, if_pos ⟨e4, e5.2 x1, by rw [x2, x3, x4]; rfl, x5, h2⟩]
      · rw [if_neg h2, if_neg (fun h => h2 h.2.2.2.2)]
    · rw [if_neg h1, if_neg]
      rintro ⟨_, x1, x2, x5, _⟩
      simp only [Bool.and_eq_true, and_true] at x2
      exact h1 ⟨e5.1 x1, x2.1, x2.2.1, x2.2.2, x5⟩
theorem cutG_no {c : UInt8} : ∀ {l : List UInt8}, c ∉ l → cutG c l = (l, []) := by
  intro l h
  unfold cutG
  have : cut1 c l = none := by
    induction l with
    | nil => rfl
    | cons x t ih =>
      simp only [List.mem_cons, not_or] at h
      rw [cut1, if_neg (fun e => h.1 e.symm), ih h.2]; rfl
  rw [this]; rfl
theorem dig_no32 {l : List UInt8} (h : l.all digB = true) : (32 : UInt8) ∉ l := fun hm => absurd (List.all_eq_true.1 h 32 hm) (by decide)
theorem status_cut (l : List UInt8) : statusN l = if (cutG 32 l).1.length = 3 ∧ (cutG 32 l).1.all digB = true ∧ (cutG 32 l).2.any ctlB = false ∧ 100 ≤ numV (cutG 32 l).1 ∧ numV (cutG 32 l).1 ≤ 599 then numV (cutG 32 l).1 else 0 := by
  rw [statusN_eq]
  by_cases h : 3 ≤ l.length ∧ (l.length = 3 ∨ l[3]? = some 32) ∧ (l.take 3).all digB = true
  · obtain ⟨h1, h2, h3⟩ := h
    have hl3 : (l.take 3).length = 3 := by rw [List.length_take]; omega
    have key : cutG 32 l = (l.take 3, (l.drop 3).tail) ∧ (l.drop 3).any ctlB = (l.drop 3).tail.any ctlB := by
      rcases h2 with h2 | h2
      · have e1 : l.take 3 = l := List.take_of_length_le (by omega)
        have e2 : l.drop 3 = [] := List.drop_of_length_le (by omega)
        rw [e1] at h3
        rw [e1, e2, cutG_no (dig_no32 h3)]
        exact ⟨rfl, rfl⟩
      · obtain ⟨hlt, he⟩ := List.getElem?_eq_some_iff.1 h2
        have e3 : l.drop 3 = 32 :: l.drop 4 := by rw [List.drop_eq_getElem_cons hlt, he]
        have e4 : l = l.take 3 ++ 32 :: l.drop 4 := by rw [← e3, List.take_append_drop]
        refine ⟨?_, ?_⟩
        · rw [e3]; conv => lhs; rw [e4]
          exact cutG_at (dig_no32 h3) _
        · rw [e3, List.any_cons]; rfl
    rw [key.1, key.2]
    simp only
    by_cases h5 : (l.drop 3).tail.any ctlB = false ∧ 100 ≤ numV (l.take 3) ∧ numV (l.take 3) ≤ 599
    · rw [if_pos ⟨h1, h2, h3, h5⟩, if_pos ⟨hl3, h3, h5⟩]
    · rw [if_neg (fun h => h5 h.2.2.2), if_neg (fun h => h5 h.2.2)]
  · rw [if_neg (fun h' => h ⟨h'.1, h'.2.1, h'.2.2.1⟩), if_neg]
    rintro ⟨h1, h2, _⟩
    apply h
    rcases cutG_or 32 l with e | ⟨_, e⟩
    · generalize cutG 32 l = p at *
      obtain ⟨a, b⟩ := p
      simp only at h1 h2 e
      subst e
      refine ⟨by simp; omega, .inr ?_, ?_⟩
      · rw [List.getElem?_append_right (by omega), h1]; rfl
      · rw [List.take_append_of_le_length (by omega), List.take_of_length_le (by omega)]; exact h2
    · rw [e] at h1 h2
      exact ⟨by omega, .inl h1, by rw [List.take_of_length_le (by omega)]; exact h2⟩
/-- The number of the error of a status line. -/
def statC (l : List UInt8) : Nat := if (cutG 32 l).1 ≠ verL then 28 else if statusN (cutG 32 l).2 = 0 then 2 else 0
def statV (l : List UInt8) : Value := if statC l = 0 then .tuple #[.int .i64 (statusN (cutG 32 l).2 : Int), .nilIface] else .tuple #[.int .i64 0, .iface 32 (.int .i64 (statC l))]
theorem statV_no {l : List UInt8} (h : statC l ≠ 0) : statV l = .tuple #[.int .i64 0, .iface 32 (.int .i64 (statC l))] := by unfold statV; rw [if_neg h]
theorem statV_yes {l : List UInt8} (h : statC l = 0) : statV l = .tuple #[.int .i64 (statusN (cutG 32 l).2 : Int), .nilIface] := by unfold statV; rw [if_pos h]
theorem statC_2 {l : List UInt8} (h : (cutG 32 l).1 = verL) (h2 : statusN (cutG 32 l).2 = 0) : statC l = 2 := by unfold statC; rw [if_neg (by simp [h]), if_pos h2]
theorem statC_28 {l : List UInt8} (h : (cutG 32 l).1 ≠ verL) : statC l = 28 := by unfold statC; rw [if_pos h]
theorem statC_0 {l : List UInt8} (h : (cutG 32 l).1 = verL) (h2 : statusN (cutG 32 l).2 ≠ 0) : statC l = 0 := by unfold statC; rw [if_neg (by simp [h]), if_neg h2]
theorem statV_2 {l : List UInt8} (h : (cutG 32 l).1 = verL) (h2 : statusN (cutG 32 l).2 = 0) : statV l = .tuple #[.int .i64 0, .iface 32 (.int .i64 2)] := by
  rw [statV_no (by rw [statC_2 h h2]; decide), statC_2 h h2]; rfl
set_option maxHeartbeats 8000000 in
set_option maxRecDepth 100000 in
theorem readStatus_any (l : List UInt8) (w : World) (hM : HasMax w) (hs : l.length ≤ 1000000) :
    Calls Tryz.prog 40 #[.string (strB l)] w fun e w' => e = .returned (statV l) ∧ Below w.heap.size w w' := by
  have hl1 := cutG_len 32 l
  have hl2 := cutG_len 32 (cutG 32 l).2
  have C1 := Lib.hid (fun w hM => cutGM_any l w hM hs)
  have C2 := Lib.hid (fun w hM => cutGM_any (cutG 32 l).2 w hM (by omega))
  have HM := Lib.hid hM
  have SC := status_cut (cutG 32 l).2
  clear hM
  by_cases h1 : (cutG 32 l).1 = verL
  · have q := list_yes h1
    unfold verL at q
    have E2 := Lib.hid (fun h => statV_2 (l := l) h1 h)
    have E0 := Lib.hid (fun h => (statV_yes (l := l) (statC_0 h1 h)))
    have hcs : (strB (cutG 32 (cutG 32 l).2).1).size = (cutG 32 (cutG 32 l).2).1.length := strB_size _
    have hcl : (strB (cutG 32 (cutG 32 l).2).1).data.toList = (cutG 32 (cutG 32 l).2).1 := strB_list _
    have hct := hasControl_any (strB (cutG 32 (cutG 32 l).2).2)
    rw [strB_list, strB_size] at hct
    have HC := Lib.hid (fun w => hct w (by unfold maxLen; omega))
    have hle : (cutG 32 (cutG 32 l).2).1.length ≤ 1000000 := by omega
    clear h1 hct hl1 hl2 hs
    rw [← hcl] at SC
    generalize strB (cutG 32 (cutG 32 l).2).1 = sc at *
    generalize (cutG 32 (cutG 32 l).2).2 = rs at *
    have hsz : sc.data.toList.length = sc.size := by rw [Array.length_toList]; rfl
    rw [hsz] at SC
    have hle : sc.size ≤ 1000000 := by omega
    clear hsz hcl hcs
    by_cases hg : numGood sc
    · by_cases h15 : sc.size ≤ 15
      · have NU := Lib.hid (fun w => number_small sc w hg h15)
        have hdig := hg.2
        generalize hn : numV sc.data.toList = n at *
        by_cases h3 : sc.size = 3
        · cases h4 : stB (n : Int) with
          | false =>
            have HE := Lib.hid (E2.out (by
              rw [SC, if_neg]
              rintro ⟨_, _, _, a, b⟩
              unfold stB at h4
              rw [decide_eq_true (show (100 : Int) ≤ n by omega), decide_eq_true (show (n : Int) ≤ 599 by omega)] at h4
              cases h4))
            have ST := Lib.hid (fun w => isStatus_any (n : Int) w)
            rw [h4] at ST
            clear h4 SC hg hdig hn
            go_enter Tryz.func40, Tryz.ntmps40
            go_wp2_with fail
            refine (C1.out _ HM.out).mono ?_
            rintro e w1 ⟨b1, rfl, hB1⟩
            go_wp2_with fail
            refine (C2.out _ (HM.out.below hB1)).mono ?_
            rintro e w2 ⟨b2, rfl, hB2⟩
            have hB2' := hB1.trans (hB2.mono hB1.size)
            go_wp2_with fail
            refine (NU.out _).mono ?_
            rintro e w3 ⟨rfl, rfl⟩
            go_wp2_with fail
            refine (ST.out _).mono ?_
            rintro e w3 ⟨rfl, rfl⟩
            go_wp2_with fail
            refine bodyPost_ret (v := .tuple #[.int .i64 0, .iface 32 (.int .i64 2)]) (by simp [results, Tryz.results40, go_sem]) rfl ?_
            exact ⟨by rw [HE.out], hB2'⟩
          | true =>
            have ST := Lib.hid (fun w => isStatus_any (n : Int) w)
            rw [h4] at ST
            unfold stB at h4
            simp only [Bool.and_eq_true, decide_eq_true_eq] at h4
            cases h5 : ctlS rs with
            | true =>
              rw [h5] at HC
              have HE := Lib.hid (E2.out (by
                rw [SC, if_neg]
                rintro ⟨_, _, a, _⟩
                rw [show rs.any ctlB = true from h5] at a
                cases a))
              clear h4 h5 SC hg hdig hn
              go_enter Tryz.func40, Tryz.ntmps40
              go_wp2_with fail
              refine (C1.out _ HM.out).mono ?_
              rintro e w1 ⟨b1, rfl, hB1⟩
              go_wp2_with fail
              refine (C2.out _ (HM.out.below hB1)).mono ?_
              rintro e w2 ⟨b2, rfl, hB2⟩
              have hB2' := hB1.trans (hB2.mono hB1.size)
              go_wp2_with fail
              refine (NU.out _).mono ?_
              rintro e w3 ⟨rfl, rfl⟩
              go_wp2_with fail
              refine (ST.out _).mono ?_
              rintro e w3 ⟨rfl, rfl⟩
              go_wp2_with fail
              refine (HC.out _).mono ?_
              rintro e w3 ⟨rfl, rfl⟩
              go_wp2_with fail
              refine bodyPost_ret (v := .tuple #[.int .i64 0, .iface 32 (.int .i64 2)]) (by simp [results, Tryz.results40, go_sem]) rfl ?_
              exact ⟨by rw [HE.out], hB2'⟩
            | false =>
              rw [h5] at HC
              have e0 : statusN (cutG 32 l).2 = n := by rw [SC, if_pos ⟨h3, hdig, h5, by omega, by omega⟩]
              have HE := Lib.hid (E0.out (by rw [e0]; omega))
              rw [e0] at HE
              clear h4 h5 SC hg hdig hn
              go_enter Tryz.func40, Tryz.ntmps40
              go_wp2_with fail
              refine (C1.out _ HM.out).mono ?_
              rintro e w1 ⟨b1, rfl, hB1⟩
              go_wp2_with fail
              refine (C2.out _ (HM.out.below hB1)).mono ?_
              rintro e w2 ⟨b2, rfl, hB2⟩
              have hB2' := hB1.trans (hB2.mono hB1.size)
              go_wp2_with fail
              refine (NU.out _).mono ?_
              rintro e w3 ⟨rfl, rfl⟩
              go_wp2_with fail
              refine (ST.out _).mono ?_
              rintro e w3 ⟨rfl, rfl⟩
              go_wp2_with fail
              refine (HC.out _).mono ?_
              rintro e w3 ⟨rfl, rfl⟩
              go_wp2_with fail
              refine bodyPost_ret (v := .tuple #[.int .i64 (n : Int), .nilIface]) (by simp [results, Tryz.results40, go_sem]) rfl ?_
              exact ⟨by rw [HE.out], hB2'⟩
        · have HE := Lib.hid (E2.out (by rw [SC, if_neg]; rintro ⟨a, _⟩; exact h3 a))
          clear SC hg hdig hn
          go_enter Tryz.func40, Tryz.ntmps40
          go_wp2_with fail
          refine (C1.out _ HM.out).mono ?_
          rintro e w1 ⟨b1, rfl, hB1⟩
          go_wp2_with fail
          refine (C2.out _ (HM.out.below hB1)).mono ?_
          rintro e w2 ⟨b2, rfl, hB2⟩
          have hB2' := hB1.trans (hB2.mono hB1.size)
          go_wp2_with fail
          refine (NU.out _).mono ?_
          rintro e w3 ⟨rfl, rfl⟩
          go_wp2_with fail
          refine bodyPost_ret (v := .tuple #[.int .i64 0, .iface 32 (.int .i64 2)]) (by simp [results, Tryz.results40, go_sem]) rfl ?_
          exact ⟨by rw [HE.out], hB2'⟩
      · have HE := Lib.hid (E2.out (by rw [SC, if_neg]; rintro ⟨a, _⟩; omega))
        have NU := Lib.hid (fun w => number_large sc w (by unfold maxLen; omega) hg (by omega))
        clear SC hg
        go_enter Tryz.func40, Tryz.ntmps40
        go_wp2_with fail
        refine (C1.out _ HM.out).mono ?_
        rintro e w1 ⟨b1, rfl, hB1⟩
        go_wp2_with fail
        refine (C2.out _ (HM.out.below hB1)).mono ?_
        rintro e w2 ⟨b2, rfl, hB2⟩
        have hB2' := hB1.trans (hB2.mono hB1.size)
        go_wp2_with fail
        refine (NU.out _).mono ?_
        rintro e w3 ⟨rfl, rfl⟩
        go_wp2_with fail
        refine bodyPost_ret (v := .tuple #[.int .i64 0, .iface 32 (.int .i64 2)]) (by simp [results, Tryz.results40, go_sem]) rfl ?_
        exact ⟨by rw [HE.out], hB2'⟩
    · have HE := Lib.hid (E2.out (by
        rw [SC, if_neg]
        rintro ⟨a, b, _⟩
        refine hg ⟨fun h0 => ?_, b⟩
        have : sc.data.toList.length = sc.size := by rw [Array.length_toList]; rfl
        rw [h0] at this
        simp at this
        omega))
      have NU := Lib.hid (fun w => number_form sc w (by unfold maxLen; omega) hg)
      clear SC hg
      go_enter Tryz.func40, Tryz.ntmps40
      go_wp2_with fail
      refine (C1.out _ HM.out).mono ?_
      rintro e w1 ⟨b1, rfl, hB1⟩
      go_wp2_with fail
      refine (C2.out _ (HM.out.below hB1)).mono ?_
      rintro e w2 ⟨b2, rfl, hB2⟩
      have hB2' := hB1.trans (hB2.mono hB1.size)
      go_wp2_with fail
      refine (NU.out _).mono ?_
      rintro e w3 ⟨rfl, rfl⟩
      go_wp2_with fail
      refine bodyPost_ret (v := .tuple #[.int .i64 0, .iface 32 (.int .i64 2)]) (by simp [results, Tryz.results40, go_sem]) rfl ?_
      exact ⟨by rw [HE.out], hB2'⟩
  · have q := list_no h1
    unfold verL at q
    have HE := Lib.hid (show statV l = .tuple #[.int .i64 0, .iface 32 (.int .i64 28)] by rw [statV_no (by rw [statC_28 h1]; decide), statC_28 h1]; rfl)
    clear h1 SC
    go_enter Tryz.func40, Tryz.ntmps40
    go_wp2_with fail
    refine (C1.out _ HM.out).mono ?_
    rintro e w1 ⟨b1, rfl, hB1⟩
    go_wp2_with fail
    refine bodyPost_ret (v := .tuple #[.int .i64 0, .iface 32 (.int .i64 28)]) (by simp [results, Tryz.results40, go_sem]) rfl ?_
    exact ⟨by rw [HE.out], hB1⟩
end Go.Proofs.YtfmgfcddnnggeaaGreatDoor
