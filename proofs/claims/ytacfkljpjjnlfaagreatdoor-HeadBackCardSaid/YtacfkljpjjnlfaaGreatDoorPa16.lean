import Derived.Test.YtacfkljpjjnlfaaGreatDoorPa12
import Derived.Test.YtacfkljpjjnlfaaGreatDoorPa11
import Derived.Test.YtacfkljpjjnlfaaGreatDoorPa9
import Derived.Test.YtacfkljpjjnlfaaGreatDoorPa5
import Derived.Test.YtacfkljpjjnlfaaGreatDoorPa8
/- What the code's Size returns, for every list of fields. -/
namespace Go.Proofs.YtacfkljpjjnlfaaGreatDoor
open Go.RowKit

set_option maxHeartbeats 1000000 in
set_option maxRecDepth 100000 in
theorem size_any (fv : Value) (ps : Flds) (w : World) (hr : ReadsQ w fv ps) (hl : ps.length ≤ 1000) (hb : ∀ p ∈ ps, p.1.length + p.2.length ≤ 1000000) :
    Calls Tryz.prog 64 #[fv] w fun e w' => e = .returned (.int .i64 (sizL ps)) ∧ Below w.heap.size w w' := by
  obtain ⟨ao, cap, rfl, hc⟩ := hr
  have hs : ∀ k, sizL (ps.take k) ≤ k * 1000004 := by
    intro k
    induction k with
    | zero => simp [sizL]
    | succ k ih =>
      cases hp : ps[k]? with
      | none =>
        have e : ps.take (k + 1) = ps.take k := by rw [List.take_add_one, hp]; simp
        rw [e]; exact Nat.le_trans ih (Nat.mul_le_mul_right _ (Nat.le_succ k))
      | some p =>
        rw [siz_more hp]
        have := hb p (List.mem_of_getElem? hp)
        omega
  have HC := Lib.hid hc
  have HBig := Lib.hid hb
  have HS := Lib.hid hs
  clear hc hb hs
  go_enter Tryz.func64, Tryz.ntmps64
  go_wp2_with fail
  go_loopw [3, 8] (fun v i wr => ∃ k : Nat, i = .int .i64 k ∧ k ≤ ps.length ∧ v = .int .i64 (sizL (ps.take k)) ∧ Below w.heap.size w wr) (fun _ i _ => ps.length - (intOf i).toNat)
  case atStart => exact ⟨0, rfl, Nat.zero_le _, rfl, Below.refl _ _⟩
  case round =>
    obtain ⟨k, rfl, hk, rfl, hBr⟩ := hrel
    have hbr := hBr.size
    have hsk := HS.out k
    by_cases hlt : k < ps.length
    · obtain ⟨p, hp⟩ : ∃ p, ps[k]? = some p := ⟨ps[k], by simp [hlt]⟩
      obtain ⟨g, off, rfl, hg1, h1, h2⟩ := HC.out k p hp
      have hc1 : wr.cell? ⟨g, off + k * 2, none⟩ = some (.string (strB p.1)) := (hBr.cell (p := ⟨g, off + k * 2, none⟩) hg1).trans h1
      have hc2 : wr.cell? ⟨g, off + k * 2 + 1, none⟩ = some (.string (strB p.2)) := (hBr.cell (p := ⟨g, off + k * 2 + 1, none⟩) hg1).trans h2
      have hpl := HBig.out p (List.mem_of_getElem? hp)
      have e1 : (strB p.1).size = p.1.length := strB_size _
      have e2 : (strB p.2).size = p.2.length := strB_size _
      have hm := siz_more hp
      have HM := Lib.hid hm
      clear hp h1 h2 hm
      go_wp2
      go_roundw
      case rel => exact ⟨k + 1, by go_num, by omega, by rw [HM.out]; congr 1, hBr.alloc hbr _⟩
      case measure => simp [intOf]; omega
    · have htk : ps.take k = ps := List.take_of_length_le (by omega)
      rw [htk]
      go_wp2_with fail
      go_ret
      exact ⟨rfl, hBr⟩

end Go.Proofs.YtacfkljpjjnlfaaGreatDoor

/- What the program's Reason, isStatus, checkSize and canonicalFields return. -/
namespace Go.Proofs.YtacfkljpjjnlfaaGreatDoor
open Go.RowKit

def phZ (l : List (Nat × List UInt8)) (z : Int) : List UInt8 := ((l.find? fun p => decide ((p.1 : Int) = z)).map (·.2)).getD []
theorem phZ_nat (l : List (Nat × List UInt8)) (n : Nat) : phZ l (n : Int) = ((l.find? fun p => decide (p.1 = n)).map (·.2)).getD [] := by
  unfold phZ
  have : (fun p : Nat × List UInt8 => decide ((p.1 : Int) = (n : Int))) = fun p => decide (p.1 = n) := by
    funext p; rw [decide_eq_decide]; omega
  rw [this]
theorem phZ_skip {k : Nat} {t : List UInt8} {l : List (Nat × List UInt8)} {z : Int} (h : ¬ z = (k : Int)) : phZ ((k, t) :: l) z = phZ l z := by
  unfold phZ; rw [List.find?_cons_of_neg (by simp; omega)]
theorem phZ_hit {k : Nat} {t : List UInt8} {l : List (Nat × List UInt8)} {z : Int} (h : z = (k : Int)) : phZ ((k, t) :: l) z = t := by
  unfold phZ; rw [List.find?_cons_of_pos (by simp; omega)]; rfl
def reasonZ (z : Int) : List UInt8 := phZ phrases z
theorem reasonZ_nat (n : Nat) : reasonZ (n : Int) = reasonL n := by unfold reasonZ; rw [phZ_nat]; rfl
theorem reasonZ_neg {z : Int} (h : z < 100 ∨ 599 < z) : reasonZ z = [] := by
  unfold reasonZ phZ
  have : phrases.find? (fun p => decide ((p.1 : Int) = z)) = none := by
    rw [List.find?_eq_none]
    intro p hp
    have hb : (phrases.all fun p => decide (100 ≤ p.1) && decide (p.1 ≤ 599)) = true := by decide +kernel
    have := List.all_eq_true.1 hb p hp
    simp at this
    simp; omega
  rw [this]; rfl
theorem reason_len_tab : (phrases.all fun p => decide (p.2.length ≤ 31)) = true := by decide +kernel
theorem reasonZ_len (z : Int) : (reasonZ z).length ≤ 31 := by
  unfold reasonZ phZ
  cases h : phrases.find? fun p => decide ((p.1 : Int) = z) with
  | none => simp
  | some p =>
    have := List.all_eq_true.1 reason_len_tab p (List.mem_of_find?_eq_some h)
    simpa using this
theorem str_lit {l : List UInt8} (s : ByteArray) (h : s = strB l) : Ending.returned (.string s) = .returned (.string (strB l)) := by rw [h]
set_option maxHeartbeats 8000000 in
set_option maxRecDepth 100000 in
theorem errorReason_any (z : Int) (w : World) :
    Calls Tryz.prog 71 #[.int .i64 z] w fun e w' => e = .returned (.string (strB (phZ (phrases.drop 15) z))) ∧ w = w' := by
  go_enter Tryz.func71, Tryz.ntmps71
  go_wp2
  all_goals
    go_ret
    refine ⟨str_lit _ ?_, rfl⟩
    unfold phrases
    simp only [List.drop_succ_cons, List.drop_zero]
    simp only [beq_iff_eq, beq_eq_false_iff_ne, ne_eq] at *
    repeat (first | (rw [phZ_hit (by omega)]; rfl) | rw [phZ_skip (by omega)])
    try rfl
set_option maxHeartbeats 8000000 in
set_option maxRecDepth 100000 in
theorem reason_any (z : Int) (w : World) :
    Calls Tryz.prog 42 #[.int .i64 z] w fun e w' => e = .returned (.string (strB (reasonZ z))) ∧ w = w' := by
  go_enter Tryz.func42, Tryz.ntmps42
  go_wp2_with (go_at_call 71; refine (errorReason_any _ _).mono ?_; rintro e w' ⟨rfl, rfl⟩)
  all_goals
    go_ret
    refine ⟨str_lit _ ?_, rfl⟩
    simp only [beq_iff_eq, beq_eq_false_iff_ne, ne_eq] at *
    unfold reasonZ
    first
    | (unfold phrases
       repeat (first | (rw [phZ_hit (by omega)]; rfl) | rw [phZ_skip (by omega)])
       done)
    | (congr 1
       unfold phrases
       simp only [List.drop_succ_cons, List.drop_zero]
       symm
       iterate 15 (rw [phZ_skip (by omega)]))
def stB (z : Int) : Bool := decide (100 ≤ z) && decide (z ≤ 599)
set_option maxHeartbeats 400000 in
theorem isStatus_any (z : Int) (w : World) :
    Calls Tryz.prog 43 #[.int .i64 z] w fun e w' => e = .returned (.bool (stB z)) ∧ w = w' := by
  go_enter Tryz.func43, Tryz.ntmps43
  by_cases h : 100 ≤ z
  all_goals
    go_wp2
    go_ret
    refine ⟨ret_bool ?_, rfl⟩
    rw [Bool.eq_iff_iff]
    simp [stB]
    try omega
/-- The number of the error of a head's size. -/
def sizeC (n : Nat) (fs : Fs) : Nat := if 64 < fs.length ∨ 8192 < n + 4 + sizL fs then 5 else 0
theorem sizL_le {fs : Fs} {M : Nat} (hb : ∀ p ∈ fs, p.1.length + p.2.length ≤ M) : sizL fs ≤ fs.length * (M + 4) := by
  induction fs with
  | nil => simp [sizL]
  | cons p r ih =>
    have h1 := hb p (by simp)
    have h2 := ih fun q hq => hb q (by simp [hq])
    have e : sizL (p :: r) = p.1.length + p.2.length + 4 + sizL r := rfl
    rw [e, List.length_cons, Nat.succ_mul]; omega
set_option maxHeartbeats 1000000 in
set_option maxRecDepth 100000 in
theorem checkSize_any (n : Nat) (fv : Value) (fs : Fs) (w : World) (hr : ReadsQ w fv fs) (hn : n ≤ 1000000000) (hl : fs.length ≤ 1000) (hb : ∀ p ∈ fs, p.1.length + p.2.length ≤ 1000000) :
    Calls Tryz.prog 36 #[.int .i64 (n : Int), fv] w fun e w' => e = .returned (errV (sizeC n fs)) ∧ Below w.heap.size w w' := by
  have S := size_any fv fs w hr hl hb
  have hsl : sizL fs ≤ 2000000000 := by
    have := sizL_le hb
    have h2 : fs.length * (1000000 + 4) ≤ 1000 * (1000000 + 4) := Nat.mul_le_mul_right _ hl
    omega
  have HB := Lib.hid hb
  obtain ⟨ao, cap, rfl, hc⟩ := hr
  clear hc hb
  by_cases h1 : 64 < fs.length
  · have HE := Lib.hid (show sizeC n fs = 5 by unfold sizeC; rw [if_pos (.inl h1)])
    go_enter Tryz.func36, Tryz.ntmps36
    go_wp2_with fail
    go_ret
    exact ⟨by rw [HE.out]; rfl, Below.refl _ _⟩
  · have h1' : fs.length ≤ 64 := by omega
    by_cases h2 : 8192 < n + 4 + sizL fs
    · have HE := Lib.hid (show sizeC n fs = 5 by unfold sizeC; rw [if_pos (.inr h2)])
      generalize sizL fs = z at *
      go_enter Tryz.func36, Tryz.ntmps36
      go_wp2_with fail
      refine S.mono ?_
      rintro e w1 ⟨rfl, hB⟩
      go_wp2_with fail
      all_goals first | omega | (go_ret; exact ⟨by rw [HE.out]; rfl, hB⟩)
    · have HE := Lib.hid (show sizeC n fs = 0 by unfold sizeC; rw [if_neg (by omega)])
      generalize sizL fs = z at *
      go_enter Tryz.func36, Tryz.ntmps36
      go_wp2_with fail
      refine S.mono ?_
      rintro e w1 ⟨rfl, hB⟩
      go_wp2_with fail
      all_goals first | omega | (go_ret; exact ⟨by rw [HE.out]; rfl, hB⟩)
end Go.Proofs.YtacfkljpjjnlfaaGreatDoor

/- What the program's canonicalFields returns. -/
namespace Go.Proofs.YtacfkljpjjnlfaaGreatDoor
open Go.RowKit

theorem errV_pos' {c : Nat} (h : c ≠ 0) : errV c = .iface 64 (.int .i64 c) := by unfold errV; rw [if_neg h]
def goodF (p : List UInt8 × List UInt8) : Prop := nameC p.1 = 0 ∧ valueC p.2 = 0 ∧ trimB p.2 = p.2
theorem goodF_iff (p : List UInt8 × List UInt8) : ((nmO p.1).isSome && decide (vlO p.2 = some p.2)) = true ↔ goodF p := by
  unfold goodF nmO vlO
  by_cases h1 : nameC p.1 = 0
  · by_cases h2 : valueC p.2 = 0
    · simp [h1, h2]
    · simp [h1, h2]
  · simp [h1]
def goodTo2 (fs : Fs) (k : Nat) : Prop := ∀ p ∈ fs.take k, goodF p
theorem goodTo2_0 (fs : Fs) : goodTo2 fs 0 := fun p h => by simp at h
theorem goodTo2_step {fs : Fs} {k : Nat} {p : List UInt8 × List UInt8} (h : goodTo2 fs k) (hp : fs[k]? = some p) (hg : goodF p) : goodTo2 fs (k + 1) := by
  intro q hq
  rw [take_more hp] at hq
  rcases List.mem_append.1 hq with hq | hq
  · exact h q hq
  · rw [List.mem_singleton] at hq; rw [hq]; exact hg
theorem goodTo2_end {fs : Fs} {k : Nat} (h : goodTo2 fs k) (hk : fs.length ≤ k) : goodB nmO vlO fs = true := by
  unfold goodTo2 at h
  rw [List.take_of_length_le hk] at h
  unfold goodB
  rw [List.all_eq_true]
  intro p hp
  exact (goodF_iff p).2 (h p hp)
theorem goodTo2_bad {fs : Fs} {k : Nat} {p : List UInt8 × List UInt8} (hp : fs[k]? = some p) (hg : ¬ goodF p) : goodB nmO vlO fs = false := by
  rw [Bool.eq_false_iff]
  intro h
  unfold goodB at h
  rw [List.all_eq_true] at h
  exact hg ((goodF_iff p).1 (h p (List.mem_of_getElem? hp)))
/-- What canonicalFields leaves. -/
def CanonPost (fs : Fs) (w : World) (e : Ending) (w' : World) : Prop :=
  ∃ v, e = .returned (.tuple #[v, errV (if goodB nmO vlO fs = true then 0 else 25)]) ∧ OwnsP 91 w.heap.size w' v (if goodB nmO vlO fs = true then fs.map low1 else []) ∧ Below w.heap.size w w'
theorem canon_err {fs : Fs} {w w' : World} (h : goodB nmO vlO fs = false) (hB : Below w.heap.size w w') : CanonPost fs w (.returned (.tuple #[.slice none 0 0, .iface 64 (.int .i64 25)])) w' :=
  ⟨.slice none 0 0, by rw [h]; rfl, by rw [h]; exact OwnsP.nil _ _ _, hB⟩
set_option maxHeartbeats 8000000 in
set_option maxRecDepth 100000 in
theorem canon_any (v : Value) (fs : Fs) (w : World) (hr : ReadsQ w v fs) (hl : fs.length ≤ 1000) (hb : ∀ p ∈ fs, p.1.length + p.2.length ≤ 1000000) :
    Calls Tryz.prog 38 #[v] w (CanonPost fs w) := by
  obtain ⟨i0, hi, hz0, hz1, hz2⟩ := info_parts Tryz.infoF
  obtain ⟨ao, cap, rfl, hc⟩ := hr
  have HC := Lib.hid hc
  have HBig := Lib.hid hb
  clear hc hb
  go_enter Tryz.func38, Tryz.ntmps38
  go_wp2_with fail
  go_loopw [4, 12] (fun u i wr => ∃ (k : Nat), i = .int .i64 k ∧ k ≤ fs.length ∧ goodTo2 fs k ∧ OwnsP 91 w.heap.size wr u ((fs.take k).map low1) ∧ Below w.heap.size w wr) (fun _ i _ => fs.length - (intOf i).toNat)
  case atStart => exact ⟨0, rfl, Nat.zero_le _, goodTo2_0 _, OwnsP.nil _ _ _, Below.refl _ _⟩
  case round =>
    obtain ⟨k, rfl, hk, hg, hO, hBr⟩ := hrel
    have hbr := hBr.size
    have HG := Lib.hid hg
    have hal : ((fs.take k).map low1).length ≤ k := by rw [List.length_map]; exact List.length_take_le _ _
    clear hg
    by_cases hlt : k < fs.length
    · obtain ⟨p, hp⟩ : ∃ p, fs[k]? = some p := ⟨fs[k], by simp [hlt]⟩
      obtain ⟨g, off, rfl, hg1, h1, h2⟩ := HC.out k p hp
      have hc1 : wr.cell? ⟨g, off + k * 2, none⟩ = some (.string (strB p.1)) := (hBr.cell (p := ⟨g, off + k * 2, none⟩) hg1).trans h1
      have hc2 : wr.cell? ⟨g, off + k * 2 + 1, none⟩ = some (.string (strB p.2)) := (hBr.cell (p := ⟨g, off + k * 2 + 1, none⟩) hg1).trans h2
      have hpl := HBig.out p (List.mem_of_getElem? hp)
      have N := Lib.hid (fun w => name_any (strB p.1) w (by rw [strB_size]; omega))
      have V := Lib.hid (fun w => value_any (strB p.2) w (by rw [strB_size]; omega))
      rw [strB_list] at N V
      have HP := Lib.hid hp
      clear hp h1 h2
      by_cases h5 : nameC p.1 = 0
      · rw [h5, show errV 0 = .nilIface from rfl] at N
        by_cases h6 : valueC p.2 = 0
        · rw [h6, show errV 0 = .nilIface from rfl] at V
          have hv : valueR p.2 = trimB p.2 := by unfold valueR; rw [if_pos h6]
          have hn : nameR p.1 = lowS p.1 := by unfold nameR; rw [if_pos h5]
          rw [hv] at V
          rw [hn] at N
          by_cases h7 : trimB p.2 = p.2
          · have q7 := toList_same h7
            have HS := Lib.hid (goodTo2_step HG.out HP.out ⟨h5, h6, h7⟩)
            have HT := Lib.hid (show (fs.take (k + 1)).map low1 = (fs.take k).map low1 ++ [(lowS p.1, trimB p.2)] by rw [take_more HP.out, List.map_append, h7]; rfl)
            clear h5 h6 h7 hv hn
            go_wp2_with fail
            refine (N.out _).mono ?_
            rintro e w2 ⟨rfl, hB⟩
            obtain ⟨b0, b1, bf0, bf1, bz⟩ := box_kept wr hB
            go_wp2_with fail
            refine (V.out _).mono ?_
            rintro e w3 ⟨rfl, hB3⟩
            have hB4 := hB.trans (hB3.mono hB.size)
            clear b0 b1 bf0 bf1 bz
            obtain ⟨d0, d1, df0, df1, dz⟩ := box_kept wr hB4
            have hB5 : Below wr.heap.size wr w3 := (below_new wr _).trans (hB4.mono (by simp))
            have hO2 := OwnsP.below hO hB5
            have hz5 := hB5.size
            go_wp2_with (at_builtin; go_must (refine wpList_append_own _ rfl _ _ 25 rfl w.heap.size 91 i0 (.agg #[.string ByteArray.empty, .string ByteArray.empty]) 2 32 Tryz.underlying25 hi hz0 hz1 hz2 rfl (by decide) _ _ _ rfl (World.ownsRow.alloc hO2 _) ⟨_, 0, none⟩ 1 1 [strV (lowS p.1), strV (trimB p.2)] rfl rfl (two_newG _ (lowS p.1) (trimB p.2) _) (fun u hu => by simp at hu; rcases hu with rfl | rfl <;> rfl) (by unfold maxLen; omega) (by omega) (by simp; omega) ?_); intro v' w6 hown' hgrow _)
            go_roundw
            case rel => exact ⟨k + 1, by go_num, by omega, HS.out, by rw [HT.out]; exact OwnsP.snoc (p := (lowS p.1, trimB p.2)) hown', below_appendP hBr hbr hB5 hO hgrow⟩
            case measure => simp [intOf]; omega
          · have q7 := toList_other h7
            have HE := Lib.hid (goodTo2_bad HP.out (fun h => h7 h.2.2))
            clear h5 h6 h7 hv hn
            go_wp2_with fail
            refine (N.out _).mono ?_
            rintro e w2 ⟨rfl, hB⟩
            obtain ⟨b0, b1, bf0, bf1, bz⟩ := box_kept wr hB
            go_wp2_with fail
            refine (V.out _).mono ?_
            rintro e w3 ⟨rfl, hB3⟩
            have hB4 := hB.trans (hB3.mono hB.size)
            clear b0 b1 bf0 bf1 bz
            obtain ⟨d0, d1, df0, df1, dz⟩ := box_kept wr hB4
            go_wp2_with fail
            go_ret2
            exact canon_err HE.out (hBr.trans (((below_new wr _).trans (hB4.mono (by simp))).mono hbr))
        · rw [errV_pos' h6] at V
          have HE := Lib.hid (goodTo2_bad HP.out (fun h => h6 h.2.1))
          clear h5 h6
          go_wp2_with fail
          refine (N.out _).mono ?_
          rintro e w2 ⟨rfl, hB⟩
          obtain ⟨b0, b1, bf0, bf1, bz⟩ := box_kept wr hB
          go_wp2_with fail
          refine (V.out _).mono ?_
          rintro e w3 ⟨rfl, hB3⟩
          have hB4 := hB.trans (hB3.mono hB.size)
          clear b0 b1 bf0 bf1 bz
          obtain ⟨d0, d1, df0, df1, dz⟩ := box_kept wr hB4
          go_wp2_with fail
          go_ret2
          exact canon_err HE.out (hBr.trans (((below_new wr _).trans (hB4.mono (by simp))).mono hbr))
      · rw [errV_pos' h5] at N
        have HE := Lib.hid (goodTo2_bad HP.out (fun h => h5 h.1))
        clear h5
        go_wp2_with fail
        refine (N.out _).mono ?_
        rintro e w2 ⟨rfl, hB⟩
        go_wp2_with fail
        go_ret2
        exact canon_err HE.out (hBr.trans (((below_new wr _).trans (hB.mono (by simp))).mono hbr))
    · have HE := Lib.hid (goodTo2_end HG.out (by omega))
      have HT := Lib.hid (show (fs.take k).map low1 = fs.map low1 by rw [List.take_of_length_le (by omega)])
      go_wp2_with fail
      go_ret2
      exact ⟨_, by rw [HE.out]; rfl, by rw [HE.out, ← HT.out]; exact hO, hBr⟩
end Go.Proofs.YtacfkljpjjnlfaaGreatDoor
