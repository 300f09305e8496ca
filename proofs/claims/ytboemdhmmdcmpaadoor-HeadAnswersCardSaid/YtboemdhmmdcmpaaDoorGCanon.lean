/- What the program's canonicalFields returns. -/
import Derived.Test.YtboemdhmmdcmpaaDoorGReason
import Derived.Test.YtboemdhmmdcmpaaDoorTwo
namespace Go.Proofs.YtboemdhmmdcmpaaDoor
open Go.RowKit

theorem errV_pos' {c : Nat} (h : c ≠ 0) : errV c = .iface 52 (.int .i64 c) := by unfold errV; rw [if_neg h]
def goodF (p : List UInt8 × List UInt8) : Prop := nameC p.1 = 0 ∧ valueC p.2 = 0 ∧ trimB p.2 = p.2
theorem goodF_iff (p : List UInt8 × List UInt8) : ((nmO p.1).isSome && decide (vlO p.2 = some p.2)) = true ↔ goodF p := by
  unfold goodF nmO vlO
  by_cases h1 : nameC p.1 = 0
  · by_cases h2 : valueC p.2 = 0
    · simp [h1, h2]
    · simp [h1, h2]
  · simp [h1]
def goodTo2 (fs : Fs) (k : Nat) : Prop := ∀ p ∈ fs.take k, goodF p
theorem goodTo2_0 (fs : Fs) : goodTo2 fs 0 := fun p h => by simp at h
theorem goodTo2_step {fs : Fs} {k : Nat} {p : List UInt8 × List UInt8} (h : goodTo2 fs k) (hp : fs[k]? = some p) (hg : goodF p) : goodTo2 fs (k + 1) := by
  intro q hq
  rw [take_more hp] at hq
  rcases List.mem_append.1 hq with hq | hq
  · exact h q hq
  · rw [List.mem_singleton] at hq; rw [hq]; exact hg
theorem goodTo2_end {fs : Fs} {k : Nat} (h : goodTo2 fs k) (hk : fs.length ≤ k) : goodB nmO vlO fs = true := by
  unfold goodTo2 at h
  rw [List.take_of_length_le hk] at h
  unfold goodB
  rw [List.all_eq_true]
  intro p hp
  exact (goodF_iff p).2 (h p hp)
theorem goodTo2_bad {fs : Fs} {k : Nat} {p : List UInt8 × List UInt8} (hp : fs[k]? = some p) (hg : ¬ goodF p) : goodB nmO vlO fs = false := by
  rw [Bool.eq_false_iff]
  intro h
  unfold goodB at h
  rw [List.all_eq_true] at h
  exact hg ((goodF_iff p).1 (h p (List.mem_of_getElem? hp)))
/-- What canonicalFields leaves. -/
def CanonPost (fs : Fs) (w : World) (e : Ending) (w' : World) : Prop :=
  ∃ v, e = .returned (.tuple #[v, errV (if goodB nmO vlO fs = true then 0 else 25)]) ∧ OwnsP 62 w.heap.size w' v (if goodB nmO vlO fs = true then fs.map low1 else []) ∧ Below w.heap.size w w'
theorem canon_err {fs : Fs} {w w' : World} (h : goodB nmO vlO fs = false) (hB : Below w.heap.size w w') : CanonPost fs w (.returned (.tuple #[.slice none 0 0, .iface 52 (.int .i64 25)])) w' :=
  ⟨.slice none 0 0, by rw [h]; rfl, by rw [h]; exact OwnsP.nil _ _ _, hB⟩
set_option maxHeartbeats 8000000 in
set_option maxRecDepth 100000 in
theorem canon_any (v : Value) (fs : Fs) (w : World) (hr : ReadsQ w v fs) (hl : fs.length ≤ 1000) (hb : ∀ p ∈ fs, p.1.length + p.2.length ≤ 1000000) :
    Calls Tryd.prog 34 #[v] w (CanonPost fs w) := by
  obtain ⟨i0, hi, hz0, hz1, hz2⟩ := info_parts Tryd.infoF
  obtain ⟨ao, cap, rfl, hc⟩ := hr
  have HC := Lib.hid hc
  have HBig := Lib.hid hb
  clear hc hb
  go_enter Tryd.func34, Tryd.ntmps34
  go_wp2_with fail
  go_loopw [4, 12] (fun u i wr => ∃ (k : Nat), i = .int .i64 k ∧ k ≤ fs.length ∧ goodTo2 fs k ∧ OwnsP 62 w.heap.size wr u ((fs.take k).map low1) ∧ Below w.heap.size w wr) (fun _ i _ => fs.length - (intOf i).toNat)
  case atStart => exact ⟨0, rfl, Nat.zero_le _, goodTo2_0 _, OwnsP.nil _ _ _, Below.refl _ _⟩
  case round =>
    obtain ⟨k, rfl, hk, hg, hO, hBr⟩ := hrel
    have hbr := hBr.size
    have HG := Lib.hid hg
    have hal : ((fs.take k).map low1).length ≤ k := by rw [List.length_map]; exact List.length_take_le _ _
    clear hg
    by_cases hlt : k < fs.length
    · obtain ⟨p, hp⟩ : ∃ p, fs[k]? = some p := ⟨fs[k], by simp [hlt]⟩
      obtain ⟨g, off, rfl, hg1, h1, h2⟩ := HC.out k p hp
      have hc1 : wr.cell? ⟨g, off + k * 2, none⟩ = some (.string (strB p.1)) := (hBr.cell (p := ⟨g, off + k * 2, none⟩) hg1).trans h1
      have hc2 : wr.cell? ⟨g, off + k * 2 + 1, none⟩ = some (.string (strB p.2)) := (hBr.cell (p := ⟨g, off + k * 2 + 1, none⟩) hg1).trans h2
      have hpl := HBig.out p (List.mem_of_getElem? hp)
      have N := Lib.hid (fun w => name_any (strB p.1) w (by rw [strB_size]; omega))
      have V := Lib.hid (fun w => value_any (strB p.2) w (by rw [strB_size]; omega))
      rw [strB_list] at N V
      have HP := Lib.hid hp
      clear hp h1 h2
      by_cases h5 : nameC p.1 = 0
      · rw [h5, show errV 0 = .nilIface from rfl] at N
        by_cases h6 : valueC p.2 = 0
        · rw [h6, show errV 0 = .nilIface from rfl] at V
          have hv : valueR p.2 = trimB p.2 := by unfold valueR; rw [if_pos h6]
          have hn : nameR p.1 = lowS p.1 := by unfold nameR; rw [if_pos h5]
          rw [hv] at V
          rw [hn] at N
          by_cases h7 : trimB p.2 = p.2
          · have q7 := toList_same h7
            have HS := Lib.hid (goodTo2_step HG.out HP.out ⟨h5, h6, h7⟩)
            have HT := Lib.hid (show (fs.take (k + 1)).map low1 = (fs.take k).map low1 ++ [(lowS p.1, trimB p.2)] by rw [take_more HP.out, List.map_append, h7]; rfl)
            clear h5 h6 h7 hv hn
            go_wp2_with fail
            refine (N.out _).mono ?_
            rintro e w2 ⟨rfl, hB⟩
            obtain ⟨b0, b1, bf0, bf1, bz⟩ := box_kept wr hB
            go_wp2_with fail
            refine (V.out _).mono ?_
            rintro e w3 ⟨rfl, hB3⟩
            have hB4 := hB.trans (hB3.mono hB.size)
            clear b0 b1 bf0 bf1 bz
            obtain ⟨d0, d1, df0, df1, dz⟩ := box_kept wr hB4
            have hB5 : Below wr.heap.size wr w3 := (below_new wr _).trans (hB4.mono (by simp))
            have hO2 := OwnsP.below hO hB5
            have hz5 := hB5.size
            go_wp2_with (at_builtin; go_must (refine wpList_append_own _ rfl _ _ 33 rfl w.heap.size 62 i0 (.agg #[.string ByteArray.empty, .string ByteArray.empty]) 2 32 Tryd.underlying33 hi hz0 hz1 hz2 rfl (by decide) _ _ _ rfl (World.ownsRow.alloc hO2 _) ⟨_, 0, none⟩ 1 1 [strV (lowS p.1), strV (trimB p.2)] rfl rfl (two_newG _ (lowS p.1) (trimB p.2) _) (fun u hu => by simp at hu; rcases hu with rfl | rfl <;> rfl) (by unfold maxLen; omega) (by omega) (by simp; omega) ?_); intro v' w6 hown' hgrow _)
            go_roundw
            case rel => exact ⟨k + 1, by go_num, by omega, HS.out, by rw [HT.out]; exact OwnsP.snoc (p := (lowS p.1, trimB p.2)) hown', below_appendP hBr hbr hB5 hO hgrow⟩
            case measure => simp [intOf]; omega
          · have q7 := toList_other h7
            have HE := Lib.hid (goodTo2_bad HP.out (fun h => h7 h.2.2))
            clear h5 h6 h7 hv hn
            go_wp2_with fail
            refine (N.out _).mono ?_
            rintro e w2 ⟨rfl, hB⟩
            obtain ⟨b0, b1, bf0, bf1, bz⟩ := box_kept wr hB
            go_wp2_with fail
            refine (V.out _).mono ?_
            rintro e w3 ⟨rfl, hB3⟩
            have hB4 := hB.trans (hB3.mono hB.size)
            clear b0 b1 bf0 bf1 bz
            obtain ⟨d0, d1, df0, df1, dz⟩ := box_kept wr hB4
            go_wp2_with fail
            go_ret2
            exact canon_err HE.out (hBr.trans (((below_new wr _).trans (hB4.mono (by simp))).mono hbr))
        · rw [errV_pos' h6] at V
          have HE := Lib.hid (goodTo2_bad HP.out (fun h => h6 h.2.1))
          clear h5 h6
          go_wp2_with fail
          refine (N.out _).mono ?_
          rintro e w2 ⟨rfl, hB⟩
          obtain ⟨b0, b1, bf0, bf1, bz⟩ := box_kept wr hB
          go_wp2_with fail
          refine (V.out _).mono ?_
          rintro e w3 ⟨rfl, hB3⟩
          have hB4 := hB.trans (hB3.mono hB.size)
          clear b0 b1 bf0 bf1 bz
          obtain ⟨d0, d1, df0, df1, dz⟩ := box_kept wr hB4
          go_wp2_with fail
          go_ret2
          exact canon_err HE.out (hBr.trans (((below_new wr _).trans (hB4.mono (by simp))).mono hbr))
      · rw [errV_pos' h5] at N
        have HE := Lib.hid (goodTo2_bad HP.out (fun h => h5 h.1))
        clear h5
        go_wp2_with fail
        refine (N.out _).mono ?_
        rintro e w2 ⟨rfl, hB⟩
        go_wp2_with fail
        go_ret2
        exact canon_err HE.out (hBr.trans (((below_new wr _).trans (hB.mono (by simp))).mono hbr))
    · have HE := Lib.hid (goodTo2_end HG.out (by omega))
      have HT := Lib.hid (show (fs.take k).map low1 = fs.map low1 by rw [List.take_of_length_le (by omega)])
      go_wp2_with fail
      go_ret2
      exact ⟨_, by rw [HE.out]; rfl, by rw [HE.out, ← HT.out]; exact hO, hBr⟩
end Go.Proofs.YtboemdhmmdcmpaaDoor
