/- What Evaluate and UseRange return. -/
import Derived.Test.YtkpeaghbacoehaaGreatDoorYJudge
namespace Go.Proofs.YtkpeaghbacoehaaGreatDoor
open Go.RowKit

def evalQ (o f mt r si : Bool) : Int := if o = true then 3 else if f = true then (if mt = true then (if r = true then 2 else 3) else 1) else if r = true ∧ si = true then 2 else 1
theorem evalL_Q (m : List UInt8) (ps : Flds) (s : StV) (du dm : Option Nat) :
    evalL m ps s du dm = evalQ (otherQ ps (knownS s) du) (fnd ps nIN) (mtQ (valF ps nIN) (knownS s) false) (decide (m = mGET) || decide (m = mHEAD)) (sinceQ (knownS s) dm) := by
  rw [otherQ_known, mtQ_known, sinceQ_known]; rfl
theorem meth_any (m x : List UInt8) : ((strB m).toList == x) = decide (m = x) := by
  rw [ByteArray.toList_eq, strB_list]
  by_cases h : m = x
  · subst h; simp
  · simp [h]
set_option maxHeartbeats 16000000 in
set_option maxRecDepth 100000 in
theorem evaluate_any (m : List UInt8) (fv : Value) (ps : Flds) (s : StV) (du dm : Option Nat) (w : World) (hr : ReadsQ w fv ps) (hf : FitY ps) (hdu : DateIs (valF ps nIU) du) (hdm : DateIs (valF ps nIS) dm) (hE : EnvY w) :
    Calls Tryz.prog 25 #[.string (strB m), fv, stV s] w fun e w' => e = .returned (.int .i64 (evalL m ps s du dm)) ∧ Below w.heap.size w w' := by
  have hW := below_new w (.cells (stC s) 61)
  have hvl := hf.val nIN
  have HO := Lib.hid (fun (w : World) (hr : ReadsQ w fv ps) (hE : EnvY w) => isOther_any fv ps (knownS s) du w hr hf hdu hE)
  have HU := Lib.hid (fun (w : World) (hr : ReadsQ w fv ps) (hE : EnvY w) => isUnmodified_any fv ps (knownS s) dm w hr hf hdm hE)
  have HG := Lib.hid (fun (w : World) (hr : ReadsQ w fv ps) => getY_any fv ps ⟨#[105, 102, 45, 110, 111, 110, 101, 45, 109, 97, 116, 99, 104]⟩ w hr hf (by decide))
  have HM := Lib.hid (fun (w : World) (hM : MaxIs w) => matches_any false (knownS s) (valF ps nIN) w hM (by omega))
  have HQ := Lib.hid (evalL_Q m ps s du dm)
  have HK := Lib.hid (fun (w : World) => known_any s w)
  have HE := Lib.hid hE
  have HR := Lib.hid hr
  have HS := Lib.hid (stB_new w s 61)
  have HW := Lib.hid hW
  have HGT := Lib.hid (meth_any m [71, 69, 84])
  have HHD := Lib.hid (meth_any m [72, 69, 65, 68])
  clear hr hf hdu hdm hE hW
  generalize evalL m ps s du dm = res at *
  have hgo : ∀ (o f mt g h si : Bool), otherQ ps (knownS s) du = o → fnd ps nIN = f → mtQ (valF ps nIN) (knownS s) false = mt → decide (m = mGET) = g → decide (m = mHEAD) = h → sinceQ (knownS s) dm = si →
      Calls Tryz.prog 25 #[.string (strB m), fv, stV s] w fun e w' => e = .returned (.int .i64 res) ∧ Below w.heap.size w w' := by
    intro o f mt g h si ho hf hmt hg hh hsi
    rw [ho, hf, hmt, hg, hh, hsi] at HQ
    rw [ho] at HO
    rw [hsi] at HU
    rw [hmt] at HM
    rw [show decide (m = [71, 69, 84]) = g from hg] at HGT
    rw [show decide (m = [72, 69, 65, 68]) = h from hh] at HHD
    have HG2 := Lib.hid (fun (w : World) (hr : ReadsQ w fv ps) => HG.out w hr)
    rw [show fnd ps (⟨#[105, 102, 45, 110, 111, 110, 101, 45, 109, 97, 116, 99, 104]⟩ : ByteArray).data.toList = f from hf] at HG2
    rw [show valF ps (⟨#[105, 102, 45, 110, 111, 110, 101, 45, 109, 97, 116, 99, 104]⟩ : ByteArray).data.toList = valF ps nIN from rfl] at HG2
    clear HG ho hf hmt hg hh hsi
    generalize valF ps nIN = z at *
    generalize knownS s = ks at *
    cases o
    · have hgh : g = true ∨ (g = false ∧ h = true) ∨ (g = false ∧ h = false) := by cases g <;> cases h <;> simp
      rcases hgh with rfl | ⟨rfl, rfl⟩ | ⟨rfl, rfl⟩
      all_goals
        have hGT := HGT.out
        have hHD := HHD.out
        go_enter Tryz.func25, Tryz.ntmps25
        go_wp2_with fail
        refine (HK.out _).mono ?_
        rintro e w1 ⟨rfl, hB1⟩
        have hS1 := HS.out.below hB1
        have HS1 := Lib.hid (hS1.set ks)
        have HW1 := Lib.hid (below_six (HW.out.trans (hB1.mono HW.out.size)) (Nat.le_refl _) (.bool ks.ex) (.bool ks.ht) (.bool ks.hm) (.bool ks.tag.1) (.string (strB ks.tag.2)) (.int .i64 ks.md))
        obtain ⟨c0, c1, c2, c3, c4, c5, fr, lt⟩ := hS1
        have f0 := fr 0
        have f1 := fr 1
        have f2 := fr 2
        have f3 := fr 3
        have f4 := fr 4
        have f5 := fr 5
        clear hB1 fr
        go_wp2_with fail
        refine (HO.out _ (HR.out.below HW1.out) (HE.out.below HW1.out)).mono ?_
        rintro e w2 ⟨rfl, hB2⟩
        have HS2 := Lib.hid (HS1.out.below hB2)
        have HW2 := Lib.hid (HW1.out.trans (hB2.mono HW1.out.size))
        clear hB2 c0 c1 c2 c3 c4 c5 f0 f1 f2 f3 f4 f5 lt
        go_wp2_with fail
        refine (HG2.out _ (HR.out.below HW2.out)).mono ?_
        rintro e w3 ⟨rfl, hB3⟩
        have HS3 := Lib.hid (HS2.out.below hB3)
        have HW3 := Lib.hid (HW2.out.trans (hB3.mono HW2.out.size))
        clear hB3
        cases f
        · cases si
          all_goals
            obtain ⟨c0, c1, c2, c3, c4, c5, fr, lt⟩ := HS3.out
            go_wp2_with fail
            first
            | (refine (HU.out _ (HR.out.below HW3.out) (HE.out.below HW3.out)).mono ?_
               rintro e w4 ⟨rfl, hB4⟩
               go_wp2_with fail
               go_ret
               exact ⟨by rw [HQ.out]; rfl, HW3.out.trans (hB4.mono HW3.out.size)⟩)
            | (go_ret
               exact ⟨by rw [HQ.out]; rfl, HW3.out⟩)
        · cases mt
          all_goals
            obtain ⟨c0, c1, c2, c3, c4, c5, fr, lt⟩ := HS3.out
            go_wp2_with fail
            refine (HM.out _ (HE.out.below HW3.out).1).mono ?_
            rintro e w4 ⟨rfl, hB4⟩
            go_wp2_with fail
            go_ret
            exact ⟨by rw [HQ.out]; rfl, HW3.out.trans (hB4.mono HW3.out.size)⟩
    · have HQ2 := Lib.hid (show res = 3 from HQ.out)
      go_enter Tryz.func25, Tryz.ntmps25
      go_wp2_with fail
      refine (HK.out _).mono ?_
      rintro e w1 ⟨rfl, hB1⟩
      have hS1 := HS.out.below hB1
      have HS1 := Lib.hid (hS1.set ks)
      have HW1 := Lib.hid (below_six (HW.out.trans (hB1.mono HW.out.size)) (Nat.le_refl _) (.bool ks.ex) (.bool ks.ht) (.bool ks.hm) (.bool ks.tag.1) (.string (strB ks.tag.2)) (.int .i64 ks.md))
      obtain ⟨c0, c1, c2, c3, c4, c5, fr, lt⟩ := hS1
      have f0 := fr 0
      have f1 := fr 1
      have f2 := fr 2
      have f3 := fr 3
      have f4 := fr 4
      have f5 := fr 5
      clear hB1 fr
      go_wp2_with fail
      refine (HO.out _ (HR.out.below HW1.out) (HE.out.below HW1.out)).mono ?_
      rintro e w2 ⟨rfl, hB2⟩
      go_wp2_with fail
      go_ret
      exact ⟨by rw [HQ2.out]; rfl, HW1.out.trans (hB2.mono HW1.out.size)⟩
  exact hgo _ _ _ _ _ _ rfl rfl rfl rfl rfl rfl
end Go.Proofs.YtkpeaghbacoehaaGreatDoor
