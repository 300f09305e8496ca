/- What the reference's Remove returns; what Are says of two lists; an append of one list of fields to another. -/
import Derived.Test.YtjcekkgoohkomaaDoorFWithout
import Derived.Test.YtjcekkgoohkomaaDoorRefAll
import Derived.Test.YtjcekkgoohkomaaDoorFSmall
import Derived.Test.YtjcekkgoohkomaaDoorFAreOnly
import Derived.Deep.QuietTactic
import Derived.BigQuiet
import Derived.BigFrame
namespace Go.Proofs.YtjcekkgoohkomaaDoor
open Go.RowKit

theorem own_made (w : World) (T : TypeId) : OwnsP T w.heap.size (w.alloc (.cells #[] T)) (.slice (some ⟨w.heap.size, 0, none⟩) 0 0) [] :=
  World.ownsRow_made w #[] 0 (Nat.le_refl _) (Nat.zero_le _) (by simp)
theorem own_app {T : TypeId} {B : Nat} {w : World} {v : Value} {ps qs : Flds} {n : Nat} (h : w.ownsRow B T 2 v n (flatP ps ++ flatP qs)) (hn : n = ps.length + qs.length) : OwnsP T B w v (ps ++ qs) := by
  unfold OwnsP
  have e : flatP (ps ++ qs) = flatP ps ++ flatP qs := by simp [flatP]
  rw [e, List.length_append, ← hn]; exact h

theorem Tryd.infoG : (Tryd.prog.info? 87).map (fun i => (i.zero, i.size, i.bytes)) = some (some (.agg #[.string ByteArray.empty, .string ByteArray.empty]), 2, 32) := by kernel_rfl
set_option maxHeartbeats 2000000 in
set_option maxRecDepth 100000 in
theorem refRemove_any (fv : Value) (ps : Flds) (n : List UInt8) (w : World) (hr : ReadsQ w fv ps) (hn : n.length ≤ 1000000000) (hl : ps.length ≤ 100000) (hb : ∀ p ∈ ps, p.1.length + p.2.length ≤ 1000000) :
    Calls Tryd.prog 68 #[fv, .string (strB n)] w fun e w' => ∃ v, e = .returned v ∧ OwnsP 87 w.heap.size w' v (remL ps n) ∧ Below w.heap.size w w' := by
  obtain ⟨i0, hi, hz0, hz1, hz2⟩ := info_parts Tryd.infoG
  obtain ⟨ao, cap, rfl, hc⟩ := hr
  have HC := Lib.hid hc
  have HBig := Lib.hid hb
  clear hc hb
  go_enter Tryd.func68, Tryd.ntmps68
  go_wp2_with fail
  go_loopw [5, 9] (fun v i wr => ∃ k : Nat, i = .int .i64 k ∧ k ≤ ps.length ∧ OwnsP 87 w.heap.size wr v (remL (ps.take k) n) ∧ Below w.heap.size w wr) (fun _ i _ => ps.length - (intOf i).toNat)
  case atStart => exact ⟨0, rfl, Nat.zero_le _, OwnsP.nil _ _ _, Below.refl _ _⟩
  case round =>
    obtain ⟨k, rfl, hk, hO, hBr⟩ := hrel
    have hbr := hBr.size
    have hal := rem_le ps n k
    by_cases hlt : k < ps.length
    · obtain ⟨p, hp⟩ : ∃ p, ps[k]? = some p := ⟨ps[k], by simp [hlt]⟩
      obtain ⟨g, off, rfl, hg1, h1, h2⟩ := HC.out k p hp
      have hc1 : wr.cell? ⟨g, off + k * 2, none⟩ = some (.string (strB p.1)) := (hBr.cell (p := ⟨g, off + k * 2, none⟩) hg1).trans h1
      have hc2 : wr.cell? ⟨g, off + k * 2 + 1, none⟩ = some (.string (strB p.2)) := (hBr.cell (p := ⟨g, off + k * 2 + 1, none⟩) hg1).trans h2
      have hgr : g < wr.heap.size := by omega
      have hpl := HBig.out p (List.mem_of_getElem? hp)
      have HP := Lib.hid hp
      have OF := fun w => of_any p.1 p.2 n w (by omega) hn
      clear hp h1 h2
      cases ho : ofN n p with
      | false =>
        have e : ofN n (p.1, p.2) = false := ho
        rw [e] at OF
        have HO := Lib.hid ho
        clear ho e
        go_wp2_with fail
        refine (OF _).mono ?_
        rintro e w2 ⟨rfl, hB2⟩
        have d1 := (hB2.cell (p := ⟨g, off + k * 2, none⟩) hgr).trans hc1
        have d2 := (hB2.cell (p := ⟨g, off + k * 2 + 1, none⟩) hgr).trans hc2
        have hs2 := hB2.size
        clear hc1 hc2 OF
        go_wp2_with (at_builtin; refine wpList_append_own _ rfl _ _ 58 rfl w.heap.size 87 i0 (.agg #[.string ByteArray.empty, .string ByteArray.empty]) 2 32 Tryd.underlying58 hi hz0 hz1 hz2 rfl (by decide) _ _ _ rfl (World.ownsRow.alloc (OwnsP.below hO hB2) _) ⟨w2.heap.size, 0, none⟩ 1 1 [strV p.1, strV p.2] rfl rfl (two_new w2 p.1 p.2 _) (fun u hu => by simp at hu; rcases hu with rfl | rfl <;> rfl) (by unfold maxLen; omega) (by omega) (by simp; omega) ?_; intro v' w4 hown' hgrow _)
        go_roundw
        case rel => exact ⟨k + 1, by go_num, by omega, by rw [rem_no HP.out HO.out]; exact OwnsP.snoc hown', below_appendP hBr hbr hB2 hO hgrow⟩
        case measure => simp [intOf]; omega
      | true =>
        have e : ofN n (p.1, p.2) = true := ho
        rw [e] at OF
        have HO := Lib.hid ho
        clear ho e
        go_wp2_with fail
        refine (OF _).mono ?_
        rintro e w2 ⟨rfl, hB2⟩
        go_wp2_with fail
        go_roundw
        case rel => exact ⟨k + 1, by go_num, by omega, by rw [rem_yes HP.out HO.out]; exact OwnsP.below hO hB2, hBr.trans (hB2.mono hbr)⟩
        case measure => simp [intOf]; omega
    · have htk : ps.take k = ps := List.take_of_length_le (by omega)
      rw [htk] at hO
      go_wp2_with fail
      go_ret
      exact ⟨_, rfl, hO, hBr⟩

end Go.Proofs.YtjcekkgoohkomaaDoor
