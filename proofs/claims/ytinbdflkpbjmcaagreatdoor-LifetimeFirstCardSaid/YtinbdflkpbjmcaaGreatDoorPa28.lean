import Derived.Test.YtinbdflkpbjmcaaGreatDoorPa27
import Derived.Test.YtinbdflkpbjmcaaGreatDoorPa26
import Derived.Test.YtinbdflkpbjmcaaGreatDoorPa19
import Derived.Deep.QuietTactic
import Derived.BigQuiet
import Derived.BigFrame
import Derived.Test.YtinbdflkpbjmcaaGreatDoorPa17
/- What the reference's Remove returns; what Are says of two lists; an append of one list of fields to another. -/
namespace Go.Proofs.YtinbdflkpbjmcaaGreatDoor
open Go.RowKit

theorem own_made (w : World) (T : TypeId) : OwnsP T w.heap.size (w.alloc (.cells #[] T)) (.slice (some ⟨w.heap.size, 0, none⟩) 0 0) [] :=
  World.ownsRow_made w #[] 0 (Nat.le_refl _) (Nat.zero_le _) (by simp)
theorem own_app {T : TypeId} {B : Nat} {w : World} {v : Value} {ps qs : Flds} {n : Nat} (h : w.ownsRow B T 2 v n (flatP ps ++ flatP qs)) (hn : n = ps.length + qs.length) : OwnsP T B w v (ps ++ qs) := by
  unfold OwnsP
  have e : flatP (ps ++ qs) = flatP ps ++ flatP qs := by simp [flatP]
  rw [e, List.length_append, ← hn]; exact h

theorem Tryz.infoG : (Tryz.prog.info? 58).map (fun i => (i.zero, i.size, i.bytes)) = some (some (.agg #[.string ByteArray.empty, .string ByteArray.empty]), 2, 32) := by kernel_rfl
end Go.Proofs.YtinbdflkpbjmcaaGreatDoor

/- What the code's Set returns, for every list of fields. -/
namespace Go.Proofs.YtinbdflkpbjmcaaGreatDoor
open Go.RowKit

set_option maxHeartbeats 4000000 in
set_option maxRecDepth 100000 in
theorem set_any (fv : Value) (ps : Flds) (n val : List UInt8) (w : World) (hr : ReadsQ w fv ps) (hn : n.length ≤ 1000000000) (_ : val.length ≤ 1000000000) (hl : ps.length ≤ 1000) (hb : ∀ p ∈ ps, p.1.length + p.2.length ≤ 1000000) :
    Calls Tryz.prog 27 #[fv, .string (strB n), .string (strB val)] w fun e w' => ∃ v, e = .returned v ∧ OwnsP 59 w.heap.size w' v (setL ps n val) ∧ Below w.heap.size w w' := by
  obtain ⟨i0, hi, hz0, hz1, hz2⟩ := info_parts Tryz.infoF
  obtain ⟨ao, cap, rfl, hc⟩ := hr
  have HC := Lib.hid hc
  have HBig := Lib.hid hb
  clear hc hb
  have zn : (strB n).size ≤ 1000000000 := by rw [strB_size]; exact hn
  go_enter Tryz.func27, Tryz.ntmps27
  go_wp2_with fail
  refine (lower_any (strB n) _ zn).mono ?_
  rintro e w1 ⟨rfl, hB⟩
  rw [strB_list]
  have hz1' := hB.size
  go_wp2_with fail
  go_loopw [7, 8, 15] (fun v f i wr => ∃ (k : Nat) (fb : Bool), i = .int .i64 k ∧ k ≤ ps.length ∧ f = .bool fb ∧ (ps.take k).any (ofN n) = fb ∧ OwnsP 59 w1.heap.size wr v (setK ps n val k) ∧ Below w1.heap.size w1 wr) (fun _ _ i _ => ps.length - (intOf i).toNat)
  case atStart => exact ⟨0, false, rfl, Nat.zero_le _, rfl, rfl, by rw [setK0]; exact OwnsP.nil _ _ _, Below.refl _ _⟩
  case round =>
    obtain ⟨k, fb, rfl, hk, rfl, hfb, hO, hBr⟩ := hrel
    have hbr := hBr.size
    have hsl := setK_len ps n val k
    have HF := Lib.hid hfb
    clear hfb
    by_cases hlt : k < ps.length
    · obtain ⟨p, hp⟩ : ∃ p, ps[k]? = some p := ⟨ps[k], by simp [hlt]⟩
      obtain ⟨g, off, rfl, hg1, h1, h2⟩ := HC.out k p hp
      have hc1 : wr.cell? ⟨g, off + k * 2, none⟩ = some (.string (strB p.1)) := (hBr.cell (p := ⟨g, off + k * 2, none⟩) (by show g < _; omega)).trans ((hB.cell (p := ⟨g, off + k * 2, none⟩) hg1).trans h1)
      have hc2 : wr.cell? ⟨g, off + k * 2 + 1, none⟩ = some (.string (strB p.2)) := (hBr.cell (p := ⟨g, off + k * 2 + 1, none⟩) (by show g < _; omega)).trans ((hB.cell (p := ⟨g, off + k * 2 + 1, none⟩) hg1).trans h2)
      have hpl := HBig.out p (List.mem_of_getElem? hp)
      have HP := Lib.hid hp
      clear hp h1 h2
      cases ho : ofN n p with
      | false =>
        have heq := toList_other (of_decide_eq_false ho)
        have HO := Lib.hid ho
        clear ho
        go_wp2_with fail
        refine (lowerName_any p.1 p.2 _ (by omega)).mono ?_
        rintro e w2 ⟨rfl, hB2⟩
        obtain ⟨d1, d2⟩ := pair_kept hB2
        have hB2' := below_pair' hB2
        have hs2 := hB2'.size
        clear hB2
        go_wp2_with (at_builtin; refine wpList_append_own _ rfl _ _ 26 rfl w1.heap.size 59 i0 (.agg #[.string ByteArray.empty, .string ByteArray.empty]) 2 32 Tryz.underlying26 hi hz0 hz1 hz2 rfl (by decide) _ _ _ rfl (World.ownsRow.alloc (OwnsP.below hO hB2') _) ⟨w2.heap.size, 0, none⟩ 1 1 [strV p.1, strV p.2] rfl rfl (two_new w2 p.1 p.2 _) (fun u hu => by simp at hu; rcases hu with rfl | rfl <;> rfl) (by unfold maxLen; omega) (by omega) (by simp; omega) ?_; intro v' w4 hown' hgrow _)
        go_roundw
        case rel => exact ⟨k + 1, fb, by go_num, by omega, rfl, by rw [any_more HP.out, HF.out, HO.out, Bool.or_false], by rw [setK_other HP.out HO.out]; exact OwnsP.snoc hown', below_appendP hBr hbr hB2' hO hgrow⟩
        case measure => simp [intOf]; omega
      | true =>
        have heq := toList_same (of_decide_eq_true ho)
        have HO := Lib.hid ho
        clear ho
        cases fb with
        | false =>
          go_wp2_with fail
          refine (lowerName_any p.1 p.2 _ (by omega)).mono ?_
          rintro e w2 ⟨rfl, hB2⟩
          have hB2' := below_pair' hB2
          have hs2 := hB2'.size
          clear hB2
          go_wp2_with (at_builtin; refine wpList_append_own _ rfl _ _ 26 rfl w1.heap.size 59 i0 (.agg #[.string ByteArray.empty, .string ByteArray.empty]) 2 32 Tryz.underlying26 hi hz0 hz1 hz2 rfl (by decide) _ _ _ rfl (World.ownsRow.alloc (OwnsP.below hO hB2') _) ⟨w2.heap.size, 0, none⟩ 1 1 [strV (lowS n), strV val] rfl rfl (two_new w2 (lowS n) val _) (fun u hu => by simp at hu; rcases hu with rfl | rfl <;> rfl) (by unfold maxLen; omega) (by omega) (by simp; omega) ?_; intro v' w4 hown' hgrow _)
          go_roundw
          case rel => exact ⟨k + 1, true, by go_num, by omega, rfl, by rw [any_more HP.out, HO.out, Bool.or_true], by rw [setK_first HP.out HO.out HF.out]; exact OwnsP.snoc (p := (lowS n, val)) hown', below_appendP hBr hbr hB2' hO hgrow⟩
          case measure => simp [intOf]; omega
        | true =>
          go_wp2_with fail
          refine (lowerName_any p.1 p.2 _ (by omega)).mono ?_
          rintro e w2 ⟨rfl, hB2⟩
          have hB2' := below_pair' hB2
          have hs2 := hB2'.size
          clear hB2
          go_wp2_with fail
          go_roundw
          case rel => exact ⟨k + 1, true, by go_num, by omega, rfl, by rw [any_more HP.out, HO.out, Bool.or_true], by rw [setK_again HP.out HO.out HF.out]; exact OwnsP.below hO hB2', hBr.trans (hB2'.mono hbr)⟩
          case measure => simp [intOf]; omega
    · cases fb with
      | true =>
        have he := setK_end (v := val) (by omega : ps.length ≤ k) HF.out
        rw [he] at hO
        go_wp2_with fail
        go_ret
        exact ⟨_, rfl, OwnsP.mono hz1' hO, hB.trans (hBr.mono hz1')⟩
      | false =>
        have he := setK_end' (v := val) (by omega : ps.length ≤ k) HF.out
        have HE := Lib.hid he
        clear he
        go_wp2_with (at_builtin; refine wpList_append_own _ rfl _ _ 26 rfl w1.heap.size 59 i0 (.agg #[.string ByteArray.empty, .string ByteArray.empty]) 2 32 Tryz.underlying26 hi hz0 hz1 hz2 rfl (by decide) _ _ _ rfl (World.ownsRow.alloc hO _) ⟨wr.heap.size, 0, none⟩ 1 1 [strV (lowS n), strV val] rfl rfl (two_new wr (lowS n) val _) (fun u hu => by simp at hu; rcases hu with rfl | rfl <;> rfl) (by unfold maxLen; omega) (by omega) (by simp; omega) ?_; intro v' w4 hown' hgrow _)
        go_ret
        refine ⟨v', rfl, ?_, hB.trans ((below_appendP hBr hbr (Below.refl _ _) hO hgrow).mono hz1')⟩
        have := OwnsP.snoc (p := (lowS n, val)) hown'
        rw [HE.out] at this
        exact OwnsP.mono hz1' this
end Go.Proofs.YtinbdflkpbjmcaaGreatDoor

/- What the code's Set and Remove return, for every list of fields. -/
namespace Go.Proofs.YtinbdflkpbjmcaaGreatDoor
open Go.RowKit

set_option maxHeartbeats 1000000 in
set_option maxRecDepth 100000 in
theorem remove_any (fv : Value) (ps : Flds) (n : ByteArray) (w : World) (hr : ReadsQ w fv ps) (hn : n.size ≤ 1000000000) (hl : ps.length ≤ 100000) (hb : ∀ p ∈ ps, p.1.length + p.2.length ≤ 1000000) :
    Calls Tryz.prog 22 #[fv, .string n] w fun e w' => ∃ v, e = .returned v ∧ OwnsP 59 w.heap.size w' v (remL ps n.data.toList) ∧ Below w.heap.size w w' := by
  have hmm := @run_makeMap Tryz.prog
  have HR := Lib.hid hr
  obtain ⟨ao, cap, rfl, hc⟩ := hr
  clear hc
  go_enter Tryz.func22, Tryz.ntmps22
  go_wp2_with fail
  refine (lower_any n _ hn).mono ?_
  rintro e w1 ⟨rfl, hB⟩
  have hlw : (lowS n.data.toList).length ≤ maxLen := by rw [lowS_len, Array.length_toList]; unfold maxLen; show n.size ≤ _; omega
  have hB0 : Below w.heap.size w (w.alloc (.map #[] 0)) := below_new w _
  have hB' := hB0.trans (hB.mono hB0.size)
  have hN1 := (HasNames.made w).below hB
  obtain ⟨w2, hrun, hN2, hg2⟩ := hN1.put _ hlw (by unfold maxLen; omega)
  have hB2 : Below w.heap.size w w2 := hB'.grown hg2 hB'.size (fun k hk => by cases hk; exact Nat.le_refl _)
  go_wp2_with fail
  refine (without_any _ ps w.heap.size 1 [lowS n.data.toList] w2 (HR.out.below hB2) hl hb hN2).mono ?_
  rintro e w3 ⟨v, rfl, hO, hB3⟩
  rw [rem_names] at hO
  go_wp2_with fail
  go_ret
  exact ⟨_, rfl, OwnsP.mono hB2.size hO, hB2.trans (hB3.mono hB2.size)⟩

end Go.Proofs.YtinbdflkpbjmcaaGreatDoor
