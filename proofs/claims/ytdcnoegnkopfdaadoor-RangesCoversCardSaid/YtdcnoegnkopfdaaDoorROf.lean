/- What the statements' Of returns: the ranges, as the program's. -/
import Derived.Test.YtdcnoegnkopfdaaDoorRParse
namespace Go.Proofs.YtdcnoegnkopfdaaDoor
open Go.RowKit

def ORel (T : TypeId) (l : List Rg) (w : World) (v i : Value) (wr : World) : Prop :=
  ∃ k : Nat, i = .int .i64 k ∧ k ≤ l.length ∧ OwnsI T w.heap.size wr v (l.take k) ∧ Below w.heap.size w wr
set_option maxHeartbeats 4000000 in
set_option maxRecDepth 100000 in
theorem of_any (va : Value) (l : List Rg) (w : World) (ha : ReadsI w va l) (hl : l.length ≤ 1000000) :
    Calls Tryd.prog 16 #[va] w fun e w' => ∃ v, e = .returned v ∧ OwnsI 46 w.heap.size w' v l ∧ Below w.heap.size w w' := by
  obtain ⟨i0, hi, hz0, hz1, hz2⟩ := info_parts Tryd.infoR
  obtain ⟨ao, ca, rfl, hca⟩ := ha
  have HA := Lib.hid hca
  clear hca
  go_enter Tryd.func16, Tryd.ntmps16
  go_wp2
  go_loopw [3, 8] (fun v i wr => ORel 46 l w v i wr) (fun _ i _ => l.length - (intOf i).toNat)
  case atStart => exact ⟨0, rfl, Nat.zero_le _, OwnsI.nil _ _ _, Below.refl _ _⟩
  case round =>
    obtain ⟨k, rfl, hk, hO, hBr⟩ := hrel
    have hbr := hBr.size
    have HBR := Lib.hid hBr
    clear hBr
    by_cases hlt : k < l.length
    · obtain ⟨p, hp⟩ : ∃ p, l[k]? = some p := ⟨l[k], by simp [hlt]⟩
      obtain ⟨g, off, rfl, hg, hc1, hc2⟩ := HA.out k p hp
      have hd1 := (HBR.out.cell (p := ⟨g, off + k * 2, none⟩) hg).trans hc1
      have hd2 := (HBR.out.cell (p := ⟨g, off + k * 2 + 1, none⟩) hg).trans hc2
      have HT := Lib.hid (show l.take (k + 1) = l.take k ++ [p] by rw [List.take_add_one, hp]; rfl)
      clear hp hc1 hc2
      obtain ⟨x, y⟩ := p
      simp only at hd1 hd2
      have htl : (l.take k).length = k := by simp; omega
      have hfl := flatI_len (l.take k)
      rw [htl] at hfl
      have HTL := Lib.hid htl
      have htl2 : (l.take k).length ≤ 1000000 := by omega
      have htl3 : k ≤ (l.take k).length := by omega
      have htl4 : (l.take k).length ≤ k := by omega
      clear htl
      go_wp2_with (at_builtin; go_must (refine wpList_append_own _ rfl _ _ 23 rfl w.heap.size 46 i0 (.agg #[.int .i64 0, .int .i64 0]) 2 16 Tryd.underlying23 hi hz0 hz1 hz2 rfl (by decide) _ _ _ rfl (World.ownsRow.alloc (World.ownsRow.alloc hO _) _) ⟨wr.heap.size + 1, 0, none⟩ 1 1 [.int .i64 x, .int .i64 y] rfl rfl (new_rg2 wr _ x y _) (fun u hu => by simp at hu; rcases hu with rfl | rfl <;> rfl) (by unfold maxLen; omega) (by omega) (by simp; omega) ?_); intro v' w5 hown' hgrow _)
      go_roundw
      case rel => exact ⟨k + 1, by go_num, by omega, by rw [HT.out]; exact OwnsI.snoc hown', below_appendI (HBR.out.alloc hbr _) (by simp; omega) (Below.refl _ _) (World.ownsRow.alloc hO _) hgrow⟩
      case measure => simp [intOf]; omega
    · have HT := Lib.hid (show l.take k = l from List.take_of_length_le (by omega))
      go_wp2
      go_ret
      exact ⟨_, rfl, by rw [HT.out] at hO; exact hO, HBR.out⟩
end Go.Proofs.YtdcnoegnkopfdaaDoor
