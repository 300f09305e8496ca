/- What the code's Set and Remove return, for every list of fields. -/
import Derived.Test.YtkpeaghbacoehaaGreatDoorFWithout
import Derived.Test.YtkpeaghbacoehaaGreatDoorFSetOne
namespace Go.Proofs.YtkpeaghbacoehaaGreatDoor
open Go.RowKit

set_option maxHeartbeats 1000000 in
set_option maxRecDepth 100000 in
theorem remove_any (fv : Value) (ps : Flds) (n : ByteArray) (w : World) (hr : ReadsQ w fv ps) (hn : n.size ≤ 1000000000) (hl : ps.length ≤ 1000) (hb : ∀ p ∈ ps, p.1.length + p.2.length ≤ 1000000) :
    Calls Tryz.prog 31 #[fv, .string n] w fun e w' => ∃ v, e = .returned v ∧ OwnsP 72 w.heap.size w' v (remL ps n.data.toList) ∧ Below w.heap.size w w' := by
  have hmm := @run_makeMap Tryz.prog
  have HR := Lib.hid hr
  obtain ⟨ao, cap, rfl, hc⟩ := hr
  clear hc
  go_enter Tryz.func31, Tryz.ntmps31
  go_wp2_with fail
  refine (lower_any n _ hn).mono ?_
  rintro e w1 ⟨rfl, hB⟩
  have hlw : (lowS n.data.toList).length ≤ maxLen := by rw [lowS_len, Array.length_toList]; unfold maxLen; show n.size ≤ _; omega
  have hB0 : Below w.heap.size w (w.alloc (.map #[] 0)) := below_new w _
  have hB' := hB0.trans (hB.mono hB0.size)
  have hN1 := (HasNames.made w).below hB
  obtain ⟨w2, hrun, hN2, hg2⟩ := hN1.put _ hlw (by unfold maxLen; omega)
  have hB2 : Below w.heap.size w w2 := hB'.grown hg2 hB'.size (fun k hk => by cases hk; exact Nat.le_refl _)
  go_wp2_with fail
  refine (without_any _ ps w.heap.size 1 [lowS n.data.toList] w2 (HR.out.below hB2) hl hb hN2).mono ?_
  rintro e w3 ⟨v, rfl, hO, hB3⟩
  rw [rem_names] at hO
  go_wp2_with fail
  go_ret
  exact ⟨_, rfl, OwnsP.mono hB2.size hO, hB2.trans (hB3.mono hB2.size)⟩

end Go.Proofs.YtkpeaghbacoehaaGreatDoor
