import Derived.Test.YtinbdflkpbjmcaaGreatDoorPa7
import Derived.Laws.Rows
/- What the program's number and month return. -/
namespace Go.Proofs.YtinbdflkpbjmcaaGreatDoor
open Go.RowKit

structure EnvP (w : World) : Prop where
  env : EnvH w
  err : ∃ ev, w.cell? ⟨4, 0, none⟩ = some ev ∧ (ev = .nilIface ∨ ∃ te pe, ev = .iface te pe)
theorem EnvP.below {w w' : World} (h : EnvP w) (hb : Below w.heap.size w w') : EnvP w' := by
  obtain ⟨ev, h1, h2⟩ := h.err
  exact ⟨h.env.below hb, ev, (hb.cell (p := ⟨4, 0, none⟩) (World.block_lt_of_cell? w _ h1)).trans h1, h2⟩
theorem atoi_any (s : ByteArray) (hs : s.size ≤ 18) (w : World) (hE : EnvP w) :
    Calls Tryz.prog 72 #[.string s] w fun e w' => ∃ x, e = .returned (.tuple #[.int .i64 (av s.data.toList), x]) ∧ Below w.heap.size w w' := by
  cases h : Lib.atoi s.data.toList with
  | some n =>
    refine (Tryz.strconv_Atoi s n hs h w).mono ?_
    rintro e w' ⟨rfl, t, rfl⟩
    exact ⟨_, by unfold av; rw [h]; rfl, Lib.bytesWorld_below _ _ _⟩
  | none =>
    obtain ⟨ev, h1, h2⟩ := hE.err
    refine (Tryz.strconv_Atoi_err s hs h ev w h1 h2).mono ?_
    rintro e w' ⟨N, rfl, _, _, hb⟩
    exact ⟨_, by unfold av; rw [h]; rfl, hb⟩
set_option maxHeartbeats 400000 in
theorem number_any (s : ByteArray) (hs : s.size ≤ 18) (w : World) (hE : EnvP w) :
    Calls Tryz.prog 49 #[.string s] w fun e w' => e = .returned (.int .i64 (av s.data.toList)) ∧ Below w.heap.size w w' := by
  have HA := Lib.hid (atoi_any s hs w hE)
  clear hE
  go_enter Tryz.func49, Tryz.ntmps49
  go_wp2_with fail
  refine HA.out.mono ?_
  rintro e w' ⟨x, rfl, hB⟩
  have HB := Lib.hid hB
  clear hB
  go_wp2_with fail
  go_ret
  exact ⟨rfl, HB.out⟩
/-- What lies in the array at an index. -/
theorem mon_at (j : Nat) (h : j < 12) (w : World) : (Instr.index 101 (.agg monA) (.int .i64 (j : Int))).run Tryz.prog w = .ok (.string (strB (moS (j + 1)))) w := by
  rcases twelve h with rfl | rfl | rfl | rfl | rfl | rfl | rfl | rfl | rfl | rfl | rfl | rfl <;> kernel_rfl
def MoTo (l : List UInt8) (j : Nat) : Prop := ∀ i, 1 ≤ i → i ≤ j → moS i ≠ l
theorem MoTo.step {l : List UInt8} {j : Nat} (h : MoTo l j) (hn : moS (j + 1) ≠ l) : MoTo l (j + 1) := fun i h1 h2 => by
  by_cases e : i = j + 1
  · rw [e]; exact hn
  · exact h i h1 (by omega)
theorem strB_eq {l : List UInt8} {s : ByteArray} (h : (strB l).toList = s.toList) : l = s.data.toList := by
  rw [ByteArray.toList_eq, ByteArray.toList_eq, strB_list] at h; exact h
set_option maxHeartbeats 1000000 in
theorem month_any (s : ByteArray) (w : World) (hE : EnvH w) :
    Calls Tryz.prog 50 #[.string s] w fun e w' => ∃ k : Nat, e = .returned (.int .i64 (k : Int)) ∧ isMo s.data.toList k ∧ w = w' := by
  obtain ⟨t, fr, hg⟩ := hE.row
  have HG := Lib.hid hg
  clear hE hg
  go_enter Tryz.func50, Tryz.ntmps50
  go_wp2_with (refine wpList_load_row rfl 101 _ rfl 0 rfl t _ fr _ HG.out Tryz.underlying101 rfl (by kernel_rfl) ?_)
  go_loop [6] (fun i => ∃ j : Nat, j ≤ 12 ∧ i = .int .i64 j ∧ MoTo s.data.toList j) (fun i => (12 - intOf i).toNat)
  case atStart => exact ⟨0, by omega, rfl, fun i h1 h2 => by omega⟩
  case round =>
    obtain ⟨j, hj, rfl, hM⟩ := hrel
    have HM := Lib.hid hM
    clear hM
    by_cases hlt : j < 12
    · have hix := mon_at j hlt
      by_cases he : (strB (moS (j + 1))).toList = s.toList
      · have HE := Lib.hid (strB_eq he)
        go_wp2_with fail
        go_ret
        exact ⟨j + 1, by congr 2, .inl ⟨by omega, by omega, HE.out⟩, rfl⟩
      · have HE := Lib.hid (fun h : moS (j + 1) = s.data.toList => he (by rw [h, strB_of]))
        have hb : ((strB (moS (j + 1))).toList == s.toList) = false := by simpa using he
        clear he
        go_wp2_with fail
        go_round
        case rel => exact ⟨j + 1, by omega, by go_num, HM.out.step HE.out⟩
        case measure => simp [intOf]; omega
    · obtain rfl : j = 12 := by omega
      go_wp2_with fail
      go_ret
      exact ⟨0, rfl, .inr ⟨rfl, fun i h1 h2 => HM.out i h1 h2⟩, rfl⟩
end Go.Proofs.YtinbdflkpbjmcaaGreatDoor
