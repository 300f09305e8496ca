/- What Host returns: the host in lower case, or ErrName. -/
import Derived.Test.YtfggckdakmnfbaaDoorALib
namespace Go.Proofs.YtfggckdakmnfbaaDoor
open Go.RowKit

/-- An error of package api, as a value. -/
abbrev errA (n : Int) : Value := .iface 39 (.int .i64 n)
def hostV (l : List UInt8) : Value := match hostO l with
  | none => .tuple #[.string (strB []), errA 8]
  | some h => .tuple #[.string (strB h), .nilIface]
theorem hostV_no {l : List UInt8} (h : hostO l = none) : hostV l = .tuple #[.string (strB []), errA 8] := by unfold hostV; rw [h]
theorem hostV_yes {l h : List UInt8} (e : hostO l = some h) : hostV l = .tuple #[.string (strB h), .nilIface] := by unfold hostV; rw [e]
theorem hostO_long {l : List UInt8} (h : 100 < l.length) : hostO l = none := by unfold hostO; rw [if_neg (by omega)]
theorem hostO_bad {l s : List UInt8} (h : s ∈ cutL 46 l) (hb : lblB s = false) : hostO l = none := by
  unfold hostO; rw [if_neg]
  rintro ⟨_, ha⟩
  rw [List.all_eq_true.mp ha s h] at hb; cases hb
theorem hostO_good {l : List UInt8} (h : l.length ≤ 100) (ha : (cutL 46 l).all lblB = true) : hostO l = some (lowS l) := by unfold hostO; rw [if_pos ⟨h, ha⟩]
def lblTo (ls : List (List UInt8)) (k : Nat) : Prop := (ls.take k).all lblB = true
theorem lblTo_step {ls : List (List UInt8)} {k : Nat} {l : List UInt8} (hl : ls[k]? = some l) (hn : lblTo ls k) (hb : lblB l = true) : lblTo ls (k + 1) := by
  unfold lblTo at *; rw [List.take_add_one, List.all_append, hn, hl]; simp [hb]
theorem lblTo_end {ls : List (List UInt8)} {k : Nat} (h : ls.length ≤ k) (hn : lblTo ls k) : ls.all lblB = true := by
  unfold lblTo at hn; rw [List.take_of_length_le h] at hn; exact hn
set_option maxHeartbeats 2000000 in
set_option maxRecDepth 100000 in
theorem host_any (s : ByteArray) (w : World) (hE : Env w) (hs : s.size ≤ maxLen) :
    Calls Tryd.prog 32 #[.string s] w fun e w' => e = .returned (hostV s.data.toList) ∧ Below w.heap.size w w' := by
  have hsz : s.data.toList.length = s.size := by rw [Array.length_toList]; rfl
  by_cases h100 : 100 < s.size
  · have HR := Lib.hid (hostV_no (hostO_long (l := s.data.toList) (by omega)))
    clear hsz
    unfold maxLen at hs
    go_enter Tryd.func32, Tryd.ntmps32
    go_wp2
    go_ret2
    exact ⟨by rw [HR.out]; rfl, Below.refl _ _⟩
  · have HSZ := Lib.hid hsz
    clear hsz hs
    have hs : s.size ≤ 100 := by omega
    have HE := Lib.hid hE
    clear hE h100
    go_enter Tryd.func32, Tryd.ntmps32
    go_wp2_with fail
    refine (split_any 46 s _ HE.out (by omega)).mono ?_
    rintro e w1 ⟨v, rfl, hv, hB⟩
    have hle := cutL_len 46 s.data.toList
    have hle' : (cutL 46 s.data.toList).length ≤ 101 := by rw [HSZ.out] at hle; omega
    clear hle
    have hne : 0 < (cutL 46 s.data.toList).length := List.length_pos_iff.mpr (cutL_ne 46 _)
    rcases hv.open' with ⟨rfl, he⟩ | ⟨g, cap, rfl, hBg, hgs, hcells⟩
    · exact absurd he (cutL_ne 46 _)
    generalize hls : cutL 46 s.data.toList = ls at *
    have HLS := Lib.hid hls
    have HC := Lib.hid hcells
    clear hls hcells hv
    go_wp2_with fail
    go_loop [13] (fun i => ∃ k : Nat, k ≤ ls.length ∧ i = .int .i64 k ∧ lblTo ls k) (fun i => ls.length - (intOf i).toNat)
    case atStart => exact ⟨0, by omega, rfl, by simp [lblTo]⟩
    case round =>
      obtain ⟨k, hk, rfl, hn⟩ := hrel
      by_cases hlt : k < ls.length
      · obtain ⟨l, hl⟩ : ∃ l, ls[k]? = some l := ⟨ls[k], by simp [hlt]⟩
        have hcell := HC.out k l hl
        have hll : (strB l).size ≤ 1000000000 := by
          rw [strB_size]
          have hm : l ∈ cutL 46 s.data.toList := by rw [HLS.out]; exact List.mem_of_getElem? hl
          have := cutL_part_le 46 s.data.toList l hm
          rw [HSZ.out] at this; omega
        have HL := Lib.hid hl
        clear hl
        by_cases hb : lblB l = true
        · go_wp2_with (go_at_call 52; refine (isLabel_any _ _ hll).mono ?_; rintro e w' ⟨rfl, rfl⟩; rw [strB_list, hb])
          go_round
          case rel => exact ⟨k + 1, by omega, by go_num, lblTo_step HL.out hn hb⟩
          case measure => simp [intOf]; omega
        · have hb' : lblB l = false := by simpa using hb
          go_wp2_with (go_at_call 52; refine (isLabel_any _ _ hll).mono ?_; rintro e w' ⟨rfl, rfl⟩; rw [strB_list, hb'])
          go_ret2
          exact ⟨by rw [hostV_no (hostO_bad (s := l) (by rw [HLS.out]; exact List.mem_of_getElem? HL.out) hb')]; rfl, hB⟩
      · go_wp2_with (go_at_call 53; refine (lower_any _ _ (by omega)).mono ?_; rintro e w2 ⟨rfl, hB2⟩)
        go_ret2
        have hg := hostO_good (l := s.data.toList) (by rw [HSZ.out]; omega) (by rw [HLS.out]; exact lblTo_end (by omega) hn)
        exact ⟨by rw [hostV_yes hg]; rfl, hB.trans (hB2.mono hB.size)⟩
end Go.Proofs.YtfggckdakmnfbaaDoor
