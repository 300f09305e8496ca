/- What the reference's Parts and List return: the same parts as the code's divide and List. -/
import Derived.Test.YthjkneifffdglaaDoorTrim
import Derived.Test.YthjkneifffdglaaDoorDiv
import Derived.Test.YthjkneifffdglaaDoorList
namespace Go.Proofs.YthjkneifffdglaaDoor
open Go.RowKit

theorem refTrim_seg (s : ByteArray) (x k : Nat) (w : World) (hs : s.size ≤ 100000) :
    Calls Tryd.prog 64 #[.string (s.extract x k)] w fun e w' => e = .returned (strV (trimB ((s.data.toList.drop x).take (k - x)))) ∧ w = w' := by
  have h := refTrim_any ((s.data.toList.drop x).take (k - x)) w (by simp; omega)
  rw [← seg_list, strB_of] at h
  rwa [seg_list] at h

def PartsPost (s : ByteArray) (b : UInt8) (w : World) (e : Ending) (w' : World) : Prop :=
  Below w.heap.size w w' ∧
  match partsO b s.data.toList with
  | none => e = .returned (.tuple #[.slice none 0 0, .bool false])
  | some ls => ∃ v, e = .returned (.tuple #[v, .bool true]) ∧ OwnsS w.heap.size w' v ls ∧ ls.length ≤ 100002
theorem partsO_none {b : UInt8} {L : List UInt8} (h : scan b .out [] L = none) : partsO b L = none := by
  unfold partsO; rw [h]; split <;> rfl

set_option maxHeartbeats 2000000 in
set_option maxRecDepth 100000 in
theorem parts_any (s : ByteArray) (b : UInt8) (w : World) (hs : s.size ≤ 100000) :
    Calls Tryd.prog 53 #[.string s, .int .u8 (b.toNat : Int)] w fun e w' => PartsPost s b w e w' := by
  obtain ⟨i0, hi, hz0, hz1, hz2⟩ := info_parts Tryd.infoS
  go_enter Tryd.func53, Tryd.ntmps53
  go_wp2
  go_loopw [6, 7, 8, 9] (fun v st q i wr => DivRel s b w v q st i wr) (fun _ _ _ i _ => s.size - (intOf i).toNat)
  case atStart => exact DivRel0 s b w
  case round =>
    obtain ⟨acc, x, k, qb, rfl, rfl, rfl, hI, hown, hB⟩ := hrel
    have hL : s.data.toList.length = s.size := by simp
    have HI := Lib.hid hI
    have HL := Lib.hid hL
    have hxk : x ≤ k := hI.1
    have hxs : x ≤ s.size := by have := hI.2.1; omega
    have hal : acc.length ≤ k := hI.2.2.2.1
    have hBs := hB.size
    have hke : k ≤ s.size + 1 := by rcases hI.2.2.1 with h | h <;> omega
    clear hI hL
    by_cases hlt : k < s.size
    · by_cases h34 : s[k].toNat = 34
      · have h34a : 34 ≤ s[k].toNat := by omega
        have h34b : s[k].toNat ≤ 34 := by omega
        clear h34
        cases qb
        all_goals
          go_wp2
          go_roundw
          case rel => exact ⟨acc, x, k + 1, _, by go_num, rfl, rfl, HI.out.quote (by rw [HL.out]; omega) (nat_of_u8 (by show s[k].toNat = 34; omega)), hown, hB⟩
          case measure => simp [intOf]; omega
      · cases qb
        · by_cases hb : s[k].toNat = b.toNat
          · have hba : b.toNat ≤ s[k].toNat := by omega
            have hbb : s[k].toNat ≤ b.toNat := by omega
            clear hb
            go_wp2_with (first
              | (go_at_call 64; refine (refTrim_seg s x k _ hs).mono ?_; rintro e w1 ⟨rfl, rfl⟩)
              | (at_builtin; refine wpList_append_own _ rfl _ _ 73 rfl w.heap.size 9 i0 (.string ByteArray.empty) 1 16 Tryd.underlying73 hi hz0 hz1 hz2 rfl (by decide) _ _ _ rfl (World.ownsRow.alloc hown _) ⟨wr.heap.size, 0, none⟩ 1 1 [strV (trimB ((s.data.toList.drop x).take (k - x)))] rfl rfl (cell_one_new _ _ _) (fun u hu => by simp at hu; subst hu; rfl) (by unfold maxLen; simp; omega) (by simp; omega) (by simp; omega) ?_; intro v' w2 hown' hgrow _))
            all_goals
              go_roundw
              case rel => exact ⟨acc ++ [(s.data.toList.drop x).take (k - x)], k + 1, k + 1, _, by go_num, by go_num, rfl, HI.out.cut (by rw [HL.out]; omega) (nat_of_u8 (by show s[k].toNat = b.toNat; omega)) (fun h => h34 (congrArg UInt8.toNat h)), by rw [List.map_append]; exact OwnsS.snoc hown', below_append hB hBs (Below.refl _ _) hown hgrow⟩
              case measure => simp [intOf]; omega
          · go_wp2
            all_goals
              go_roundw
              case rel => exact ⟨acc, x, k + 1, _, by go_num, rfl, rfl, HI.out.other (by rw [HL.out]; omega) (fun h => h34 (congrArg UInt8.toNat h)) (fun h => by cases h) (fun _ h => hb (congrArg UInt8.toNat h)), hown, hB⟩
              case measure => simp [intOf]; omega
        · by_cases h92 : s[k].toNat = 92
          · have h92a : 92 ≤ s[k].toNat := by omega
            have h92b : s[k].toNat ≤ 92 := by omega
            have hI2 := HI.out.escape (by rw [HL.out]; omega) (nat_of_u8 (by show s[k].toNat = 92; omega))
            have HI2 := Lib.hid hI2
            clear h92 h34 hI2
            by_cases hend : k + 1 = s.size
            · have hend1 : ((k : Int) + 1 == (s.size : Int)) = true := by simp; omega
              have HE := Lib.hid hend
              clear hend
              go_wp2
              go_ret2
              exact ⟨hB, by rw [partsO_none (HI2.out.open' (by rw [HL.out]; have := HE.out; omega))]; rfl⟩
            · have hend1 : ((k : Int) + 1 == (s.size : Int)) = false := by simp; omega
              go_wp2
              go_roundw
              case rel => exact ⟨acc, x, k + 2, _, by go_num, rfl, rfl, HI2.out, hown, hB⟩
              case measure => simp [intOf]; omega
          · go_wp2
            all_goals
              go_roundw
              case rel => exact ⟨acc, x, k + 1, _, by go_num, rfl, rfl, HI.out.other (by rw [HL.out]; omega) (fun h => h34 (congrArg UInt8.toNat h)) (fun _ h => h92 (congrArg UInt8.toNat h)) (fun h => by cases h), hown, hB⟩
              case measure => simp [intOf]; omega
    · cases qb
      · by_cases hc : ctlS s.data.toList = true
        · go_wp2_with (go_at_call 65; refine (refControl_any _ _ (by unfold maxLen; omega)).mono ?_; rintro e w' ⟨rfl, rfl⟩)
          go_ret2
          exact ⟨hB, by simp [partsO, hc]⟩
        · have hc' : ctlS s.data.toList = false := by simpa using hc
          go_wp2_with (first
            | (go_at_call 65; refine (refControl_any _ _ (by unfold maxLen; omega)).mono ?_; rintro e w' ⟨rfl, rfl⟩)
            | (go_at_call 64; refine (refTrim_seg s x s.size _ hs).mono ?_; rintro e w1 ⟨rfl, rfl⟩)
            | (at_builtin; refine wpList_append_own _ rfl _ _ 73 rfl w.heap.size 9 i0 (.string ByteArray.empty) 1 16 Tryd.underlying73 hi hz0 hz1 hz2 rfl (by decide) _ _ _ rfl (World.ownsRow.alloc hown _) ⟨wr.heap.size, 0, none⟩ 1 1 [strV (trimB ((s.data.toList.drop x).take (s.size - x)))] rfl rfl (cell_one_new _ _ _) (fun u hu => by simp at hu; subst hu; rfl) (by unfold maxLen; simp; omega) (by simp; omega) (by simp; omega) ?_; intro v' w2 hown' hgrow _))
          go_ret2
          refine ⟨below_append hB hBs (Below.refl _ _) hown hgrow, ?_⟩
          have hp : partsO b s.data.toList = some ((acc ++ [s.data.toList.drop x]).map trimB) := by
            simp [partsO, hc', HI.out.done (by rw [HL.out]; omega)]
          rw [hp]
          refine ⟨v', rfl, ?_, by simp; omega⟩
          rw [List.map_append]
          rw [List.take_of_length_le (by simp)] at hown'
          exact OwnsS.snoc hown'
      · go_wp2
        go_ret2
        exact ⟨hB, by rw [partsO_none (HI.out.open' (by rw [HL.out]; omega))]; rfl⟩
end Go.Proofs.YthjkneifffdglaaDoor
