/- What the code's divide returns: the trimmed parts of a string between separators outside of quoted parts, or ErrForm. -/
import Derived.Test.YthjkneifffdglaaDoorScan
import Derived.Test.YthjkneifffdglaaDoorSpec
import Derived.Test.YthjkneifffdglaaDoorShelf
import Derived.Lib.Hide
import Derived.Test.YthjkneifffdglaaDoorTrimA
namespace Go.Proofs.YthjkneifffdglaaDoor
open Go.RowKit

theorem trim_seg (s : ByteArray) (x k : Nat) (w : World) (hs : s.size ≤ 100000) :
    Calls Tryd.prog 44 #[.string (s.extract x k)] w fun e w' => e = .returned (strV (trimB ((s.data.toList.drop x).take (k - x)))) ∧ Below w.heap.size w w' := by
  refine (trimA_any (s.extract x k) w (by simp; omega)).mono ?_
  rintro e w' ⟨rfl, hb⟩
  exact ⟨by rw [seg_list], hb⟩
def DivRel (s : ByteArray) (b : UInt8) (w : World) (v q st i : Value) (wr : World) : Prop :=
  ∃ (acc : List (List UInt8)) (x k : Nat) (qb : Bool), i = .int .i64 k ∧ st = .int .i64 x ∧ q = .bool qb ∧ Inv b s.data.toList acc x k qb ∧
    OwnsS w.heap.size wr v (acc.map trimB) ∧ Below w.heap.size w wr
theorem DivRel0 (s : ByteArray) (b : UInt8) (w : World) : DivRel s b w (.slice none 0 0) (.bool false) (.int .i64 0) (.int .i64 0) w :=
  ⟨[], 0, 0, false, rfl, rfl, rfl, Inv0 _ _, World.ownsRow_nil _ _ _ _, Below.refl _ _⟩

def partsO (b : UInt8) (l : List UInt8) : Option (List (List UInt8)) := if ctlS l then none else (scan b .out [] l).map (·.map trimB)

def DivPost (s : ByteArray) (b : UInt8) (w : World) (e : Ending) (w' : World) : Prop :=
  Below w.heap.size w w' ∧
  match partsO b s.data.toList with
  | none => e = .returned (.tuple #[.slice none 0 0, errForm])
  | some ls => ∃ v, e = .returned (.tuple #[v, .nilIface]) ∧ OwnsS w.heap.size w' v ls ∧ ls.length ≤ 100002

set_option maxHeartbeats 2000000 in
set_option maxRecDepth 100000 in
theorem divide_any (s : ByteArray) (b : UInt8) (w : World) (hs : s.size ≤ 100000) :
    Calls Tryd.prog 63 #[.string s, .int .u8 (b.toNat : Int)] w fun e w' => DivPost s b w e w' := by
  obtain ⟨i0, hi, hz0, hz1, hz2⟩ := info_parts Tryd.infoS
  by_cases hc : ctlS s.data.toList = true
  · go_enter Tryd.func63, Tryd.ntmps63
    go_wp2_with (go_at_call 77; refine (hasControl_any _ _ (by unfold maxLen; omega)).mono ?_; rintro e w' ⟨rfl, rfl⟩)
    go_ret2
    exact ⟨Below.refl _ _, by simp [partsO, hc, errForm]⟩
  · have hc' : ctlS s.data.toList = false := by simpa using hc
    go_enter Tryd.func63, Tryd.ntmps63
    go_wp2_with (go_at_call 77; refine (hasControl_any _ _ (by unfold maxLen; omega)).mono ?_; rintro e w' ⟨rfl, rfl⟩)
    go_loopw [6, 7, 8, 9] (fun v q st i wr => DivRel s b w v q st i wr) (fun _ _ _ i _ => s.size - (intOf i).toNat)
    case atStart => exact DivRel0 s b w
    case round =>
      obtain ⟨acc, x, k, qb, rfl, rfl, rfl, hI, hown, hB⟩ := hrel
      have hL : s.data.toList.length = s.size := by simp
      have HI := Lib.hid hI
      have HL := Lib.hid hL
      have hxk : x ≤ k := hI.1
      have hxs : x ≤ s.size := by have := hI.2.1; omega
      have hal : acc.length ≤ k := hI.2.2.2.1
      have hBs := hB.size
      have hke : k ≤ s.size + 1 := by rcases hI.2.2.1 with h | h <;> omega
      clear hI hL
      by_cases hlt : k < s.size
      · by_cases h34 : s[k].toNat = 34
        · have h34a : 34 ≤ s[k].toNat := by omega
          have h34b : s[k].toNat ≤ 34 := by omega
          clear h34
          cases qb
          all_goals
            go_wp2
            go_roundw
            case rel => exact ⟨acc, x, k + 1, _, by go_num, rfl, rfl, HI.out.quote (by rw [HL.out]; omega) (nat_of_u8 (by show s[k].toNat = 34; omega)), hown, hB⟩
            case measure => simp [intOf]; omega
        · cases qb
          · by_cases hb : s[k].toNat = b.toNat
            · have hba : b.toNat ≤ s[k].toNat := by omega
              have hbb : s[k].toNat ≤ b.toNat := by omega
              clear hb
              go_wp2_with (first
                | (go_at_call 44; refine (trim_seg s x k _ hs).mono ?_; rintro e w1 ⟨rfl, hb1⟩; have hs1 := hb1.size)
                | (at_builtin; refine wpList_append_own _ rfl _ _ 73 rfl w.heap.size 9 i0 (.string ByteArray.empty) 1 16 Tryd.underlying73 hi hz0 hz1 hz2 rfl (by decide) _ _ _ rfl ((OwnsS.below hown hb1).alloc _) ⟨w1.heap.size, 0, none⟩ 1 1 [strV (trimB ((s.data.toList.drop x).take (k - x)))] rfl rfl (cell_one_new _ _ _) (fun u hu => by simp at hu; subst hu; rfl) (by unfold maxLen; simp; omega) (by simp; omega) (by simp; omega) ?_; intro v' w2 hown' hgrow _))
              all_goals
                go_roundw
                case rel => exact ⟨acc ++ [(s.data.toList.drop x).take (k - x)], k + 1, k + 1, _, by go_num, by go_num, rfl, HI.out.cut (by rw [HL.out]; omega) (nat_of_u8 (by show s[k].toNat = b.toNat; omega)) (fun h => h34 (congrArg UInt8.toNat h)), by rw [List.map_append]; exact OwnsS.snoc hown', below_append hB hBs hb1 hown hgrow⟩
                case measure => simp [intOf]; omega
            · go_wp2
              all_goals
                go_roundw
                case rel => exact ⟨acc, x, k + 1, _, by go_num, rfl, rfl, HI.out.other (by rw [HL.out]; omega) (fun h => h34 (congrArg UInt8.toNat h)) (fun h => by cases h) (fun _ h => hb (congrArg UInt8.toNat h)), hown, hB⟩
                case measure => simp [intOf]; omega
          · by_cases h92 : s[k].toNat = 92
            · have h92a : 92 ≤ s[k].toNat := by omega
              have h92b : s[k].toNat ≤ 92 := by omega
              clear h92 h34
              go_wp2
              go_roundw
              case rel => exact ⟨acc, x, k + 2, _, by go_num, rfl, rfl, HI.out.escape (by rw [HL.out]; omega) (nat_of_u8 (by show s[k].toNat = 92; omega)), hown, hB⟩
              case measure => simp [intOf]; omega
            · go_wp2
              all_goals
                go_roundw
                case rel => exact ⟨acc, x, k + 1, _, by go_num, rfl, rfl, HI.out.other (by rw [HL.out]; omega) (fun h => h34 (congrArg UInt8.toNat h)) (fun _ h => h92 (congrArg UInt8.toNat h)) (fun h => by cases h), hown, hB⟩
                case measure => simp [intOf]; omega
      · cases qb
        · go_wp2_with (first
            | (go_at_call 44; refine (trim_seg s x s.size _ hs).mono ?_; rintro e w1 ⟨rfl, hb1⟩; have hs1 := hb1.size)
            | (at_builtin; refine wpList_append_own _ rfl _ _ 73 rfl w.heap.size 9 i0 (.string ByteArray.empty) 1 16 Tryd.underlying73 hi hz0 hz1 hz2 rfl (by decide) _ _ _ rfl ((OwnsS.below hown hb1).alloc _) ⟨w1.heap.size, 0, none⟩ 1 1 [strV (trimB ((s.data.toList.drop x).take (s.size - x)))] rfl rfl (cell_one_new _ _ _) (fun u hu => by simp at hu; subst hu; rfl) (by unfold maxLen; simp; omega) (by simp; omega) (by simp; omega) ?_; intro v' w2 hown' hgrow _))
          go_ret2
          refine ⟨below_append hB hBs hb1 hown hgrow, ?_⟩
          have hp : partsO b s.data.toList = some ((acc ++ [s.data.toList.drop x]).map trimB) := by
            simp [partsO, hc', HI.out.done (by rw [HL.out]; omega)]
          rw [hp]
          refine ⟨v', rfl, ?_, by simp; omega⟩
          rw [List.map_append]
          rw [List.take_of_length_le (by simp)] at hown'
          exact OwnsS.snoc hown'
        · go_wp2
          go_ret2
          exact ⟨hB, by simp [partsO, hc', HI.out.open' (by rw [HL.out]; omega), errForm]⟩
end Go.Proofs.YthjkneifffdglaaDoor
