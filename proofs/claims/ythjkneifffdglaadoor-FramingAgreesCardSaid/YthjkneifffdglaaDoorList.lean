/- What the code's List returns: the parts between commas that are not empty, or ErrForm. What Texts says of two slices of strings. -/
import Derived.Test.YthjkneifffdglaaDoorDiv
namespace Go.Proofs.YthjkneifffdglaaDoor
open Go.RowKit

def listO (l : List UInt8) : Option (List (List UInt8)) := (partsO 44 l).map (·.filter (!·.isEmpty))

def fil (ls : List (List UInt8)) : List (List UInt8) := ls.filter (!·.isEmpty)
def ListRel (ls : List (List UInt8)) (w : World) (u i : Value) (wr : World) : Prop :=
  ∃ k : Nat, i = .int .i64 k ∧ k ≤ ls.length ∧ OwnsS w.heap.size wr u (fil (ls.take k)) ∧ Below w.heap.size w wr
theorem ListRel0 (ls : List (List UInt8)) (w : World) : ListRel ls w (.slice none 0 0) (.int .i64 0) w :=
  ⟨0, rfl, Nat.zero_le _, World.ownsRow_nil _ _ _ _, Below.refl _ _⟩
theorem fil_le (ls : List (List UInt8)) (k : Nat) : (fil (ls.take k)).length ≤ k :=
  Nat.le_trans (List.length_filter_le _ _) (List.length_take_le _ _)
theorem fil_keep {ls : List (List UInt8)} {k : Nat} {l : List UInt8} (h : ls[k]? = some l) (hl : l ≠ []) : fil (ls.take (k + 1)) = fil (ls.take k) ++ [l] := by
  unfold fil; rw [List.take_add_one, List.filter_append, h]
  cases l with
  | nil => exact absurd rfl hl
  | cons a t => rfl
theorem fil_drop {ls : List (List UInt8)} {k : Nat} {l : List UInt8} (h : ls[k]? = some l) (hl : l = []) : fil (ls.take (k + 1)) = fil (ls.take k) := by
  unfold fil; rw [List.take_add_one, List.filter_append, h]; subst hl; simp
def ListPost (s : ByteArray) (w : World) (e : Ending) (w' : World) : Prop :=
  Below w.heap.size w w' ∧
  match listO s.data.toList with
  | none => e = .returned (.tuple #[.slice none 0 0, errForm])
  | some ls => ∃ v, e = .returned (.tuple #[v, .nilIface]) ∧ OwnsS w.heap.size w' v ls ∧ ls.length ≤ 100002

set_option maxHeartbeats 2000000 in
set_option maxRecDepth 100000 in
theorem list_any (s : ByteArray) (w : World) (hs : s.size ≤ 100000) :
    Calls Tryd.prog 52 #[.string s] w fun e w' => ListPost s w e w' := by
  obtain ⟨i0, hi, hz0, hz1, hz2⟩ := info_parts Tryd.infoS
  have D := divide_any s 44 w hs
  cases hp : partsO 44 s.data.toList with
  | none =>
    go_enter Tryd.func52, Tryd.ntmps52
    go_wp2_with (go_at_call 63; refine D.mono ?_; rintro e w1 ⟨hB, he⟩; rw [hp] at he; subst he)
    go_ret2
    exact ⟨hB, by simp [listO, hp]⟩
  | some ls =>
    go_enter Tryd.func52, Tryd.ntmps52
    go_wp2_with (go_at_call 63; refine D.mono ?_; rintro e w1 ⟨hB, he⟩; rw [hp] at he; obtain ⟨v, rfl, hv, hle⟩ := he; have hsz := hB.size; rcases hv.open' with ⟨rfl, rfl⟩ | ⟨g, cap, rfl, hBg, hgs, hcells⟩)
    · go_loopw [6, 19] (fun u i wr => ListRel [] w1 u i wr) (fun _ i _ => 0 - (intOf i).toNat)
      case atStart => exact ListRel0 [] w1
      case round =>
        obtain ⟨k, rfl, hk, hu, hBw⟩ := hrel
        obtain rfl : k = 0 := by simpa using hk
        go_wp2
        go_ret2
        have hlo : listO s.data.toList = some (fil []) := by unfold listO; rw [hp]; rfl
        refine ⟨hB.trans (hBw.mono hsz), ?_⟩
        rw [hlo]
        exact ⟨_, rfl, OwnsS.mono hsz hu, by simp [fil]⟩
    · have Hcells := Lib.hid hcells
      have HP := Lib.hid hp
      clear hcells hp D
      go_loopw [6, 19] (fun u i wr => ListRel ls w1 u i wr) (fun _ i _ => ls.length - (intOf i).toNat)
      case atStart => exact ListRel0 ls w1
      case round =>
        obtain ⟨k, rfl, hk, hu, hBw⟩ := hrel
        have hwz := hBw.size
        have hfl := fil_le ls k
        by_cases hlt : k < ls.length
        · obtain ⟨l, hl⟩ : ∃ l, ls[k]? = some l := ⟨ls[k], by simp [hlt]⟩
          have hcell : wr.cell? ⟨g, k, none⟩ = some (.string (strB l)) := (hBw.cell (p := ⟨g, k, none⟩) hgs).trans (Hcells.out k l hl)
          have HL := Lib.hid hl
          clear hl
          by_cases he : l = []
          · have he1 := empty_yes he
            have HE := Lib.hid he
            clear he
            go_wp2
            go_roundw
            case rel => exact ⟨k + 1, by go_num, by omega, by rw [fil_drop HL.out HE.out]; exact hu, hBw⟩
            case measure => simp [intOf]; omega
          · have he1 := empty_no he
            go_wp2_with (at_builtin; refine wpList_append_own _ rfl _ _ 73 rfl w1.heap.size 9 i0 (.string ByteArray.empty) 1 16 Tryd.underlying73 hi hz0 hz1 hz2 rfl (by decide) _ _ _ rfl (World.ownsRow.alloc hu _) ⟨wr.heap.size, 0, none⟩ 1 1 [strV l] rfl rfl (cell_one_new _ _ _) (fun u hu => by simp at hu; subst hu; rfl) (by unfold maxLen; omega) (by omega) (by simp; omega) ?_; intro v' w2 hown' hgrow _)
            go_roundw
            case rel => exact ⟨k + 1, by go_num, by omega, by rw [fil_keep HL.out he]; exact OwnsS.snoc hown', below_append hBw hwz (Below.refl _ _) hu hgrow⟩
            case measure => simp [intOf]; omega
        · go_wp2
          go_ret2
          have hk' : fil (ls.take k) = fil ls := by rw [List.take_of_length_le (by omega)]
          rw [hk'] at hu
          have hlo : listO s.data.toList = some (fil ls) := by unfold listO; rw [HP.out]; rfl
          refine ⟨hB.trans (hBw.mono hsz), ?_⟩
          rw [hlo]
          exact ⟨_, rfl, OwnsS.mono hsz hu, by rw [hk'] at hfl; omega⟩
end Go.Proofs.YthjkneifffdglaaDoor
