/- What the program's elements returns: the elements of all values, or ErrForm. -/
import Derived.Test.YthjkneifffdglaaDoorJPure
import Derived.Test.YthjkneifffdglaaDoorJApp
import Derived.Test.YthjkneifffdglaaDoorList
namespace Go.Proofs.YthjkneifffdglaaDoor
open Go.RowKit

def ElPost (vs : List (List UInt8)) (w : World) (e : Ending) (w' : World) : Prop :=
  Below w.heap.size w w' ∧
  match elemsF vs with
  | none => e = .returned (.tuple #[.slice none 0 0, errForm])
  | some es => ∃ v, e = .returned (.tuple #[v, .nilIface]) ∧ OwnsS w.heap.size w' v es
def ElRel (vs : List (List UInt8)) (w : World) (u i : Value) (wr : World) : Prop :=
  ∃ (k : Nat) (acc : List (List UInt8)), i = .int .i64 k ∧ k ≤ vs.length ∧ elemsF (vs.take k) = some acc ∧ OwnsS w.heap.size wr u acc ∧ Below w.heap.size w wr
theorem ElRel0 (vs : List (List UInt8)) (w : World) : ElRel vs w (.slice none 0 0) (.int .i64 0) w :=
  ⟨0, [], rfl, Nat.zero_le _, rfl, World.ownsRow_nil _ _ _ _, Below.refl _ _⟩
set_option maxHeartbeats 4000000 in
set_option maxRecDepth 100000 in
theorem elements_any (vv : Value) (vs : List (List UInt8)) (w : World) (hr : ReadsS w vv vs) (hs : roomL vs ≤ 50000) :
    Calls Tryd.prog 45 #[vv] w (ElPost vs w) := by
  obtain ⟨ao, cap, rfl, hc⟩ := hr
  have hvn : vs.length ≤ 50000 := Nat.le_trans (room_len vs) hs
  have HC := Lib.hid hc
  have HS := Lib.hid hs
  clear hc hs
  go_enter Tryd.func45, Tryd.ntmps45
  go_wp2_with fail
  go_loopw [4, 11] (fun u i wr => ElRel vs w u i wr) (fun _ i _ => vs.length - (intOf i).toNat)
  case atStart => exact ElRel0 vs w
  case round =>
    obtain ⟨k, acc, rfl, hk, hacc, hO, hB⟩ := hrel
    have hbr := hB.size
    have HA := Lib.hid hacc
    have hal : acc.length ≤ 50000 := Nat.le_trans (elems_len hacc) (Nat.le_trans (room_take vs k) HS.out)
    clear hacc
    by_cases hlt : k < vs.length
    · obtain ⟨v, hv⟩ : ∃ v, vs[k]? = some v := ⟨vs[k], by simp [hlt]⟩
      obtain ⟨g, off, rfl, hg, h1⟩ := HC.out k v hv
      have hcell : wr.cell? ⟨g, off + k, none⟩ = some (.string (strB v)) := (hB.cell (p := ⟨g, off + k, none⟩) hg).trans h1
      have hvl : (strB v).size ≤ 100000 := by
        rw [strB_size]; have := room_mem (List.mem_of_getElem? hv); have := HS.out; omega
      have HV := Lib.hid hv
      have L := list_any (strB v) wr hvl
      unfold ListPost at L
      rw [strB_list] at L
      clear hv h1
      cases hl : listO v with
      | none =>
        rw [hl] at L
        have HE := Lib.hid (elems_none_at HV.out hl)
        clear hl
        go_wp2_with fail
        refine L.mono ?_
        rintro e w1 ⟨hB1, rfl⟩
        go_wp2_with fail
        go_ret2
        exact ⟨hB.trans (hB1.mono hbr), by rw [HE.out]; rfl⟩
      | some a =>
        rw [hl] at L
        have HE := Lib.hid (elems_more HV.out HA.out hl)
        have hal2 : (acc ++ a).length ≤ 50000 := Nat.le_trans (elems_len HE.out) (Nat.le_trans (room_take vs (k + 1)) HS.out)
        rw [List.length_append] at hal2
        clear hl
        go_wp2_with fail
        refine L.mono ?_
        rintro e w1 ⟨hB1, v1, rfl, hO1, _⟩
        obtain ⟨a1, c1, rfl⟩ := hO1.isSlice
        have hO0 := OwnsS.below hO hB1
        have hbr1 := hB1.size
        have hR1 := hO1.reads
        have hS1 := saneS hO1
        clear hO hO1
        go_wp2_with (at_builtin; refine wpList_appendS rfl _ _ rfl _ _ rfl rfl hO0 hR1 hS1 (by omega) (by omega) ?_; intro v' w2 hown' hgrow)
        go_roundw
        case rel => exact ⟨k + 1, acc ++ a, by go_num, by omega, HE.out, hown', below_appendS (hB.trans (hB1.mono hbr)) (by omega) hO0 hgrow⟩
        case measure => simp [intOf]; omega
    · have HE := Lib.hid (elems_all (by omega) HA.out)
      go_wp2_with fail
      go_ret2
      exact ⟨hB, by rw [HE.out]; exact ⟨_, rfl, hO⟩⟩
end Go.Proofs.YthjkneifffdglaaDoor
