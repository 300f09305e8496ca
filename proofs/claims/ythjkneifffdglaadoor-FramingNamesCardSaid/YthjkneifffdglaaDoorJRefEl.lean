/- What the reference's elements and Number return. -/
import Derived.Test.YthjkneifffdglaaDoorJOfF
import Derived.Test.YthjkneifffdglaaDoorRefAll
import Derived.Test.YthjkneifffdglaaDoorRefList
namespace Go.Proofs.YthjkneifffdglaaDoor
open Go.RowKit

theorem refAllN_any (n : List UInt8) (fv : Value) (ps : Flds) (w : World) (hr : ReadsQ w fv ps) (hf : Fits ps) (hn : n.length ≤ 100) :
    Calls Tryd.prog 36 #[fv, .string (strB n)] w fun e w' => ∃ v, e = .returned v ∧ OwnsS w.heap.size w' v (allL ps n) ∧ Below w.heap.size w w' :=
  refAll_any fv ps n w hr (by omega) (Nat.le_trans hf.1 (by decide)) hf.each
def RefElPost (vs : List (List UInt8)) (w : World) (e : Ending) (w' : World) : Prop :=
  ∃ v, e = .returned (.tuple #[v, .bool (elemsF vs).isSome]) ∧ OwnsS w.heap.size w' v ((elemsF vs).getD []) ∧ Below w.heap.size w w'
set_option maxHeartbeats 4000000 in
set_option maxRecDepth 100000 in
theorem refElements_any (n : List UInt8) (fv : Value) (ps : Flds) (w : World) (hr : ReadsQ w fv ps) (hf : Fits ps) (hn : n.length ≤ 100) :
    Calls Tryd.prog 35 #[fv, .string (strB n)] w (fun e w' => RefElPost (allL ps n) w e w') := by
  have A := refAllN_any n fv ps w hr hf hn
  have HS := Lib.hid (hf.room n)
  have hvn : (allL ps n).length ≤ 50000 := Nat.le_trans (room_len _) (hf.room n)
  generalize allL ps n = vs at *
  clear hr hf
  go_enter Tryd.func35, Tryd.ntmps35
  go_wp2_with fail
  refine A.mono ?_
  rintro e w1 ⟨v1, rfl, hO1, hB1⟩
  have hb1 := hB1.size
  obtain ⟨ao, cap, rfl, hc⟩ := hO1.reads
  have HC := Lib.hid hc
  clear hc hO1 A
  go_wp2_with fail
  go_loopw [6, 8] (fun u i wr => ElRel vs w1 u i wr) (fun _ i _ => vs.length - (intOf i).toNat)
  case atStart => exact ElRel0 vs w1
  case round =>
    obtain ⟨k, acc, rfl, hk, hacc, hO, hB⟩ := hrel
    have hbr := hB.size
    have HA := Lib.hid hacc
    have hal : acc.length ≤ 50000 := Nat.le_trans (elems_len hacc) (Nat.le_trans (room_take vs k) HS.out)
    clear hacc
    by_cases hlt : k < vs.length
    · obtain ⟨v, hv⟩ : ∃ v, vs[k]? = some v := ⟨vs[k], by simp [hlt]⟩
      obtain ⟨g, off, rfl, hg, h1⟩ := HC.out k v hv
      have hcell : wr.cell? ⟨g, off + k, none⟩ = some (.string (strB v)) := (hB.cell (p := ⟨g, off + k, none⟩) hg).trans h1
      have hvl : (strB v).size ≤ 100000 := by
        rw [strB_size]; have := room_mem (List.mem_of_getElem? hv); have := HS.out; omega
      have HV := Lib.hid hv
      have L := refList_any (strB v) wr hvl
      unfold RefListPost at L
      rw [strB_list] at L
      clear hv h1
      cases hl : listO v with
      | none =>
        rw [hl] at L
        have HE := Lib.hid (elems_none_at HV.out hl)
        clear hl
        go_wp2_with fail
        refine L.mono ?_
        rintro e w2 ⟨hB2, rfl⟩
        go_wp2_with fail
        go_ret2
        exact ⟨.slice none 0 0, by rw [HE.out]; rfl, by rw [HE.out]; exact World.ownsRow_nil _ _ _ _, hB1.trans ((hB.trans (hB2.mono hbr)).mono hb1)⟩
      | some a =>
        rw [hl] at L
        have HE := Lib.hid (elems_more HV.out HA.out hl)
        have hal2 : (acc ++ a).length ≤ 50000 := Nat.le_trans (elems_len HE.out) (Nat.le_trans (room_take vs (k + 1)) HS.out)
        rw [List.length_append] at hal2
        clear hl
        go_wp2_with fail
        refine L.mono ?_
        rintro e w2 ⟨hB2, v2, rfl, hO2, _⟩
        obtain ⟨a1, c1, rfl⟩ := hO2.isSlice
        have hO0 := OwnsS.below hO hB2
        have hbr1 := hB2.size
        have hR1 := hO2.reads
        have hS1 := saneS hO2
        clear hO hO2
        go_wp2_with (at_builtin; refine wpList_appendS rfl _ _ rfl _ _ rfl rfl hO0 hR1 hS1 (by omega) (by omega) ?_; intro v' w3 hown' hgrow)
        go_roundw
        case rel => exact ⟨k + 1, acc ++ a, by go_num, by omega, HE.out, hown', below_appendS (hB.trans (hB2.mono hbr)) (by omega) hO0 hgrow⟩
        case measure => simp [intOf]; omega
    · have HE := Lib.hid (elems_all (by omega) HA.out)
      go_wp2_with fail
      go_ret2
      exact ⟨_, by rw [HE.out]; rfl, by rw [HE.out]; exact OwnsS.mono hb1 hO, hB1.trans (hB.mono hb1)⟩
/-- What the reference's Number says of a text. -/
def numZ (l : List UInt8) : Int := match numO l with
  | some n => (n : Int)
  | none => -1
theorem numZ_bad {s : ByteArray} {k : Nat} (h : k < s.size) (hb : ¬ (48 ≤ s[k].toNat ∧ s[k].toNat ≤ 57)) : numZ s.data.toList = -1 := by
  have : numO s.data.toList = none := by
    unfold numO
    rw [if_neg]
    rintro ⟨_, _, h3⟩
    rw [List.all_eq_true] at h3
    have := h3 _ (get_mem s k h)
    simp [fdB] at this
    exact hb this
  unfold numZ; rw [this]
theorem numZ_len {s : ByteArray} (h : s.size < 1 ∨ 15 < s.size) : numZ s.data.toList = -1 := by
  have hsz : s.data.toList.length = s.size := by rw [Array.length_toList]; rfl
  have : numO s.data.toList = none := by
    unfold numO
    rw [if_neg]
    rintro ⟨h1, h2, _⟩
    omega
  unfold numZ; rw [this]
theorem numZ_good {s : ByteArray} (h1 : 1 ≤ s.size) (h2 : s.size ≤ 15) (h3 : s.data.toList.all digB = true) : numZ s.data.toList = (numV s.data.toList : Int) := by
  have hsz : s.data.toList.length = s.size := by rw [Array.length_toList]; rfl
  have : numO s.data.toList = some (fnV s.data.toList) := by
    unfold numO
    rw [if_pos]
    refine ⟨by omega, by omega, ?_⟩
    rw [List.all_eq_true] at *
    intro c hc; rw [fdB_eq]; exact h3 c hc
  unfold numZ; rw [this]; rfl
set_option maxHeartbeats 4000000 in
set_option maxRecDepth 100000 in
theorem refNumber_any (s : ByteArray) (w : World) (hs : s.size ≤ 1000000) :
    Calls Tryd.prog 38 #[.string s] w (fun e w' => e = .returned (.int .i64 (numZ s.data.toList)) ∧ w = w') := by
  go_enter Tryd.func38, Tryd.ntmps38
  go_wp2_with fail
  go_loop [3, 4] (fun n i => ∃ k : Nat, k ≤ s.size ∧ i = .int .i64 k ∧ n = .int .i64 (numV (s.data.toList.take (min k 15))) ∧ allDig s k) (fun _ i => s.size - (intOf i).toNat)
  case atStart => exact ⟨0, by omega, rfl, rfl, allDig0 s⟩
  case round =>
    obtain ⟨k, hk, rfl, rfl, hd⟩ := hrel
    have HD := Lib.hid hd
    have hv : numV (s.data.toList.take (min k 15)) < 1000000000000000 := numV_le _ (by
      have := hd
      unfold allDig at this
      rw [List.all_eq_true] at *
      intro c hc
      refine this c ?_
      have e : s.data.toList.take (min k 15) = (s.data.toList.take k).take 15 := by rw [List.take_take, Nat.min_comm]
      rw [e] at hc
      exact List.mem_of_mem_take hc) (by simp; omega)
    clear hd
    by_cases hlt : k < s.size
    · by_cases hb : 48 ≤ s[k].toNat ∧ s[k].toNat ≤ 57
      · obtain ⟨hb1, hb2⟩ := hb
        have HN := Lib.hid (allDig_step hlt HD.out (by simp [digB]; omega))
        by_cases h15 : k < 15
        · have hv2 : Hid (numV (s.data.toList.take (min (k + 1) 15)) = 10 * numV (s.data.toList.take (min k 15)) + (s[k].toNat - 48)) := by
            rw [show min (k + 1) 15 = k + 1 by omega, show min k 15 = k by omega, take_snoc s k hlt]; exact numV_snoc _ _
          go_wp2_with fail
          go_round
          case rel => exact ⟨k + 1, by omega, by go_num, int_eq (by rw [hv2.out]; omega), HN.out⟩
          case measure => simp [intOf]; omega
        · have HM := Lib.hid (show min (k + 1) 15 = min k 15 by omega)
          go_wp2_with fail
          go_round
          case rel => exact ⟨k + 1, by omega, by go_num, by rw [HM.out], HN.out⟩
          case measure => simp [intOf]; omega
      · have HZ := Lib.hid (numZ_bad hlt hb)
        by_cases hb1 : 48 ≤ s[k].toNat
        · have hb2 : 57 < s[k].toNat := by omega
          clear hb
          go_wp2_with fail
          go_ret
          exact ⟨by rw [HZ.out]; rfl, rfl⟩
        · clear hb
          go_wp2_with fail
          go_ret
          exact ⟨by rw [HZ.out]; rfl, rfl⟩
    · by_cases h1 : s.size < 1
      · have HZ := Lib.hid (numZ_len (s := s) (.inl h1))
        go_wp2_with fail
        go_ret
        exact ⟨by rw [HZ.out]; rfl, rfl⟩
      · by_cases h2 : 15 < s.size
        · have HZ := Lib.hid (numZ_len (s := s) (.inr h2))
          go_wp2_with fail
          go_ret
          exact ⟨by rw [HZ.out]; rfl, rfl⟩
        · have HZ := Lib.hid (numZ_good (s := s) (by omega) (by omega) (by have := HD.out; unfold allDig at this; rwa [take_all s k (by omega)] at this))
          have HT := Lib.hid (take_all s (min k 15) (by omega))
          go_wp2_with fail
          go_ret
          exact ⟨by rw [HZ.out, show numV s.data.toList = numV (s.data.toList.take (min k 15)) by rw [HT.out]]; rfl, rfl⟩
end Go.Proofs.YthjkneifffdglaaDoor
