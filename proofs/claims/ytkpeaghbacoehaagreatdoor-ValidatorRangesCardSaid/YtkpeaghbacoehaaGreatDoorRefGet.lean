/- What the reference's Get returns. -/
import Derived.Test.YtkpeaghbacoehaaGreatDoorRefAll
import Derived.Test.YtkpeaghbacoehaaGreatDoorFSmall
namespace Go.Proofs.YtkpeaghbacoehaaGreatDoor
open Go.RowKit

theorem strB_sep (l t : List UInt8) : strB l ++ ⟨#[44, 32]⟩ ++ strB t = strB (l ++ 44 :: 32 :: t) := by apply ByteArray.ext; simp [strB]
theorem strB_two (l t : List UInt8) : strB l ++ strB t = strB (l ++ t) := by apply ByteArray.ext; simp [strB]
theorem strB_nil (t : List UInt8) : strB [] ++ strB t = strB t := by rw [strB_two]; rfl
theorem getL_more {ls : List (List UInt8)} {k : Nat} {t : List UInt8} (h : ls[k]? = some t) (hk : 0 < k) : getL (ls.take (k + 1)) = getL (ls.take k) ++ 44 :: 32 :: t := by
  rw [take_more h, getL_snoc]
  intro e
  have hl := (List.getElem?_eq_some_iff.mp h).1
  rcases List.take_eq_nil_iff.mp e with e | e
  · omega
  · rw [e] at hl; simp at hl
theorem getL_first {ls : List (List UInt8)} {k : Nat} {t : List UInt8} (h : ls[k]? = some t) (hk : k < 1) : getL (ls.take (k + 1)) = getL (ls.take k) ++ t := by
  obtain rfl : k = 0 := by omega
  rw [take_more h]; simp [getL]
set_option maxHeartbeats 2000000 in
set_option maxRecDepth 100000 in
theorem refGet_any (fv : Value) (ps : Flds) (n : List UInt8) (w : World) (hr : ReadsQ w fv ps) (hn : n.length ≤ 1000000000) (hl : ps.length ≤ 1000000) (hb : ∀ p ∈ ps, p.1.length + p.2.length ≤ 1000000) :
    Calls Tryz.prog 46 #[fv, .string (strB n)] w fun e w' => e = .returned (.tuple #[.string (strB (getL (allL ps n))), .bool (decide (0 < (allL ps n).length))]) ∧ Below w.heap.size w w' := by
  have HA := refAll_any fv ps n w hr hn hl hb
  have hal := all_len ps n
  have hsm := all_small (n := n) hb
  generalize allL ps n = ls at *
  have hgl : ∀ k, (getL (ls.take k)).length ≤ 1000000 * (1000000 + 2) := fun k => by
    refine Nat.le_trans (getL_len (ls.take k) 1000000 fun l h => hsm l (List.mem_of_mem_take h)) (Nat.mul_le_mul_right _ ?_)
    simp; omega
  have HSm := Lib.hid hsm
  have HGl := Lib.hid hgl
  clear hb hsm hgl
  obtain ⟨ao, cap, rfl, hc⟩ := hr
  clear hc
  go_enter Tryz.func46, Tryz.ntmps46
  go_wp2_with fail
  refine HA.mono ?_
  rintro e w1 ⟨v, rfl, hO, hB⟩
  clear HA
  rcases hO.opens with ⟨rfl, rfl⟩ | ⟨g, cap', rfl, hcap, hg, hc⟩
  · go_wp2_with fail
    refine wp_loop_rounds 1 ?_
    rw [rounds_succ]
    go_wp2
    go_ret2
    exact ⟨rfl, hB⟩
  · have HC := Lib.hid hc
    clear hc
    go_wp2_with fail
    go_loopw [7, 14] (fun v i wr => ∃ k : Nat, i = .int .i64 k ∧ k ≤ ls.length ∧ v = .string (strB (getL (ls.take k))) ∧ Below w1.heap.size w1 wr) (fun _ i _ => ls.length - (intOf i).toNat)
    case atStart => exact ⟨0, rfl, Nat.zero_le _, rfl, Below.refl _ _⟩
    case round =>
      obtain ⟨k, rfl, hk, rfl, hBr⟩ := hrel
      have hgk := HGl.out k
      have hzg : (strB (getL (ls.take k))).size ≤ 1000000 * (1000000 + 2) := by rw [strB_size]; exact hgk
      by_cases hlt : k < ls.length
      · obtain ⟨t, ht⟩ : ∃ t, ls[k]? = some t := ⟨ls[k], by simp [hlt]⟩
        have hc1 : wr.cell? ⟨g, k, none⟩ = some (.string (strB t)) := (hBr.cell (p := ⟨g, k, none⟩) hg).trans (HC.out k t ht)
        have hzt : (strB t).size ≤ 1000000 := by rw [strB_size]; exact HSm.out t (List.mem_of_getElem? ht)
        by_cases h0 : k = 0
        · have h1 : k < 1 := by omega
          have hm := getL_first ht h1
          have HM := Lib.hid hm
          clear ht hm h0
          go_wp2
          go_roundw
          case rel => exact ⟨k + 1, by go_num, by omega, by rw [HM.out, ← strB_two], hBr⟩
          case measure => simp [intOf]; omega
        · have hm := getL_more ht (by omega)
          have HM := Lib.hid hm
          clear ht hm
          go_wp2
          go_roundw
          case rel => exact ⟨k + 1, by go_num, by omega, by rw [HM.out, ← strB_sep], hBr⟩
          case measure => simp [intOf]; omega
      · have htk : ls.take k = ls := List.take_of_length_le (by omega)
        rw [htk]
        go_wp2_with fail
        go_ret2
        exact ⟨by simp, hB.trans (hBr.mono hB.size)⟩
end Go.Proofs.YtkpeaghbacoehaaGreatDoor
