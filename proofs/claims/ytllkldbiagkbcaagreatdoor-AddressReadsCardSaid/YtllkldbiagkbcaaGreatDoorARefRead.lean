/- What the reference's Read returns. -/
import Derived.Test.YtllkldbiagkbcaaGreatDoorARefValid
import Derived.Deep.RegionHeld3
namespace Go.Proofs.YtllkldbiagkbcaaGreatDoor
open Go.RowKit

def noS (c : UInt8) : Bool := c != 47
theorem tw_at {s : ByteArray} {k : Nat} (h : okTo noS s k) (hk : k ≤ s.size) (he : s.size ≤ k ∨ ∃ r, s.data.toList.drop k = 47 :: r) : s.data.toList.takeWhile (· ≠ 47) = s.data.toList.take k := by
  have hs : s.data.toList = s.data.toList.take k ++ s.data.toList.drop k := (List.take_append_drop k _).symm
  have ht : (s.data.toList.drop k).takeWhile (· ≠ 47) = [] := by
    rcases he with he | ⟨r, hr⟩
    · rw [List.drop_eq_nil_of_le (by rw [Array.length_toList]; exact he)]; rfl
    · rw [hr]; simp
  conv => lhs; rw [hs]
  rw [List.takeWhile_append_of_pos (by
    intro c hc
    have := List.all_eq_true.mp h c hc
    unfold noS at this
    simpa using this), ht, List.append_nil]
def refReadV (l : List UInt8) : Value := match readO l with
  | none => .tuple #[adrV .zero, .bool false]
  | some a => .tuple #[adrV a, .bool true]
theorem refReadV_no {l : List UInt8} (h : readO l = none) : refReadV l = .tuple #[adrV .zero, .bool false] := by unfold refReadV; rw [h]
theorem refReadV_yes {l : List UInt8} {a : Adr} (h : readO l = some a) : refReadV l = .tuple #[adrV a, .bool true] := by unfold refReadV; rw [h]
theorem refParse_in {w wr : World} (s t : ByteArray) (hS : Below w.heap.size w wr ∧ w.heap.size ≤ wr.heap.size) (hs : s.size ≤ 1000000) (ht : t.size ≤ 100000) {x : Adr} {z : Int} (hv : refParseV s.data.toList t.data.toList = .tuple #[adrV x, .int .i64 z]) :
    Calls Tryz.prog 8 #[.string s, .string t] wr fun e w' => e = .returned (.tuple #[adrV x, .int .i64 z]) ∧ (Below w.heap.size w w' ∧ w.heap.size ≤ w'.heap.size) ∧ Below wr.heap.size wr w' := by
  refine (refParse_any s t wr hs ht).mono ?_
  rintro e w' ⟨rfl, hB⟩
  have h := hS.1.trans (hB.mono hS.2)
  exact ⟨by rw [hv], ⟨h, h.size⟩, hB⟩
set_option maxHeartbeats 4000000 in
set_option maxRecDepth 100000 in
theorem refRead_any (s : ByteArray) (w : World) (hs : s.size ≤ 100000) :
    Calls Tryz.prog 18 #[.string s] w fun e w' => e = .returned (refReadV s.data.toList) ∧ Below w.heap.size w w' := by
  have hsz : s.data.toList.length = s.size := by rw [Array.length_toList]; rfl
  have HSZ := Lib.hid hsz
  clear hsz
  go_enter Tryz.func18, Tryz.ntmps18
  go_upto_block 0 with fail
  have hZ := Lib.hid (four_new w (.string ⟨#[]⟩) (.string ⟨#[]⟩) (.string ⟨#[]⟩) (.bool false) 29)
  have hW0 := Lib.hid (below_new w (.cells #[.string ⟨#[]⟩, .string ⟨#[]⟩, .string ⟨#[]⟩, .bool false] 29))
  generalize w.alloc (.cells #[.string ⟨#[]⟩, .string ⟨#[]⟩, .string ⟨#[]⟩, .bool false] 29) = w0 at *
  go_cut [4] (fun u wx => ∃ k : Nat, u = .int .i64 k ∧ k ≤ s.size ∧ s.data.toList.takeWhile (· ≠ 47) = s.data.toList.take k ∧ wx = w0)
  case first =>
    go_wp2_with fail
    go_loop [4] (fun i => ∃ k : Nat, k ≤ s.size ∧ i = .int .i64 k ∧ okTo noS s k) (fun i => s.size - (intOf i).toNat)
    case atStart => exact ⟨0, by omega, rfl, okTo0 _ s⟩
    case round =>
      obtain ⟨k, hk, rfl, hn⟩ := hrel
      by_cases hlt : k < s.size
      · by_cases hc : s[k].toNat = 47
        · have HS := Lib.hid (tw_at hn hk (Or.inr ⟨_, by rw [drop_at s k hlt, show s[k] = 47 from nat_of_u8 hc]⟩))
          have hc' : ((s[k].toNat : Int) != 47) = false := by rw [hc]; rfl
          clear hc
          go_wp2
          go_meet
          case rel => exact ⟨k, rfl, hk, HS.out, rfl⟩
        · have HN := Lib.hid (okTo_step (p := noS) hlt hn (by unfold noS; simp; intro e; exact hc (by rw [e]; rfl)))
          have hc' : ((s[k].toNat : Int) != 47) = true := by simp; omega
          clear hc
          go_wp2
          go_round
          case rel => exact ⟨k + 1, by omega, by go_num, HN.out⟩
          case measure => simp [intOf]; omega
      · have HS := Lib.hid (tw_at hn hk (Or.inl (by omega)))
        go_wp2
        go_meet
        case rel => exact ⟨k, rfl, hk, HS.out, rfl⟩
  case rest =>
    obtain ⟨k, rfl, hk, hT, hwc⟩ := hcut
    subst hwc
    obtain ⟨n, x, hpv⟩ : ∃ n x, parseA (s.data.toList.take k) (s.data.toList.drop k) = (n, x) := ⟨_, _, rfl⟩
    obtain ⟨z, hz⟩ : ∃ z : Int, z = (n : Int) := ⟨_, rfl⟩
    have HR := Lib.hid (show readO s.data.toList = if n = 0 ∧ x.text = s.data.toList then some x else none by
      unfold readO
      simp only
      rw [hT, List.length_take, HSZ.out, Nat.min_eq_left hk, hpv])
    have HLE2 := Lib.hid (show AdrLe 1000000000000 x by
      have this : AdrLe 2000 x := by have := parse_le (s.data.toList.take k) (s.data.toList.drop k); rw [hpv] at this; exact this
      exact ⟨by have := this.1; omega, by have := this.2.1; omega, by have := this.2.2; omega⟩)
    have HV := Lib.hid (show refParseV (s.extract 0 k).data.toList (s.extract k s.size).data.toList = .tuple #[adrV x, .int .i64 z] by
      rw [seg_list, seg_list, List.drop_zero, Nat.sub_zero, List.take_of_length_le (l := s.data.toList.drop k) (by rw [List.length_drop, HSZ.out]; exact Nat.le_refl _), refParseV_of hpv, hz])
    have HZ := Lib.hid hz
    have ha1 : (s.extract 0 k).size ≤ 1000000 := by rw [ByteArray.size_extract]; omega
    have ha2 : (s.extract k s.size).size ≤ 100000 := by rw [ByteArray.size_extract]; omega
    have HA1 := Lib.hid ha1
    have HA2 := Lib.hid ha2
    clear hpv hz hT ha1 ha2
    have hk0 : (0 : Int) ≤ (k : Int) := by omega
    have hk1 : (k : Int) ≤ (s.size : Int) := by omega
    go_upto_region 4 with fail
    go_cut [5, 6] (fun u5 u6 wx => u6 = .int .i64 z ∧ ReadRel x wc u5 wx)
    case first =>
      have hle0 : wc.heap.size ≤ wc.heap.size := Nat.le_refl _
      go_region_held3 (fun w' => Below wc.heap.size wc w' ∧ wc.heap.size ≤ w'.heap.size)
        (first | (with_reducible exact h5) | (with_reducible exact in_alloc h5 _) | (with_reducible exact in_refl _) | (with_reducible exact in_first _ _) | (with_reducible exact in_set h5 (by assumption) _ _ _ _))
        (first
          | (go_at_call 8; refine (refParse_in _ _ (by assumption) HA1.out HA2.out HV.out).mono ?_; rintro e w' ⟨rfl, h5, hB⟩; have hq2 := h5.2; (first | ((with_reducible have HG2 := Lib.hid ((four_drew (four_new _ _ _ _ _ _)).below hB)); obtain ⟨g0, g1, g2, g3, f0, f1, f2, f3, hy⟩ := HG2.out) | skip); have HB2 := Lib.hid hB; clear hB))
      · go_wp2_with fail
        go_meet
        case rel => exact ⟨rfl, _, rfl, four_new _ _ _ _ _ _, (in_alloc h5 _).1⟩
      · go_wp2_with fail
        go_meet
        case rel => exact ⟨rfl, _, rfl, four_set HG2.out _ _ _ _, (in_set h5 hle0 _ _ _ _).1⟩
    case rest =>
      obtain ⟨rfl, N, rfl, hN, hA⟩ := hcut
      have hZ1 := Lib.hid (hZ.out.below hA)
      have hWc := Lib.hid (hW0.out.trans (hA.mono hW0.out.size))
      clear hA
      by_cases hn : n = 0
      · obtain rfl : z = 0 := by rw [HZ.out, hn]; rfl
        have HN := Lib.hid hN
        obtain ⟨c0, c1, c2, c3, g0, g1, g2, g3, _⟩ := HN.out
        clear hN
        by_cases hxt : x.text = s.data.toList
        · have HR2 := Lib.hid (refReadV_yes (l := s.data.toList) (a := x) (by rw [HR.out, if_pos ⟨hn, hxt⟩]))
          have heq : ((strB x.text).toList == s.toList) = true := by rw [ByteArray.toList_eq, ByteArray.toList_eq, strB_list, hxt]; exact beq_self_eq_true _
          clear hn hxt
          go_wp2_with fail
          refine (refText_any x _ HLE2.out).mono ?_
          rintro e w5 ⟨rfl, hB5⟩
          clear c0 c1 c2 c3 g0 g1 g2 g3
          obtain ⟨c0, c1, c2, c3, g0, g1, g2, g3, _⟩ := HN.out.below hB5
          obtain ⟨d0, d1, d2, d3, f0, f1, f2, f3, _⟩ := hZ1.out.below hB5
          have hW5 := Lib.hid (hWc.out.trans (hB5.mono hWc.out.size))
          clear hB5
          go_wp2_with fail
          exact bodyPost_ret (v := .tuple #[.agg #[.string (strB x.h), .string (strB x.p), .string (strB x.q), .bool x.b], .bool true]) (by simp [results, Tryz.results18, go_sem, d0, d1, d2, d3]) rfl ⟨by rw [HR2.out], below_four hW5.out _ _ _ _⟩
        · have HR2 := Lib.hid (refReadV_no (l := s.data.toList) (by rw [HR.out, if_neg (fun e => hxt e.2)]))
          have heq : ((strB x.text).toList == s.toList) = false := by rw [ByteArray.toList_eq, ByteArray.toList_eq, strB_list]; simpa using hxt
          clear hn hxt
          go_wp2_with fail
          refine (refText_any x _ HLE2.out).mono ?_
          rintro e w5 ⟨rfl, hB5⟩
          clear c0 c1 c2 c3 g0 g1 g2 g3
          obtain ⟨c0, c1, c2, c3, g0, g1, g2, g3, _⟩ := HN.out.below hB5
          obtain ⟨d0, d1, d2, d3, f0, f1, f2, f3, _⟩ := hZ1.out.below hB5
          have hW5 := Lib.hid (hWc.out.trans (hB5.mono hWc.out.size))
          clear hB5
          go_wp2_with fail
          exact bodyPost_ret (v := .tuple #[.agg #[.string ⟨#[]⟩, .string ⟨#[]⟩, .string ⟨#[]⟩, .bool false], .bool false]) (by simp [results, Tryz.results18, go_sem, d0, d1, d2, d3]) rfl ⟨by rw [HR2.out]; rfl, below_four hW5.out _ _ _ _⟩
      · have hz' : (z != 0) = true := by rw [HZ.out]; simp; omega
        have HR2 := Lib.hid (refReadV_no (l := s.data.toList) (by rw [HR.out, if_neg (fun e => hn e.1)]))
        obtain ⟨d0, d1, d2, d3, f0, f1, f2, f3, _⟩ := hZ1.out
        clear hn hN
        go_wp2_with fail
        exact bodyPost_ret (v := .tuple #[.agg #[.string ⟨#[]⟩, .string ⟨#[]⟩, .string ⟨#[]⟩, .bool false], .bool false]) (by simp [results, Tryz.results18, go_sem, d0, d1, d2, d3]) rfl ⟨by rw [HR2.out]; rfl, below_four hWc.out _ _ _ _⟩
end Go.Proofs.YtllkldbiagkbcaaGreatDoor
