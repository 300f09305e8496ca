/- What hopNames and the code's Strip return, for every list of fields. -/
import Derived.Test.YtjcekkgoohkomaaDoorFStripSpec
import Derived.Test.YtjcekkgoohkomaaDoorFAll
namespace Go.Proofs.YtjcekkgoohkomaaDoor
open Go.RowKit

set_option maxHeartbeats 2000000 in
set_option maxRecDepth 100000 in
theorem hopNames_any (w : World) : Calls Tryd.prog 63 #[] w fun e w' => e = .returned (.map (some w.heap.size)) ∧ HasL w' w.heap.size 9 hopL ∧ Below w.heap.size w w' := by
  have hmm := @run_makeMap Tryd.prog
  have h0 : HasL (w.alloc (.map #[] 0)) w.heap.size 0 [] := ⟨[], HasNames.made w, fun x => Iff.rfl⟩
  have hB : Below w.heap.size w (w.alloc (.map #[] 0)) := below_new w _
  have key : ∀ (n : Nat) (L : List (List UInt8)) (w1 : World) (x : List UInt8), HasL w1 w.heap.size n L → Below w.heap.size w w1 → x.length ≤ 1000 → n ≤ 1000 →
      ∃ w', (Instr.mapUpdate 89 (.map (some w.heap.size)) (.string (strB x)) (.bool true)).run Tryd.prog w1 = .ok () w' ∧ HasL w' w.heap.size (n + 1) (L ++ [x]) ∧ Below w.heap.size w w' := by
    intro n L w1 x h hb hx hn
    obtain ⟨w', hrun, h', hg⟩ := h.put x (by unfold maxLen; omega) (by unfold maxLen; omega)
    exact ⟨w', hrun, h', hb.grown hg hb.size (fun k hk => by cases hk; exact Nat.le_refl _)⟩
  obtain ⟨w1, r1, h1, b1⟩ := key _ _ _ [99, 111, 110, 110, 101, 99, 116, 105, 111, 110] h0 hB (by decide) (by decide)
  obtain ⟨w2, r2, h2, b2⟩ := key _ _ _ [107, 101, 101, 112, 45, 97, 108, 105, 118, 101] h1 b1 (by decide) (by decide)
  obtain ⟨w3, r3, h3, b3⟩ := key _ _ _ [112, 114, 111, 120, 121, 45, 99, 111, 110, 110, 101, 99, 116, 105, 111, 110] h2 b2 (by decide) (by decide)
  obtain ⟨w4, r4, h4, b4⟩ := key _ _ _ [112, 114, 111, 120, 121, 45, 97, 117, 116, 104, 101, 110, 116, 105, 99, 97, 116, 101] h3 b3 (by decide) (by decide)
  obtain ⟨w5, r5, h5, b5⟩ := key _ _ _ [112, 114, 111, 120, 121, 45, 97, 117, 116, 104, 111, 114, 105, 122, 97, 116, 105, 111, 110] h4 b4 (by decide) (by decide)
  obtain ⟨w6, r6, h6, b6⟩ := key _ _ _ [116, 101] h5 b5 (by decide) (by decide)
  obtain ⟨w7, r7, h7, b7⟩ := key _ _ _ [116, 114, 97, 105, 108, 101, 114] h6 b6 (by decide) (by decide)
  obtain ⟨w8, r8, h8, b8⟩ := key _ _ _ [116, 114, 97, 110, 115, 102, 101, 114, 45, 101, 110, 99, 111, 100, 105, 110, 103] h7 b7 (by decide) (by decide)
  obtain ⟨w9, r9, h9, b9⟩ := key _ _ _ [117, 112, 103, 114, 97, 100, 101] h8 b8 (by decide) (by decide)
  have H9 := Lib.hid h9
  have B9 := Lib.hid b9
  clear h0 hB key h1 b1 h2 b2 h3 b3 h4 b4 h5 b5 h6 b6 h7 b7 h8 b8 h9 b9
  unfold strB at r1 r2 r3 r4 r5 r6 r7 r8 r9
  go_enter Tryd.func63, Tryd.ntmps63
  go_wp2
  go_ret
  exact ⟨rfl, H9.out, B9.out⟩

def StrL (vs : List (List UInt8)) (k j : Nat) (ls : List (List UInt8)) : List (List UInt8) := hopL ++ ((vs.take k).flatMap elemsO ++ ls.take j).map lowS
theorem StrL_put {vs ls : List (List UInt8)} {k j : Nat} {l : List UInt8} (h : ls[j]? = some l) : StrL vs k (j + 1) ls = StrL vs k j ls ++ [lowS l] := by
  unfold StrL; rw [take_more h]; simp
theorem StrL_next {vs : List (List UInt8)} {k j : Nat} {v : List UInt8} (h : vs[k]? = some v) (hj : (elemsO v).length ≤ j) (ls : List (List UInt8)) : StrL vs k j (elemsO v) = StrL vs (k + 1) 0 ls := by
  unfold StrL; rw [flat_take h, List.take_of_length_le hj]; simp
theorem list_k (s : ByteArray) (w : World) (hs : s.size ≤ 100000) :
    Calls Tryd.prog 28 #[.string s] w fun e w' => ∃ u ev, e = .returned (.tuple #[u, ev]) ∧ OwnsS w.heap.size w' u (elemsO s.data.toList) ∧ (elemsO s.data.toList).length ≤ 100002 ∧ Below w.heap.size w w' := by
  refine (list_any s w hs).mono ?_
  rintro e w' ⟨hB, he⟩
  unfold elemsO
  cases hl : listO s.data.toList with
  | none => rw [hl] at he; exact ⟨_, _, he, World.ownsRow_nil _ _ _ _, by simp, hB⟩
  | some ls =>
    rw [hl] at he
    obtain ⟨u, he, hu, hle⟩ := he
    exact ⟨u, _, he, hu, hle, hB⟩

set_option maxHeartbeats 4000000 in
set_option maxRecDepth 100000 in
theorem strip_any (fv : Value) (ps : Flds) (w : World) (hr : ReadsQ w fv ps) (hl : ps.length ≤ 3000) (hb : ∀ p ∈ ps, p.1.length + p.2.length ≤ 6000) :
    Calls Tryd.prog 41 #[fv] w fun e w' => ∃ v, e = .returned v ∧ OwnsP 70 w.heap.size w' v (stripL ps) ∧ Below w.heap.size w w' := by
  have hb6 : ∀ p ∈ ps, p.1.length + p.2.length ≤ 1000000 := fun p hp => by have := hb p hp; omega
  have HA := fun w hr => all_any fv ps (strB connN) w hr (by decide) (by omega) hb6
  rw [strB_list] at HA
  have hvl := all_len ps connN
  have hvs : ∀ v ∈ allL ps connN, v.length ≤ 6000 := by
    intro v hv
    unfold allL at hv
    obtain ⟨p, hp, rfl⟩ := List.mem_map.mp hv
    have := hb p (List.mem_filter.mp hp).1
    omega
  have HW := fun b n L w hr hN => without_l fv ps b n L w hr (by omega) hb6 hN
  have hfin : (ps.filter fun p => !decide (lowS p.1 ∈ StrL (allL ps connN) (allL ps connN).length 0 [])) = stripL ps := by
    unfold stripL StrL dropL elemsL
    rw [List.take_length, List.take_nil, List.append_nil, List.map_append, hop_low]
  generalize allL ps connN = vs at HA hvl hvs hfin
  have HR := Lib.hid hr
  have HAh := Lib.hid HA
  have HVs := Lib.hid hvs
  have HWh := Lib.hid HW
  have HFin := Lib.hid hfin
  obtain ⟨ao, cap, rfl, hc⟩ := hr
  clear hc hb hb6 HA hvs HW hfin
  go_enter Tryd.func41, Tryd.ntmps41
  go_wp2_with fail
  refine (hopNames_any _).mono ?_
  rintro e w1 ⟨rfl, hH1, hB1⟩
  have hz1 := hB1.size
  have hbl : w.heap.size < w1.heap.size := by obtain ⟨ks, h, _⟩ := hH1; exact h.lt
  go_wp2_with fail
  refine (HAh.out _ (HR.out.below hB1)).mono ?_
  rintro e w2 ⟨va, rfl, hO, hB2⟩
  have hH2 := hH1.below hB2
  have hB2' := hB1.trans (hB2.mono hz1)
  have hz2 := hB2.size
  obtain ⟨a2, c2, rfl, hc2⟩ := hO.reads
  have HO := Lib.hid hO
  clear hO hc2 hH1 HAh
  have hS2 : HasL w2 w.heap.size 9 (StrL vs 0 0 []) := by
    have e : StrL vs 0 0 [] = hopL := by simp [StrL]
    rw [e]; exact hH2
  have HS2 := Lib.hid hS2
  clear hS2 hH2
  go_wp2_with fail
  go_loopw [14] (fun i wr => ∃ (k n : Nat), i = .int .i64 k ∧ k ≤ vs.length ∧ n ≤ 9 + k * 100002 ∧ HasL wr w.heap.size n (StrL vs k 0 []) ∧ OwnsS w1.heap.size wr (.slice a2 vs.length c2) vs ∧ Below w.heap.size w wr ∧ w1.heap.size ≤ wr.heap.size) (fun i _ => vs.length - (intOf i).toNat)
  case atStart => exact ⟨0, 9, rfl, Nat.zero_le _, by omega, HS2.out, HO.out, hB2', hz2⟩
  case round =>
    obtain ⟨k, n, rfl, hk, hn, hH, hO, hBr, hwr⟩ := hrel
    have HH := Lib.hid hH
    have HOr := Lib.hid hO
    clear hH hO
    by_cases hlt : k < vs.length
    · obtain ⟨v, hv⟩ : ∃ v, vs[k]? = some v := ⟨vs[k], by simp [hlt]⟩
      obtain ⟨ao2, cp2, hve, hcc⟩ := HOr.out.reads
      obtain ⟨g, off, hao, hg, hcell⟩ := hcc k v hv
      simp only [Value.slice.injEq] at hve
      obtain ⟨hve1, _, hve2⟩ := hve
      rw [hao] at hve1
      subst hve1
      have hvl6 : (strB v).size ≤ 100000 := by rw [strB_size]; have := HVs.out v (List.mem_of_getElem? hv); omega
      have hel : ∀ l ∈ elemsO v, l.length ≤ 6000 := fun l hl => Nat.le_trans (elemsO_len l hl) (HVs.out v (List.mem_of_getElem? hv))
      have LK := list_k (strB v) wr hvl6
      rw [strB_list] at LK
      have HEl := Lib.hid hel
      have HV := Lib.hid hv
      clear hel hv hcc hve2 hao
      go_wp2_with fail
      refine LK.mono ?_
      rintro e w3 ⟨u, ev, rfl, hU, hUl, hB3⟩
      have hH3 := HH.out.below hB3
      have hO3 := OwnsS.below HOr.out hB3
      have hB3' := hBr.trans (hB3.mono hBr.size)
      have hz3 := hB3.size
      obtain ⟨a3, c3, rfl, hc3⟩ := hU.reads
      have e0 : StrL vs k 0 [] = StrL vs k 0 (elemsO v) := by simp [StrL]
      rw [e0] at hH3
      have HU := Lib.hid hU
      have HH3 := Lib.hid hH3
      have HO3 := Lib.hid hO3
      clear hU hH3 hO3 hc3 e0 LK hcell
      go_wp2_with fail
      go_loopw [25] (fun i wi => ∃ (j m : Nat), i = .int .i64 j ∧ j ≤ (elemsO v).length ∧ m ≤ n + j ∧ HasL wi w.heap.size m (StrL vs k j (elemsO v)) ∧ OwnsS w1.heap.size wi (.slice (some ⟨g, off, none⟩) vs.length c2) vs ∧ OwnsS w1.heap.size wi (.slice a3 (elemsO v).length c3) (elemsO v) ∧ Below w.heap.size w wi ∧ w1.heap.size ≤ wi.heap.size) (fun i _ => (elemsO v).length - (intOf i).toNat)
      case atStart => exact ⟨0, n, rfl, Nat.zero_le _, by omega, HH3.out, HO3.out, OwnsS.mono hwr HU.out, hB3', by omega⟩
      case round =>
        obtain ⟨j, m, rfl, hj, hm, hHi, hOi, hUi, hBi, hwi⟩ := hrel
        have HHi := Lib.hid hHi
        have HOi := Lib.hid hOi
        have HUi := Lib.hid hUi
        clear hHi hOi hUi
        by_cases hlj : j < (elemsO v).length
        · obtain ⟨l, hl⟩ : ∃ l, (elemsO v)[j]? = some l := ⟨(elemsO v)[j], by simp [hlj]⟩
          obtain ⟨ao4, cp4, hve, hcc⟩ := HUi.out.reads
          obtain ⟨g4, off4, hao, hg4, hcell4⟩ := hcc j l hl
          simp only [Value.slice.injEq] at hve
          obtain ⟨hve1, _, hve3⟩ := hve
          clear hve3
          rw [hao] at hve1
          subst hve1
          have hll := HEl.out l (List.mem_of_getElem? hl)
          have hlz : (strB l).size ≤ 1000000000 := by rw [strB_size]; omega
          have hst := StrL_put (vs := vs) (k := k) hl
          have HSt := Lib.hid hst
          clear hl hcc hao hst
          go_wp2_with fail
          refine (lower_any (strB l) _ hlz).mono ?_
          rintro e w4 ⟨rfl, hB4⟩
          rw [strB_list]
          have hH4 := HHi.out.below hB4
          have hO4 := OwnsS.below HOi.out hB4
          have hU4 := OwnsS.below HUi.out hB4
          have hB4' := hBi.trans (hB4.mono hBi.size)
          have hz4 := hB4.size
          obtain ⟨w5, hrun, hH5, hg5⟩ := hH4.put (lowS l) (by rw [lowS_len]; unfold maxLen; omega) (by unfold maxLen; omega)
          have hz5 := hg5.size
          have hO5 : OwnsS w1.heap.size w5 (.slice (some ⟨g, off, none⟩) vs.length c2) vs := World.ownsRow.kept hO4 hg5 (.inr fun h => by
            have := (World.ownsRow.lt hO4 g rfl).1
            simp [Value.ownBlock] at h
            omega)
          have hU5 : OwnsS w1.heap.size w5 (.slice (some ⟨g4, off4, none⟩) (elemsO v).length c3) (elemsO v) := World.ownsRow.kept hU4 hg5 (.inr fun h => by
            have := (World.ownsRow.lt hU4 g4 rfl).1
            simp [Value.ownBlock] at h
            omega)
          have hB5 : Below w.heap.size w w5 := hB4'.grown hg5 hB4'.size (fun q hq => by cases hq; exact Nat.le_refl _)
          rw [← HSt.out] at hH5
          have HH5 := Lib.hid hH5
          have HO5 := Lib.hid hO5
          have HU5 := Lib.hid hU5
          clear hH4 hO4 hU4 hH5 hO5 hU5 hB4 hg5 HSt
          go_wp2_with fail
          go_roundw
          case rel => exact ⟨j + 1, m + 1, by go_num, by omega, by omega, HH5.out, HO5.out, HU5.out, hB5, by omega⟩
          case measure => simp [intOf]; omega
        · have hnx := StrL_next HV.out (by omega : (elemsO v).length ≤ j) []
          have hHn := HHi.out
          rw [hnx] at hHn
          have HHn := Lib.hid hHn
          clear hHn hnx
          go_wp2_with fail
          go_roundw
          case rel => exact ⟨k + 1, m, by go_num, by omega, by omega, HHn.out, HOi.out, hBi, hwi⟩
          case measure => simp [intOf]; omega
    · obtain rfl : k = vs.length := by omega
      have HWw := HWh.out w.heap.size n _ wr (HR.out.below hBr) HH.out
      rw [HFin.out] at HWw
      go_wp2_with fail
      refine HWw.mono ?_
      rintro e w3 ⟨vr, rfl, hOr, hB3⟩
      go_wp2_with fail
      go_ret
      exact ⟨vr, rfl, OwnsP.mono hBr.size hOr, hBr.trans (hB3.mono hBr.size)⟩
end Go.Proofs.YtjcekkgoohkomaaDoor
