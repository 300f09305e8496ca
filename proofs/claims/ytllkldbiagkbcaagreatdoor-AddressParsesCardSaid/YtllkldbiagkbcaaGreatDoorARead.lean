/- What Read returns. -/
import Derived.Test.YtllkldbiagkbcaaGreatDoorAReadS
import Derived.Test.YtllkldbiagkbcaaGreatDoorAValid
namespace Go.Proofs.YtllkldbiagkbcaaGreatDoor
open Go.RowKit

def readV (l : List UInt8) : Value := match readO l with
  | none => .tuple #[adrV .zero, errA 2]
  | some a => .tuple #[adrV a, .nilIface]
theorem readV_no {l : List UInt8} (h : readO l = none) : readV l = .tuple #[adrV .zero, errA 2] := by unfold readV; rw [h]
theorem readV_yes {l : List UInt8} {a : Adr} (h : readO l = some a) : readV l = .tuple #[adrV a, .nilIface] := by unfold readV; rw [h]
theorem readO_at {l : List UInt8} {x : Adr} {n : Nat} (h : parseA (l.take (l.takeWhile (· ≠ 47)).length) (l.drop (l.takeWhile (· ≠ 47)).length) = (n, x)) (ht : l.take (l.takeWhile (· ≠ 47)).length = l.takeWhile (· ≠ 47)) : readO l = if n = 0 ∧ x.text = l then some x else none := by
  unfold readO
  rw [ht] at h
  simp only [h]
theorem below_set {B N : Nat} {w w1 : World} (h : Below B w w1) (hN : B ≤ N) (v0 v1 v2 v3 : Value) : Below B w ((((w1.setCell ⟨N, 0, none⟩ v0).setCell ⟨N, 1, none⟩ v1).setCell ⟨N, 2, none⟩ v2).setCell ⟨N, 3, none⟩ v3) :=
  (((h.setCell (p := ⟨N, 0, none⟩) hN _).setCell (p := ⟨N, 1, none⟩) hN _).setCell (p := ⟨N, 2, none⟩) hN _).setCell (p := ⟨N, 3, none⟩) hN _
def ReadRel (x : Adr) (w0 : World) (u : Value) (wx : World) : Prop :=
  ∃ N, u = .pointer (some ⟨N, 0, none⟩) ∧ Four N wx (.string (strB x.h)) (.string (strB x.p)) (.string (strB x.q)) (.bool x.b) ∧ Below w0.heap.size w0 wx
theorem in_refl (w : World) : Below w.heap.size w w.drew ∧ w.heap.size ≤ w.drew.heap.size := ⟨(Below.refl _ _).drew, Nat.le_refl _⟩
theorem in_alloc {w wr : World} (h : Below w.heap.size w wr ∧ w.heap.size ≤ wr.heap.size) (o : Obj) : Below w.heap.size w (wr.alloc o) ∧ w.heap.size ≤ (wr.alloc o).heap.size := ⟨h.1.alloc h.2 o, by simp; omega⟩
theorem in_first (w : World) (o : Obj) : Below w.heap.size w (w.alloc o).drew ∧ w.heap.size ≤ (w.alloc o).drew.heap.size := ⟨(below_new w o).drew, by simp⟩
theorem in_set {w wr : World} {N : Nat} (h : Below w.heap.size w wr ∧ w.heap.size ≤ wr.heap.size) (hN : w.heap.size ≤ N) (v0 v1 v2 v3 : Value) : Below w.heap.size w ((((wr.setCell ⟨N, 0, none⟩ v0).setCell ⟨N, 1, none⟩ v1).setCell ⟨N, 2, none⟩ v2).setCell ⟨N, 3, none⟩ v3) ∧ w.heap.size ≤ ((((wr.setCell ⟨N, 0, none⟩ v0).setCell ⟨N, 1, none⟩ v1).setCell ⟨N, 2, none⟩ v2).setCell ⟨N, 3, none⟩ v3).heap.size := ⟨below_set h.1 hN _ _ _ _, by simpa using h.2⟩
theorem parse_in {w wr : World} (s t : ByteArray) (hE : Env w) (hS : Below w.heap.size w wr ∧ w.heap.size ≤ wr.heap.size) (hs : s.size ≤ maxLen) (ht : t.size ≤ 100000) {x : Adr} {ev : Value} (hv : parseV s.data.toList t.data.toList = .tuple #[adrV x, ev]) :
    Calls Tryz.prog 7 #[.string s, .string t] wr fun e w' => e = .returned (.tuple #[adrV x, ev]) ∧ (Below w.heap.size w w' ∧ w.heap.size ≤ w'.heap.size) ∧ Below wr.heap.size wr w' := by
  refine (parse_any s t wr (hE.below hS.1) hs ht).mono ?_
  rintro e w' ⟨rfl, hB⟩
  have h := hS.1.trans (hB.mono hS.2)
  exact ⟨by rw [hv], ⟨h, h.size⟩, hB⟩
set_option maxHeartbeats 4000000 in
set_option maxRecDepth 100000 in
theorem read_any (s : ByteArray) (w : World) (hE : Env w) (hs : s.size ≤ 100000) :
    Calls Tryz.prog 17 #[.string s] w fun e w' => e = .returned (readV s.data.toList) ∧ Below w.heap.size w w' := by
  have hsz : s.data.toList.length = s.size := by rw [Array.length_toList]; rfl
  by_cases hm : 47 ∈ s.data.toList
  · obtain ⟨hi, hk, htk⟩ := ib_some hm
    obtain ⟨k, hkk⟩ : ∃ k, k = (s.data.toList.takeWhile (· ≠ 47)).length := ⟨_, rfl⟩
    have hi' : ∀ w : World, Calls Tryz.prog 29 #[.string s, .int .u8 47] w fun e w' => e = .returned (.int .i64 (k : Int)) ∧ w = w' := by
      intro w
      refine (Tryz.strings_IndexByte s 47 w).mono ?_
      rintro e w' ⟨rfl, rfl⟩
      refine ⟨?_, rfl⟩
      show Ending.returned (.int .i64 (Lib.indexByte s.data.toList 47)) = _
      rw [hi, hkk]
    obtain ⟨x, hx⟩ : ∃ x, x = (parseA (s.data.toList.take k) (s.data.toList.drop k)).2 := ⟨_, rfl⟩
    obtain ⟨n, hn⟩ : ∃ n, n = (parseA (s.data.toList.take k) (s.data.toList.drop k)).1 := ⟨_, rfl⟩
    have hpv : parseA (s.data.toList.take k) (s.data.toList.drop k) = (n, x) := Prod.ext hn.symm hx.symm
    have HR := Lib.hid (readO_at (n := n) (x := x) (by rw [← hkk]; exact hpv) htk)
    have HLE := Lib.hid (show AdrLe 2000 x by rw [hx]; exact parse_le _ _)
    obtain ⟨ev, hev⟩ : ∃ ev : Value, ev = if n = 0 then .nilIface else errA n := ⟨_, rfl⟩
    have hks : k ≤ s.size := by omega
    have HV := Lib.hid (show parseV (s.extract 0 k).data.toList (s.extract k s.size).data.toList = .tuple #[adrV x, ev] by
      rw [seg_list, seg_list, List.drop_zero, Nat.sub_zero, List.take_of_length_le (l := s.data.toList.drop k) (by rw [List.length_drop, hsz]; exact Nat.le_refl _), parseV_of hpv, hev])
    have HEV := Lib.hid hev
    have HI := Lib.hid hi'
    have HE := Lib.hid hE
    have ha1 : (s.extract 0 k).size ≤ maxLen := by rw [ByteArray.size_extract]; unfold maxLen; omega
    have ha2 : (s.extract k s.size).size ≤ 100000 := by rw [ByteArray.size_extract]; omega
    have HA1 := Lib.hid ha1
    have HA2 := Lib.hid ha2
    clear hi htk hkk hi' hx hn hpv hev hE hsz hk hm ha1 ha2
    have hk0 : (0 : Int) ≤ (k : Int) := by omega
    have hk1 : (k : Int) ≤ (s.size : Int) := by omega
    go_enter Tryz.func17, Tryz.ntmps17
    go_upto_region 4 with (go_at_call 29; refine (HI.out _).mono ?_; rintro e w' ⟨rfl, rfl⟩)
    have hZ := Lib.hid (four_new w (.string ⟨#[]⟩) (.string ⟨#[]⟩) (.string ⟨#[]⟩) (.bool false) 24)
    have hW0 := Lib.hid (below_new w (.cells #[.string ⟨#[]⟩, .string ⟨#[]⟩, .string ⟨#[]⟩, .bool false] 24))
    have HE0 := Lib.hid (HE.out.below hW0.out)
    generalize w.alloc (.cells #[.string ⟨#[]⟩, .string ⟨#[]⟩, .string ⟨#[]⟩, .bool false] 24) = w0 at *
    go_cut [5, 6] (fun u5 u6 wx => u6 = ev ∧ ReadRel x w0 u5 wx)
    case first =>
      have hle0 : w0.heap.size ≤ w0.heap.size := Nat.le_refl _
      go_region_held3 (fun w' => Below w0.heap.size w0 w' ∧ w0.heap.size ≤ w'.heap.size)
        (first | (with_reducible exact h5) | (with_reducible exact in_alloc h5 _) | (with_reducible exact in_refl _) | (with_reducible exact in_first _ _) | (with_reducible exact in_set h5 (by assumption) _ _ _ _))
        (first
          | (go_at_call 7; refine (parse_in _ _ HE0.out (by assumption) HA1.out HA2.out HV.out).mono ?_; rintro e w' ⟨rfl, h5, hB⟩; have hq2 := h5.2; (first | ((with_reducible have HG2 := Lib.hid ((four_drew (four_new _ _ _ _ _ _)).below hB)); obtain ⟨g0, g1, g2, g3, f0, f1, f2, f3, hy⟩ := HG2.out) | skip); have HB2 := Lib.hid hB; clear hB))
      · go_wp2_with fail
        go_meet
        case rel => exact ⟨rfl, _, rfl, four_new _ _ _ _ _ _, (in_alloc h5 _).1⟩
      · go_wp2_with fail
        go_meet
        case rel => exact ⟨rfl, _, rfl, four_set HG2.out _ _ _ _, (in_set h5 hle0 _ _ _ _).1⟩
    case rest =>
      obtain ⟨rfl, N, rfl, hN, hA⟩ := hcut
      have hZ1 := Lib.hid (hZ.out.below hA)
      have hWc := Lib.hid (hW0.out.trans (hA.mono hW0.out.size))
      clear hA
      by_cases hn : n = 0
      · have hev := HEV.out
        rw [if_pos hn] at hev
        subst hev
        have HLE2 := Lib.hid (show AdrLe 1000000000000 x from ⟨by have := HLE.out.1; omega, by have := HLE.out.2.1; omega, by have := HLE.out.2.2; omega⟩)
        have HN := Lib.hid hN
        obtain ⟨c0, c1, c2, c3, g0, g1, g2, g3, _⟩ := HN.out
        clear hN
        by_cases hxt : x.text = s.data.toList
        · have HR2 := Lib.hid (readV_yes (l := s.data.toList) (a := x) (by rw [HR.out, if_pos ⟨hn, hxt⟩]))
          have heq : ((strB x.text).toList == s.toList) = true := by rw [ByteArray.toList_eq, ByteArray.toList_eq, strB_list, hxt]; exact beq_self_eq_true _
          clear hn hxt
          go_wp2_with fail
          refine (text_any x _ HLE2.out).mono ?_
          rintro e w5 ⟨rfl, hB5⟩
          clear c0 c1 c2 c3 g0 g1 g2 g3
          obtain ⟨c0, c1, c2, c3, g0, g1, g2, g3, _⟩ := HN.out.below hB5
          obtain ⟨d0, d1, d2, d3, f0, f1, f2, f3, _⟩ := hZ1.out.below hB5
          have hW5 := Lib.hid (hWc.out.trans (hB5.mono hWc.out.size))
          clear hB5
          go_wp2_with fail
          exact bodyPost_ret (v := .tuple #[.agg #[.string (strB x.h), .string (strB x.p), .string (strB x.q), .bool x.b], .nilIface]) (by simp [results, Tryz.results17, go_sem, d0, d1, d2, d3]) rfl ⟨by rw [HR2.out], below_four hW5.out _ _ _ _⟩
        · have HR2 := Lib.hid (readV_no (l := s.data.toList) (by rw [HR.out, if_neg (fun e => hxt e.2)]))
          have heq : ((strB x.text).toList == s.toList) = false := by rw [ByteArray.toList_eq, ByteArray.toList_eq, strB_list]; simpa using hxt
          clear hn hxt
          go_wp2_with fail
          refine (text_any x _ HLE2.out).mono ?_
          rintro e w5 ⟨rfl, hB5⟩
          clear c0 c1 c2 c3 g0 g1 g2 g3
          obtain ⟨c0, c1, c2, c3, g0, g1, g2, g3, _⟩ := HN.out.below hB5
          obtain ⟨d0, d1, d2, d3, f0, f1, f2, f3, _⟩ := hZ1.out.below hB5
          have hW5 := Lib.hid (hWc.out.trans (hB5.mono hWc.out.size))
          clear hB5
          go_wp2_with fail
          exact bodyPost_ret (v := .tuple #[.agg #[.string ⟨#[]⟩, .string ⟨#[]⟩, .string ⟨#[]⟩, .bool false], errA 2]) (by simp [results, Tryz.results17, go_sem, d0, d1, d2, d3]) rfl ⟨by rw [HR2.out]; rfl, below_four hW5.out _ _ _ _⟩
      · have hev := HEV.out
        rw [if_neg hn] at hev
        have HR2 := Lib.hid (readV_no (l := s.data.toList) (by rw [HR.out, if_neg (fun e => hn e.1)]))
        subst hev
        obtain ⟨d0, d1, d2, d3, f0, f1, f2, f3, _⟩ := hZ1.out
        clear hn hN
        go_wp2_with fail
        exact bodyPost_ret (v := .tuple #[.agg #[.string ⟨#[]⟩, .string ⟨#[]⟩, .string ⟨#[]⟩, .bool false], errA 2]) (by simp [results, Tryz.results17, go_sem, d0, d1, d2, d3]) rfl ⟨by rw [HR2.out]; rfl, below_four hWc.out _ _ _ _⟩
  · have HR := Lib.hid (readV_no (readO_none hm))
    have hi := ib_none hm
    have HI := Lib.hid (show ∀ w : World, Calls Tryz.prog 29 #[.string s, .int .u8 47] w fun e w' => e = .returned (.int .i64 (-1)) ∧ w = w' by
      intro w
      refine (Tryz.strings_IndexByte s 47 w).mono ?_
      rintro e w' ⟨rfl, rfl⟩
      refine ⟨?_, rfl⟩
      show Ending.returned (.int .i64 (Lib.indexByte s.data.toList 47)) = _
      rw [hi])
    clear hi hm hsz
    go_enter Tryz.func17, Tryz.ntmps17
    go_wp2_with (go_at_call 29; refine (HI.out _).mono ?_; rintro e w' ⟨rfl, rfl⟩)
    exact bodyPost_ret (v := .tuple #[.agg #[.string ⟨#[]⟩, .string ⟨#[]⟩, .string ⟨#[]⟩, .bool false], errA 2]) (by simp [results, Tryz.results17, go_sem]) rfl ⟨by rw [HR.out]; rfl, below_new _ _⟩
end Go.Proofs.YtllkldbiagkbcaaGreatDoor
