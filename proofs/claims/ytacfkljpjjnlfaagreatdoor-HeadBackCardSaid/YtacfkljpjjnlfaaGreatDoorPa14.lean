import Derived.Test.YtacfkljpjjnlfaaGreatDoorPa7
import Derived.Test.YtacfkljpjjnlfaaGreatDoorPa13
import Derived.Deep.RegionHeld3
import Derived.Test.YtacfkljpjjnlfaaGreatDoorPa12
import Derived.Test.YtacfkljpjjnlfaaGreatDoorPa5
import Derived.Test.YtacfkljpjjnlfaaGreatDoorPa11
/- The reference's fields. -/
namespace Go.Proofs.YtacfkljpjjnlfaaGreatDoor
open Go.RowKit

theorem Tryz.infoG : (Tryz.prog.info? 49).map (fun i => (i.zero, i.size, i.bytes)) = some (some (.agg #[.string ByteArray.empty, .string ByteArray.empty]), 2, 32) := by kernel_rfl
/-- What the reference's fields leaves. -/
def RefFieldsPost (ls : List (List UInt8)) (w : World) (e : Ending) (w' : World) : Prop :=
  ∃ v, e = .returned (.tuple #[v, .int .i64 ((readFs nmO vlO ls).1 : Int)]) ∧ OwnsP 49 w.heap.size w' v (readFs nmO vlO ls).2 ∧ Below w.heap.size w w'
theorem refFields_err {ls : List (List UInt8)} {w w' : World} {c : Nat} (h : readFs nmO vlO ls = (c, [])) (hB : Below w.heap.size w w') : RefFieldsPost ls w (.returned (.tuple #[.slice none 0 0, .int .i64 (c : Int)])) w' :=
  ⟨.slice none 0 0, by rw [h], by rw [h]; exact OwnsP.nil _ _ _, hB⟩
theorem refBad {ls : List (List UInt8)} {k c : Nat} {l : List UInt8} (h : goodTo nmO vlO ls k) (hl : ls[k]? = some l) (h0 : rdF l = (c, [], [])) (hc : c ≠ 0) : readFs nmO vlO ls = (c, []) := by
  have e : (readF nmO vlO l).1 = c := by show (rdF l).1 = c; rw [h0]
  rw [readFs_bad h hl (by rw [e]; exact hc), e]
theorem refCut58_any (l : List UInt8) (w : World) (hs : l.length ≤ 1000000) :
    Calls Tryz.prog 31 #[.string (strB l), .int .u8 58] w fun e w' => e = .returned (.tuple #[.string (strB (cutC 58 l).1), .string (strB (cutC 58 l).2.1), .bool (cutC 58 l).2.2]) ∧ Below w.heap.size w w' := by
  have := refCutG_any 58 (strB l) w (by rw [strB_size]; omega)
  rw [strB_list] at this
  exact this
set_option maxHeartbeats 16000000 in
set_option maxRecDepth 100000 in
theorem refFields_any (v : Value) (ls : List (List UInt8)) (w : World) (hr : ReadsS w v ls) (hl : ls.length ≤ 1000) (hb : ∀ l ∈ ls, l.length ≤ 1000000) :
    Calls Tryz.prog 34 #[v] w (RefFieldsPost ls w) := by
  obtain ⟨i0, hi, hz0, hz1, hz2⟩ := info_parts Tryz.infoG
  obtain ⟨ao, cap, rfl, hc⟩ := hr
  have HC := Lib.hid hc
  have HBig := Lib.hid hb
  clear hc hb
  go_enter Tryz.func34, Tryz.ntmps34
  go_wp2_with fail
  go_loopw [4, 5] (fun u i wr => ∃ k : Nat, i = .int .i64 k ∧ k ≤ ls.length ∧ goodTo nmO vlO ls k ∧ OwnsP 49 w.heap.size wr u (fsTo nmO vlO ls k) ∧ Below w.heap.size w wr) (fun _ i _ => ls.length - (intOf i).toNat)
  case atStart => exact ⟨0, rfl, Nat.zero_le _, goodTo0 _, OwnsP.nil _ _ _, Below.refl _ _⟩
  case round =>
    obtain ⟨k, rfl, hk, hg, hO, hBr⟩ := hrel
    have hbr := hBr.size
    have HG := Lib.hid hg
    clear hg
    have hfl := fsTo_len (nm := nmO) (vl := vlO) ls k
    by_cases hlt : k < ls.length
    · obtain ⟨l, hl⟩ : ∃ l, ls[k]? = some l := ⟨ls[k], by simp [hlt]⟩
      obtain ⟨g, off, rfl, hg1, h1⟩ := HC.out k l hl
      have hcell : wr.cell? ⟨g, off + k, none⟩ = some (.string (strB l)) := (hBr.cell (p := ⟨g, off + k, none⟩) hg1).trans h1
      have hll := HBig.out l (List.mem_of_getElem? hl)
      have HL := Lib.hid hl
      clear hl h1
      have hcl := cutC_len 58 l
      have C := Lib.hid (fun w => refCut58_any l w hll)
      have S := Lib.hid (fun w => refSpaced_any (strB (cutC 58 l).1) w (by rw [strB_size]; omega))
      have N := Lib.hid (fun w => refName_any (strB (cutC 58 l).1) w (by rw [strB_size]; omega))
      have V := Lib.hid (fun w => refValue_any (strB (cutC 58 l).2.1) w (by rw [strB_size]; omega))
      rw [strB_list] at S N V
      clear hcl hll
      by_cases hne : l = []
      · have q1 := empty_yes hne
        have q2 := list_yes hne
        have h1 : l.head?.any wsB = false := by rw [hne]; rfl
        have h2 : (cutC 58 l).2.2 = false := by rw [hne]; rfl
        rw [h2] at C
        have HE := Lib.hid (refBad HG.out HL.out (rdF_cut h1 h2) (by decide))
        clear h1 h2 hne
        go_wp2_with fail
        refine (C.out _).mono ?_
        rintro e w2 ⟨rfl, hB⟩
        have hB' := hB
        clear hB
        go_wp2_with fail
        go_ret2
        exact refFields_err HE.out (hBr.trans (hB'.mono hbr))
      · have q1 := empty_no hne
        have q2 := list_no hne
        have hzl : 0 < (strB l).size := by rw [strB_size]; exact List.length_pos_iff.2 hne
        have W := fun w => refWhite_any (strB l)[0] w
        have hh : l.head?.any wsB = wsB (strB l)[0] := by
          have := head_at (strB l) hzl
          rw [strB_list] at this
          rw [this]; rfl
        have HH := Lib.hid hh
        clear hh
        cases h0 : wsB (strB l)[0] with
        | true =>
          have h1 : l.head?.any wsB = true := HH.out.trans h0
          rw [h0] at W
          have HE := Lib.hid (refBad HG.out HL.out (rdF_fold h1) (by decide))
          clear h1 h0
          go_wp2_with fail
          refine (W _).mono ?_
          rintro e w1 ⟨rfl, rfl⟩
          go_wp2_with fail
          go_ret2
          exact refFields_err HE.out hBr
        | false =>
          have h1 : l.head?.any wsB = false := HH.out.trans h0
          rw [h0] at W
          clear h0
          cases h2 : (cutC 58 l).2.2 with
          | false =>
            rw [h2] at C
            have HE := Lib.hid (refBad HG.out HL.out (rdF_cut h1 h2) (by decide))
            clear h1 h2
            go_wp2_with fail
            refine (W _).mono ?_
            rintro e w1 ⟨rfl, rfl⟩
            go_wp2_with fail
            refine (C.out _).mono ?_
            rintro e w2 ⟨rfl, hB⟩
            have hB' := hB
            clear hB
            go_wp2_with fail
            go_ret2
            exact refFields_err HE.out (hBr.trans (hB'.mono hbr))
          | true =>
            rw [h2] at C
            by_cases h3 : (cutC 58 l).1 = []
            · have q3 := empty_yes h3
              have q4 := list_yes h3
              have HE := Lib.hid (refBad HG.out HL.out (rdF_empty h1 h2 h3) (by decide))
              clear h1 h2 h3
              go_wp2_with fail
              refine (W _).mono ?_
              rintro e w1 ⟨rfl, rfl⟩
              go_wp2_with fail
              refine (C.out _).mono ?_
              rintro e w2 ⟨rfl, hB⟩
              have hB' := hB
              clear hB
              go_wp2_with fail
              go_ret2
              exact refFields_err HE.out (hBr.trans (hB'.mono hbr))
            · have q3 := empty_no h3
              have q4 := list_no h3
              cases h4 : (cutC 58 l).1.any wsB with
              | true =>
                rw [h4] at S
                have HE := Lib.hid (refBad HG.out HL.out (rdF_space h1 h2 h3 h4) (by decide))
                clear h1 h2 h3 h4
                go_wp2_with fail
                refine (W _).mono ?_
                rintro e w1 ⟨rfl, rfl⟩
                go_wp2_with fail
                refine (C.out _).mono ?_
                rintro e w2 ⟨rfl, hB⟩
                have hB' := hB
                clear hB
                go_wp2_with fail
                refine (S.out _).mono ?_
                rintro e w3 ⟨rfl, rfl⟩
                go_wp2_with fail
                go_ret2
                exact refFields_err HE.out (hBr.trans (hB'.mono hbr))
              | false =>
                rw [h4] at S
                by_cases h5 : nameC (cutC 58 l).1 = 0
                · by_cases h6 : valueC (cutC 58 l).2.1 = 0
                  · have hp := rdF_good h1 h2 h3 h4 h5 h6
                    have HP := Lib.hid (show (readF nmO vlO l).2 = (nameR (cutC 58 l).1, valueR (cutC 58 l).2.1) by show (rdF l).2 = _; rw [hp])
                    have HN := Lib.hid (goodTo_step HG.out HL.out (show (readF nmO vlO l).1 = 0 by show (rdF l).1 = _; rw [hp]))
                    have HS := Lib.hid (fsTo_step (nm := nmO) (vl := vlO) HL.out)
                    rw [h5] at N
                    rw [h6] at V
                    clear h1 h2 h3 h4 h5 h6 hp
                    go_wp2_with fail
                    refine (W _).mono ?_
                    rintro e w1 ⟨rfl, rfl⟩
                    go_wp2_with fail
                    refine (C.out _).mono ?_
                    rintro e w2 ⟨rfl, hB⟩
                    have hB' := hB
                    clear hB
                    go_wp2_with fail
                    refine (S.out _).mono ?_
                    rintro e w3 ⟨rfl, rfl⟩
                    go_wp2_with fail
                    refine (N.out _).mono ?_
                    rintro e w4 ⟨rfl, hB⟩
                    have hB' := hB'.trans (hB.mono hB'.size)
                    clear hB
                    go_wp2_with fail
                    refine (V.out _).mono ?_
                    rintro e w5 ⟨rfl, rfl⟩
                    have hB5 := hB'
                    have hO' := OwnsP.below hO hB5
                    have hz5 := hB5.size
                    go_wp2_with (at_builtin; go_must (refine wpList_append_own _ rfl _ _ 32 rfl w.heap.size 49 i0 (.agg #[.string ByteArray.empty, .string ByteArray.empty]) 2 32 Tryz.underlying32 hi hz0 hz1 hz2 rfl (by decide) _ _ _ rfl (World.ownsRow.alloc hO' _) ⟨_, 0, none⟩ 1 1 [strV (nameR (cutC 58 l).1), strV (valueR (cutC 58 l).2.1)] rfl rfl (two_newG _ (nameR (cutC 58 l).1) (valueR (cutC 58 l).2.1) _) (fun u hu => by simp at hu; rcases hu with rfl | rfl <;> rfl) (by unfold maxLen; omega) (by omega) (by simp; omega) ?_); intro v' w6 hown' hgrow _)
                    go_roundw
                    case rel => exact ⟨k + 1, by go_num, by omega, HN.out, by rw [HS.out, HP.out]; exact OwnsP.snoc (p := (nameR (cutC 58 l).1, valueR (cutC 58 l).2.1)) hown', below_appendP hBr hbr hB5 hO hgrow⟩
                    case measure => simp [intOf]; omega
                  · have q6 : ((valueC (cutC 58 l).2.1 : Int) != 0) = true := by simp; omega
                    rw [h5] at N
                    have HE := Lib.hid (refBad HG.out HL.out (rdF_value h1 h2 h3 h4 h5 h6) (by decide))
                    clear h1 h2 h3 h4 h5 h6
                    go_wp2_with fail
                    refine (W _).mono ?_
                    rintro e w1 ⟨rfl, rfl⟩
                    go_wp2_with fail
                    refine (C.out _).mono ?_
                    rintro e w2 ⟨rfl, hB⟩
                    have hB' := hB
                    clear hB
                    go_wp2_with fail
                    refine (S.out _).mono ?_
                    rintro e w3 ⟨rfl, rfl⟩
                    go_wp2_with fail
                    refine (N.out _).mono ?_
                    rintro e w4 ⟨rfl, hB⟩
                    have hB' := hB'.trans (hB.mono hB'.size)
                    clear hB
                    go_wp2_with fail
                    refine (V.out _).mono ?_
                    rintro e w5 ⟨rfl, rfl⟩
                    go_wp2_with fail
                    go_ret2
                    exact refFields_err HE.out (hBr.trans (hB'.mono hbr))
                · have q5 : ((nameC (cutC 58 l).1 : Int) != 0) = true := by simp; omega
                  have HE := Lib.hid (refBad HG.out HL.out (rdF_name h1 h2 h3 h4 h5) (by decide))
                  clear h1 h2 h3 h4 h5
                  go_wp2_with fail
                  refine (W _).mono ?_
                  rintro e w1 ⟨rfl, rfl⟩
                  go_wp2_with fail
                  refine (C.out _).mono ?_
                  rintro e w2 ⟨rfl, hB⟩
                  have hB' := hB
                  clear hB
                  go_wp2_with fail
                  refine (S.out _).mono ?_
                  rintro e w3 ⟨rfl, rfl⟩
                  go_wp2_with fail
                  refine (N.out _).mono ?_
                  rintro e w4 ⟨rfl, hB⟩
                  have hB' := hB'.trans (hB.mono hB'.size)
                  clear hB
                  go_wp2_with fail
                  refine (V.out _).mono ?_
                  rintro e w5 ⟨rfl, rfl⟩
                  go_wp2_with fail
                  go_ret2
                  exact refFields_err HE.out (hBr.trans (hB'.mono hbr))
    · have HE := Lib.hid (readFs_end HG.out (by omega))
      go_wp2_with fail
      go_ret2
      exact ⟨_, by rw [HE.out]; rfl, by rw [HE.out]; exact hO, hBr⟩
end Go.Proofs.YtacfkljpjjnlfaaGreatDoor

/- What the reference's Of returns. -/
namespace Go.Proofs.YtacfkljpjjnlfaaGreatDoor
open Go.RowKit

set_option maxHeartbeats 400000 in
set_option maxRecDepth 100000 in
theorem of_any (a b n : List UInt8) (w : World) (ha : a.length ≤ 1000000000) (hn : n.length ≤ 1000000000) :
    Calls Tryz.prog 62 #[.agg #[.string (strB a), .string (strB b)], .string (strB n)] w fun e w' => e = .returned (.bool (ofN n (a, b))) ∧ Below w.heap.size w w' := by
  have za : (strB a).size ≤ 1000000000 := by rw [strB_size]; exact ha
  have zn : (strB n).size ≤ 1000000000 := by rw [strB_size]; exact hn
  have L1 := fun w => refLower_any (strB a) w za
  have L2 := fun w => refLower_any (strB n) w zn
  rw [strB_list] at L1 L2
  by_cases h : lowS a = lowS n
  · have heq := toList_same h
    have ho : ofN n (a, b) = true := decide_eq_true h
    rw [ho]
    clear h ho
    go_enter Tryz.func62, Tryz.ntmps62
    go_wp2_with fail
    refine (L1 _).mono ?_
    rintro e w1 ⟨rfl, hB⟩
    have hB' := below_pair' hB
    clear hB
    go_wp2_with fail
    refine (L2 _).mono ?_
    rintro e w2 ⟨rfl, hB2⟩
    go_wp2_with fail
    go_ret
    exact ⟨by first | rfl | simp, hB'.trans (hB2.mono hB'.size)⟩
  · have heq := toList_other h
    have ho : ofN n (a, b) = false := decide_eq_false h
    rw [ho]
    clear h ho
    go_enter Tryz.func62, Tryz.ntmps62
    go_wp2_with fail
    refine (L1 _).mono ?_
    rintro e w1 ⟨rfl, hB⟩
    have hB' := below_pair' hB
    clear hB
    go_wp2_with fail
    refine (L2 _).mono ?_
    rintro e w2 ⟨rfl, hB2⟩
    go_wp2_with fail
    go_ret
    exact ⟨by first | rfl | simp, hB'.trans (hB2.mono hB'.size)⟩

end Go.Proofs.YtacfkljpjjnlfaaGreatDoor

/- What the reference's alnum, Cut and Host return. -/
namespace Go.Proofs.YtacfkljpjjnlfaaGreatDoor
open Go.RowKit

set_option maxHeartbeats 400000 in
theorem refAlnum_any (c : UInt8) (w : World) :
    Calls Tryz.prog 91 #[.int .u8 (c.toNat : Int)] w fun e w' => e = .returned (.bool (alnB c)) ∧ w = w' := by
  go_enter Tryz.func91, Tryz.ntmps91
  go_wp2
  all_goals
    go_ret
    refine ⟨ret_bool ?_, rfl⟩
    rw [Bool.eq_iff_iff]
    simp [alnB] at *
    try omega
/-- k bytes are read; the parts so far are out; the next part begins at x. -/
def CutTo (c : UInt8) (s : ByteArray) (x k : Nat) (out : List (List UInt8)) : Prop :=
  cutL c s.data.toList = out ++ cutL c (s.data.toList.drop x) ∧ c ∉ (s.data.toList.drop x).take (k - x) ∧ x ≤ k ∧ k ≤ s.size ∧ out.length ≤ k
theorem cutTo0 (c : UInt8) (s : ByteArray) : CutTo c s 0 0 [] := by
  refine ⟨?_, ?_, Nat.le_refl _, Nat.zero_le _, Nat.le_refl _⟩
  · rw [List.drop_zero]; rfl
  · rw [Nat.sub_zero, List.take_zero]; simp
theorem take_drop_snoc (s : ByteArray) (x k : Nat) (hx : x ≤ k) (hk : k < s.size) : (s.data.toList.drop x).take (k + 1 - x) = (s.data.toList.drop x).take (k - x) ++ [s[k]] := by
  rw [show k + 1 - x = (k - x) + 1 by omega, List.take_succ_eq_append_getElem (by rw [List.length_drop, Array.length_toList]; show k - x < s.size - x; omega)]
  rw [List.getElem_drop]
  congr 2
  simp only [show x + (k - x) = k by omega]; rfl
theorem cutTo_other {c : UInt8} {s : ByteArray} {x k : Nat} {out : List (List UInt8)} (h : CutTo c s x k out) (hk : k < s.size) (hc : s[k].toNat ≠ c.toNat) : CutTo c s x (k + 1) out := by
  obtain ⟨h1, h2, h3, h4, h5⟩ := h
  refine ⟨h1, ?_, by omega, by omega, by omega⟩
  rw [take_drop_snoc s x k h3 hk, List.mem_append, not_or]
  exact ⟨h2, by simp; intro e; exact hc (by rw [e])⟩
theorem cutTo_sep {c : UInt8} {s : ByteArray} {x k : Nat} {out : List (List UInt8)} (h : CutTo c s x k out) (hk : k < s.size) (hc : s[k].toNat = c.toNat) : CutTo c s (k + 1) (k + 1) (out ++ [(s.data.toList.drop x).take (k - x)]) := by
  obtain ⟨h1, h2, h3, h4, h5⟩ := h
  have e : s[k] = c := nat_of_u8 hc
  refine ⟨?_, by simp, Nat.le_refl _, by omega, by simp; omega⟩
  have hd : s.data.toList.drop x = (s.data.toList.drop x).take (k - x) ++ c :: s.data.toList.drop (k + 1) := by
    have h6 := List.take_append_drop (k - x) (s.data.toList.drop x)
    rw [List.drop_drop, show x + (k - x) = k by omega] at h6
    have h7 : s.data.toList.drop k = s[k] :: s.data.toList.drop (k + 1) := by
      rw [List.drop_eq_getElem_cons (by simpa using hk)]; rfl
    rw [h7, e] at h6
    exact h6.symm
  rw [h1, hd, cutL_app, cutL_none h2, ← hd]; simp
theorem cutTo_end {c : UInt8} {s : ByteArray} {x k : Nat} {out : List (List UInt8)} (h : CutTo c s x k out) (hk : s.size ≤ k) : cutL c s.data.toList = out ++ [s.data.toList.drop x] := by
  obtain ⟨h1, h2, h3, h4, h5⟩ := h
  rw [List.take_of_length_le (by rw [List.length_drop, Array.length_toList]; show s.size - x ≤ k - x; omega)] at h2
  rw [h1, cutL_none h2]
def CutRel (c : UInt8) (s : ByteArray) (w : World) (u f i : Value) (wr : World) : Prop :=
  ∃ (x k : Nat) (out : List (List UInt8)), f = .int .i64 x ∧ i = .int .i64 k ∧ CutTo c s x k out ∧ OwnsS w.heap.size wr u out ∧ Below w.heap.size w wr
theorem cutRel0 (c : UInt8) (s : ByteArray) (w : World) : CutRel c s w (.slice none 0 0) (.int .i64 0) (.int .i64 0) w :=
  ⟨0, 0, [], rfl, rfl, cutTo0 c s, World.ownsRow_nil _ _ _ _, Below.refl _ _⟩
theorem strV_seg (s : ByteArray) (x k : Nat) : Value.string (s.extract x k) = strV ((s.data.toList.drop x).take (k - x)) := by
  show _ = Value.string (strB _); rw [← seg_list, strB_of]
set_option maxHeartbeats 4000000 in
set_option maxRecDepth 100000 in
theorem refCut_any (c : UInt8) (s : ByteArray) (w : World) (hs : s.size ≤ 10000000) :
    Calls Tryz.prog 90 #[.string s, .int .u8 (c.toNat : Int)] w fun e w' => ∃ v, e = .returned v ∧ OwnsS w.heap.size w' v (cutL c s.data.toList) ∧ Below w.heap.size w w' := by
  obtain ⟨i0, hi, hz0, hz1, hz2⟩ := info_parts Tryz.infoS
  go_enter Tryz.func90, Tryz.ntmps90
  go_wp2
  go_loopw [5, 6, 10] (fun u f i wr => CutRel c s w u f i wr) (fun _ _ i _ => s.size - (intOf i).toNat)
  case atStart => exact cutRel0 c s w
  case round =>
    obtain ⟨x, k, out, rfl, rfl, hC, hu, hB⟩ := hrel
    have hsz := hB.size
    have HC := Lib.hid hC
    obtain ⟨_, _, hxk, hks, hol⟩ := HC.out
    clear hC
    by_cases hlt : k < s.size
    · by_cases hc : s[k].toNat = c.toNat
      · have hca : ((s[k].toNat : Int) == (c.toNat : Int)) = true := by rw [hc]; exact beq_self_eq_true _
        have HN := Lib.hid (cutTo_sep HC.out hlt hc)
        have hseg := strV_seg s x k
        have HS := Lib.hid hseg
        clear hc hseg
        go_wp2_with (at_builtin; refine wpList_append_own _ rfl _ _ 68 rfl w.heap.size 9 i0 (.string ByteArray.empty) 1 16 Tryz.underlying68 hi hz0 hz1 hz2 rfl (by decide) _ _ _ rfl (World.ownsRow.alloc hu _) ⟨wr.heap.size, 0, none⟩ 1 1 [.string (s.extract x k)] rfl rfl (cell_one_new _ _ _) (fun u hu => by simp at hu; subst hu; rfl) (by unfold maxLen; omega) (by omega) (by simp; omega) ?_; intro v' w2 hown' hgrow _)
        go_roundw
        case rel => exact ⟨k + 1, k + 1, _, by go_num, by go_num, HN.out, by rw [HS.out] at hown'; exact OwnsS.snoc hown', below_append hB hsz (Below.refl _ _) hu hgrow⟩
        case measure => simp [intOf]; omega
      · have hca : ((s[k].toNat : Int) == (c.toNat : Int)) = false := by simp; omega
        have HN := Lib.hid (cutTo_other HC.out hlt hc)
        clear hc
        go_wp2
        go_roundw
        case rel => exact ⟨x, k + 1, out, rfl, by go_num, HN.out, hu, hB⟩
        case measure => simp [intOf]; omega
    · have HE := Lib.hid (cutTo_end HC.out (by omega))
      have hseg : Value.string (s.extract x s.size) = strV (s.data.toList.drop x) := by
        rw [strV_seg, List.take_of_length_le (by rw [List.length_drop, Array.length_toList]; exact Nat.le_refl _)]
      have HS := Lib.hid hseg
      clear hseg
      go_wp2_with (at_builtin; refine wpList_append_own _ rfl _ _ 68 rfl w.heap.size 9 i0 (.string ByteArray.empty) 1 16 Tryz.underlying68 hi hz0 hz1 hz2 rfl (by decide) _ _ _ rfl (World.ownsRow.alloc hu _) ⟨wr.heap.size, 0, none⟩ 1 1 [.string (s.extract x s.size)] rfl rfl (cell_one_new _ _ _) (fun u hu => by simp at hu; subst hu; rfl) (by unfold maxLen; omega) (by omega) (by simp; omega) ?_; intro v' w2 hown' hgrow _)
      go_ret
      exact ⟨_, rfl, by rw [HE.out]; rw [HS.out] at hown'; exact OwnsS.snoc hown', below_append hB hsz (Below.refl _ _) hu hgrow⟩
def refHostV (l : List UInt8) : Value := match hostO l with
  | none => .tuple #[.string (strB []), .bool false]
  | some h => .tuple #[.string (strB h), .bool true]
theorem refHostV_no {l : List UInt8} (h : hostO l = none) : refHostV l = .tuple #[.string (strB []), .bool false] := by unfold refHostV; rw [h]
theorem refHostV_yes {l h : List UInt8} (e : hostO l = some h) : refHostV l = .tuple #[.string (strB h), .bool true] := by unfold refHostV; rw [e]
set_option maxHeartbeats 8000000 in
set_option maxRecDepth 100000 in
theorem refHost_any (s : ByteArray) (w : World) (hs : s.size ≤ 1000000) :
    Calls Tryz.prog 63 #[.string s] w fun e w' => e = .returned (refHostV s.data.toList) ∧ Below w.heap.size w w' := by
  have hsz : s.data.toList.length = s.size := by rw [Array.length_toList]; rfl
  have HSZ := Lib.hid hsz
  clear hsz
  go_enter Tryz.func63, Tryz.ntmps63
  go_wp2_with fail
  refine (refCut_any 46 s _ (by omega)).mono ?_
  rintro e w1 ⟨v, rfl, hv, hB⟩
  have hle := cutL_len 46 s.data.toList
  have hle' : (cutL 46 s.data.toList).length ≤ 1000001 := by rw [HSZ.out] at hle; omega
  clear hle
  rcases hv.open' with ⟨rfl, he⟩ | ⟨g, cap, rfl, hBg, hgs, hcells⟩
  · exact absurd he (cutL_ne 46 _)
  have HPL := Lib.hid (fun l hl => cutL_part_le 46 s.data.toList l hl)
  generalize hls : cutL 46 s.data.toList = ls at *
  have HLS := Lib.hid hls
  have HC := Lib.hid hcells
  clear hls hcells hv
  go_wp2_with fail
  go_loop [12] (fun i => ∃ k : Nat, k ≤ ls.length ∧ i = .int .i64 k ∧ lblTo ls k) (fun i => ls.length - (intOf i).toNat)
  case atStart => exact ⟨0, by omega, rfl, by simp [lblTo]⟩
  case round =>
    obtain ⟨k, hk, rfl, hn⟩ := hrel
    by_cases hlt : k < ls.length
    · obtain ⟨t, ht⟩ : ∃ t : ByteArray, ls[k]? = some t.data.toList := by
        obtain ⟨l, hl⟩ : ∃ l, ls[k]? = some l := ⟨ls[k], by simp [hlt]⟩
        exact ⟨strB l, by rw [strB_list]; exact hl⟩
      have hcell : w1.cell? ⟨g, k, none⟩ = some (.string t) := by
        have := HC.out k _ ht; rw [strB_of] at this; exact this
      have hll : t.size ≤ 1000000 := by
        have := HPL.out _ (List.mem_of_getElem? ht)
        rw [HSZ.out, Array.length_toList] at this
        have h' : t.size ≤ s.size := this
        omega
      have HT := Lib.hid ht
      clear ht
      have HBAD := Lib.hid (fun (h : lblB t.data.toList = false) => refHostV_no (l := s.data.toList) (hostO_bad (s := t.data.toList) (by rw [HLS.out]; exact List.mem_of_getElem? HT.out) h))
      by_cases hz : t.size = 0
      · have HR := Lib.hid (HBAD.out (lbl_nil hz))
        have hz1 : t.size < 1 := by omega
        clear hz
        go_wp2
        go_ret2
        exact ⟨by rw [HR.out]; rfl, hB⟩
      · have hz' : 0 < t.size := by omega
        by_cases h63 : 63 < t.size
        · have HR := Lib.hid (HBAD.out (lbl_long h63))
          go_wp2
          go_ret2
          exact ⟨by rw [HR.out]; rfl, hB⟩
        · by_cases h0 : t[0].toNat = 45
          · have HR := Lib.hid (HBAD.out (lbl_head hz' h0))
            have h0' : ((t[0].toNat : Int) == 45) = true := by rw [h0]; rfl
            clear h0
            go_wp2
            go_ret2
            exact ⟨by rw [HR.out]; rfl, hB⟩
          · have h0' : ((t[0].toNat : Int) == 45) = false := by simp; omega
            by_cases h1 : (t[t.size - 1]'(by omega)).toNat = 45
            · have HR := Lib.hid (HBAD.out (lbl_last hz' h1))
              have h1' : (((t[t.size - 1]'(by omega)).toNat : Int) == 45) = true := by rw [h1]; rfl
              clear h1 h0
              go_wp2
              go_ret2
              exact ⟨by rw [HR.out]; rfl, hB⟩
            · have HRest := Lib.hid (lbl_rest hz' (by omega) h0 h1)
              have h1' : (((t[t.size - 1]'(by omega)).toNat : Int) == 45) = false := by simp; omega
              clear h1 h0
              go_wp2
              go_loop [45] (fun i => ∃ j : Nat, j ≤ t.size ∧ i = .int .i64 j ∧ okTo lblC t j) (fun i => t.size - (intOf i).toNat)
              case atStart => exact ⟨0, by omega, rfl, okTo0 _ t⟩
              case round =>
                obtain ⟨j, hj, rfl, hjn⟩ := hrel
                by_cases hjt : j < t.size
                · by_cases ha : alnB t[j] = true
                  · have HL := Lib.hid (lblC_of (Or.inl ha))
                    go_wp2_with (go_at_call 91; refine (refAlnum_any _ _).mono ?_; rintro e w' ⟨rfl, rfl⟩; rw [ha])
                    go_round
                    case rel => exact ⟨j + 1, by omega, by go_num, okTo_step hjt hjn HL.out⟩
                    case measure => simp [intOf]; omega
                  · have ha' : alnB t[j] = false := by simpa using ha
                    clear ha
                    by_cases h45 : t[j].toNat = 45
                    · have HL := Lib.hid (lblC_of (Or.inr h45))
                      have h45' : ((t[j].toNat : Int) != 45) = false := by rw [h45]; rfl
                      clear h45
                      go_wp2_with (go_at_call 91; refine (refAlnum_any _ _).mono ?_; rintro e w' ⟨rfl, rfl⟩; rw [ha'])
                      go_round
                      case rel => exact ⟨j + 1, by omega, by go_num, okTo_step hjt hjn HL.out⟩
                      case measure => simp [intOf]; omega
                    · have HR := Lib.hid (HBAD.out (by rw [HRest.out]; exact okTo_no hjt (lblC_not ha' h45)))
                      have h45' : ((t[j].toNat : Int) != 45) = true := by simp; omega
                      clear h45
                      go_wp2_with (go_at_call 91; refine (refAlnum_any _ _).mono ?_; rintro e w' ⟨rfl, rfl⟩; rw [ha'])
                      go_ret2
                      exact ⟨by rw [HR.out]; rfl, hB⟩
                · have HL := Lib.hid (show lblB t.data.toList = true by rw [HRest.out, okTo_end (by omega) hjn])
                  go_wp2
                  go_round
                  case rel => exact ⟨k + 1, by omega, by go_num, lblTo_step HT.out hn HL.out⟩
                  case measure => simp [intOf]; omega
    · have hall := lblTo_end (by omega) hn
      by_cases h100 : 100 < s.size
      · have HR := Lib.hid (refHostV_no (hostO_long (l := s.data.toList) (by rw [HSZ.out]; exact h100)))
        clear hall
        go_wp2
        go_ret2
        exact ⟨by rw [HR.out]; rfl, hB⟩
      · have HR := Lib.hid (refHostV_yes (hostO_good (l := s.data.toList) (by rw [HSZ.out]; omega) (by rw [HLS.out]; exact hall)))
        clear hall
        go_wp2_with (go_at_call 19; refine (refLower_any _ _ (by omega)).mono ?_; rintro e w2 ⟨rfl, hB2⟩)
        go_ret2
        exact ⟨by rw [HR.out]; rfl, hB.trans (hB2.mono hB.size)⟩
end Go.Proofs.YtacfkljpjjnlfaaGreatDoor
