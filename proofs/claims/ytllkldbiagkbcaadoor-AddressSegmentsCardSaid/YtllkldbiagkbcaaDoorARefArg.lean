/- What the reference's Arg and Segments return. -/
import Derived.Test.YtllkldbiagkbcaaDoorAArg
namespace Go.Proofs.YtllkldbiagkbcaaDoor
open Go.RowKit

theorem cutC_spec (c : UInt8) (l : List UInt8) : ((cutC c l).2.2 = false → c ∉ l) ∧ ((cutC c l).2.2 = true → l = (cutC c l).1 ++ c :: (cutC c l).2.1 ∧ c ∉ (cutC c l).1) := by
  induction l with
  | nil => simp [cutC]
  | cons x t ih =>
    by_cases hx : x = c
    · subst hx; simp [cutC]
    · rw [cutC, if_neg hx]
      refine ⟨fun h => ?_, fun h => ?_⟩
      · rw [List.mem_cons, not_or]; exact ⟨fun e => hx e.symm, ih.1 h⟩
      · obtain ⟨h1, h2⟩ := ih.2 h
        refine ⟨?_, ?_⟩
        · show x :: t = x :: ((cutC c t).1 ++ c :: (cutC c t).2.1)
          rw [← h1]
        · show c ∉ x :: (cutC c t).1
          rw [List.mem_cons, not_or]; exact ⟨fun e => hx e.symm, h2⟩
theorem segL_tail (l : List UInt8) : segL l = (cutL 47 l).tail := by
  unfold segL
  cases h : (cutC 47 l).2.2 with
  | false => rw [cutL_none ((cutC_spec 47 l).1 h)]; rfl
  | true =>
    obtain ⟨h1, h2⟩ := (cutC_spec 47 l).2 h
    conv => rhs; rw [h1]
    rw [cutL_app, cutL_none h2]; rfl
theorem OwnsS.caps {B : Nat} {w : World} {v : Value} {ls : List (List UInt8)} (hO : OwnsS B w v ls) (hne : ls ≠ []) :
    ∃ g cap, v = .slice (some ⟨g, 0, none⟩) ls.length cap ∧ ls.length ≤ cap ∧ cap ≤ maxLen ∧ g < w.heap.size ∧ (∀ j l, ls[j]? = some l → w.cell? ⟨g, j, none⟩ = some (.string (strB l))) := by
  rcases hO.open' with ⟨_, h⟩ | ⟨g, cap, hv, hb, hg, hc⟩
  · exact absurd h hne
  · rcases hO with ⟨hl, ⟨hv', hn⟩ | ⟨g', cap', cur, hv', hb', hg', hn, hm, _⟩⟩
    · rw [hv'] at hv; cases hv
    · rw [hv'] at hv
      simp only [Value.slice.injEq, Option.some.injEq, Addr.mk.injEq, and_true, true_and] at hv
      obtain ⟨rfl, rfl⟩ := hv
      exact ⟨g', cap', hv', hn, hm, hg, hc⟩
theorem reads_tail {w : World} {g cap : Nat} {ls : List (List UInt8)} (hg : g < w.heap.size) (hc : ∀ j l, ls[j]? = some l → w.cell? ⟨g, j, none⟩ = some (.string (strB l))) (off : Nat) (ho : off = 1 ∨ ls.tail = []) : ReadsS w (.slice (some ⟨g, off, none⟩) (ls.length - 1) cap) ls.tail := by
  refine ⟨_, cap, by rw [List.length_tail], fun j l hj => ⟨g, off, rfl, hg, ?_⟩⟩
  rcases ho with rfl | h
  · have : ls[1 + j]? = some l := by rw [List.getElem?_tail] at hj; rw [Nat.add_comm]; exact hj
    exact hc _ _ this
  · rw [h] at hj; simp at hj
set_option maxHeartbeats 2000000 in
set_option maxRecDepth 100000 in
theorem refSegments_any (s : ByteArray) (w : World) (hs : s.size ≤ 10000000) :
    Calls Tryd.prog 26 #[.string s] w fun e w' => ∃ v, e = .returned v ∧ ReadsS w' v (segL s.data.toList) ∧ Below w.heap.size w w' := by
  have HS := Lib.hid (segL_tail s.data.toList)
  have hne : 0 < (cutL 47 s.data.toList).length := List.length_pos_iff.mpr (cutL_ne 47 _)
  go_enter Tryd.func26, Tryd.ntmps26
  go_wp2_with fail
  refine (refCut_any 47 s _ hs).mono ?_
  rintro e w1 ⟨v, rfl, hv, hB⟩
  have HB := Lib.hid hB
  obtain ⟨g, cap, rfl, hcl, hcm, hg, hc⟩ := hv.caps (cutL_ne 47 _)
  have HC := Lib.hid hc
  clear hv hc hB
  generalize cutL 47 s.data.toList = ls at *
  by_cases h1 : cap = 1
  · subst h1
    have hl1 : ls.length ≤ 1 := hcl
    go_wp2_with fail
    go_ret
    have hrt := reads_tail (cap := 0) hg HC.out 0 (Or.inr (List.eq_nil_of_length_eq_zero (by rw [List.length_tail]; omega)))
    rw [show ls.length - 1 = 0 by omega] at hrt
    exact ⟨_, rfl, by rw [HS.out]; exact hrt, HB.out⟩
  · have h1a : ¬ ((cap : Int) = 1) := by omega
    have h1b : ¬ (cap = 1) := h1
    go_wp2_with fail
    go_ret
    exact ⟨_, rfl, by rw [HS.out]; exact reads_tail hg HC.out 1 (Or.inl rfl), HB.out⟩
theorem hit_iff (n part : List UInt8) : hitP n part = true ↔ n.length < part.length ∧ part.take n.length = n ∧ part[n.length]? = some 61 := by
  unfold hitP
  rw [List.isPrefixOf_iff_prefix]
  constructor
  · rintro ⟨r, rfl⟩
    simp
  · rintro ⟨h1, h2, h3⟩
    refine ⟨part.drop (n.length + 1), ?_⟩
    obtain ⟨h4, e⟩ := List.getElem?_eq_some_iff.mp h3
    conv => rhs; rw [← List.take_append_drop n.length part, h2, List.drop_eq_getElem_cons h4, e]
    simp
set_option maxHeartbeats 4000000 in
set_option maxRecDepth 100000 in
theorem refArg_any (a : Adr) (n : ByteArray) (w : World) (hq : a.q.length ≤ 1000000) (hn : n.size ≤ 1000000) :
    Calls Tryd.prog 24 #[adrV a, .string n] w fun e w' => e = .returned (argV a n.data.toList) ∧ Below w.heap.size w w' := by
  obtain ⟨h, p, q, b⟩ := a
  cases b with
  | false =>
    have HR := Lib.hid (argV_off (a := ⟨h, p, q, false⟩) (n := n.data.toList) rfl)
    go_enter Tryd.func24, Tryd.ntmps24
    go_wp2_with fail
    go_ret2
    exact ⟨by rw [HR.out]; rfl, below_new _ _⟩
  | true =>
    simp only at hq
    have HNO := Lib.hid (fun hh => argV_no (a := ⟨h, p, q, true⟩) (n := n.data.toList) rfl hh)
    have HYES := Lib.hid (fun v hh => argV_yes (a := ⟨h, p, q, true⟩) (n := n.data.toList) (v := v) rfl hh)
    have hqs : (strB q).size ≤ 10000000 := by rw [strB_size]; omega
    have hnl : n.data.toList.length = n.size := by rw [Array.length_toList]; rfl
    have HNL := Lib.hid hnl
    clear hnl
    go_enter Tryd.func24, Tryd.ntmps24
    go_wp2_with fail
    have HB0 := Lib.hid (below_new w (.cells #[.string (strB h), .string (strB p), .string (strB q), .bool true] 36))
    generalize w.alloc (.cells #[.string (strB h), .string (strB p), .string (strB q), .bool true] 36) = w0 at *
    refine (refCut_any 38 (strB q) _ hqs).mono ?_
    rintro e w1 ⟨v, rfl, hv, hB⟩
    rw [strB_list] at hv
    have HB1 := Lib.hid (HB0.out.trans (hB.mono HB0.out.size))
    have hle := cutL_len 38 q
    have hle' : (cutL 38 q).length ≤ 1000001 := by omega
    rcases hv.open' with ⟨rfl, he⟩ | ⟨g, cap, rfl, hBg, hgs, hcells⟩
    · exact absurd he (cutL_ne 38 _)
    clear hle
    have HPL := Lib.hid (fun l hl => cutL_part_le 38 q l hl)
    generalize hls : cutL 38 q = ls at *
    have HLS := Lib.hid hls
    have HC := Lib.hid hcells
    clear hls hcells hv hB
    go_wp2_with fail
    go_loop [16] (fun i => ∃ k : Nat, k ≤ ls.length ∧ i = .int .i64 k ∧ missTo n.data.toList ls k) (fun i => ls.length - (intOf i).toNat)
    case atStart => exact ⟨0, by omega, rfl, missTo0 _ _⟩
    case round =>
      obtain ⟨k, hk, rfl, hm⟩ := hrel
      by_cases hlt : k < ls.length
      · obtain ⟨t, ht⟩ : ∃ t : ByteArray, ls[k]? = some t.data.toList := by
          obtain ⟨l, hl⟩ : ∃ l, ls[k]? = some l := ⟨ls[k], by simp [hlt]⟩
          exact ⟨strB l, by rw [strB_list]; exact hl⟩
        have hcell : w1.cell? ⟨g, k, none⟩ = some (.string t) := by
          have := HC.out k _ ht; rw [strB_of] at this; exact this
        have htl : t.data.toList.length = t.size := by rw [Array.length_toList]; rfl
        have hts : t.size ≤ 1000000 := by
          have := HPL.out _ (List.mem_of_getElem? ht)
          omega
        have HT := Lib.hid ht
        have HTL := Lib.hid htl
        clear ht htl
        have HMISS := Lib.hid (fun (hb : hitP n.data.toList t.data.toList = false) => missTo_step HT.out hm hb)
        have HHIT := Lib.hid (fun (hb : hitP n.data.toList t.data.toList = true) => HYES.out _ (argO_hit (by rw [HLS.out]; exact hm) (by rw [HLS.out]; exact HT.out) hb))
        by_cases h1 : n.size < t.size
        · have hseg : (t.extract 0 n.size).data.toList = t.data.toList.take n.size := by rw [seg_list, List.drop_zero, Nat.sub_zero]
          by_cases h2 : t.data.toList.take n.size = n.data.toList
          · have he : ((t.extract 0 n.size).toList == n.toList) = true := by rw [ByteArray.toList_eq, ByteArray.toList_eq, hseg, h2]; exact beq_self_eq_true _
            have hat : t.data.toList[n.size]? = some t[n.size] := by rw [List.getElem?_eq_getElem (by rw [Array.length_toList]; exact h1)]; rfl
            by_cases h3 : t[n.size].toNat = 61
            · have h3' : ((t[n.size].toNat : Int) == 61) = true := by rw [h3]; rfl
              have HR := Lib.hid (HHIT.out ((hit_iff _ _).mpr ⟨by rw [HNL.out, HTL.out]; exact h1, by rw [HNL.out]; exact h2, by rw [HNL.out, hat, nat_of_u8 (a := t[n.size]) (b := 61) h3]⟩))
              have HD := Lib.hid (show Value.string (t.extract (n.size + 1) t.size) = .string (strB (t.data.toList.drop (n.data.toList.length + 1))) by
                rw [HNL.out]
                have : (t.extract (n.size + 1) t.size).data.toList = t.data.toList.drop (n.size + 1) := by
                  rw [seg_list, List.take_of_length_le (by rw [List.length_drop, HTL.out]; exact Nat.le_refl _)]
                rw [← this, strB_of])
              clear h2 h3 hat hseg
              go_wp2_with fail
              go_ret2
              exact ⟨by rw [HR.out, ← HD.out]; rfl, HB1.out⟩
            · have h3' : ((t[n.size].toNat : Int) == 61) = false := by simp; omega
              have HM2 := Lib.hid (HMISS.out (by
                rw [Bool.eq_false_iff]; intro hh
                obtain ⟨_, _, h6⟩ := (hit_iff _ _).mp hh
                rw [HNL.out, hat] at h6
                exact h3 (by rw [Option.some.inj h6]; rfl)))
              clear h2 h3 hat hseg
              go_wp2_with fail
              go_round
              case rel => exact ⟨k + 1, by omega, by go_num, HM2.out⟩
              case measure => simp [intOf]; omega
          · have he : ((t.extract 0 n.size).toList == n.toList) = false := by rw [ByteArray.toList_eq, ByteArray.toList_eq, hseg]; simpa using h2
            have HM2 := Lib.hid (HMISS.out (by
              rw [Bool.eq_false_iff]; intro hh
              obtain ⟨_, h5, _⟩ := (hit_iff _ _).mp hh
              rw [HNL.out] at h5
              exact h2 h5))
            clear h2 hseg
            go_wp2_with fail
            go_round
            case rel => exact ⟨k + 1, by omega, by go_num, HM2.out⟩
            case measure => simp [intOf]; omega
        · have HM2 := Lib.hid (HMISS.out (by
            rw [Bool.eq_false_iff]; intro hh
            obtain ⟨h4, _, _⟩ := (hit_iff _ _).mp hh
            rw [HNL.out, HTL.out] at h4
            exact h1 h4))
          go_wp2_with fail
          go_round
          case rel => exact ⟨k + 1, by omega, by go_num, HM2.out⟩
          case measure => simp [intOf]; omega
      · have HR := Lib.hid (HNO.out (argO_none (k := k) (by rw [HLS.out]; exact hm) (by rw [HLS.out]; omega)))
        go_wp2_with fail
        go_ret2
        exact ⟨by rw [HR.out]; rfl, HB1.out⟩
end Go.Proofs.YtllkldbiagkbcaaDoor
