/- What slices.Equal and Clone of strings, and the statements' Ints return. -/
import Derived.Test.YtbmbcdbldbjddaaGreatDoorVyMem
import Derived.Test.YtbmbcdbldbjddaaGreatDoorTexts
import Derived.Test.YtbmbcdbldbjddaaGreatDoorFAll
namespace Go.Proofs.YtbmbcdbldbjddaaGreatDoor
open Go.RowKit

def sameZ (la lb : List Int) (k : Nat) : Prop := la.take k = lb.take k
theorem sameZ_step {la lb : List Int} {k : Nat} {l : Int} (h : sameZ la lb k) (ha : la[k]? = some l) (hb : lb[k]? = some l) : sameZ la lb (k + 1) := by
  unfold sameZ at *; rw [List.take_add_one, List.take_add_one, h, ha, hb]
theorem sameZ_no {la lb : List Int} {k : Nat} {l m : Int} (ha : la[k]? = some l) (hb : lb[k]? = some m) (h : l ≠ m) : false = decide (la = lb) := by
  rw [eq_comm, decide_eq_false_iff_not]; intro e; rw [e, hb] at ha; simp at ha; exact h ha.symm
theorem sameZ_end {la lb : List Int} {k : Nat} (h : sameZ la lb k) (ha : la.length ≤ k) (hb : lb.length ≤ k) : true = decide (la = lb) := by
  unfold sameZ at h; rw [List.take_of_length_le ha, List.take_of_length_le hb] at h; simp [h]
set_option maxHeartbeats 2000000 in
set_option maxRecDepth 100000 in
theorem equalT_any (va vb : Value) (la lb : List (List UInt8)) (w : World) (ha : ReadsS w va la) (hb : ReadsS w vb lb) (hla : la.length ≤ 100000000) :
    Calls Tryz.prog 43 #[va, vb] w fun e w' => e = .returned (.bool (decide (la = lb))) ∧ ∃ n, w' = w.drewN n := by
  obtain ⟨ao, ca, rfl, hca⟩ := ha
  obtain ⟨bo, cb, rfl, hcb⟩ := hb
  by_cases hne : la.length = lb.length
  · have hne1 : la.length ≤ lb.length := by omega
    have hne2 : lb.length ≤ la.length := by omega
    have Hne := Lib.hid hne
    have HA := Lib.hid hca
    have HB := Lib.hid hcb
    clear hne hca hcb
    go_enter Tryz.func43, Tryz.ntmps43
    go_wp2
    go_loopw [13] (fun i wr => ∃ k n : Nat, i = .int .i64 k ∧ k ≤ la.length ∧ sameTo la lb k ∧ wr = w.drewN n) (fun i _ => la.length - (intOf i).toNat)
    case atStart => exact ⟨0, 0, rfl, Nat.zero_le _, rfl, rfl⟩
    case round =>
      obtain ⟨k, n, rfl, hk, hs, rfl⟩ := hrel
      have HS := Lib.hid hs
      clear hs
      by_cases hlt : k < la.length
      · obtain ⟨l, hl⟩ : ∃ l, la[k]? = some l := ⟨la[k], by simp [hlt]⟩
        obtain ⟨m, hm⟩ : ∃ m, lb[k]? = some m := ⟨lb[k]'(by omega), by simp⟩
        obtain ⟨g, off, rfl, hg, hc1⟩ := HA.out k l hl
        obtain ⟨g', off', rfl, hg', hc2⟩ := HB.out k m hm
        have HL := Lib.hid hl
        have HM := Lib.hid hm
        clear hl hm
        by_cases hlm : l = m
        · have heq : ((strB l).toList == (strB m).toList) = true := by rw [hlm]; exact beq_self_eq_true _
          have HLM := Lib.hid hlm
          clear hlm
          go_wp2
          go_quiet (fail)
          go_wp2
          go_roundw
          case rel => exact ⟨k + 1, _, by go_num, by omega, sameTo_step HS.out HL.out (by rw [HLM.out]; exact HM.out), rfl⟩
          case measure => simp [intOf]; omega
        · have heq : ((strB l).toList == (strB m).toList) = false := by
            rw [ByteArray.toList_eq, ByteArray.toList_eq]
            simpa [strB] using hlm
          go_wp2
          go_quiet (fail)
          go_wp2
          go_ret
          exact ⟨ret_bool (sameTo_no HL.out HM.out hlm), n + nq, by first | exact World.drewN_drewN .. | rfl⟩
      · go_wp2
        go_ret
        exact ⟨ret_bool (sameTo_end HS.out (by omega) (by omega)), _, rfl⟩
  · go_enter Tryz.func43, Tryz.ntmps43
    have h0 : ((la.length : Int) != (lb.length : Int)) = true := by simp; omega
    go_wp2
    go_ret
    exact ⟨ret_bool (by simp; intro h; exact hne (by rw [h])), 0, rfl⟩
set_option maxHeartbeats 2000000 in
set_option maxRecDepth 100000 in
theorem ints_any (va vb : Value) (la lb : List Int) (w : World) (ha : ReadsZ w va la) (hb : ReadsZ w vb lb) (hla : la.length ≤ 100000000) :
    Calls Tryz.prog 13 #[va, vb] w fun e w' => e = .returned (.bool (decide (la = lb))) ∧ ∃ n, w' = w.drewN n := by
  obtain ⟨ao, ca, rfl, hca⟩ := ha
  obtain ⟨bo, cb, rfl, hcb⟩ := hb
  by_cases hne : la.length = lb.length
  · have hne1 : la.length ≤ lb.length := by omega
    have hne2 : lb.length ≤ la.length := by omega
    have Hne := Lib.hid hne
    have HA := Lib.hid hca
    have HB := Lib.hid hcb
    clear hne hca hcb
    go_enter Tryz.func13, Tryz.ntmps13
    go_wp2
    go_loopw [13] (fun i wr => ∃ k n : Nat, i = .int .i64 k ∧ k ≤ la.length ∧ sameZ la lb k ∧ wr = w.drewN n) (fun i _ => la.length - (intOf i).toNat)
    case atStart => exact ⟨0, 0, rfl, Nat.zero_le _, rfl, rfl⟩
    case round =>
      obtain ⟨k, n, rfl, hk, hs, rfl⟩ := hrel
      have HS := Lib.hid hs
      clear hs
      by_cases hlt : k < la.length
      · obtain ⟨l, hl⟩ : ∃ l, la[k]? = some l := ⟨la[k], by simp [hlt]⟩
        obtain ⟨m, hm⟩ : ∃ m, lb[k]? = some m := ⟨lb[k]'(by omega), by simp⟩
        obtain ⟨g, off, rfl, hg, hc1⟩ := HA.out k l hl
        obtain ⟨g', off', rfl, hg', hc2⟩ := HB.out k m hm
        have HL := Lib.hid hl
        have HM := Lib.hid hm
        clear hl hm
        by_cases hlm : l = m
        · have heq : (l != m) = false := by rw [hlm]; simp
          have HLM := Lib.hid hlm
          clear hlm
          go_wp2
          go_quiet (fail)
          go_wp2
          go_roundw
          case rel => exact ⟨k + 1, _, by go_num, by omega, sameZ_step HS.out HL.out (by rw [HLM.out]; exact HM.out), rfl⟩
          case measure => simp [intOf]; omega
        · have heq : (l != m) = true := by simpa using hlm
          go_wp2
          go_quiet (fail)
          go_wp2
          go_ret
          exact ⟨ret_bool (sameZ_no HL.out HM.out hlm), n + nq, by first | exact World.drewN_drewN .. | rfl⟩
      · go_wp2
        go_ret
        exact ⟨ret_bool (sameZ_end HS.out (by omega) (by omega)), _, rfl⟩
  · go_enter Tryz.func13, Tryz.ntmps13
    have h0 : ((la.length : Int) != (lb.length : Int)) = true := by simp; omega
    go_wp2
    go_ret
    exact ⟨ret_bool (by simp; intro h; exact hne (by rw [h])), 0, rfl⟩
theorem readsS_none {w : World} {n cap : Nat} {ls : List (List UInt8)} (h : ReadsS w (.slice none n cap) ls) : ls = [] ∧ n = 0 := by
  obtain ⟨ao, c, hv, hc⟩ := h
  simp only [Value.slice.injEq] at hv
  obtain ⟨rfl, rfl, rfl⟩ := hv
  cases ls with
  | nil => exact ⟨rfl, rfl⟩
  | cons p r => obtain ⟨g, off, ha, _⟩ := hc 0 p rfl; cases ha
theorem readsS_src {w : World} {ad : Addr} {n cap : Nat} {ls : List (List UInt8)} (h : ReadsS w (.slice (some ad) n cap) ls) : n = ls.length ∧ ∀ j u, (ls.map strV)[j]? = some u → w.cell? (ad.add j) = some u := by
  obtain ⟨ao, c, hv, hc⟩ := h
  simp only [Value.slice.injEq] at hv
  obtain ⟨rfl, rfl, rfl⟩ := hv
  refine ⟨rfl, fun j u hj => ?_⟩
  rw [List.getElem?_map] at hj
  cases hl : ls[j]? with
  | none => rw [hl] at hj; cases hj
  | some l =>
    rw [hl] at hj
    simp only [Option.map_some, Option.some.injEq] at hj
    subst hj
    obtain ⟨g, off, ha, _, h1⟩ := hc j l hl
    obtain rfl : ad = ⟨g, off, none⟩ := Option.some.inj ha
    have e : (⟨g, off, none⟩ : Addr).add j = ⟨g, off + j, none⟩ := by unfold Addr.add; split <;> simp_all
    rw [e]; exact h1
theorem own_madeT (w : World) : (w.alloc (.cells #[] 9)).ownsRow w.heap.size 9 1 (.slice (some ⟨w.heap.size, 0, none⟩) 0 0) 0 [] :=
  World.ownsRow_made w #[] 0 (Nat.le_refl _) (Nat.zero_le _) (by simp)
set_option maxHeartbeats 1000000 in
set_option maxRecDepth 100000 in
theorem cloneT_any (fv : Value) (ls : List (List UInt8)) (w : World) (hr : ReadsS w fv ls) (hl : ls.length ≤ 1000000) :
    Calls Tryz.prog 23 #[fv] w fun e w' => ∃ v, e = .returned v ∧ OwnsS w.heap.size w' v ls ∧ Below w.heap.size w w' := by
  obtain ⟨i0, hi, hz0, hz1, hz2⟩ := info_parts Tryz.infoS
  have q22 : ∀ (w : World) (a : Option Addr) (n c n' c' : Nat), (binOp .eql 25 (.slice a n c) (.slice none n' c')).run Tryz.prog w = .ok (.bool a.isNone) w := fun w a n c n' c' => Lib.run_eql_slice_nil w _ _ a n c n' c' Tryz.underlying25
  obtain ⟨ao, cap, rfl, hc⟩ := id hr
  clear hc
  cases ao with
  | none =>
    obtain ⟨rfl, _⟩ := readsS_none hr
    clear hr
    go_enter Tryz.func23, Tryz.ntmps23
    go_wp2
    go_ret
    exact ⟨_, rfl, World.ownsRow_nil _ _ _ _, Below.refl _ _⟩
  | some ad =>
    have hs := (readsS_src hr).2
    have HS := Lib.hid hs
    clear hr hs
    go_enter Tryz.func23, Tryz.ntmps23
    go_wp2_with (at_builtin; refine wpList_append_own _ rfl _ _ 25 rfl w.heap.size 9 i0 (.string ByteArray.empty) 1 16 Tryz.underlying25 hi hz0 hz1 hz2 rfl (by decide) _ _ _ rfl (own_madeT w) ad ls.length cap (ls.map strV) rfl (by simp) (fun j u hj => Lib.cell?_alloc_some _ (HS.out j u hj)) (fun u hu => by obtain ⟨x, _, rfl⟩ := List.mem_map.mp hu; rfl) (by unfold maxLen; simp; omega) (by simp; omega) (by simp) ?_; intro v' w1 hown hgrow _)
    go_wp2
    go_ret
    refine ⟨v', rfl, ?_, ?_⟩
    · have h : w1.ownsRow w.heap.size 9 1 v' (0 + ls.length) ([] ++ ls.map strV) := hown
      rw [Nat.zero_add, List.nil_append] at h
      exact h
    · exact ((Below.refl _ w).alloc (Nat.le_refl _) _).grown hgrow (by simp) (fun k hk => (World.ownsRow.lt (own_madeT w) k hk).1)
end Go.Proofs.YtbmbcdbldbjddaaGreatDoor
