/- What the code's Split returns. -/
import Derived.Test.YtjcekkgoohkomaaDoorSplitSpec
namespace Go.Proofs.YtjcekkgoohkomaaDoor
open Go.RowKit

theorem Tryd.infoP : (Tryd.prog.info? 51).map (fun i => (i.zero, i.size, i.bytes)) = some (some (.agg #[.string ByteArray.empty, .string ByteArray.empty]), 2, 32) := by kernel_rfl
def SplitPost (s : ByteArray) (w : World) (e : Ending) (w' : World) : Prop :=
  Below w.heap.size w w' ∧
  match splitO s.data.toList with
  | none => e = .returned (.tuple #[.string ⟨#[]⟩, .slice none 0 0, errForm])
  | some (v, ps) => ∃ u, e = .returned (.tuple #[.string (strB v), u, .nilIface]) ∧ OwnsP 51 w.heap.size w' u ps ∧ ps.length ≤ 100002
theorem SplitPost.none {s : ByteArray} {w w' : World} (h : splitO s.data.toList = none) (hb : Below w.heap.size w w') : SplitPost s w (.returned (.tuple #[.string ⟨#[]⟩, .slice none 0 0, errForm])) w' := ⟨hb, by rw [h]⟩
theorem new_two (W : World) (a b : List UInt8) (T : TypeId) : ∀ (j : Nat) (u : Value), [strV a, strV b][j]? = some u →
    ((W.alloc (.cells #[.string (strB a), .string (strB b)] T)).alloc (.cells #[.string (strB a), .string (strB b)] T)).cell? ((⟨W.heap.size + 1, 0, none⟩ : Addr).add j) = some u := by
  intro j u h
  rw [Addr.add_lit, Nat.zero_add, World.cell?_alloc_at _ _ _ _ (by simp)]
  match j, h with
  | 0, h => simpa using h
  | 1, h => simpa using h
  | j + 2, h => simp at h
def SplRel (T : TypeId) (rest : List (List UInt8)) (w : World) (u i : Value) (wr : World) : Prop :=
  ∃ (k : Nat) (acc : List (List UInt8 × List UInt8)), i = .int .i64 k ∧ PInv rest acc k ∧ OwnsP T w.heap.size wr u acc ∧ Below w.heap.size w wr

set_option maxHeartbeats 4000000 in
set_option maxRecDepth 100000 in
theorem split_any (s : ByteArray) (m : Int) (w : World) (hs : s.size ≤ 100000) (hm : w.cell? ⟨0, 0, none⟩ = some (.int .i64 m)) :
    Calls Tryd.prog 31 #[.string s] w fun e w' => SplitPost s w e w' := by
  obtain ⟨i0, hi, hz0, hz1, hz2⟩ := info_parts Tryd.infoP
  have hg0 : (0 : Nat) < w.heap.size := World.block_lt_of_cell? w _ hm
  have HM := Lib.hid hm
  clear hm
  have D := divide_any s 59 w hs
  cases hp : partsO 59 s.data.toList with
  | none =>
    have ho : splitO s.data.toList = none := by unfold splitO; rw [hp]
    have HO := Lib.hid ho
    go_enter Tryd.func31, Tryd.ntmps31
    go_wp2_with (go_at_call 57; refine D.mono ?_; rintro e w1 ⟨hB, he⟩; rw [hp] at he; subst he)
    go_ret3
    exact SplitPost.none HO.out hB
  | some ls =>
    have hne := partsO_ne hp
    have hlen := partsO_len hp
    cases ls with
    | nil => exact absurd rfl hne
    | cons v0 rest =>
      have ho : splitO s.data.toList = (paramsO rest).map fun ps => (v0, ps) := by unfold splitO; rw [hp]
      have HO := Lib.hid ho
      have HLn := Lib.hid hlen
      have HP := Lib.hid hp
      clear hne hlen ho
      have hD : Calls Tryd.prog 57 #[.string s, .int .u8 ((59 : UInt8).toNat : Int)] w fun e w1 => ∃ g cap, e = .returned (.tuple #[.slice (some ⟨g, 0, none⟩) (rest.length + 1) cap, .nilIface]) ∧ w.heap.size ≤ g ∧ g < w1.heap.size ∧ rest.length + 1 ≤ cap ∧ rest.length + 1 ≤ 100002 ∧
          Hid (∀ j l, (v0 :: rest)[j]? = some l → w1.cell? ⟨g, j, none⟩ = some (.string (strB l))) ∧ Below w.heap.size w w1 := by
        refine D.mono ?_
        rintro e w1 ⟨hB, he⟩
        rw [hp] at he
        obtain ⟨v, rfl, hv, hle⟩ := he
        rcases hv with ⟨hl, ⟨_, hn⟩ | ⟨g, cap, cur, hv, hb, hg, hn, hmx, hs', ht⟩⟩
        · simp at hn
        · have hown : OwnsS w.heap.size w1 v (v0 :: rest) := ⟨hl, .inr ⟨g, cap, cur, hv, hb, hg, hn, hmx, hs', ht⟩⟩
          rcases hown.open' with ⟨_, h0⟩ | ⟨g2, cap2, hv2, hb2, hg2, hc2⟩
          · cases h0
          · rw [hv] at hv2
            simp only [Value.slice.injEq, Option.some.injEq, Addr.mk.injEq, and_true, true_and] at hv2
            obtain ⟨rfl, rfl⟩ := hv2
            exact ⟨g, cap, by rw [hv]; rfl, hb2, hg2, hn, hle, Lib.hid hc2, hB⟩
      clear hp D
      go_enter Tryd.func31, Tryd.ntmps31
      go_wp2_with (go_at_call 57; refine hD.mono ?_; rintro e w1 ⟨g, cap, rfl, hBg, hg1, hcap, hle, HC, hB⟩; have hc1 : 2 ≤ cap ∨ cap = 1 := (by omega); rcases hc1 with hc1 | rfl)
      · have hm1 : w1.cell? ⟨0, 0, none⟩ = some (.int .i64 m) := (hB.cell (p := ⟨0, 0, none⟩) hg0).trans HM.out
        have HM1 := Lib.hid hm1
        have hz1' := hB.size
        clear hm1
        go_loopw [7, 23] (fun u i wr => SplRel 51 rest w1 u i wr) (fun _ i _ => rest.length - (intOf i).toNat)
        case atStart => exact ⟨0, [], rfl, PInv0 rest, OwnsP.nil _ _ _, Below.refl _ _⟩
        case round =>
          obtain ⟨k, acc, rfl, hI, hO, hBr⟩ := hrel
          have HI := Lib.hid hI
          have hk : k ≤ rest.length := hI.1
          have hal : acc.length ≤ k := hI.2.1
          have hbr := hBr.size
          clear hI
          by_cases hlt : k < rest.length
          · obtain ⟨l, hl⟩ : ∃ l, rest[k]? = some l := ⟨rest[k], by simp [hlt]⟩
            have hcell : wr.cell? ⟨g, 1 + k, none⟩ = some (.string (strB l)) := (hBr.cell (p := ⟨g, 1 + k, none⟩) hg1).trans (HC.out (1 + k) l (by rw [Nat.add_comm]; simpa using hl))
            have hll : l.length ≤ s.data.toList.length := HLn.out l (by have := List.mem_of_getElem? hl; simp [this])
            have hls : (strB l).size ≤ 100000 := by rw [strB_size]; simp at hll; omega
            have HL := Lib.hid hl
            clear hl hll
            by_cases he : l = []
            · have he1 := empty_yes he
              have HE := Lib.hid he
              clear he
              go_wp2
              go_roundw
              case rel => exact ⟨k + 1, acc, by go_num, HI.out.skip HL.out HE.out, hO, hBr⟩
              case measure => simp [intOf]; omega
            · have he1 := empty_no he
              have hmr : wr.cell? ⟨0, 0, none⟩ = some (.int .i64 m) := (hBr.cell (p := ⟨0, 0, none⟩) (by show (0 : Nat) < _; omega)).trans HM1.out
              have hR := readParam_any (strB l) m wr hls hmr
              clear hmr
              cases hpo : paramO l with
              | none =>
                have hb := HI.out.bad HL.out he hpo
                have HPo := Lib.hid hpo
                have HBd := Lib.hid hb
                clear hpo hb
                go_wp2_with fail
                refine hR.mono ?_
                rintro e w2 ⟨hB2, he2⟩
                rw [strB_list, HPo.out] at he2
                subst he2
                go_wp2
                go_ret3
                exact SplitPost.none (by rw [HO.out, HBd.out]; rfl) ((hB.trans ((hBr.trans (hB2.mono hbr)).mono hz1')).alloc (by have := hB2.size; omega) _)
              | some p =>
                obtain ⟨n, v⟩ := p
                have hgd := HI.out.good HL.out he hpo
                have HPo := Lib.hid hpo
                have HG := Lib.hid hgd
                clear hpo hgd
                go_wp2_with fail
                refine hR.mono ?_
                rintro e w2 ⟨hB2, he2⟩
                rw [strB_list, HPo.out] at he2
                subst he2
                clear hR
                have hb2 := hB2.size
                have hO2 := OwnsP.below hO hB2
                have hfl := flatP_len acc
                go_wp2_with (at_builtin; go_must (refine wpList_append_own _ rfl _ _ 42 rfl w1.heap.size 51 i0 (.agg #[.string ByteArray.empty, .string ByteArray.empty]) 2 32 Tryd.underlying42 hi hz0 hz1 hz2 rfl (by decide) _ _ _ rfl ((World.ownsRow.alloc hO2 _).alloc _) ⟨w2.heap.size + 1, 0, none⟩ 1 1 [strV n, strV v] rfl rfl (new_two w2 n v _) (fun u hu => by simp at hu; rcases hu with rfl | rfl <;> rfl) (by unfold maxLen; omega) (by omega) (by simp; omega) ?_); intro v' w4 hown' hgrow _)
                go_roundw
                case rel => exact ⟨k + 1, acc ++ [(n, v)], by go_num, HG.out, OwnsP.snoc hown', below_appendP hBr hbr (hB2.alloc (Nat.le_of_lt_succ (by omega)) _) hO hgrow⟩
                case measure => simp [intOf]; omega
          · have hcell : wr.cell? ⟨g, 0, none⟩ = some (.string (strB v0)) := (hBr.cell (p := ⟨g, 0, none⟩) hg1).trans (HC.out 0 v0 rfl)
            go_wp2
            go_ret3
            refine ⟨hB.trans (hBr.mono hz1'), ?_⟩
            rw [HO.out, HI.out.done (by omega)]
            exact ⟨_, rfl, OwnsP.mono hz1' hO, by omega⟩
      · obtain rfl : rest = [] := List.eq_nil_of_length_eq_zero (by omega)
        have hcell : w1.cell? ⟨g, 0, none⟩ = some (.string (strB v0)) := HC.out 0 v0 rfl
        refine wp_loop_rounds 1 ?_
        rw [rounds_succ]
        go_wp2
        go_ret3
        refine ⟨hB, ?_⟩
        rw [HO.out]
        exact ⟨_, rfl, OwnsP.nil _ _ _, by simp⟩
end Go.Proofs.YtjcekkgoohkomaaDoor
