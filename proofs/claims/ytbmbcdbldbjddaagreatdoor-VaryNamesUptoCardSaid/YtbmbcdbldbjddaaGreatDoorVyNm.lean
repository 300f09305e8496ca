/- What vary.Names returns. -/
import Derived.Test.YtbmbcdbldbjddaaGreatDoorVyNmS
import Derived.Test.YtbmbcdbldbjddaaGreatDoorVyKey
import Derived.Test.YtbmbcdbldbjddaaGreatDoorPartsLen
import Derived.Maps.AppendAt
namespace Go.Proofs.YtbmbcdbldbjddaaGreatDoor
open Go.RowKit

theorem scanN_len (b : UInt8) : ∀ (l : List UInt8) (st : St) (cur : List UInt8) (ps : List (List UInt8)), scan b st cur l = some ps → ps.length ≤ l.length + 1 := by
  intro l
  induction l with
  | nil =>
    intro st cur ps h
    cases st with
    | out => rw [scan] at h; obtain rfl := Option.some.inj h; simp
    | inn => rw [scan] at h; cases h
    | esc => rw [scan] at h; cases h
  | cons d r ih =>
    intro st cur ps h
    rw [List.length_cons]
    cases st with
    | out =>
      rw [scan] at h
      by_cases h1 : d = 34
      · rw [if_pos h1] at h; have := ih _ _ _ h; omega
      · rw [if_neg h1] at h
        by_cases h2 : d = b
        · rw [if_pos h2] at h
          cases h3 : scan b .out [] r with
          | none => rw [h3] at h; cases h
          | some qs =>
            rw [h3] at h
            obtain rfl := Option.some.inj h
            have := ih _ _ _ h3
            rw [List.length_cons]; omega
        · rw [if_neg h2] at h; have := ih _ _ _ h; omega
    | inn =>
      rw [scan] at h
      by_cases h1 : d = 34
      · rw [if_pos h1] at h; have := ih _ _ _ h; omega
      · rw [if_neg h1] at h
        by_cases h2 : d = 92
        · rw [if_pos h2] at h; have := ih _ _ _ h; omega
        · rw [if_neg h2] at h; have := ih _ _ _ h; omega
    | esc => rw [scan] at h; have := ih _ _ _ h; omega
theorem listN_len {v : List UInt8} {es : List (List UInt8)} (h : listO v = some es) : es.length ≤ v.length + 1 := by
  unfold listO partsO at h
  by_cases hc : ctlS v = true
  · rw [if_pos hc] at h; cases h
  · rw [if_neg hc] at h
    cases hs : scan 44 .out [] v with
    | none => rw [hs] at h; cases h
    | some ps =>
      rw [hs] at h
      obtain rfl := Option.some.inj h
      have h1 := scanN_len 44 v .out [] ps hs
      refine Nat.le_trans (List.length_filter_le _ _) ?_
      rw [List.length_map]; exact h1
/-- The blocks of two slices differ. -/
def DisN (a b : Value) : Prop := a.ownBlock = none ∨ b.ownBlock = none ∨ a.ownBlock ≠ b.ownBlock
theorem DisN.ne {a b : Value} (h : DisN a b) : b.ownBlock = none ∨ b.ownBlock ≠ a.ownBlock := by
  rcases h with h | h | h
  · rw [h]; cases hb : b.ownBlock with
    | none => exact .inl rfl
    | some k => exact .inr (by simp)
  · exact .inl h
  · exact .inr (Ne.symm h)
theorem disN_grow {B : Nat} {w1 w2 : World} {l m l' : Value} {ms : List (List UInt8)} (hm : OwnsS B w1 m ms) (hd : DisN l m) (hg : w1.grownBy w2 l.ownBlock) (hat : l'.ownBlock = l.ownBlock ∨ l'.ownBlock = some w1.heap.size) : OwnsS B w2 m ms ∧ DisN l' m := by
  refine ⟨World.ownsRow.kept hm hg hd.ne, ?_⟩
  rcases hat with h | h
  · rcases hd with e | e | e
    · exact .inl (h.trans e)
    · exact .inr (.inl e)
    · exact .inr (.inr (by rw [h]; exact e))
  · cases hb : m.ownBlock with
    | none => exact .inr (.inl hb)
    | some k =>
      have := (World.ownsRow.lt hm k hb).2
      refine .inr (.inr ?_)
      rw [h, hb]
      intro e; have := Option.some.inj e; omega
theorem disN_new {B : Nat} {w w2 : World} {u v : Value} {ls ms : List (List UInt8)} (hu : OwnsS B w u ls) (hv : OwnsS w.heap.size w2 v ms) : DisN u v := by
  cases hb : u.ownBlock with
  | none => exact .inl hb
  | some k =>
    cases hc : v.ownBlock with
    | none => exact .inr (.inl hc)
    | some m =>
      have h1 := (World.ownsRow.lt hu k hb).2
      have h2 := (World.ownsRow.lt hv m hc).1
      refine .inr (.inr ?_)
      rw [hb, hc]; intro e; have := Option.some.inj e; omega
theorem nam_le (vs : List (List UInt8)) : (namL vs).length ≤ sumL vs + vs.length := by
  induction vs with
  | nil => exact Nat.le_refl _
  | cons v r ih =>
    have e : sumL (v :: r) = v.length + sumL r := rfl
    have e2 : namL (v :: r) = elsV v ++ namL r := rfl
    rw [e, e2, List.length_append, List.length_cons]
    have h : (elsV v).length ≤ v.length + 1 := by
      unfold elsV
      cases h : listO v with
      | none => exact Nat.zero_le _
      | some ls => rw [List.length_map]; exact listN_len h
    omega
theorem nam_take (vs : List (List UInt8)) (k : Nat) : (namL (vs.take k)).length ≤ (namL vs).length := by
  have e : namL vs = namL (vs.take k) ++ namL (vs.drop k) := by unfold namL; rw [← List.flatMap_append, List.take_append_drop]
  rw [e, List.length_append]; exact Nat.le_add_right _ _
theorem els_each {v : List UInt8} {ls : List (List UInt8)} (h : listO v = some ls) : ∀ l ∈ ls, l.length ≤ v.length := by
  unfold listO at h
  cases hp : partsO 44 v with
  | none => rw [hp] at h; cases h
  | some ps =>
    rw [hp] at h
    obtain rfl := Option.some.inj h
    exact fun l hl => partsO_len hp l (List.mem_filter.mp hl).1
abbrev nVy : List UInt8 := [118, 97, 114, 121]
def VnPost (vs : List (List UInt8)) (w : World) (e : Ending) (w' : World) : Prop :=
  Below w.heap.size w w' ∧ if vs.any badV = true then e = .returned (.tuple #[.slice none 0 0, .bool true]) else ∃ v, e = .returned (.tuple #[v, .bool false]) ∧ ReadsS w' v (srtC (namL vs))
def VnRel (vs : List (List UInt8)) (w : World) (u i : Value) (wr : World) : Prop :=
  ∃ k : Nat, i = .int .i64 k ∧ k ≤ vs.length ∧ OwnsS w.heap.size wr u (namL (vs.take k)) ∧ (vs.take k).any badV = false ∧ Below w.heap.size w wr
theorem VnRel0 (vs : List (List UInt8)) (w : World) : VnRel vs w (.slice none 0 0) (.int .i64 0) w :=
  ⟨0, rfl, Nat.zero_le _, World.ownsRow_nil _ _ _ _, rfl, Below.refl _ _⟩
def VnIn (ns ls : List (List UInt8)) (x2 : Value) (w : World) (u i : Value) (wr : World) : Prop :=
  ∃ j : Nat, i = .int .i64 j ∧ j ≤ ls.length ∧ OwnsS w.heap.size wr u (ns ++ (ls.take j).map nameR) ∧ (ls.take j).any badE = false ∧ OwnsS w.heap.size wr x2 ls ∧ DisN u x2 ∧ Below w.heap.size w wr
theorem VnIn0 {ns ls : List (List UInt8)} {x2 u : Value} {w wr w2 : World} (hw : w.heap.size ≤ wr.heap.size) (hu : OwnsS w.heap.size wr u ns) (hx : OwnsS wr.heap.size w2 x2 ls) (hb : Below wr.heap.size wr w2) (hB : Below w.heap.size w w2) : VnIn ns ls x2 w u (.int .i64 0) w2 :=
  ⟨0, rfl, Nat.zero_le _, by simpa using OwnsS.below hu hb, rfl, OwnsS.mono hw hx, disN_new hu hx, hB⟩
theorem errV_some {c : Nat} (h : c ≠ 0) : errV c = .iface 72 (.int .i64 c) := by unfold errV; rw [if_neg h]
set_option maxHeartbeats 8000000 in
set_option maxRecDepth 100000 in
theorem vnames_any (fv : Value) (ps : Flds) (w : World) (hr : ReadsQ w fv ps) (hf : FitK ps) :
    Calls Tryz.prog 6 #[fv] w (VnPost (allL ps nVy) w) := by
  obtain ⟨i0, hi, hz0, hz1, hz2⟩ := info_parts Tryz.infoS
  have HA := Lib.hid (allK_any fv ps nVy w hr hf (by decide))
  have h1 := sum_all ps nVy
  have h2 := hf.len
  have h3 := hf.tot
  have hvl : (allL ps nVy).length ≤ 3000 := by omega
  have HE := Lib.hid (show ∀ v ∈ allL ps nVy, v.length ≤ 30000 from fun v hv => by have := sumL_mem hv; omega)
  have HN := Lib.hid (show ∀ k, (namL ((allL ps nVy).take k)).length ≤ 40000 from fun k => by have := nam_take (allL ps nVy) k; have := nam_le (allL ps nVy); omega)
  generalize allL ps nVy = vs at *
  clear hr hf h1 h2 h3
  go_enter Tryz.func6, Tryz.ntmps6
  go_wp2_with fail
  refine HA.out.mono ?_
  rintro e w1 ⟨a1, c1, rfl, hR1, hB1⟩
  have hs1 := hB1.size
  obtain ⟨ao1, cp1, hv1, hc1⟩ := hR1
  obtain ⟨rfl, _, rfl⟩ := Value.slice.inj hv1
  have HC := Lib.hid hc1
  have HB1 := Lib.hid hB1
  clear hc1 hB1 hv1
  go_wp2_with fail
  go_loopw [2, 15] (fun u i wr => VnRel vs w1 u i wr) (fun _ i _ => vs.length - (intOf i).toNat)
  case atStart => exact VnRel0 vs w1
  case round =>
    obtain ⟨k, rfl, hk, hO, hs, hBr⟩ := hrel
    have hbr := hBr.size
    have hnk := HN.out k
    have HS := Lib.hid hs
    clear hs
    by_cases hlt : k < vs.length
    · obtain ⟨x, hx⟩ : ∃ x, vs[k]? = some x := ⟨vs[k], by simp [hlt]⟩
      obtain ⟨g, off, rfl, hg, hc2⟩ := HC.out k x hx
      have hcell : wr.cell? ⟨g, off + k, none⟩ = some (.string (strB x)) := (hBr.cell (p := ⟨g, off + k, none⟩) hg).trans hc2
      have hxl := HE.out x (List.mem_of_getElem? hx)
      have HX := Lib.hid hx
      have L := list_any (strB x) wr (by rw [strB_size]; omega)
      unfold ListPost at L
      rw [strB_list] at L
      clear hx hc2
      cases hl : listO x with
      | none =>
        rw [hl] at L
        have HR := Lib.hid (bad_hit HX.out (show badV x = true by unfold badV; rw [hl]))
        clear hl
        go_wp2_with fail
        refine L.mono ?_
        rintro e w2 ⟨hB2, rfl⟩
        go_wp2_with fail
        go_ret2
        exact ⟨HB1.out.trans ((hBr.trans (hB2.mono hbr)).mono hs1), by rw [if_pos HR.out]; rfl⟩
      | some ls =>
        rw [hl] at L
        have HLe := Lib.hid (els_each hl)
        have HEl := Lib.hid (show elsV x = ls.map nameR by unfold elsV; rw [hl])
        have HBd := Lib.hid (show badV x = ls.any badE by unfold badV; rw [hl])
        clear hl
        go_wp2_with fail
        refine L.mono ?_
        rintro e w2 ⟨hB2, x2, rfl, hO2, hln⟩
        have HI := Lib.hid (VnIn0 hbr hO hO2 hB2 (hBr.trans (hB2.mono hbr)))
        obtain ⟨a2, c2, rfl, _⟩ := hO2.reads
        have hs2 := hB2.size
        clear hO hO2 hB2
        go_wp2_with fail
        go_loopw [2, 28] (fun u i wi => VnIn (namL (vs.take k)) ls (.slice a2 ls.length c2) w1 u i wi) (fun _ i _ => ls.length - (intOf i).toNat)
        case atStart => exact HI.out
        case round =>
          obtain ⟨j, rfl, hj, hOi, hsi, hUi, hDi, hBi⟩ := hrel
          have hbi := hBi.size
          have HSi := Lib.hid hsi
          have HUi := Lib.hid hUi
          have HDi := Lib.hid hDi
          clear hsi hUi hDi
          by_cases hlj : j < ls.length
          · obtain ⟨l, hl⟩ : ∃ l, ls[j]? = some l := ⟨ls[j], by simp [hlj]⟩
            obtain ⟨ao4, cp4, hve, hcc⟩ := HUi.out.reads
            obtain ⟨g4, off4, hao, hg4, hcell4⟩ := hcc j l hl
            simp only [Value.slice.injEq] at hve
            obtain ⟨hve1, _, hve3⟩ := hve
            clear hve3
            rw [hao] at hve1
            subst hve1
            have hll := HLe.out l (List.mem_of_getElem? hl)
            have HLj := Lib.hid hl
            have HNm := Lib.hid (fun (w : World) => name_any (strB l) w (by rw [strB_size]; omega))
            rw [strB_list] at HNm
            clear hl hcc hao
            by_cases hc : nameC l = 0
            · by_cases hst : nameR l = [42]
              · have HR := Lib.hid (bad_hit HX.out (by rw [HBd.out]; exact badE_hit HLj.out (show badE l = true by unfold badE; exact decide_eq_true (.inr hst))))
                rw [hst, hc, show errV 0 = .nilIface from rfl] at HNm
                clear hst hc
                go_wp2_with fail
                refine (HNm.out _).mono ?_
                rintro e w4 ⟨rfl, hB4⟩
                have heq : ((strB [42]).toList == ([42] : List UInt8)) = true := by rw [ByteArray.toList_eq]; rfl
                go_wp2_with fail
                go_ret2
                exact ⟨HB1.out.trans ((hBi.trans (hB4.mono hbi)).mono hs1), by rw [if_pos HR.out]; rfl⟩
              · have hbe : badE l = false := by unfold badE; exact decide_eq_false (fun h => h.elim (fun h => h hc) hst)
                have HSn := Lib.hid (badE_next HLj.out HSi.out hbe)
                have HTk := Lib.hid (take_more HLj.out)
                rw [hc, show errV 0 = .nilIface from rfl] at HNm
                have heq : ((strB (nameR l)).toList == ([42] : List UInt8)) = false := by
                  rw [ByteArray.toList_eq]
                  simpa [strB] using hst
                generalize hnl : nameR l = nl at *
                have HNl := Lib.hid hnl
                clear hst hc hnl hbe
                go_wp2_with fail
                refine (HNm.out _).mono ?_
                rintro e w4 ⟨rfl, hB4⟩
                have hs4 := hB4.size
                have hO4 := OwnsS.below hOi hB4
                have hU4 := OwnsS.below HUi.out hB4
                have HB4 := Lib.hid (hBi.trans (hB4.mono hbi))
                clear hB4
                go_wp2_with (at_builtin; refine wpList_append_own_at _ rfl _ _ 25 rfl w1.heap.size 9 i0 (.string ByteArray.empty) 1 16 Tryz.underlying25 hi hz0 hz1 hz2 rfl (by decide) _ _ _ rfl (hO4.alloc _) ⟨w4.heap.size, 0, none⟩ 1 1 [strV nl] rfl rfl (cell_one_new _ _ _) (fun u hu => by simp at hu; subst hu; rfl) (by unfold maxLen; simp; omega) (by simp; omega) (by simp; omega) ?_; intro v' w5 hown' hgrow _ hat)
                have hD := disN_grow (hU4.alloc (.cells #[.string (strB nl)] 9)) HDi.out hgrow hat
                go_roundw
                case rel => exact ⟨j + 1, by go_num, by omega, by rw [HTk.out, List.map_append, ← List.append_assoc, List.map_singleton, HNl.out]; exact OwnsS.snoc hown', HSn.out, hD.1, hD.2, below_append HB4.out HB4.out.size (Below.refl _ _) hO4 hgrow⟩
                case measure => simp [intOf]; omega
            · have HR := Lib.hid (bad_hit HX.out (by rw [HBd.out]; exact badE_hit HLj.out (show badE l = true by unfold badE; exact decide_eq_true (.inl hc))))
              rw [errV_some hc] at HNm
              clear hc
              go_wp2_with fail
              refine (HNm.out _).mono ?_
              rintro e w4 ⟨rfl, hB4⟩
              go_wp2_with fail
              go_ret2
              exact ⟨HB1.out.trans ((hBi.trans (hB4.mono hbi)).mono hs1), by rw [if_pos HR.out]; rfl⟩
          · have hte : ls.take j = ls := List.take_of_length_le (by omega)
            rw [hte, ← HEl.out, ← namL_next HX.out] at hOi
            have HSk := Lib.hid (bad_next HX.out HS.out (by rw [HBd.out, ← hte]; exact HSi.out))
            go_wp2_with fail
            go_roundw
            case rel => exact ⟨k + 1, by go_num, by omega, hOi, HSk.out, hBi⟩
            case measure => simp [intOf]; omega
    · have hte : vs.take k = vs := List.take_of_length_le (by omega)
      have hbad := HS.out
      rw [hte] at hO hbad hnk
      have HBad := Lib.hid hbad
      have HBr := Lib.hid hBr
      have HSo := Lib.hid (sortT_any _ _ _ wr hbr hO.holds (by omega))
      have HCo := Lib.hid (fun (v : Value) (w : World) (hB : w1.heap.size ≤ w.heap.size) (h : HoldsT w1.heap.size w v ((namL vs).mergeSort fun x y => decide (x ≤ y))) => compactT_any v _ w1.heap.size w hB h (by rw [List.length_mergeSort]; omega))
      clear hbad hO hBr
      go_wp2_with fail
      refine HSo.out.mono ?_
      rintro e w3 ⟨rfl, hO3, hB3⟩
      have HB3 := Lib.hid (HBr.out.trans hB3)
      go_wp2_with fail
      refine (HCo.out _ _ HB3.out.size hO3).mono ?_
      rintro e w5 ⟨v', rfl, hR, hB5⟩
      go_wp2_with fail
      go_ret2
      exact ⟨HB1.out.trans ((HB3.out.trans hB5).mono hs1), by rw [if_neg (by rw [HBad.out]; decide)]; exact ⟨_, rfl, hR⟩⟩
end Go.Proofs.YtbmbcdbldbjddaaGreatDoor
