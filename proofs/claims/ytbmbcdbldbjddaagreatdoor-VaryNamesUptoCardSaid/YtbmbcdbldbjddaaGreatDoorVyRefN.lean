/- What the reference's Names returns. -/
import Derived.Test.YtbmbcdbldbjddaaGreatDoorVyNmQ
namespace Go.Proofs.YtbmbcdbldbjddaaGreatDoor
open Go.RowKit

def RnPost (vs : List (List UInt8)) (w : World) (e : Ending) (w' : World) : Prop :=
  Below w.heap.size w w' ∧ if vs.any badV = true then e = .returned (.tuple #[.slice none 0 0, .bool true]) else ∃ v, e = .returned (.tuple #[v, .bool false]) ∧ ReadsS w' v (insL (namL vs))
def RnRel (vs : List (List UInt8)) (w : World) (u i : Value) (wr : World) : Prop :=
  ∃ k : Nat, i = .int .i64 k ∧ k ≤ vs.length ∧ OwnsS w.heap.size wr u (insL (namL (vs.take k))) ∧ (vs.take k).any badV = false ∧ Below w.heap.size w wr
theorem RnRel0 (vs : List (List UInt8)) (w : World) : RnRel vs w (.slice none 0 0) (.int .i64 0) w :=
  ⟨0, rfl, Nat.zero_le _, World.ownsRow_nil _ _ _ _, rfl, Below.refl _ _⟩
def RnIn (ns ls : List (List UInt8)) (x2 : Value) (w : World) (u i : Value) (wr : World) : Prop :=
  ∃ j : Nat, i = .int .i64 j ∧ j ≤ ls.length ∧ OwnsS w.heap.size wr u (insL (ns ++ (ls.take j).map nameR)) ∧ (ls.take j).any badE = false ∧ OwnsS w.heap.size wr x2 ls ∧ DisN u x2 ∧ Below w.heap.size w wr
theorem RnIn0 {ns ls : List (List UInt8)} {x2 u : Value} {w wr w2 : World} (hw : w.heap.size ≤ wr.heap.size) (hu : OwnsS w.heap.size wr u (insL ns)) (hx : OwnsS wr.heap.size w2 x2 ls) (hb : Below wr.heap.size wr w2) (hB : Below w.heap.size w w2) : RnIn ns ls x2 w u (.int .i64 0) w2 :=
  ⟨0, rfl, Nat.zero_le _, by simpa using OwnsS.below hu hb, rfl, OwnsS.mono hw hx, disN_new hu hx, hB⟩
theorem name_low {l : List UInt8} (h : nameC l = 0) : nameR l = lowS l := by unfold nameR; rw [if_pos h]
theorem name_vals {l : List UInt8} (h : nameC l ≠ 0) : nameC l = 5 ∨ nameC l = 8 := by
  unfold nameC at *
  split
  · split
    · exact .inl rfl
    · rename_i h1 h2; rw [if_pos h1, if_neg h2] at h; exact absurd rfl h
  · exact .inr rfl
theorem readsS_below {w w' : World} {v : Value} {ls : List (List UInt8)} (h : ReadsS w v ls) (hb : Below w.heap.size w w') : ReadsS w' v ls := by
  obtain ⟨a, c, rfl, hc⟩ := h
  refine ⟨a, c, rfl, fun j l hj => ?_⟩
  obtain ⟨g, off, e, hg, h1⟩ := hc j l hj
  exact ⟨g, off, e, Nat.lt_of_lt_of_le hg hb.size, (hb.cell (p := ⟨g, off + j, none⟩) hg).trans h1⟩
theorem saneN {B : Nat} {w : World} {v : Value} {ls : List (List UInt8)} (h : OwnsS B w v ls) : Sane v := by
  rcases h with ⟨hl, ⟨hv, hn⟩ | ⟨g, cap, cur, hv, hb, hg, hn, _⟩⟩
  · intro a n c e; rw [hv] at e; cases e; exact ⟨Nat.le_refl _, fun _ => rfl⟩
  · intro a n c e; rw [hv] at e; cases e; exact ⟨hn, fun h => by cases h⟩
theorem own_new1 (w : World) (l : List UInt8) : OwnsS w.heap.size (w.alloc (.cells #[.string (strB l)] 9)) (.slice (some ⟨w.heap.size, 0, none⟩) 1 1) [l] :=
  ⟨by simp, .inr ⟨w.heap.size, 1, #[.string (strB l)], rfl, Nat.le_refl _, heap_alloc_new w _, Nat.le_refl _, by decide, rfl, rfl⟩⟩
theorem ownsS_kept {B : Nat} {w0 w1 w2 : World} {v : Value} {ls : List (List UInt8)} (_ : OwnsS B w1 v ls) (h1 : Below w0.heap.size w0 w1) (h0 : OwnsS B w0 v ls) (hb : Below w0.heap.size w1 w2) : OwnsS B w2 v ls := OwnsS.below h0 (h1.trans hb)
theorem own_appT {B : Nat} {w : World} {v : Value} {ls ms : List (List UInt8)} (h : w.ownsRow B 9 1 v (ls.length + ms.length) (ls.map strV ++ ms.map strV)) : OwnsS B w v (ls ++ ms) := by
  unfold OwnsS; rw [List.length_append, List.map_append]; exact h
/-- An append of strings that are read to a slice that the call made, at one operation; which block the end has. -/
theorem wp_appendT {B : Nat} {w : World} {o : Oper} {a : Act} {K : Act → World → Prop} {Q : Exit → Act → World → Prop} (s x : Operand)
    (ho : o.op = .call { callee := .builtin .append, args := #[s, x], argTypes := #[25, 25] }) (v v2 : Value) (hs : a.eval s = v) (hx : a.eval x = v2) {ls ms : List (List UInt8)} (hown : OwnsS B w v ls) (hr : ReadsS w v2 ms) (hp : Sane v2)
    (hn : ls.length + ms.length ≤ 1000000) (hB : B ≤ w.heap.size) (h : ∀ v' w', OwnsS B w' v' (ls ++ ms) → w.grownBy w' v.ownBlock → (v'.ownBlock = v.ownBlock ∨ v'.ownBlock = some w.heap.size) → K (a.put o.dst v') w') :
    Oper.wp Tryz.prog o a w K Q := by
  obtain ⟨i0, hi, hz0, hz1, hz2⟩ := info_parts Tryz.infoS
  obtain ⟨ao, cap, rfl, hc⟩ := hr
  cases ao with
  | none =>
    have hm : ms = [] := by
      cases ms with
      | nil => rfl
      | cons m r => obtain ⟨g, off, ha, _⟩ := hc 0 m rfl; cases ha
    subst hm
    obtain rfl := (hp _ _ _ rfl).2 rfl
    have hrun := run_append_owned_none (P := Tryz.prog) (w := w) B 25 o.type 9 i0 1 Tryz.underlying25 hi v ls.length (ls.map strV) hown
    unfold Oper.wp
    simp [execOp, ho, resolve, invoke, builtin, hs, hx, hrun, Result.andThen]
    exact h v w (by rw [List.append_nil]; exact hown) ⟨rfl, rfl, rfl, Nat.le_refl _, fun _ _ _ => rfl⟩ (.inl rfl)
  | some ad =>
    obtain ⟨v', w', hrun, h2, h3, _, h5⟩ := run_append_own_at (P := Tryz.prog) w B 25 o.type 9 i0 _ 1 16 Tryz.underlying25 hi hz0 hz1 hz2 rfl (by decide) v ls.length (ls.map strV) hown ad ms.length cap (ms.map strV) (by simp) (fun j u hj => by
      rw [List.getElem?_map] at hj
      cases hm : ms[j]? with
      | none => rw [hm] at hj; cases hj
      | some m =>
        rw [hm] at hj
        simp only [Option.map_some, Option.some.injEq] at hj
        obtain ⟨g, off, ha, _, h1⟩ := hc j m hm
        obtain rfl : ad = ⟨g, off, none⟩ := Option.some.inj ha
        rw [Addr.add_lit, ← hj]; exact h1) (fun u hu => by obtain ⟨m, _, rfl⟩ := List.mem_map.mp hu; rfl) (by unfold maxLen; omega) (by omega) hB
    unfold Oper.wp execOp
    simp only [ho, resolve, invoke, builtin, Sem.run_bind, Sem.run_pure, Result.andThen_ok, List.map_toArray, List.map_cons, List.map_nil, hs, hx, hrun]
    exact h v' w' (own_appT h2) h3 h5
theorem disN_part {a : Option Addr} {n m c : Nat} {x : Value} (h : DisN (.slice a n c) x) : DisN (.slice a m c) x := by cases a <;> exact h
theorem sane_rest {a : Addr} {n c : Nat} (h : n ≤ c) : Sane (.slice (some a) n c) := fun _ _ _ e => by cases e; exact ⟨h, fun h => by cases h⟩
theorem less_k (z nl : List UInt8) : Op.bytesLess (strB z).toList (strB nl).toList = ltK z nl := by
  rw [ByteArray.toList_eq, ByteArray.toList_eq, bytesLess_eq]
  show decide (z < nl) = _
  cases h : ltK z nl with
  | true => exact decide_eq_true ((lt_iff z nl).mpr h)
  | false => exact decide_eq_false fun e => by rw [(lt_iff z nl).mp e] at h; cases h
set_option maxHeartbeats 8000000 in
set_option maxRecDepth 100000 in
theorem refNames_any (fv : Value) (ps : Flds) (w : World) (hr : ReadsQ w fv ps) (hf : FitK ps) :
    Calls Tryz.prog 8 #[fv] w (RnPost (allL ps nVy) w) := by
  have h1 := sum_all ps nVy
  have h2 := hf.len
  have h3 := hf.tot
  have HA := Lib.hid (refAll_any fv ps nVy w hr (by decide) (by omega) (fun p hp => by have := hf.each p hp; omega))
  have hvl : (allL ps nVy).length ≤ 3000 := by omega
  have HE := Lib.hid (show ∀ v ∈ allL ps nVy, v.length ≤ 30000 from fun v hv => by have := sumL_mem hv; omega)
  have HN := Lib.hid (show ∀ k, (namL ((allL ps nVy).take k)).length ≤ 40000 from fun k => by have := nam_take (allL ps nVy) k; have := nam_le (allL ps nVy); omega)
  generalize allL ps nVy = vs at *
  clear hr hf h1 h2 h3
  go_enter Tryz.func8, Tryz.ntmps8
  go_wp2_with fail
  refine HA.out.mono ?_
  rintro e w1 ⟨v1, rfl, hO1, hB1⟩
  have hs1 := hB1.size
  obtain ⟨ao1, cp1, rfl, hc1⟩ := hO1.reads
  have HC := Lib.hid hc1
  have HB1 := Lib.hid hB1
  clear hc1 hB1 hO1
  go_wp2_with fail
  go_loopw [4, 17] (fun u i wr => RnRel vs w1 u i wr) (fun _ i _ => vs.length - (intOf i).toNat)
  case atStart => exact RnRel0 vs w1
  case round =>
    obtain ⟨k, rfl, hk, hO, hs, hBr⟩ := hrel
    have hbr := hBr.size
    have hnk := HN.out k
    have HS := Lib.hid hs
    clear hs
    by_cases hlt : k < vs.length
    · obtain ⟨x, hx⟩ : ∃ x, vs[k]? = some x := ⟨vs[k], by simp [hlt]⟩
      obtain ⟨g, off, rfl, hg, hc2⟩ := HC.out k x hx
      have hcell : wr.cell? ⟨g, off + k, none⟩ = some (.string (strB x)) := (hBr.cell (p := ⟨g, off + k, none⟩) hg).trans hc2
      have hxl := HE.out x (List.mem_of_getElem? hx)
      have HX := Lib.hid hx
      have L := refList_any (strB x) wr (by rw [strB_size]; omega)
      unfold RefListPost at L
      rw [strB_list] at L
      clear hx hc2
      cases hl : listO x with
      | none =>
        rw [hl] at L
        have HR := Lib.hid (bad_hit HX.out (show badV x = true by unfold badV; rw [hl]))
        clear hl
        go_wp2_with fail
        refine L.mono ?_
        rintro e w2 ⟨hB2, rfl⟩
        go_wp2_with fail
        go_ret2
        exact ⟨HB1.out.trans ((hBr.trans (hB2.mono hbr)).mono hs1), by rw [if_pos HR.out]; rfl⟩
      | some ls =>
        rw [hl] at L
        have HLe := Lib.hid (els_each hl)
        have HEl := Lib.hid (show elsV x = ls.map nameR by unfold elsV; rw [hl])
        have HBd := Lib.hid (show badV x = ls.any badE by unfold badV; rw [hl])
        clear hl
        go_wp2_with fail
        refine L.mono ?_
        rintro e w2 ⟨hB2, x2, rfl, hO2, hln⟩
        have HI := Lib.hid (RnIn0 hbr hO hO2 hB2 (hBr.trans (hB2.mono hbr)))
        obtain ⟨a2, c2, rfl, _⟩ := hO2.reads
        have hs2 := hB2.size
        clear hO hO2 hB2
        go_wp2_with fail
        go_loopw [4, 30] (fun u i wi => RnIn (namL (vs.take k)) ls (.slice a2 ls.length c2) w1 u i wi) (fun _ i _ => ls.length - (intOf i).toNat)
        case atStart => exact HI.out
        case round =>
          obtain ⟨j, rfl, hj, hOi, hsi, hUi, hDi, hBi⟩ := hrel
          have hbi := hBi.size
          have HSi := Lib.hid hsi
          have HUi := Lib.hid hUi
          have HDi := Lib.hid hDi
          clear hsi hUi hDi
          by_cases hlj : j < ls.length
          · obtain ⟨l, hl⟩ : ∃ l, ls[j]? = some l := ⟨ls[j], by simp [hlj]⟩
            obtain ⟨ao4, cp4, hve, hcc⟩ := HUi.out.reads
            obtain ⟨g4, off4, hao, hg4, hcell4⟩ := hcc j l hl
            simp only [Value.slice.injEq] at hve
            obtain ⟨hve1, _, hve3⟩ := hve
            clear hve3
            rw [hao] at hve1
            subst hve1
            have hll := HLe.out l (List.mem_of_getElem? hl)
            have HLj := Lib.hid hl
            have HNm := Lib.hid (fun (w : World) => refName_any (strB l) w (by rw [strB_size]; omega))
            rw [strB_list] at HNm
            clear hl hcc hao
            by_cases hc : nameC l = 0
            · by_cases hst : l = [42]
              · have HR := Lib.hid (bad_hit HX.out (by rw [HBd.out]; exact badE_hit HLj.out (show badE l = true by unfold badE; exact decide_eq_true (.inr (by rw [name_low hc]; exact (lowS_star l).mpr hst)))))
                have heq : ((strB l).toList == ([42] : List UInt8)) = true := by rw [ByteArray.toList_eq, hst]; rfl
                rw [hc] at HNm
                clear hst hc
                go_wp2_with fail
                refine (HNm.out _).mono ?_
                rintro e w4 ⟨rfl, hB4⟩
                go_wp2_with fail
                go_ret2
                exact ⟨HB1.out.trans ((hBi.trans (hB4.mono hbi)).mono hs1), by rw [if_pos HR.out]; rfl⟩
              · have hbe : badE l = false := by unfold badE; exact decide_eq_false (fun h => h.elim (fun h => h hc) (fun h => hst ((lowS_star l).mp (by rw [← name_low hc]; exact h))))
                have HSn := Lib.hid (badE_next HLj.out HSi.out hbe)
                have HTk := Lib.hid (show insL (namL (vs.take k) ++ (ls.take (j + 1)).map nameR) = insU (nameR l) (insL (namL (vs.take k) ++ (ls.take j).map nameR)) by rw [take_more HLj.out, List.map_append, ← List.append_assoc]; exact insL_next _ _)
                rw [hc] at HNm
                have heq : ((strB l).toList == ([42] : List UInt8)) = false := by
                  rw [ByteArray.toList_eq]
                  simpa [strB] using hst
                have hol : (insL (namL (vs.take k) ++ (ls.take j).map nameR)).length ≤ 150000 := by
                  have := insL_len (namL (vs.take k) ++ (ls.take j).map nameR)
                  rw [List.length_append, List.length_map, List.length_take] at this
                  omega
                generalize nameR l = nl at *
                generalize hOO : insL (namL (vs.take k) ++ (ls.take j).map nameR) = O at *
                clear hst hc hbe hOO
                go_wp2_with fail
                refine (HNm.out _).mono ?_
                rintro e w4 ⟨rfl, hB4⟩
                have hs4 := hB4.size
                have hO4 := OwnsS.below hOi hB4
                have hU4 := Lib.hid (OwnsS.below HUi.out hB4)
                have HB4 := Lib.hid (hBi.trans (hB4.mono hbi))
                have hR4 := hO4.reads
                obtain ⟨ao5, cp5, rfl, hc5⟩ := hR4
                have HC5 := Lib.hid hc5
                have HO4 := Lib.hid hO4
                clear hB4 hc5 hO4 hOi
                go_wp2_with fail
                go_loopw [13] (fun i wk => ∃ m : Nat, i = .int .i64 m ∧ m ≤ O.length ∧ (∀ i y, i < m → O[i]? = some y → ltK y nl = true) ∧ wk = w4) (fun i _ => O.length - (intOf i).toNat)
                case atStart => exact ⟨0, rfl, Nat.zero_le _, fun i y h => absurd h (Nat.not_lt_zero _), rfl⟩
                case round =>
                  obtain ⟨m, rfl, hm, hlow, hwk⟩ := hrel
                  obtain rfl := hwk.symm
                  have HLo := Lib.hid hlow
                  clear hlow hwk
                  by_cases hmlt : m < O.length
                  · obtain ⟨z, hz⟩ : ∃ z, O[m]? = some z := ⟨O[m], by simp [hmlt]⟩
                    obtain ⟨g5, off5, rfl, hg5, hcell5⟩ := HC5.out m z hz
                    have HZ := Lib.hid hz
                    clear hz
                    have hbl := less_k z nl
                    cases hzl : ltK z nl with
                    | true =>
                      rw [hzl] at hbl
                      have HLn := Lib.hid (low_next HZ.out HLo.out hzl)
                      clear hzl
                      go_wp2_with fail
                      go_roundw
                      case rel => exact ⟨m + 1, by go_num, by omega, HLn.out, trivial⟩
                      case measure => simp [intOf]; omega
                    | false =>
                      rw [hzl] at hbl
                      have hne : ¬ (m : Int) = (O.length : Int) := by omega
                      have hne2 : ((m : Int) == (O.length : Int)) = false := by simpa using hne
                      by_cases hzn : z = nl
                      · have heq2 : ((strB z).toList == (strB nl).toList) = true := by rw [hzn]; exact beq_self_eq_true _
                        have HSm := Lib.hid (insU_same nl O m HLo.out (by rw [← hzn]; exact HZ.out))
                        clear hzn hzl
                        go_wp2_with fail
                        go_roundw
                        case rel => exact ⟨j + 1, by go_num, by omega, by rw [HTk.out, HSm.out]; exact HO4.out, HSn.out, hU4.out, HDi.out, HB4.out⟩
                        case measure => simp [intOf]; omega
                      · have heq2 : ((strB z).toList == (strB nl).toList) = false := toList_other hzn
                        have HAt := Lib.hid (insU_at nl O m hm HLo.out (fun y hy => by rw [HZ.out] at hy; obtain rfl := Option.some.inj hy; exact ⟨hzl, hzn⟩))
                        clear hzn hzl
                        have hcap := (saneN HO4.out _ _ _ rfl).1
                        have hmc : m ≤ cp5 := by omega
                        have hmn : ¬ cp5 = m := by omega
                        have HP := Lib.hid (OwnsS.part HO4.out m hm)
                        have HRs := Lib.hid (reads_rest HO4.out.reads m hmlt)
                        have HSa := Lib.hid (sane_rest (a := ⟨g5, off5 + m, none⟩) (show O.length - m ≤ cp5 - m by omega))
                        have HDp := Lib.hid (disN_part (m := m) HDi.out)
                        go_wp2_with fail
                        have hb0 : Below w4.heap.size w4 w4.drew := (Below.refl _ _).drew
                        have hP0 := OwnsS.below HP.out hb0
                        have hU0 := OwnsS.below hU4.out hb0
                        have hR0 := readsS_below HRs.out hb0
                        have hW0 := HB4.out.trans (hb0.mono HB4.out.size)
                        clear hb0
                        refine wp_region_held_drew (S := (fun _ => True)) (by kernel_rfl) (trivial) (fun hHeld => ?_)
                        generalize w4.drew = V0 at *
                        refine wpAnyH_take (i := 0) (oi := { dst := some 71, op := _, type := _, pos := _, after := _, guard := _ }) (v := ?_) rfl (by kernel_rfl) (by kernel_rfl) (by kernel_rfl) (fun _ _ _ h => h) (Or.inl ⟨by rfl, ?_⟩) (by assumption) ?_
                        rotate_left
                        focus (intro w hSw; (try dsimp only at hSw); first | (go_simp; done) | (go_simp; with_reducible rfl))
                        (try simp only [Act.put, List.setIfInBounds_toArray, List.set_cons_zero, List.set_cons_succ])
                        refine wpAnyH_take (i := 1) (oi := { dst := some 72, op := _, type := _, pos := _, after := _, guard := _ }) (v := ?_) rfl (by kernel_rfl) (by kernel_rfl) (by kernel_rfl) (fun _ _ _ h => h) (Or.inl ⟨by rfl, ?_⟩) (by assumption) ?_
                        rotate_left
                        focus (intro w hSw; (try dsimp only at hSw); first | (go_simp; done) | (go_simp; with_reducible rfl))
                        (try simp only [Act.put, List.setIfInBounds_toArray, List.set_cons_zero, List.set_cons_succ])
                        refine wpAnyH_take (i := 2) (oi := { dst := some 73, op := _, type := _, pos := _, after := _, guard := _ }) (v := ?_) rfl (by kernel_rfl) (by kernel_rfl) (by kernel_rfl) (fun _ _ _ h => h) (Or.inl ⟨by rfl, ?_⟩) (by assumption) ?_
                        rotate_left
                        focus (intro w hSw; (try dsimp only at hSw); first | (go_simp; done) | (go_simp; with_reducible rfl))
                        (try simp only [Act.put, List.setIfInBounds_toArray, List.set_cons_zero, List.set_cons_succ])
                        refine wpAnyH_take (i := 3) (oi := { dst := some 74, op := _, type := _, pos := _, after := _, guard := _ }) (v := ?_) rfl (by kernel_rfl) (by kernel_rfl) (by kernel_rfl) (fun _ _ _ h => h) (Or.inl ⟨by rfl, ?_⟩) (by assumption) ?_
                        rotate_left
                        focus (intro w hSw; (try dsimp only at hSw); first | (go_simp; done) | (go_simp; with_reducible rfl))
                        (try simp only [Act.put, List.setIfInBounds_toArray, List.set_cons_zero, List.set_cons_succ])
                        refine wpAnyH_take (i := 5) (oi := { dst := some 76, op := _, type := _, pos := _, after := _, guard := _ }) (v := ?_) rfl (by kernel_rfl) (by kernel_rfl) (by kernel_rfl) (fun _ _ _ h => h) (Or.inl ⟨by rfl, ?_⟩) (by assumption) ?_
                        rotate_left
                        focus (intro w hSw; (try dsimp only at hSw); first | (go_simp; done) | (go_simp; with_reducible rfl))
                        (try simp only [Act.put, List.setIfInBounds_toArray, List.set_cons_zero, List.set_cons_succ])
                        refine wpAnyH_take (i := 6) (oi := { dst := some 77, op := _, type := _, pos := _, after := _, guard := _ }) (v := ?_) rfl (by kernel_rfl) (by kernel_rfl) (by kernel_rfl) (fun _ _ _ h => h) (Or.inl ⟨by rfl, ?_⟩) (by assumption) ?_
                        rotate_left
                        focus (intro w hSw; (try dsimp only at hSw); first | (go_simp; done) | (go_simp; with_reducible rfl))
                        (try simp only [Act.put, List.setIfInBounds_toArray, List.set_cons_zero, List.set_cons_succ])
                        refine wpAnyH_take (i := 7) (oi := { dst := some 78, op := _, type := _, pos := _, after := _, guard := _ }) (v := ?_) rfl (by kernel_rfl) (by kernel_rfl) (by kernel_rfl) (fun _ _ _ h => h) (Or.inl ⟨by rfl, ?_⟩) (by assumption) ?_
                        rotate_left
                        focus (intro w hSw; (try dsimp only at hSw); first | (go_simp; done) | (go_simp; with_reducible rfl))
                        (try simp only [Act.put, List.setIfInBounds_toArray, List.set_cons_zero, List.set_cons_succ])
                        refine wpAnyH_ready (rs := [4]) (by kernel_rfl) (by simp) ?_
                        refine AllReadyH.cons (o := { dst := some 75, op := _, type := _, pos := _, after := _, guard := _ }) rfl (fun K hK => ?_) AllReadyH.nil
                        go_simp
                        have hn1 := below_new V0 (.cells #[.string (strB nl)] 9)
                        have hP1 := OwnsS.below hP0 hn1
                        have hU1 := OwnsS.below hU0 hn1
                        have hR1 := readsS_below hR0 hn1
                        have hL1 := own_new1 V0 nl
                        have hW1 := hW0.trans (hn1.mono hW0.size)
                        have hz1 := hn1.size
                        refine hK.out _ _ trivial (fun hH2 => ?_)
                        clear hK K hHeld
                        (try simp only [Act.put, List.setIfInBounds_toArray, List.set_cons_zero, List.set_cons_succ])
                        change wpAnyH _ _ _ _ _ _ _ _ (V0.alloc (.cells #[.string (strB nl)] 9))
                        generalize V0.alloc (.cells #[.string (strB nl)] 9) = V1 at *
                        refine wpAnyH_ready (rs := [8]) (by kernel_rfl) (by simp) ?_
                        refine AllReadyH.cons (o := { dst := some 79, op := _, type := _, pos := _, after := _, guard := _ }) rfl (fun K hK => ?_) AllReadyH.nil
                        (try rw [if_pos (by rfl)])
                        refine wp_appendT _ _ rfl _ _ rfl rfl hL1 hR1 HSa.out (by simp <;> omega) hz1 (fun v8 V2 hO8 hg8 _ => ?_)
                        have hb8 := (Below.refl V0.heap.size V1).grown hg8 hz1 (fun q hq => (World.ownsRow.lt hL1 q hq).1)
                        have hP2 := ownsS_kept hP1 hn1 hP0 hb8
                        have hU2 := ownsS_kept hU1 hn1 hU0 hb8
                        have hW2 := hW1.trans (hb8.mono hW0.size)
                        refine hK.out _ _ trivial (fun hH3 => ?_)
                        clear hK K hH2
                        (try simp only [Act.put, List.setIfInBounds_toArray, List.set_cons_zero, List.set_cons_succ])
                        refine wpAnyH_ready (rs := [9]) (by kernel_rfl) (by simp) ?_
                        refine AllReadyH.cons (o := { dst := some 80, op := _, type := _, pos := _, after := _, guard := _ }) rfl (fun K hK => ?_) AllReadyH.nil
                        (try rw [if_pos (by rfl)])
                        refine wp_appendT _ _ rfl _ _ rfl rfl hP2 hO8.reads (saneN hO8) (by simp <;> omega) hW2.size (fun v9 V3 hO9 hg9 hat => ?_)
                        have hD := disN_grow hU2 HDp.out hg9 hat
                        have hW3 := hW2.grown hg9 hW2.size (fun q hq => (World.ownsRow.lt hP2 q hq).1)
                        refine hK.out _ _ trivial (fun hH4 => ?_)
                        clear hK K hH3
                        (try simp only [Act.put, List.setIfInBounds_toArray, List.set_cons_zero, List.set_cons_succ])
                        refine wpAnyH_take (i := 10) (oi := { dst := some 4, op := _, type := _, pos := _, after := _, guard := _ }) (v := ?_) rfl (by kernel_rfl) (by kernel_rfl) (by kernel_rfl) (fun _ _ _ h => h) (Or.inl ⟨by rfl, ?_⟩) (by assumption) ?_
                        rotate_left
                        focus (intro w hSw; (try dsimp only at hSw); first | (go_simp; done) | (go_simp; with_reducible rfl))
                        (try simp only [Act.put, List.setIfInBounds_toArray, List.set_cons_zero, List.set_cons_succ])
                        refine wpAnyH_done (by kernel_rfl) ?_ _
                        (try simp only [Exit.inBlock, Exit.then])
                        go_wp2_with fail
                        go_roundw
                        case rel => exact ⟨j + 1, by go_num, by omega, by rw [HTk.out, HAt.out]; exact hO9, HSn.out, hD.1, hD.2, hW3⟩
                        case measure => simp [intOf]; omega
                  · have hmO : m = O.length := by omega
                    subst hmO
                    have HAt := Lib.hid (insU_at nl O O.length hm HLo.out (fun y hy => by rw [List.getElem?_eq_none (Nat.le_refl _)] at hy; cases hy))
                    have hcap := (saneN HO4.out _ _ _ rfl).1
                    have HP := Lib.hid (OwnsS.part HO4.out O.length hm)
                    have HDp := Lib.hid (disN_part (m := O.length) HDi.out)
                    cases ao5 with
                    | none =>
                      have hO0 : O = [] := by
                        cases O with
                        | nil => rfl
                        | cons o r => obtain ⟨g, off, ha, _⟩ := HC5.out 0 o rfl; cases ha
                      obtain rfl := (saneN HO4.out _ _ _ rfl).2 rfl
                      subst hO0
                      have HRs := Lib.hid (show ReadsS w4 (.slice none 0 0) (([] : List (List UInt8)).drop 0) from ⟨none, 0, rfl, fun j l h => by simp at h⟩)
                      have HSa := Lib.hid (show Sane (.slice none 0 0) from fun _ _ _ e => by cases e; exact ⟨Nat.le_refl _, fun _ => rfl⟩)
                      go_wp2_with fail
                      have hb0 : Below w4.heap.size w4 w4.drew := (Below.refl _ _).drew
                      have hP0 := OwnsS.below HP.out hb0
                      have hU0 := OwnsS.below hU4.out hb0
                      have hR0 := readsS_below HRs.out hb0
                      have hW0 := HB4.out.trans (hb0.mono HB4.out.size)
                      clear hb0
                      refine wp_region_held_drew (S := (fun _ => True)) (by kernel_rfl) (trivial) (fun hHeld => ?_)
                      generalize w4.drew = V0 at *
                      refine wpAnyH_take (i := 0) (oi := { dst := some 71, op := _, type := _, pos := _, after := _, guard := _ }) (v := ?_) rfl (by kernel_rfl) (by kernel_rfl) (by kernel_rfl) (fun _ _ _ h => h) (Or.inl ⟨by rfl, ?_⟩) (by assumption) ?_
                      rotate_left
                      focus (intro w hSw; (try dsimp only at hSw); first | (go_simp; done) | (go_simp; with_reducible rfl))
                      (try simp only [Act.put, List.setIfInBounds_toArray, List.set_cons_zero, List.set_cons_succ])
                      refine wpAnyH_take (i := 1) (oi := { dst := some 72, op := _, type := _, pos := _, after := _, guard := _ }) (v := ?_) rfl (by kernel_rfl) (by kernel_rfl) (by kernel_rfl) (fun _ _ _ h => h) (Or.inl ⟨by rfl, ?_⟩) (by assumption) ?_
                      rotate_left
                      focus (intro w hSw; (try dsimp only at hSw); first | (go_simp; done) | (go_simp; with_reducible rfl))
                      (try simp only [Act.put, List.setIfInBounds_toArray, List.set_cons_zero, List.set_cons_succ])
                      refine wpAnyH_take (i := 2) (oi := { dst := some 73, op := _, type := _, pos := _, after := _, guard := _ }) (v := ?_) rfl (by kernel_rfl) (by kernel_rfl) (by kernel_rfl) (fun _ _ _ h => h) (Or.inl ⟨by rfl, ?_⟩) (by assumption) ?_
                      rotate_left
                      focus (intro w hSw; (try dsimp only at hSw); first | (go_simp; done) | (go_simp; with_reducible rfl))
                      (try simp only [Act.put, List.setIfInBounds_toArray, List.set_cons_zero, List.set_cons_succ])
                      refine wpAnyH_take (i := 3) (oi := { dst := some 74, op := _, type := _, pos := _, after := _, guard := _ }) (v := ?_) rfl (by kernel_rfl) (by kernel_rfl) (by kernel_rfl) (fun _ _ _ h => h) (Or.inl ⟨by rfl, ?_⟩) (by assumption) ?_
                      rotate_left
                      focus (intro w hSw; (try dsimp only at hSw); first | (go_simp; done) | (go_simp; with_reducible rfl))
                      (try simp only [Act.put, List.setIfInBounds_toArray, List.set_cons_zero, List.set_cons_succ])
                      refine wpAnyH_take (i := 5) (oi := { dst := some 76, op := _, type := _, pos := _, after := _, guard := _ }) (v := ?_) rfl (by kernel_rfl) (by kernel_rfl) (by kernel_rfl) (fun _ _ _ h => h) (Or.inl ⟨by rfl, ?_⟩) (by assumption) ?_
                      rotate_left
                      focus (intro w hSw; (try dsimp only at hSw); first | (go_simp; done) | (go_simp; with_reducible rfl))
                      (try simp only [Act.put, List.setIfInBounds_toArray, List.set_cons_zero, List.set_cons_succ])
                      refine wpAnyH_take (i := 6) (oi := { dst := some 77, op := _, type := _, pos := _, after := _, guard := _ }) (v := ?_) rfl (by kernel_rfl) (by kernel_rfl) (by kernel_rfl) (fun _ _ _ h => h) (Or.inl ⟨by rfl, ?_⟩) (by assumption) ?_
                      rotate_left
                      focus (intro w hSw; (try dsimp only at hSw); first | (go_simp; done) | (go_simp; with_reducible rfl))
                      (try simp only [Act.put, List.setIfInBounds_toArray, List.set_cons_zero, List.set_cons_succ])
                      refine wpAnyH_take (i := 7) (oi := { dst := some 78, op := _, type := _, pos := _, after := _, guard := _ }) (v := ?_) rfl (by kernel_rfl) (by kernel_rfl) (by kernel_rfl) (fun _ _ _ h => h) (Or.inl ⟨by rfl, ?_⟩) (by assumption) ?_
                      rotate_left
                      focus (intro w hSw; (try dsimp only at hSw); first | (go_simp; done) | (go_simp; with_reducible rfl))
                      (try simp only [Act.put, List.setIfInBounds_toArray, List.set_cons_zero, List.set_cons_succ])
                      refine wpAnyH_ready (rs := [4]) (by kernel_rfl) (by simp) ?_
                      refine AllReadyH.cons (o := { dst := some 75, op := _, type := _, pos := _, after := _, guard := _ }) rfl (fun K hK => ?_) AllReadyH.nil
                      go_simp
                      have hn1 := below_new V0 (.cells #[.string (strB nl)] 9)
                      have hP1 := OwnsS.below hP0 hn1
                      have hU1 := OwnsS.below hU0 hn1
                      have hR1 := readsS_below hR0 hn1
                      have hL1 := own_new1 V0 nl
                      have hW1 := hW0.trans (hn1.mono hW0.size)
                      have hz1 := hn1.size
                      refine hK.out _ _ trivial (fun hH2 => ?_)
                      clear hK K hHeld
                      (try simp only [Act.put, List.setIfInBounds_toArray, List.set_cons_zero, List.set_cons_succ])
                      change wpAnyH _ _ _ _ _ _ _ _ (V0.alloc (.cells #[.string (strB nl)] 9))
                      generalize V0.alloc (.cells #[.string (strB nl)] 9) = V1 at *
                      refine wpAnyH_ready (rs := [8]) (by kernel_rfl) (by simp) ?_
                      refine AllReadyH.cons (o := { dst := some 79, op := _, type := _, pos := _, after := _, guard := _ }) rfl (fun K hK => ?_) AllReadyH.nil
                      (try rw [if_pos (by rfl)])
                      refine wp_appendT _ _ rfl _ _ rfl rfl hL1 hR1 HSa.out (by simp <;> omega) hz1 (fun v8 V2 hO8 hg8 _ => ?_)
                      have hb8 := (Below.refl V0.heap.size V1).grown hg8 hz1 (fun q hq => (World.ownsRow.lt hL1 q hq).1)
                      have hP2 := ownsS_kept hP1 hn1 hP0 hb8
                      have hU2 := ownsS_kept hU1 hn1 hU0 hb8
                      have hW2 := hW1.trans (hb8.mono hW0.size)
                      refine hK.out _ _ trivial (fun hH3 => ?_)
                      clear hK K hH2
                      (try simp only [Act.put, List.setIfInBounds_toArray, List.set_cons_zero, List.set_cons_succ])
                      refine wpAnyH_ready (rs := [9]) (by kernel_rfl) (by simp) ?_
                      refine AllReadyH.cons (o := { dst := some 80, op := _, type := _, pos := _, after := _, guard := _ }) rfl (fun K hK => ?_) AllReadyH.nil
                      (try rw [if_pos (by rfl)])
                      refine wp_appendT _ _ rfl _ _ rfl rfl hP2 hO8.reads (saneN hO8) (by simp <;> omega) hW2.size (fun v9 V3 hO9 hg9 hat => ?_)
                      have hD := disN_grow hU2 HDp.out hg9 hat
                      have hW3 := hW2.grown hg9 hW2.size (fun q hq => (World.ownsRow.lt hP2 q hq).1)
                      refine hK.out _ _ trivial (fun hH4 => ?_)
                      clear hK K hH3
                      (try simp only [Act.put, List.setIfInBounds_toArray, List.set_cons_zero, List.set_cons_succ])
                      refine wpAnyH_take (i := 10) (oi := { dst := some 4, op := _, type := _, pos := _, after := _, guard := _ }) (v := ?_) rfl (by kernel_rfl) (by kernel_rfl) (by kernel_rfl) (fun _ _ _ h => h) (Or.inl ⟨by rfl, ?_⟩) (by assumption) ?_
                      rotate_left
                      focus (intro w hSw; (try dsimp only at hSw); first | (go_simp; done) | (go_simp; with_reducible rfl))
                      (try simp only [Act.put, List.setIfInBounds_toArray, List.set_cons_zero, List.set_cons_succ])
                      refine wpAnyH_done (by kernel_rfl) ?_ _
                      (try simp only [Exit.inBlock, Exit.then])
                      go_wp2_with fail
                      go_roundw
                      case rel => exact ⟨j + 1, by go_num, by omega, by rw [HTk.out, HAt.out]; exact hO9, HSn.out, hD.1, hD.2, hW3⟩
                      case measure => simp [intOf]; omega
                    | some ad =>
                      have hmc : O.length ≤ cp5 := hcap
                      by_cases hmn : cp5 = O.length
                      · subst hmn
                        have HRs := Lib.hid (show ReadsS w4 (.slice (some ad) 0 0) (O.drop O.length) from ⟨some ad, 0, by rw [List.drop_length]; rfl, fun j l h => by rw [List.drop_length] at h; cases h⟩)
                        have HSa := Lib.hid (sane_rest (a := ad) (Nat.le_refl 0))
                        go_wp2_with fail
                        have hb0 : Below w4.heap.size w4 w4.drew := (Below.refl _ _).drew
                        have hP0 := OwnsS.below HP.out hb0
                        have hU0 := OwnsS.below hU4.out hb0
                        have hR0 := readsS_below HRs.out hb0
                        have hW0 := HB4.out.trans (hb0.mono HB4.out.size)
                        clear hb0
                        refine wp_region_held_drew (S := (fun _ => True)) (by kernel_rfl) (trivial) (fun hHeld => ?_)
                        generalize w4.drew = V0 at *
                        refine wpAnyH_take (i := 0) (oi := { dst := some 71, op := _, type := _, pos := _, after := _, guard := _ }) (v := ?_) rfl (by kernel_rfl) (by kernel_rfl) (by kernel_rfl) (fun _ _ _ h => h) (Or.inl ⟨by rfl, ?_⟩) (by assumption) ?_
                        rotate_left
                        focus (intro w hSw; (try dsimp only at hSw); first | (go_simp; done) | (go_simp; with_reducible rfl))
                        (try simp only [Act.put, List.setIfInBounds_toArray, List.set_cons_zero, List.set_cons_succ])
                        refine wpAnyH_take (i := 1) (oi := { dst := some 72, op := _, type := _, pos := _, after := _, guard := _ }) (v := ?_) rfl (by kernel_rfl) (by kernel_rfl) (by kernel_rfl) (fun _ _ _ h => h) (Or.inl ⟨by rfl, ?_⟩) (by assumption) ?_
                        rotate_left
                        focus (intro w hSw; (try dsimp only at hSw); first | (go_simp; done) | (go_simp; with_reducible rfl))
                        (try simp only [Act.put, List.setIfInBounds_toArray, List.set_cons_zero, List.set_cons_succ])
                        refine wpAnyH_take (i := 2) (oi := { dst := some 73, op := _, type := _, pos := _, after := _, guard := _ }) (v := ?_) rfl (by kernel_rfl) (by kernel_rfl) (by kernel_rfl) (fun _ _ _ h => h) (Or.inl ⟨by rfl, ?_⟩) (by assumption) ?_
                        rotate_left
                        focus (intro w hSw; (try dsimp only at hSw); first | (go_simp; done) | (go_simp; with_reducible rfl))
                        (try simp only [Act.put, List.setIfInBounds_toArray, List.set_cons_zero, List.set_cons_succ])
                        refine wpAnyH_take (i := 3) (oi := { dst := some 74, op := _, type := _, pos := _, after := _, guard := _ }) (v := ?_) rfl (by kernel_rfl) (by kernel_rfl) (by kernel_rfl) (fun _ _ _ h => h) (Or.inl ⟨by rfl, ?_⟩) (by assumption) ?_
                        rotate_left
                        focus (intro w hSw; (try dsimp only at hSw); first | (go_simp; done) | (go_simp; with_reducible rfl))
                        (try simp only [Act.put, List.setIfInBounds_toArray, List.set_cons_zero, List.set_cons_succ])
                        refine wpAnyH_take (i := 5) (oi := { dst := some 76, op := _, type := _, pos := _, after := _, guard := _ }) (v := ?_) rfl (by kernel_rfl) (by kernel_rfl) (by kernel_rfl) (fun _ _ _ h => h) (Or.inl ⟨by rfl, ?_⟩) (by assumption) ?_
                        rotate_left
                        focus (intro w hSw; (try dsimp only at hSw); first | (go_simp; done) | (go_simp; with_reducible rfl))
                        (try simp only [Act.put, List.setIfInBounds_toArray, List.set_cons_zero, List.set_cons_succ])
                        refine wpAnyH_take (i := 6) (oi := { dst := some 77, op := _, type := _, pos := _, after := _, guard := _ }) (v := ?_) rfl (by kernel_rfl) (by kernel_rfl) (by kernel_rfl) (fun _ _ _ h => h) (Or.inl ⟨by rfl, ?_⟩) (by assumption) ?_
                        rotate_left
                        focus (intro w hSw; (try dsimp only at hSw); first | (go_simp; done) | (go_simp; with_reducible rfl))
                        (try simp only [Act.put, List.setIfInBounds_toArray, List.set_cons_zero, List.set_cons_succ])
                        refine wpAnyH_take (i := 7) (oi := { dst := some 78, op := _, type := _, pos := _, after := _, guard := _ }) (v := ?_) rfl (by kernel_rfl) (by kernel_rfl) (by kernel_rfl) (fun _ _ _ h => h) (Or.inl ⟨by rfl, ?_⟩) (by assumption) ?_
                        rotate_left
                        focus (intro w hSw; (try dsimp only at hSw); first | (go_simp; done) | (go_simp; with_reducible rfl))
                        (try simp only [Act.put, List.setIfInBounds_toArray, List.set_cons_zero, List.set_cons_succ])
                        refine wpAnyH_ready (rs := [4]) (by kernel_rfl) (by simp) ?_
                        refine AllReadyH.cons (o := { dst := some 75, op := _, type := _, pos := _, after := _, guard := _ }) rfl (fun K hK => ?_) AllReadyH.nil
                        go_simp
                        have hn1 := below_new V0 (.cells #[.string (strB nl)] 9)
                        have hP1 := OwnsS.below hP0 hn1
                        have hU1 := OwnsS.below hU0 hn1
                        have hR1 := readsS_below hR0 hn1
                        have hL1 := own_new1 V0 nl
                        have hW1 := hW0.trans (hn1.mono hW0.size)
                        have hz1 := hn1.size
                        refine hK.out _ _ trivial (fun hH2 => ?_)
                        clear hK K hHeld
                        (try simp only [Act.put, List.setIfInBounds_toArray, List.set_cons_zero, List.set_cons_succ])
                        change wpAnyH _ _ _ _ _ _ _ _ (V0.alloc (.cells #[.string (strB nl)] 9))
                        generalize V0.alloc (.cells #[.string (strB nl)] 9) = V1 at *
                        refine wpAnyH_ready (rs := [8]) (by kernel_rfl) (by simp) ?_
                        refine AllReadyH.cons (o := { dst := some 79, op := _, type := _, pos := _, after := _, guard := _ }) rfl (fun K hK => ?_) AllReadyH.nil
                        (try rw [if_pos (by rfl)])
                        refine wp_appendT _ _ rfl _ _ rfl rfl hL1 hR1 HSa.out (by simp <;> omega) hz1 (fun v8 V2 hO8 hg8 _ => ?_)
                        have hb8 := (Below.refl V0.heap.size V1).grown hg8 hz1 (fun q hq => (World.ownsRow.lt hL1 q hq).1)
                        have hP2 := ownsS_kept hP1 hn1 hP0 hb8
                        have hU2 := ownsS_kept hU1 hn1 hU0 hb8
                        have hW2 := hW1.trans (hb8.mono hW0.size)
                        refine hK.out _ _ trivial (fun hH3 => ?_)
                        clear hK K hH2
                        (try simp only [Act.put, List.setIfInBounds_toArray, List.set_cons_zero, List.set_cons_succ])
                        refine wpAnyH_ready (rs := [9]) (by kernel_rfl) (by simp) ?_
                        refine AllReadyH.cons (o := { dst := some 80, op := _, type := _, pos := _, after := _, guard := _ }) rfl (fun K hK => ?_) AllReadyH.nil
                        (try rw [if_pos (by rfl)])
                        refine wp_appendT _ _ rfl _ _ rfl rfl hP2 hO8.reads (saneN hO8) (by simp <;> omega) hW2.size (fun v9 V3 hO9 hg9 hat => ?_)
                        have hD := disN_grow hU2 HDp.out hg9 hat
                        have hW3 := hW2.grown hg9 hW2.size (fun q hq => (World.ownsRow.lt hP2 q hq).1)
                        refine hK.out _ _ trivial (fun hH4 => ?_)
                        clear hK K hH3
                        (try simp only [Act.put, List.setIfInBounds_toArray, List.set_cons_zero, List.set_cons_succ])
                        refine wpAnyH_take (i := 10) (oi := { dst := some 4, op := _, type := _, pos := _, after := _, guard := _ }) (v := ?_) rfl (by kernel_rfl) (by kernel_rfl) (by kernel_rfl) (fun _ _ _ h => h) (Or.inl ⟨by rfl, ?_⟩) (by assumption) ?_
                        rotate_left
                        focus (intro w hSw; (try dsimp only at hSw); first | (go_simp; done) | (go_simp; with_reducible rfl))
                        (try simp only [Act.put, List.setIfInBounds_toArray, List.set_cons_zero, List.set_cons_succ])
                        refine wpAnyH_done (by kernel_rfl) ?_ _
                        (try simp only [Exit.inBlock, Exit.then])
                        go_wp2_with fail
                        go_roundw
                        case rel => exact ⟨j + 1, by go_num, by omega, by rw [HTk.out, HAt.out]; exact hO9, HSn.out, hD.1, hD.2, hW3⟩
                        case measure => simp [intOf]; omega
                      · have HRs := Lib.hid (show ReadsS w4 (.slice (some (ad.add O.length)) 0 (cp5 - O.length)) (O.drop O.length) from ⟨_, _, by rw [List.drop_length]; rfl, fun j l h => by rw [List.drop_length] at h; cases h⟩)
                        have HSa := Lib.hid (sane_rest (a := ad.add O.length) (Nat.zero_le (cp5 - O.length)))
                        go_wp2_with fail
                        have hb0 : Below w4.heap.size w4 w4.drew := (Below.refl _ _).drew
                        have hP0 := OwnsS.below HP.out hb0
                        have hU0 := OwnsS.below hU4.out hb0
                        have hR0 := readsS_below HRs.out hb0
                        have hW0 := HB4.out.trans (hb0.mono HB4.out.size)
                        clear hb0
                        refine wp_region_held_drew (S := (fun _ => True)) (by kernel_rfl) (trivial) (fun hHeld => ?_)
                        generalize w4.drew = V0 at *
                        refine wpAnyH_take (i := 0) (oi := { dst := some 71, op := _, type := _, pos := _, after := _, guard := _ }) (v := ?_) rfl (by kernel_rfl) (by kernel_rfl) (by kernel_rfl) (fun _ _ _ h => h) (Or.inl ⟨by rfl, ?_⟩) (by assumption) ?_
                        rotate_left
                        focus (intro w hSw; (try dsimp only at hSw); first | (go_simp; done) | (go_simp; with_reducible rfl))
                        (try simp only [Act.put, List.setIfInBounds_toArray, List.set_cons_zero, List.set_cons_succ])
                        refine wpAnyH_take (i := 1) (oi := { dst := some 72, op := _, type := _, pos := _, after := _, guard := _ }) (v := ?_) rfl (by kernel_rfl) (by kernel_rfl) (by kernel_rfl) (fun _ _ _ h => h) (Or.inl ⟨by rfl, ?_⟩) (by assumption) ?_
                        rotate_left
                        focus (intro w hSw; (try dsimp only at hSw); first | (go_simp; done) | (go_simp; with_reducible rfl))
                        (try simp only [Act.put, List.setIfInBounds_toArray, List.set_cons_zero, List.set_cons_succ])
                        refine wpAnyH_take (i := 2) (oi := { dst := some 73, op := _, type := _, pos := _, after := _, guard := _ }) (v := ?_) rfl (by kernel_rfl) (by kernel_rfl) (by kernel_rfl) (fun _ _ _ h => h) (Or.inl ⟨by rfl, ?_⟩) (by assumption) ?_
                        rotate_left
                        focus (intro w hSw; (try dsimp only at hSw); first | (go_simp; done) | (go_simp; with_reducible rfl))
                        (try simp only [Act.put, List.setIfInBounds_toArray, List.set_cons_zero, List.set_cons_succ])
                        refine wpAnyH_take (i := 3) (oi := { dst := some 74, op := _, type := _, pos := _, after := _, guard := _ }) (v := ?_) rfl (by kernel_rfl) (by kernel_rfl) (by kernel_rfl) (fun _ _ _ h => h) (Or.inl ⟨by rfl, ?_⟩) (by assumption) ?_
                        rotate_left
                        focus (intro w hSw; (try dsimp only at hSw); first | (go_simp; done) | (go_simp; with_reducible rfl))
                        (try simp only [Act.put, List.setIfInBounds_toArray, List.set_cons_zero, List.set_cons_succ])
                        refine wpAnyH_take (i := 5) (oi := { dst := some 76, op := _, type := _, pos := _, after := _, guard := _ }) (v := ?_) rfl (by kernel_rfl) (by kernel_rfl) (by kernel_rfl) (fun _ _ _ h => h) (Or.inl ⟨by rfl, ?_⟩) (by assumption) ?_
                        rotate_left
                        focus (intro w hSw; (try dsimp only at hSw); first | (go_simp; done) | (go_simp; with_reducible rfl))
                        (try simp only [Act.put, List.setIfInBounds_toArray, List.set_cons_zero, List.set_cons_succ])
                        refine wpAnyH_take (i := 6) (oi := { dst := some 77, op := _, type := _, pos := _, after := _, guard := _ }) (v := ?_) rfl (by kernel_rfl) (by kernel_rfl) (by kernel_rfl) (fun _ _ _ h => h) (Or.inl ⟨by rfl, ?_⟩) (by assumption) ?_
                        rotate_left
                        focus (intro w hSw; (try dsimp only at hSw); first | (go_simp; done) | (go_simp; with_reducible rfl))
                        (try simp only [Act.put, List.setIfInBounds_toArray, List.set_cons_zero, List.set_cons_succ])
                        refine wpAnyH_take (i := 7) (oi := { dst := some 78, op := _, type := _, pos := _, after := _, guard := _ }) (v := ?_) rfl (by kernel_rfl) (by kernel_rfl) (by kernel_rfl) (fun _ _ _ h => h) (Or.inl ⟨by rfl, ?_⟩) (by assumption) ?_
                        rotate_left
                        focus (intro w hSw; (try dsimp only at hSw); first | (go_simp; done) | (go_simp; with_reducible rfl))
                        (try simp only [Act.put, List.setIfInBounds_toArray, List.set_cons_zero, List.set_cons_succ])
                        refine wpAnyH_ready (rs := [4]) (by kernel_rfl) (by simp) ?_
                        refine AllReadyH.cons (o := { dst := some 75, op := _, type := _, pos := _, after := _, guard := _ }) rfl (fun K hK => ?_) AllReadyH.nil
                        go_simp
                        have hn1 := below_new V0 (.cells #[.string (strB nl)] 9)
                        have hP1 := OwnsS.below hP0 hn1
                        have hU1 := OwnsS.below hU0 hn1
                        have hR1 := readsS_below hR0 hn1
                        have hL1 := own_new1 V0 nl
                        have hW1 := hW0.trans (hn1.mono hW0.size)
                        have hz1 := hn1.size
                        refine hK.out _ _ trivial (fun hH2 => ?_)
                        clear hK K hHeld
                        (try simp only [Act.put, List.setIfInBounds_toArray, List.set_cons_zero, List.set_cons_succ])
                        change wpAnyH _ _ _ _ _ _ _ _ (V0.alloc (.cells #[.string (strB nl)] 9))
                        generalize V0.alloc (.cells #[.string (strB nl)] 9) = V1 at *
                        refine wpAnyH_ready (rs := [8]) (by kernel_rfl) (by simp) ?_
                        refine AllReadyH.cons (o := { dst := some 79, op := _, type := _, pos := _, after := _, guard := _ }) rfl (fun K hK => ?_) AllReadyH.nil
                        (try rw [if_pos (by rfl)])
                        refine wp_appendT _ _ rfl _ _ rfl rfl hL1 hR1 HSa.out (by simp <;> omega) hz1 (fun v8 V2 hO8 hg8 _ => ?_)
                        have hb8 := (Below.refl V0.heap.size V1).grown hg8 hz1 (fun q hq => (World.ownsRow.lt hL1 q hq).1)
                        have hP2 := ownsS_kept hP1 hn1 hP0 hb8
                        have hU2 := ownsS_kept hU1 hn1 hU0 hb8
                        have hW2 := hW1.trans (hb8.mono hW0.size)
                        refine hK.out _ _ trivial (fun hH3 => ?_)
                        clear hK K hH2
                        (try simp only [Act.put, List.setIfInBounds_toArray, List.set_cons_zero, List.set_cons_succ])
                        refine wpAnyH_ready (rs := [9]) (by kernel_rfl) (by simp) ?_
                        refine AllReadyH.cons (o := { dst := some 80, op := _, type := _, pos := _, after := _, guard := _ }) rfl (fun K hK => ?_) AllReadyH.nil
                        (try rw [if_pos (by rfl)])
                        refine wp_appendT _ _ rfl _ _ rfl rfl hP2 hO8.reads (saneN hO8) (by simp <;> omega) hW2.size (fun v9 V3 hO9 hg9 hat => ?_)
                        have hD := disN_grow hU2 HDp.out hg9 hat
                        have hW3 := hW2.grown hg9 hW2.size (fun q hq => (World.ownsRow.lt hP2 q hq).1)
                        refine hK.out _ _ trivial (fun hH4 => ?_)
                        clear hK K hH3
                        (try simp only [Act.put, List.setIfInBounds_toArray, List.set_cons_zero, List.set_cons_succ])
                        refine wpAnyH_take (i := 10) (oi := { dst := some 4, op := _, type := _, pos := _, after := _, guard := _ }) (v := ?_) rfl (by kernel_rfl) (by kernel_rfl) (by kernel_rfl) (fun _ _ _ h => h) (Or.inl ⟨by rfl, ?_⟩) (by assumption) ?_
                        rotate_left
                        focus (intro w hSw; (try dsimp only at hSw); first | (go_simp; done) | (go_simp; with_reducible rfl))
                        (try simp only [Act.put, List.setIfInBounds_toArray, List.set_cons_zero, List.set_cons_succ])
                        refine wpAnyH_done (by kernel_rfl) ?_ _
                        (try simp only [Exit.inBlock, Exit.then])
                        go_wp2_with fail
                        go_roundw
                        case rel => exact ⟨j + 1, by go_num, by omega, by rw [HTk.out, HAt.out]; exact hO9, HSn.out, hD.1, hD.2, hW3⟩
                        case measure => simp [intOf]; omega

            · have HR := Lib.hid (bad_hit HX.out (by rw [HBd.out]; exact badE_hit HLj.out (show badE l = true by unfold badE; exact decide_eq_true (.inl hc))))
              rcases name_vals hc with h | h
              all_goals
                rw [h] at HNm
                clear h hc
                go_wp2_with fail
                refine (HNm.out _).mono ?_
                rintro e w4 ⟨rfl, hB4⟩
                go_wp2_with fail
                go_ret2
                exact ⟨HB1.out.trans ((hBi.trans (hB4.mono hbi)).mono hs1), by rw [if_pos HR.out]; rfl⟩
          · have hte : ls.take j = ls := List.take_of_length_le (by omega)
            rw [hte, ← HEl.out, ← namL_next HX.out] at hOi
            have HSk := Lib.hid (bad_next HX.out HS.out (by rw [HBd.out, ← hte]; exact HSi.out))
            go_wp2_with fail
            go_roundw
            case rel => exact ⟨k + 1, by go_num, by omega, hOi, HSk.out, hBi⟩
            case measure => simp [intOf]; omega
    · have hte : vs.take k = vs := List.take_of_length_le (by omega)
      have hbad := HS.out
      rw [hte] at hO hbad
      have HBad := Lib.hid hbad
      clear hbad
      go_wp2_with fail
      go_ret2
      exact ⟨HB1.out.trans (hBr.mono hs1), by rw [if_neg (by rw [HBad.out]; decide)]; exact ⟨_, rfl, hO.reads⟩⟩
end Go.Proofs.YtbmbcdbldbjddaaGreatDoor
