/- What the reference's Strip and Ref return, for every list of fields. -/
import Derived.Test.YtjcekkgoohkomaaDoorFStrip
import Derived.Test.YtjcekkgoohkomaaDoorFAre
import Derived.Test.YtjcekkgoohkomaaDoorFAppS
import Derived.Test.YtjcekkgoohkomaaDoorRefList
namespace Go.Proofs.YtjcekkgoohkomaaDoor
open Go.RowKit

/-- An append of fields that are read to a slice that the call made, whatever the guard. -/
theorem wpList_appendP {T S : TypeId} {B : Nat} {i0 : TypeInfo} (hi : Tryd.prog.info? T = some i0) (hz0 : i0.zero = some (.agg #[.string ByteArray.empty, .string ByteArray.empty])) (hz1 : i0.size = 2) (hz2 : i0.bytes = 32) (ht : Tryd.prog.underlying S = some (.slice T))
    {w : World} {ops : Array Oper} {rest : List Oper} {o : Oper} {a : Act} {Q : Exit → Act → World → Prop} (hw : Region.wanted o (yielded ops a.tmps) = true) (s x : Operand)
    (ho : o.op = .call { callee := .builtin .append, args := #[s, x], argTypes := #[S, S] }) (v v2 : Value) (hs : a.eval s = v) (hx : a.eval x = v2) {ps qs : Flds} (hown : OwnsP T B w v ps) (hr : ReadsQ w v2 qs) (hp : Sane v2)
    (hn : ps.length + qs.length ≤ 100000) (hB : B ≤ w.heap.size) (h : ∀ v' w', OwnsP T B w' v' (ps ++ qs) → w.grownBy w' v.ownBlock → wpList Tryd.prog ops Q rest (a.put o.dst v') w') :
    wpList Tryd.prog ops Q (o :: rest) a w := by
  refine BigFrame.wpList_want hw fun K hK => ?_
  obtain ⟨ao, cap, rfl, hc⟩ := id hr
  cases ao with
  | none =>
    obtain ⟨rfl, _⟩ := hr.none
    obtain rfl := (hp _ _ _ rfl).2 rfl
    have hrun := run_append_owned_none (P := Tryd.prog) (w := w) B S o.type T i0 2 ht hi v ps.length (flatP ps) hown
    unfold Oper.wp
    simp [execOp, ho, resolve, invoke, builtin, hs, hx, hrun, Result.andThen]
    exact hK _ _ (h v w (by rw [List.append_nil]; exact hown) ⟨rfl, rfl, rfl, Nat.le_refl _, fun _ _ _ => rfl⟩)
  | some ad =>
    obtain ⟨_, hs'⟩ := hr.src
    exact wp_append_own w s x S ho B T i0 _ 2 32 ht hi hz0 hz1 hz2 rfl (by decide) v ps.length (flatP ps) hs hown ad qs.length cap (flatP qs) hx (flatP_len qs) hs' (flatP_one qs) (by unfold maxLen; omega) (by omega) hB
      fun v' w' h1 h2 _ => hK _ _ (h v' w' (own_app h1 rfl) h2)
/-- The same of strings, with where the new slice lies. -/
theorem wpList_appendS_at {B : Nat} {w : World} {ops : Array Oper} {rest : List Oper} {o : Oper} {a : Act} {Q : Exit → Act → World → Prop} (hgd : o.guard = none) (s x : Operand)
    (ho : o.op = .call { callee := .builtin .append, args := #[s, x], argTypes := #[36, 36] }) (v v2 : Value) (hs : a.eval s = v) (hx : a.eval x = v2) {ls ms : List (List UInt8)} (hown : OwnsS B w v ls) (hr : ReadsS w v2 ms) (hp : Sane v2)
    (hn : ls.length + ms.length ≤ 1000000000) (hB : B ≤ w.heap.size) (h : ∀ v' w', OwnsS B w' v' (ls ++ ms) → w.grownBy w' v.ownBlock → (v'.ownBlock = v.ownBlock ∨ v'.ownBlock = some w.heap.size) → wpList Tryd.prog ops Q rest (a.put o.dst v') w') :
    wpList Tryd.prog ops Q (o :: rest) a w := by
  obtain ⟨i0, hi, hz0, hz1, hz2⟩ := info_parts Tryd.infoS
  obtain ⟨ao, cap, rfl, hc⟩ := hr
  cases ao with
  | none =>
    have hm : ms = [] := by
      cases ms with
      | nil => rfl
      | cons m r => obtain ⟨g, off, ha, _⟩ := hc 0 m rfl; cases ha
    subst hm
    obtain rfl := (hp _ _ _ rfl).2 rfl
    exact wpList_append_own_none hgd s x 36 ho B 9 i0 1 Tryd.underlying36 hi v ls.length (ls.map strV) hs hown hx (h v w (by rw [List.append_nil]; exact hown) ⟨rfl, rfl, rfl, Nat.le_refl _, fun _ _ _ => rfl⟩ (.inl rfl))
  | some ad =>
    refine wpList_append_own_at w hgd s x 36 ho B 9 i0 _ 1 16 Tryd.underlying36 hi hz0 hz1 hz2 rfl (by decide) v ls.length (ls.map strV) hs hown ad ms.length cap (ms.map strV) hx (by simp) (fun j u hj => ?_) (fun u hu => ?_) (by unfold maxLen; omega) (by omega) hB
      fun v' w' h1 h2 _ h4 => h v' w' (own_appS h1) h2 h4
    · rw [List.getElem?_map] at hj
      cases hm : ms[j]? with
      | none => rw [hm] at hj; cases hj
      | some m =>
        rw [hm] at hj
        simp only [Option.map_some, Option.some.injEq] at hj
        obtain ⟨g, off, ha, _, h1⟩ := hc j m hm
        obtain rfl : ad = ⟨g, off, none⟩ := Option.some.inj ha
        rw [Addr.add_lit, ← hj]; exact h1
    · obtain ⟨m, _, rfl⟩ := List.mem_map.mp hu; rfl

def hopO : Obj := .cells #[.string ⟨#[99, 111, 110, 110, 101, 99, 116, 105, 111, 110]⟩, .string ⟨#[107, 101, 101, 112, 45, 97, 108, 105, 118, 101]⟩, .string ⟨#[112, 114, 111, 120, 121, 45, 99, 111, 110, 110, 101, 99, 116, 105, 111, 110]⟩,
  .string ⟨#[112, 114, 111, 120, 121, 45, 97, 117, 116, 104, 101, 110, 116, 105, 99, 97, 116, 101]⟩, .string ⟨#[112, 114, 111, 120, 121, 45, 97, 117, 116, 104, 111, 114, 105, 122, 97, 116, 105, 111, 110]⟩, .string ⟨#[116, 101]⟩, .string ⟨#[116, 114, 97, 105, 108, 101, 114]⟩,
  .string ⟨#[116, 114, 97, 110, 115, 102, 101, 114, 45, 101, 110, 99, 111, 100, 105, 110, 103]⟩, .string ⟨#[117, 112, 103, 114, 97, 100, 101]⟩] 9
theorem own_hop (w : World) : OwnsS w.heap.size (w.alloc hopO) (.slice (some ⟨w.heap.size, 0, none⟩) 9 9) hopL :=
  ⟨rfl, .inr ⟨w.heap.size, 9, _, rfl, Nat.le_refl _, heap_alloc_new w _, Nat.le_refl _, by unfold maxLen; decide, rfl, rfl⟩⟩
theorem refList_k (s : ByteArray) (w : World) (hs : s.size ≤ 100000) :
    Calls Tryd.prog 29 #[.string s] w fun e w' => ∃ u b, e = .returned (.tuple #[u, .bool b]) ∧ OwnsS w.heap.size w' u (elemsO s.data.toList) ∧ (b = false → elemsO s.data.toList = []) ∧ (elemsO s.data.toList).length ≤ 100002 ∧ Below w.heap.size w w' := by
  refine (refList_any s w hs).mono ?_
  rintro e w' ⟨hB, he⟩
  unfold elemsO
  cases hl : listO s.data.toList with
  | none => rw [hl] at he; exact ⟨_, _, he, World.ownsRow_nil _ _ _ _, fun _ => rfl, by simp, hB⟩
  | some ls =>
    rw [hl] at he
    obtain ⟨u, he, hu, hle⟩ := he
    exact ⟨u, _, he, hu, (fun h => by cases h), hle, hB⟩
theorem flat_len {vs : List (List UInt8)} (h : ∀ v ∈ vs, (elemsO v).length ≤ 100002) : (vs.flatMap elemsO).length ≤ vs.length * 100002 := by
  induction vs with
  | nil => simp
  | cons v r ih =>
    rw [List.flatMap_cons, List.length_append, List.length_cons, Nat.succ_mul]
    have := h v (List.mem_cons_self ..)
    have := ih fun u hu => h u (List.mem_cons_of_mem _ hu)
    omega

set_option maxHeartbeats 4000000 in
set_option maxRecDepth 100000 in
theorem refStrip_any (fv : Value) (ps : Flds) (w : World) (hr : ReadsQ w fv ps) (hp : Sane fv) (hl : ps.length ≤ 3000) (hb : ∀ p ∈ ps, p.1.length + p.2.length ≤ 6000) :
    Calls Tryd.prog 44 #[fv] w fun e w' => ∃ v, e = .returned v ∧ OwnsP 87 w.heap.size w' v (stripL ps) ∧ Below w.heap.size w w' := by
  obtain ⟨i0, hi, hz0, hz1, hz2⟩ := info_parts Tryd.infoG
  have hb6 : ∀ p ∈ ps, p.1.length + p.2.length ≤ 1000000 := fun p hp => by have := hb p hp; omega
  have HA := fun w hr => refAll_any fv ps connN w hr (by decide) (by omega) hb6
  have hvl := all_len ps connN
  have hvs : ∀ v ∈ allL ps connN, v.length ≤ 6000 := by
    intro v hv
    unfold allL at hv
    obtain ⟨p, hp, rfl⟩ := List.mem_map.mp hv
    have := hb p (List.mem_filter.mp hp).1
    omega
  have hfin : remAll ps (hopL ++ (allL ps connN).flatMap elemsO) = stripL ps := remAll_drop ps
  have HRm := fun (u : Value) (ds : List (List UInt8)) (d : List UInt8) (w : World) (hr : ReadsQ w u (remAll ps ds)) (hd : d.length ≤ 1000000000) => refRemove_any u (remAll ps ds) d w hr hd (by have := remAll_len ps ds; omega) (fun p hp => hb6 p (remAll_mem hp))
  generalize allL ps connN = vs at HA hvl hvs hfin
  have HR := Lib.hid hr
  have HP := Lib.hid hp
  have HAh := Lib.hid HA
  have HVs := Lib.hid hvs
  have HFin := Lib.hid hfin
  have HRmh := Lib.hid HRm
  obtain ⟨ao, cap, rfl, hc⟩ := hr
  clear hc hb hb6 HA hvs hfin HRm hp
  have hb0 : Below w.heap.size w (w.alloc hopO) := below_new w _
  have ho0 := own_hop w
  have hz00 : (w.alloc hopO).heap.size = w.heap.size + 1 := by simp
  have HO0 := Lib.hid ho0
  have HB0 := Lib.hid hb0
  have HZ0 := Lib.hid hz00
  clear ho0 hb0 hz00
  unfold hopO at HO0 HB0 HZ0
  go_enter Tryd.func44, Tryd.ntmps44
  go_wp2_with fail
  refine (HAh.out _ (HR.out.below HB0.out)).mono ?_
  rintro e w2 ⟨va, rfl, hO, hB2⟩
  have hz2' := hB2.size
  rw [HZ0.out] at hz2'
  have hBw := HB0.out.trans (hB2.mono HB0.out.size)
  have hD2 := OwnsS.below HO0.out hB2
  have hO' : OwnsS (w.heap.size + 1) w2 va vs := by rw [← HZ0.out]; exact hO
  obtain ⟨a2, c2, rfl, hc2⟩ := hO.reads
  have HO := Lib.hid hO'
  have HD2 := Lib.hid hD2
  clear hO hO' hc2 HAh hD2 HO0 HB0 hB2 HZ0
  go_wp2_with fail
  go_loopw [3, 15] (fun d i wr => ∃ (k : Nat), i = .int .i64 k ∧ k ≤ vs.length ∧ OwnsS w.heap.size wr d (hopL ++ (vs.take k).flatMap elemsO) ∧ (hopL ++ (vs.take k).flatMap elemsO).length ≤ 9 + k * 100002 ∧ (∀ q, d.ownBlock = some q → (Value.slice a2 vs.length c2).ownBlock ≠ some q) ∧
    OwnsS (w.heap.size + 1) wr (.slice a2 vs.length c2) vs ∧ Below w.heap.size w wr) (fun _ i _ => vs.length - (intOf i).toNat)
  case atStart =>
    refine ⟨0, rfl, Nat.zero_le _, by simpa using HD2.out, by simp; decide, fun q hq he => ?_, HO.out, hBw⟩
    have h1 := (World.ownsRow.lt HO.out q he).1
    simp [Value.ownBlock] at hq
    omega
  case round =>
    obtain ⟨k, rfl, hk, hD, hDl, hsep, hOv, hBr⟩ := hrel
    have hbr := hBr.size
    have HD := Lib.hid hD
    have HDl := Lib.hid hDl
    have HSep := Lib.hid hsep
    have HOv := Lib.hid hOv
    clear hD hDl hsep hOv
    by_cases hlt : k < vs.length
    · obtain ⟨v, hv⟩ : ∃ v, vs[k]? = some v := ⟨vs[k], by simp [hlt]⟩
      obtain ⟨ao2, cp2, hve, hcc⟩ := HOv.out.reads
      obtain ⟨g, off, hao, hg, hcell⟩ := hcc k v hv
      simp only [Value.slice.injEq] at hve
      obtain ⟨hve1, _, hve2⟩ := hve
      rw [hao] at hve1
      subst hve1
      have hvl6 : (strB v).size ≤ 100000 := by rw [strB_size]; have := HVs.out v (List.mem_of_getElem? hv); omega
      have LK := refList_k (strB v) wr hvl6
      rw [strB_list] at LK
      have hft := flat_take hv
      have HFt := Lib.hid hft
      clear hv hcc hve2 hao hft
      go_wp2_with fail
      refine LK.mono ?_
      rintro e w3 ⟨u, b, rfl, hU, hbf, hUl, hB3⟩
      have hD3 := OwnsS.below HD.out hB3
      have hO3 := OwnsS.below HOv.out hB3
      have hB3' := hBr.trans (hB3.mono hbr)
      have hz3 := hB3.size
      have hlen : (hopL ++ (vs.take (k + 1)).flatMap elemsO).length ≤ 9 + (k + 1) * 100002 := by
        rw [HFt.out, ← List.append_assoc, List.length_append]
        have := HDl.out
        omega
      have HLen := Lib.hid hlen
      have HU := Lib.hid hU
      have HD3 := Lib.hid hD3
      have HO3 := Lib.hid hO3
      have HBf := Lib.hid hbf
      clear hU hD3 hO3 hlen hbf LK hcell HD
      cases b with
      | false =>
        have e0 := HBf.out rfl
        have hD4 := HD3.out
        have hl4 : hopL ++ (vs.take k).flatMap elemsO = hopL ++ (vs.take (k + 1)).flatMap elemsO := by rw [HFt.out, e0, List.append_nil]
        rw [hl4] at hD4
        have HD4 := Lib.hid hD4
        clear hD4 hl4 e0
        go_wp2_with fail
        go_roundw
        case rel => exact ⟨k + 1, by go_num, by omega, HD4.out, HLen.out, HSep.out, HO3.out, hB3'⟩
        case measure => simp [intOf]; omega
      | true =>
        have hlk : (hopL ++ (vs.take k).flatMap elemsO).length ≤ 9 + k * 100002 := HDl.out
        have hzb : w.heap.size ≤ w3.heap.size := by omega
        go_wp2_with (at_builtin; refine wpList_appendS_at rfl _ _ rfl _ u rfl rfl HD3.out (HU.out.reads) (saneS HU.out) (by omega) hzb ?_; intro d4 w4 hD4 hg4 hat)
        have hO4 : OwnsS (w.heap.size + 1) w4 (.slice (some ⟨g, off, none⟩) vs.length c2) vs := World.ownsRow.kept HO3.out hg4 (.inr fun h => HSep.out g h.symm rfl)
        have hB4 : Below w.heap.size w w4 := hB3'.grown hg4 hzb (fun q hq => (World.ownsRow.lt HD3.out q hq).1)
        have hsep4 : ∀ q, d4.ownBlock = some q → (Value.slice (some ⟨g, off, none⟩) vs.length c2).ownBlock ≠ some q := by
          intro q hq he
          rcases hat with h | h
          · exact HSep.out q (h ▸ hq) he
          · have h2 := (World.ownsRow.lt HO3.out q he).2
            rw [h] at hq
            have := Option.some.inj hq
            omega
        have hD5 : OwnsS w.heap.size w4 d4 (hopL ++ (vs.take (k + 1)).flatMap elemsO) := by rw [HFt.out, ← List.append_assoc]; exact hD4
        have HD5 := Lib.hid hD5
        have HO4 := Lib.hid hO4
        have HSep4 := Lib.hid hsep4
        clear hD4 hD5 hO4 hsep4 hat hg4
        go_wp2_with fail
        go_roundw
        case rel => exact ⟨k + 1, by go_num, by omega, HD5.out, HLen.out, HSep4.out, HO4.out, hB4⟩
        case measure => simp [intOf]; omega
    · obtain rfl : k = vs.length := by omega
      have hD := HD.out
      rw [List.take_length] at hD
      have hDl := HDl.out
      rw [List.take_length] at hDl
      have hel : ∀ d ∈ hopL ++ vs.flatMap elemsO, d.length ≤ 6000 := by
        intro d hd
        rcases List.mem_append.1 hd with h | h
        · have : ∀ x ∈ hopL, x.length ≤ 6000 := by decide
          exact this d h
        · obtain ⟨v, hv, hx⟩ := List.mem_flatMap.1 h
          exact Nat.le_trans (elemsO_len d hx) (HVs.out v hv)
      have hfin := HFin.out
      generalize hopL ++ vs.flatMap elemsO = D at hD hDl hel hfin
      obtain ⟨a5, c5, hde, _⟩ := hD.reads
      have HDd := Lib.hid hD
      have HEl := Lib.hid hel
      have HFn := Lib.hid hfin
      clear hD hel hfin HFin HDl HD HSep HOv
      subst hde
      have hq := HR.out.below (hBr.trans ((below_new wr (.cells #[] 87)).mono hbr))
      have HQ := Lib.hid hq
      clear hq
      go_wp2_with (at_builtin; refine wpList_appendP hi hz0 hz1 hz2 Tryd.underlying58 rfl _ _ rfl _ _ rfl rfl (own_made wr _) HQ.out HP.out (by simp; omega) (by simp) ?_; intro o1 w5 hO5 hg5)
      have hB5 : Below wr.heap.size wr w5 := (below_new wr _).grown hg5 (by simp) (fun q hq => (World.ownsRow.lt (own_made wr 87) q hq).1)
      have hD5 := OwnsS.below HDd.out hB5
      have hB5' := hBr.trans (hB5.mono hbr)
      have hO6 : OwnsP 87 w.heap.size w5 o1 ps := OwnsP.mono hbr hO5
      have HD5 := Lib.hid hD5
      have HO6 := Lib.hid hO6
      clear hO5 hg5 hB5 hD5 hO6
      go_wp2_with fail
      go_loopw [8, 36] (fun o i wi => ∃ (j : Nat), i = .int .i64 j ∧ j ≤ D.length ∧ OwnsP 87 w.heap.size wi o (remAll ps (D.take j)) ∧ OwnsS w.heap.size wi (.slice a5 D.length c5) D ∧ Below w.heap.size w wi) (fun _ i _ => D.length - (intOf i).toNat)
      case atStart => exact ⟨0, rfl, Nat.zero_le _, HO6.out, HD5.out, hB5'⟩
      case round =>
        obtain ⟨j, rfl, hj, hOo, hDd, hBi⟩ := hrel
        have HOo := Lib.hid hOo
        have HDi := Lib.hid hDd
        clear hOo hDd
        by_cases hlj : j < D.length
        · obtain ⟨d, hd⟩ : ∃ d, D[j]? = some d := ⟨D[j], by simp [hlj]⟩
          obtain ⟨ao3, cp3, hve, hcc⟩ := HDi.out.reads
          obtain ⟨g3, off3, hao, hg3, hcell⟩ := hcc j d hd
          simp only [Value.slice.injEq] at hve
          obtain ⟨hve1, _, hve3⟩ := hve
          clear hve3
          rw [hao] at hve1
          subst hve1
          have hdl := HEl.out d (List.mem_of_getElem? hd)
          have HRd := HRmh.out _ (D.take j) d _ HOo.out.q (by omega)
          have hsn := remAll_snoc ps (D.take j) d
          rw [← take_more hd] at hsn
          have HSn := Lib.hid hsn
          clear hd hcc hao hsn
          go_wp2_with fail
          refine HRd.mono ?_
          rintro e w6 ⟨o2, rfl, hO7, hB6⟩
          have hD6 := OwnsS.below HDi.out hB6
          have hO8 : OwnsP 87 w.heap.size w6 o2 (remAll ps (D.take (j + 1))) := by rw [HSn.out]; exact OwnsP.mono hBi.size hO7
          have HD6 := Lib.hid hD6
          have HO8 := Lib.hid hO8
          clear hD6 hO7 hO8 HRd hcell
          go_wp2_with fail
          go_roundw
          case rel => exact ⟨j + 1, by go_num, by omega, HO8.out, HD6.out, hBi.trans (hB6.mono hBi.size)⟩
          case measure => simp [intOf]; omega
        · have hOf := HOo.out
          rw [List.take_of_length_le (by omega), HFn.out] at hOf
          go_wp2_with fail
          go_ret
          exact ⟨_, rfl, hOf, hBi⟩

set_option maxHeartbeats 2000000 in
set_option maxRecDepth 100000 in
theorem ref_any (lv : Value) (ps : Flds) (w : World) (hr : ReadsQ w lv ps) (hl : ps.length ≤ 100000) :
    Calls Tryd.prog 45 #[lv] w fun e w' => ∃ v, e = .returned v ∧ OwnsP 87 w.heap.size w' v ps ∧ Below w.heap.size w w' := by
  obtain ⟨i0, hi, hz0, hz1, hz2⟩ := info_parts Tryd.infoG
  obtain ⟨ao, cap, rfl, hc⟩ := hr
  have HC := Lib.hid hc
  clear hc
  go_enter Tryd.func45, Tryd.ntmps45
  go_wp2_with fail
  go_loopw [3, 8] (fun v i wr => ∃ k : Nat, i = .int .i64 k ∧ k ≤ ps.length ∧ OwnsP 87 w.heap.size wr v (ps.take k) ∧ Below w.heap.size w wr) (fun _ i _ => ps.length - (intOf i).toNat)
  case atStart => exact ⟨0, rfl, Nat.zero_le _, OwnsP.nil _ _ _, Below.refl _ _⟩
  case round =>
    obtain ⟨k, rfl, hk, hO, hBr⟩ := hrel
    have hbr := hBr.size
    by_cases hlt : k < ps.length
    · obtain ⟨p, hp⟩ : ∃ p, ps[k]? = some p := ⟨ps[k], by simp [hlt]⟩
      obtain ⟨g, off, rfl, hg1, h1, h2⟩ := HC.out k p hp
      have hc1 : wr.cell? ⟨g, off + k * 2, none⟩ = some (.string (strB p.1)) := (hBr.cell (p := ⟨g, off + k * 2, none⟩) hg1).trans h1
      have hc2 : wr.cell? ⟨g, off + k * 2 + 1, none⟩ = some (.string (strB p.2)) := (hBr.cell (p := ⟨g, off + k * 2 + 1, none⟩) hg1).trans h2
      have HP := Lib.hid hp
      clear hp h1 h2
      have hlen : (ps.take k).length = k := by simp; omega
      have HLen := Lib.hid hlen
      clear hlen
      go_wp2_with (at_builtin; refine wpList_append_own _ rfl _ _ 58 rfl w.heap.size 87 i0 (.agg #[.string ByteArray.empty, .string ByteArray.empty]) 2 32 Tryd.underlying58 hi hz0 hz1 hz2 rfl (by decide) _ _ _ rfl ((World.ownsRow.alloc hO _).alloc _) ⟨wr.heap.size + 1, 0, none⟩ 1 1 [strV p.1, strV p.2] rfl rfl (two_new' wr p.1 p.2 _ _) (fun u hu => by simp at hu; rcases hu with rfl | rfl <;> rfl) (by rw [HLen.out]; unfold maxLen; omega) (by rw [HLen.out]; omega) (by simp; omega) ?_; intro v' w4 hown' hgrow _)
      go_roundw
      case rel => exact ⟨k + 1, by go_num, by omega, own_more HP.out hown', below_appendP hBr hbr (below_new wr _) hO hgrow⟩
      case measure => simp [intOf]; omega
    · have htk : ps.take k = ps := List.take_of_length_le (by omega)
      rw [htk] at hO
      go_wp2_with fail
      go_ret
      exact ⟨_, rfl, hO, hBr⟩
end Go.Proofs.YtjcekkgoohkomaaDoor
