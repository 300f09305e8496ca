import Derived.Test.YtoiampkdmjpljaaGreatDoorPa35
import Derived.Test.YtoiampkdmjpljaaGreatDoorPa41
import Derived.Test.YtoiampkdmjpljaaGreatDoorPa45
import Derived.Test.YtoiampkdmjpljaaGreatDoorPa39
import Derived.Deep.DeepCutAuto
import Derived.Test.YtoiampkdmjpljaaGreatDoorPa40
/- StorableForbids: the walk. -/
namespace Go.Proofs.YtoiampkdmjpljaaGreatDoor
open Go.RowKit

/-- An append of fields that are read to a slice that the call made, at one operation. -/
theorem wp_appendP {T S : TypeId} {B : Nat} {i0 : TypeInfo} (hi : Tryz.prog.info? T = some i0) (hz0 : i0.zero = some (.agg #[.string ByteArray.empty, .string ByteArray.empty])) (hz1 : i0.size = 2) (hz2 : i0.bytes = 32) (ht : Tryz.prog.underlying S = some (.slice T))
    {w : World} {o : Oper} {a : Act} {K : Act → World → Prop} {Q : Exit → Act → World → Prop} (s x : Operand)
    (ho : o.op = .call { callee := .builtin .append, args := #[s, x], argTypes := #[S, S] }) (v v2 : Value) (hs : a.eval s = v) (hx : a.eval x = v2) {ps qs : Flds} (hown : OwnsP T B w v ps) (hr : ReadsQ w v2 qs) (hp : Sane v2)
    (hn : ps.length + qs.length ≤ 100000) (hB : B ≤ w.heap.size) (h : ∀ v' w', OwnsP T B w' v' (ps ++ qs) → w.grownBy w' v.ownBlock → K (a.put o.dst v') w') :
    Oper.wp Tryz.prog o a w K Q := by
  obtain ⟨ao, cap, rfl, hc⟩ := id hr
  cases ao with
  | none =>
    obtain ⟨rfl, _⟩ := hr.none
    obtain rfl := (hp _ _ _ rfl).2 rfl
    have hrun := run_append_owned_none (P := Tryz.prog) (w := w) B S o.type T i0 2 ht hi v ps.length (flatP ps) hown
    unfold Oper.wp
    simp [execOp, ho, resolve, invoke, builtin, hs, hx, hrun, Result.andThen]
    exact h v w (by rw [List.append_nil]; exact hown) ⟨rfl, rfl, rfl, Nat.le_refl _, fun _ _ _ => rfl⟩
  | some ad =>
    obtain ⟨_, hs'⟩ := hr.src
    exact wp_append_own w s x S ho B T i0 _ 2 32 ht hi hz0 hz1 hz2 rfl (by decide) v ps.length (flatP ps) hs hown ad qs.length cap (flatP qs) hx (flatP_len qs) hs' (flatP_one qs) (by unfold maxLen; omega) (by omega) hB
      fun v' w' h1 h2 _ => h v' w' (own_app h1 rfl) h2
theorem ownsP_slice {T : TypeId} {B : Nat} {w : World} {v : Value} {ps : Flds} (h : OwnsP T B w v ps) : ∃ a c, v = .slice a ps.length c := by
  rcases h with ⟨hl, ⟨hv, hn⟩ | ⟨g, cap, cur, hv, _⟩⟩
  · exact ⟨none, 0, by rw [hv, hn]⟩
  · exact ⟨_, cap, hv⟩
/-- A case's response is another list that the call made. -/
theorem CsS.setR {N : Nat} {m : List UInt8} {qv : Value} {q : Flds} {rv : Value} {r : Flds} {s : Int} {w w1 : World} (h : CsS N m qv q rv r s w w1) (hN : N = w.heap.size) (hq : ReadsQ w qv q) (hE : EnvL w) {B : Nat} {T : TypeId} {v : Value} {r' : Flds} (hO : OwnsP T B w1 v r') (hB : N < B) :
    CsS N m qv q v r' s w (w1.setCell ⟨N, 2, none⟩ v) := by
  have hb : Below w.heap.size w (w1.setCell ⟨N, 2, none⟩ v) := h.b.setCell (p := ⟨N, 2, none⟩) (by show w.heap.size ≤ N; omega) _
  have hO2 : OwnsP T B (w1.setCell ⟨N, 2, none⟩ v) v r' := ownsRow_setCell_other hO (fun hk => by have := (World.ownsRow.lt hO _ hk).1; simp at this; omega) v
  obtain ⟨c0, c1, c2, c3, fr, lt, _, _, _, _⟩ := h
  refine ⟨?_, ?_, ?_, ?_, fun j => by simpa using fr j, by simpa using lt, hq.below hb, hO2.q, hE.below hb, hb⟩
  all_goals simp [go_sem, c0, c1, c2, c3]
/-- The case's block and a field's. -/
structure FbS (N M : Nat) (f : List UInt8 × List UInt8) (m : List UInt8) (qv : Value) (q : Flds) (rv : Value) (r : Flds) (s : Int) (w w' : World) : Prop where
  c : CsS N m qv q rv r s w w'
  f0 : w'.cell? ⟨M, 0, none⟩ = some (.string (strB f.1))
  f1 : w'.cell? ⟨M, 1, none⟩ = some (.string (strB f.2))
  lt : M < w'.heap.size
theorem FbS.below {N M : Nat} {f : List UInt8 × List UInt8} {m : List UInt8} {qv : Value} {q : Flds} {rv : Value} {r : Flds} {s : Int} {w w1 w2 : World} (h : FbS N M f m qv q rv r s w w1) (hb : Below w1.heap.size w1 w2) : FbS N M f m qv q rv r s w w2 :=
  ⟨h.c.below hb, (hb.cell (p := ⟨M, 0, none⟩) h.lt).trans h.f0, (hb.cell (p := ⟨M, 1, none⟩) h.lt).trans h.f1, Nat.lt_of_lt_of_le h.lt hb.size⟩
theorem fbS_all {N M : Nat} {f : List UInt8 × List UInt8} {m : List UInt8} {qv : Value} {q : Flds} {rv : Value} {r : Flds} {s : Int} {w w' : World} (h : FbS N M f m qv q rv r s w w') : w'.cell? ⟨N, 2, none⟩ = some rv ∧ w'.cell? ⟨M, 0, none⟩ = some (.string (strB f.1)) ∧ w'.cell? ⟨M, 1, none⟩ = some (.string (strB f.2)) ∧ FbS N M f m qv q rv r s w w' :=
  ⟨h.c.c2, h.f0, h.f1, h⟩
theorem fbS_box {N : Nat} {m : List UInt8} {qv : Value} {q : Flds} {rv : Value} {r : Flds} {s : Int} {w w2 : World} (h : CsS N m qv q rv r s w w2) (o : Obj) (f : List UInt8 × List UInt8) (T : TypeId) :
    FbS N (w2.heap.size + 1) f m qv q rv r s w ((w2.alloc o).alloc (.cells #[.string (strB f.1), .string (strB f.2)] T)) := by
  have e : w2.heap.size + 1 = (w2.alloc o).heap.size := by simp
  rw [e]
  exact ⟨(h.below (below_new _ _)).below (below_new _ _), (new_pair _ _ _ _).1, (new_pair _ _ _ _).2, by simp⟩
theorem reads_grown1 {w w' : World} {g : Nat} {p : List UInt8 × List UInt8} {row : Option Nat} (h : ReadsQ w (.slice (some ⟨g, 0, none⟩) 1 1) [p]) (hg : w.grownBy w' row) (hne : some g ≠ row) : ReadsQ w' (.slice (some ⟨g, 0, none⟩) 1 1) [p] := by
  obtain ⟨ao, cap, hv, hc⟩ := h
  simp only [Value.slice.injEq] at hv
  obtain ⟨rfl, _, rfl⟩ := hv
  refine ⟨_, 1, rfl, fun j l hj => ?_⟩
  obtain ⟨g', off, he, hlt, h1, h2⟩ := hc j l hj
  simp only [Option.some.injEq, Addr.mk.injEq, and_true] at he
  obtain ⟨rfl, rfl⟩ := he
  exact ⟨g, 0, rfl, Nat.lt_of_lt_of_le hlt hg.size, hg.cell h1 hne, hg.cell h2 hne⟩
theorem tot_snoc (r : Flds) (f : List UInt8 × List UInt8) : totL (r ++ [f]) = totL r + (f.1.length + f.2.length) := by rw [tot_app]; rfl
theorem forb_len (k : Nat) : (forbF k).1.length + (forbF k).2.length ≤ 50 := by
  match k with
  | 0 => decide
  | 1 => decide
  | 2 => decide
  | 3 => decide
  | k + 4 => show nVY.length + vOP.length ≤ 50; decide
set_option maxHeartbeats 16000000 in
set_option maxRecDepth 100000 in
theorem sb_forbids_walk (m : List UInt8) (qa : Option Addr) (qc : Nat) (q : Flds) (ra : Option Addr) (rc : Nat) (r : Flds) (s : Int) (x : Nat) (w : World) (hE : EnvL w) (hq : ReadsQ w (.slice qa q.length qc) q) (hr : ReadsQ w (.slice ra r.length rc) r) (hbq : 2 * q.length + totL q ≤ 3000000) (hbr : 2 * r.length + totL r ≤ 3000000) (hsr : Sane (.slice ra r.length rc)) (hx0 : x ≤ 255) :
    Calls Tryz.prog 5 #[caV m (.slice qa q.length qc) (.slice ra r.length rc) s, .int .u8 (x : Int)] w fun e w' => e = .returned (.bool true) ∧ Below w.heap.size w w' := by
  have HS := Lib.hid (csS_new (m := m) s w 24 hq hr hE)
  have HLg := Lib.hid (fun (lv : Value) (w : World) (hr : ReadsF w lv [((.slice qa q.length qc), q), ((.slice ra r.length rc), r)]) => large15_any lv _ w hr (by simp) (by show 0 + (2 * q.length + totL q) + (2 * r.length + totL r) ≤ _; omega))
  have HAw := Lib.hid (fun (w : World) (hE : EnvL w) => awake15_any w hE)
  have HQ0 := Lib.hid hq
  have HE0 := Lib.hid hE
  clear hE hq hr hbq hbr
  generalize hlg : lgB [((.slice qa q.length qc), q), ((.slice ra r.length rc), r)] = lg at *
  cases lg with
  | true =>
    clear hlg
    go_enter Tryz.func5, Tryz.ntmps5
    go_upto_region 1 with fail
    change Code.wp _ _ _ _ (w.alloc (.cells (caC m (.slice qa q.length qc) (.slice ra r.length rc) s) 24))
    generalize (w.alloc (.cells (caC m (.slice qa q.length qc) (.slice ra r.length rc) s) 24)) = W at *
    obtain ⟨c0, c1, c2, c3, _⟩ := csS_all HS.out
    go_wp2_with fail
    refine (HLg.out _ _ (readsF_two _ HS.out.rq HS.out.rr)).mono ?_
    rintro e w1 ⟨rfl, hB1⟩
    have HS1 := Lib.hid ((HS.out.below (below_new _ _)).below hB1)
    clear c0 c1 c2 c3 hB1
    obtain ⟨c0, c1, c2, c3, _⟩ := csS_all HS1.out
    go_wp2_with fail
    refine (HLg.out _ _ (readsF_two _ HS1.out.rq HS1.out.rr)).mono ?_
    rintro e w2 ⟨rfl, hB2⟩
    have HS2 := Lib.hid ((HS1.out.below (below_new _ _)).below hB2)
    go_wp2_with fail
    go_ret
    exact ⟨rfl, HS2.out.b⟩
  | false =>
    have hsm := lg_sum hlg
    have hfq : FitL q := fit_sum (by omega)
    have hrl : r.length ≤ 2000 := by omega
    clear hlg
    obtain ⟨i0, hi, hz0, hz1, hz2⟩ := info_parts Tryz.infoG
    obtain ⟨k, hk⟩ : ∃ k, x % 5 = k := ⟨_, rfl⟩
    have hfl := forb_len k
    have hfr : FitL (r ++ [forbF k]) := fit_sum (by rw [tot_snoc, List.length_append]; show 2 * (r.length + 1) + _ ≤ _; omega)
    obtain ⟨dd, hdd⟩ := oneIs_ex (allL (r ++ [forbF k]) nDA)
    obtain ⟨de, hde⟩ := oneIs_ex (allL (r ++ [forbF k]) nEX)
    obtain ⟨dl, hdl⟩ := oneIs_ex (allL (r ++ [forbF k]) nLM)
    have HO1 := Lib.hid (fun (a : Option Addr) (c : Nat) (w : World) (hq : ReadsQ w (.slice qa q.length qc) q) (hr : ReadsQ w (.slice a (r ++ [forbF k]).length c) (r ++ [forbF k])) (hE : EnvL w) => of15_any m qa qc q a c (r ++ [forbF k]) s dd de dl w hq hfq hr hfr hdd hde hdl hE)
    have HFb := Lib.hid (stor_forbid m q r s dd de dl k)
    clear hfq hfr hdd hde hdl hsm hfl
    generalize storV m q (r ++ [forbF k]) s dd de dl = res at *
    go_enter Tryz.func5, Tryz.ntmps5
    go_upto_region 1 with fail
    change Code.wp _ _ _ _ (w.alloc (.cells (caC m (.slice qa q.length qc) (.slice ra r.length rc) s) 24))
    generalize (w.alloc (.cells (caC m (.slice qa q.length qc) (.slice ra r.length rc) s) 24)) = W at *
    obtain ⟨c0, c1, c2, c3, _⟩ := csS_all HS.out
    go_wp2_with fail
    refine (HLg.out _ _ (readsF_two _ HS.out.rq HS.out.rr)).mono ?_
    rintro e w1 ⟨rfl, hB1⟩
    have HS1 := Lib.hid ((HS.out.below (below_new _ _)).below hB1)
    clear c0 c1 c2 c3 hB1
    go_wp2_with fail
    refine (HAw.out _ HS1.out.e).mono ?_
    rintro e w2 ⟨rfl, hB2⟩
    have HS2 := Lib.hid (HS1.out.below hB2)
    clear hB2 HS1 HS
    have hNw : w.heap.size < w2.heap.size := HS2.out.lt
    go_upto_region 3 with fail
    go_cut [5] (fun u5 wx => ∃ M, u5 = .pointer (some ⟨M, 0, none⟩) ∧ FbS w.heap.size M (forbF k) m (.slice qa q.length qc) q (.slice ra r.length rc) r s w wx)
    case first =>
      have hk5 : k = 0 ∨ k = 1 ∨ k = 2 ∨ k = 3 ∨ k = 4 := by omega
      have e0 : (0 : Int) ≤ (x : Int) % 5 := by omega
      have e1 : (x : Int) % 5 < 5 := by omega
      have e2 : ((x : Int) % 5).toNat = k := by omega
      have e3 : (x : Int).tmod 5 = (x : Int) % 5 := by rw [Int.tmod_eq_emod_of_nonneg (by omega)]
      have HSc := Lib.hid HS2.out
      clear hk
      rcases hk5 with rfl | rfl | rfl | rfl | rfl
      · go_wp2_with fail
        go_meet
        exact ⟨_, rfl, fbS_box HSc.out _ (forbF 0) _⟩
      · go_wp2_with fail
        go_meet
        exact ⟨_, rfl, fbS_box HSc.out _ (forbF 1) _⟩
      · go_wp2_with fail
        go_meet
        exact ⟨_, rfl, fbS_box HSc.out _ (forbF 2) _⟩
      · go_wp2_with fail
        go_meet
        exact ⟨_, rfl, fbS_box HSc.out _ (forbF 3) _⟩
      · go_wp2_with fail
        go_meet
        exact ⟨_, rfl, fbS_box HSc.out _ (forbF 4) _⟩
    case rest =>
      rename World => wx
      obtain ⟨M, rfl, hF⟩ := hcut
      clear HS2 hk
      generalize forbF k = f at *
      have hrl1 : (r ++ [f]).length = r.length + 1 := by simp
      rw [hrl1] at HO1
      have hS0 := hF.below (Below.refl _ _).drew
      have hNV : w.heap.size < wx.drew.heap.size := hS0.c.lt
      clear hF hNw
      go_upto_region 4 with fail
      refine heldU_begin (S := (fun w' => w'.cell? ⟨w.heap.size, 2, none⟩ = some (.slice ra r.length rc) ∧ w'.cell? ⟨M, 0, none⟩ = some (.string (strB f.1)) ∧ w'.cell? ⟨M, 1, none⟩ = some (.string (strB f.2)) ∧ FbS w.heap.size M f m (.slice qa q.length qc) q (.slice ra r.length rc) r s w w')) 8 (by kernel_rfl) (fbS_all hS0) (fun hHeld => ?_)
      generalize wx.drew = V0 at *
      have hB0 : Below V0.heap.size V0 V0 := Below.refl _ _
      refine heldU_take (i := 1) (k := 1) (oi := { dst := some 34, op := _, type := _, pos := _, after := _, guard := _ }) (v := ?_) rfl (by kernel_rfl) (by kernel_rfl) (by kernel_rfl) (by kernel_rfl) (by kernel_rfl) (by kernel_rfl) (fun _ _ _ h => h) (Or.inl ⟨by rfl, ?_⟩) (by assumption) ?_
      rotate_left
      focus (intro w hSw; (try dsimp only at hSw); first | (go_simp; done) | (go_simp; with_reducible rfl))
      (try simp only [Act.put, List.setIfInBounds_toArray, List.set_cons_zero, List.set_cons_succ])
      refine heldU_take (i := 2) (k := 2) (oi := { dst := some 35, op := _, type := _, pos := _, after := _, guard := _ }) (v := ?_) rfl (by kernel_rfl) (by kernel_rfl) (by kernel_rfl) (by kernel_rfl) (by kernel_rfl) (by kernel_rfl) (fun _ _ _ h => h) (Or.inl ⟨by rfl, ?_⟩) (by assumption) ?_
      rotate_left
      focus (intro w hSw; (try dsimp only at hSw); first | (go_simp; done) | (go_simp; with_reducible rfl))
      (try simp only [Act.put, List.setIfInBounds_toArray, List.set_cons_zero, List.set_cons_succ])
      refine heldU_take (i := 4) (k := 4) (oi := { dst := some 37, op := _, type := _, pos := _, after := _, guard := _ }) (v := ?_) rfl (by kernel_rfl) (by kernel_rfl) (by kernel_rfl) (by kernel_rfl) (by kernel_rfl) (by kernel_rfl) (fun _ _ _ h => h) (Or.inl ⟨by rfl, ?_⟩) (by assumption) ?_
      rotate_left
      focus (intro w hSw; (try dsimp only at hSw); first | (go_simp; done) | (go_simp; with_reducible rfl))
      (try simp only [Act.put, List.setIfInBounds_toArray, List.set_cons_zero, List.set_cons_succ])
      refine heldU_two (i := 0) (j := 5) (oi := { dst := some 33, op := _, type := _, pos := _, after := _, guard := _ }) (oj := { dst := some 38, op := _, type := _, pos := _, after := _, guard := _ }) (by kernel_rfl) rfl rfl (by decide) (by decide) (fun K hK => ?_) (fun K hK => ?_)
      · go_simp
        have hB1 := hB0.alloc hB0.size (.cells #[] 32)
        have hO1 := OwnsP.mono hB0.size (own_made V0 32)
        have hsz1 : V0.heap.size < (V0.alloc (.cells #[] 32)).heap.size := by simp
        refine hK.out _ _ (fbS_all (hS0.below hB1)) (fun hHd1 => ?_)
        clear hK K
        (try simp only [Act.put, List.setIfInBounds_toArray, List.set_cons_zero, List.set_cons_succ])
        generalize V0.alloc (.cells #[] 32) = V1 at *
        refine heldU_two (i := 3) (j := 5) (oi := { dst := some 36, op := _, type := _, pos := _, after := _, guard := _ }) (oj := { dst := some 38, op := _, type := _, pos := _, after := _, guard := _ }) (by kernel_rfl) rfl rfl (by decide) (by decide) (fun K hK => ?_) (fun K hK => ?_)
        · rw [if_pos (by rfl)]
          refine wp_appendP hi hz0 hz1 hz2 Tryz.underlying22 _ _ rfl _ _ rfl rfl hO1 (hS0.below hB1).c.rr hsr (by simp; omega) hB1.size (fun v36 V2 hO2 hg2 => ?_)
          have hB2 := hB1.grown hg2 hB1.size (fun q hq => (World.ownsRow.lt hO1 q hq).1)
          rw [List.nil_append] at hO2
          refine hK.out _ _ (fbS_all (hS0.below hB2)) (fun hHd2 => ?_)
          clear hK K
          (try simp only [Act.put, List.setIfInBounds_toArray, List.set_cons_zero, List.set_cons_succ])
          refine heldU_one (i := 5) (o := { dst := some 38, op := _, type := _, pos := _, after := _, guard := _ }) (by kernel_rfl) rfl (by decide) (fun K hK => ?_)
          go_simp
          have hB3 := hB2.alloc hB2.size (.cells #[.string (strB f.1), .string (strB f.2)] 32)
          have hR3 := reads_oneP V2 f.1 f.2 32
          have hsz3 : V2.heap.size < (V2.alloc (.cells #[.string (strB f.1), .string (strB f.2)] 32)).heap.size := by simp
          have hO3 := OwnsP.below hO2 (below_new V2 (.cells #[.string (strB f.1), .string (strB f.2)] 32))
          refine hK.out _ _ (fbS_all (hS0.below hB3)) (fun hHd3 => ?_)
          clear hK K
          (try simp only [Act.put, List.setIfInBounds_toArray, List.set_cons_zero, List.set_cons_succ])
          generalize V2.alloc (.cells #[.string (strB f.1), .string (strB f.2)] 32) = V3 at *
          refine heldU_one (i := 6) (o := { dst := some 39, op := _, type := _, pos := _, after := _, guard := _ }) (by kernel_rfl) rfl (by decide) (fun K hK => ?_)
          rw [if_pos (by rfl)]
          refine wp_appendP hi hz0 hz1 hz2 Tryz.underlying22 _ _ rfl _ _ rfl rfl hO3 hR3 (sane_one' _) (by simp; omega) hB3.size (fun v39 V4 hO4 hg4 => ?_)
          have hB4 := hB3.grown hg4 hB3.size (fun q hq => (World.ownsRow.lt hO3 q hq).1)
          refine hK.out _ _ (fbS_all (hS0.below hB4)) (fun hHd4 => ?_)
          clear hK K
          (try simp only [Act.put, List.setIfInBounds_toArray, List.set_cons_zero, List.set_cons_succ])
          obtain ⟨a6, c6, rfl⟩ := ownsP_slice hO4
          rw [hrl1] at hO4 ⊢
          have fr2 := (hS0.below hB4).c.fr 2
          have cc2 := (hS0.below hB4).c.c2
          refine heldU_take (i := 7) (k := 7) (oi := { dst := some 40, op := _, type := _, pos := _, after := _, guard := _ }) (v := ?_) rfl (by kernel_rfl) (by kernel_rfl) (by kernel_rfl) (by kernel_rfl) (by kernel_rfl) (by kernel_rfl) (fun _ _ _ h => h) (Or.inl ⟨by rfl, ?_⟩) (by assumption) ?_
          rotate_left
          focus (intro w hSw; (try dsimp only at hSw); first | (go_simp; done) | (go_simp; with_reducible rfl))
          (try simp only [Act.put, List.setIfInBounds_toArray, List.set_cons_zero, List.set_cons_succ])
          refine heldU_store (o := { dst := none, op := _, type := _, pos := _, after := _, guard := _ }) (by kernel_rfl) rfl (fun K hK => ?_)
          go_simp
          refine hK.out _ _ ?_
          clear hK K fr2 cc2
          (try simp only [Act.put, List.setIfInBounds_toArray, List.set_cons_zero, List.set_cons_succ])
          have hC := (hS0.below hB4).c.setR rfl HQ0.out HE0.out hO4 hNV
          generalize V4.setCell ⟨w.heap.size, 2, none⟩ (.slice a6 (r.length + 1) c6) = VF at *
          refine wpAnyH_done (by kernel_rfl) ?_ _
          (try simp only [Exit.then])
          go_upto_region 5 with fail
          obtain ⟨c0, c1, c2, c3, _⟩ := csS_all hC
          have HC := Lib.hid hC
          clear hC hS0
          go_wp2_with fail
          refine (HO1.out _ _ _ HC.out.rq HC.out.rr HC.out.e).mono ?_
          rintro e wz ⟨rfl, hBz⟩
          obtain ⟨n0, n8, n7⟩ := HFb.out
          have hn0 : (res != 0) = true := by simpa using n0
          have hn8 : (res != 8) = true := by simpa using n8
          have hn7 : (res != 7) = true := by simpa using n7
          clear n0 n8 n7
          go_wp2_with fail
          go_ret
          exact ⟨rfl, HC.out.b.trans (hBz.mono HC.out.b.size)⟩
          (try simp only [Act.put, List.setIfInBounds_toArray, List.set_cons_zero, List.set_cons_succ])
          (try simp only [Act.put, List.setIfInBounds_toArray, List.set_cons_zero, List.set_cons_succ])
        · go_simp
          have hB2 := hB1.alloc hB1.size (.cells #[.string (strB f.1), .string (strB f.2)] 32)
          have hR2 := reads_oneP V1 f.1 f.2 32
          have hsz2 : V1.heap.size < (V1.alloc (.cells #[.string (strB f.1), .string (strB f.2)] 32)).heap.size := by simp
          have hO2 := OwnsP.below hO1 (below_new V1 (.cells #[.string (strB f.1), .string (strB f.2)] 32))
          refine hK.out _ _ (fbS_all (hS0.below hB2)) (fun hHd2 => ?_)
          clear hK K
          (try simp only [Act.put, List.setIfInBounds_toArray, List.set_cons_zero, List.set_cons_succ])
          generalize V1.alloc (.cells #[.string (strB f.1), .string (strB f.2)] 32) = V2 at *
          refine heldU_one (i := 3) (o := { dst := some 36, op := _, type := _, pos := _, after := _, guard := _ }) (by kernel_rfl) rfl (by decide) (fun K hK => ?_)
          rw [if_pos (by rfl)]
          refine wp_appendP hi hz0 hz1 hz2 Tryz.underlying22 _ _ rfl _ _ rfl rfl hO2 (hS0.below hB2).c.rr hsr (by simp; omega) hB2.size (fun v36 V3 hO3 hg3 => ?_)
          have hB3 := hB2.grown hg3 hB2.size (fun q hq => (World.ownsRow.lt hO2 q hq).1)
          have hR3 := reads_grown1 hR2 hg3 (fun e => by have h : V1.heap.size = V0.heap.size := Option.some.inj e; omega)
          rw [List.nil_append] at hO3
          refine hK.out _ _ (fbS_all (hS0.below hB3)) (fun hHd3 => ?_)
          clear hK K
          (try simp only [Act.put, List.setIfInBounds_toArray, List.set_cons_zero, List.set_cons_succ])
          refine heldU_one (i := 6) (o := { dst := some 39, op := _, type := _, pos := _, after := _, guard := _ }) (by kernel_rfl) rfl (by decide) (fun K hK => ?_)
          rw [if_pos (by rfl)]
          refine wp_appendP hi hz0 hz1 hz2 Tryz.underlying22 _ _ rfl _ _ rfl rfl hO3 hR3 (sane_one' _) (by simp; omega) hB3.size (fun v39 V4 hO4 hg4 => ?_)
          have hB4 := hB3.grown hg4 hB3.size (fun q hq => (World.ownsRow.lt hO3 q hq).1)
          refine hK.out _ _ (fbS_all (hS0.below hB4)) (fun hHd4 => ?_)
          clear hK K
          (try simp only [Act.put, List.setIfInBounds_toArray, List.set_cons_zero, List.set_cons_succ])
          obtain ⟨a6, c6, rfl⟩ := ownsP_slice hO4
          rw [hrl1] at hO4 ⊢
          have fr2 := (hS0.below hB4).c.fr 2
          have cc2 := (hS0.below hB4).c.c2
          refine heldU_take (i := 7) (k := 7) (oi := { dst := some 40, op := _, type := _, pos := _, after := _, guard := _ }) (v := ?_) rfl (by kernel_rfl) (by kernel_rfl) (by kernel_rfl) (by kernel_rfl) (by kernel_rfl) (by kernel_rfl) (fun _ _ _ h => h) (Or.inl ⟨by rfl, ?_⟩) (by assumption) ?_
          rotate_left
          focus (intro w hSw; (try dsimp only at hSw); first | (go_simp; done) | (go_simp; with_reducible rfl))
          (try simp only [Act.put, List.setIfInBounds_toArray, List.set_cons_zero, List.set_cons_succ])
          refine heldU_store (o := { dst := none, op := _, type := _, pos := _, after := _, guard := _ }) (by kernel_rfl) rfl (fun K hK => ?_)
          go_simp
          refine hK.out _ _ ?_
          clear hK K fr2 cc2
          (try simp only [Act.put, List.setIfInBounds_toArray, List.set_cons_zero, List.set_cons_succ])
          have hC := (hS0.below hB4).c.setR rfl HQ0.out HE0.out hO4 hNV
          generalize V4.setCell ⟨w.heap.size, 2, none⟩ (.slice a6 (r.length + 1) c6) = VF at *
          refine wpAnyH_done (by kernel_rfl) ?_ _
          (try simp only [Exit.then])
          go_upto_region 5 with fail
          obtain ⟨c0, c1, c2, c3, _⟩ := csS_all hC
          have HC := Lib.hid hC
          clear hC hS0
          go_wp2_with fail
          refine (HO1.out _ _ _ HC.out.rq HC.out.rr HC.out.e).mono ?_
          rintro e wz ⟨rfl, hBz⟩
          obtain ⟨n0, n8, n7⟩ := HFb.out
          have hn0 : (res != 0) = true := by simpa using n0
          have hn8 : (res != 8) = true := by simpa using n8
          have hn7 : (res != 7) = true := by simpa using n7
          clear n0 n8 n7
          go_wp2_with fail
          go_ret
          exact ⟨rfl, HC.out.b.trans (hBz.mono HC.out.b.size)⟩
          (try simp only [Act.put, List.setIfInBounds_toArray, List.set_cons_zero, List.set_cons_succ])
          (try simp only [Act.put, List.setIfInBounds_toArray, List.set_cons_zero, List.set_cons_succ])
      · go_simp
        have hB1 := hB0.alloc hB0.size (.cells #[.string (strB f.1), .string (strB f.2)] 32)
        have hR1 := reads_oneP V0 f.1 f.2 32
        have hsz1 : V0.heap.size < (V0.alloc (.cells #[.string (strB f.1), .string (strB f.2)] 32)).heap.size := by simp
        refine hK.out _ _ (fbS_all (hS0.below hB1)) (fun hHd1 => ?_)
        clear hK K
        (try simp only [Act.put, List.setIfInBounds_toArray, List.set_cons_zero, List.set_cons_succ])
        generalize V0.alloc (.cells #[.string (strB f.1), .string (strB f.2)] 32) = V1 at *
        refine heldU_one (i := 0) (o := { dst := some 33, op := _, type := _, pos := _, after := _, guard := _ }) (by kernel_rfl) rfl (by decide) (fun K hK => ?_)
        go_simp
        have hB2 := hB1.alloc hB1.size (.cells #[] 32)
        have hO2 := OwnsP.mono hB1.size (own_made V1 32)
        have hsz2 : V1.heap.size < (V1.alloc (.cells #[] 32)).heap.size := by simp
        have hR2 := hR1.below (below_new V1 (.cells #[] 32))
        refine hK.out _ _ (fbS_all (hS0.below hB2)) (fun hHd2 => ?_)
        clear hK K
        (try simp only [Act.put, List.setIfInBounds_toArray, List.set_cons_zero, List.set_cons_succ])
        generalize V1.alloc (.cells #[] 32) = V2 at *
        refine heldU_one (i := 3) (o := { dst := some 36, op := _, type := _, pos := _, after := _, guard := _ }) (by kernel_rfl) rfl (by decide) (fun K hK => ?_)
        rw [if_pos (by rfl)]
        refine wp_appendP hi hz0 hz1 hz2 Tryz.underlying22 _ _ rfl _ _ rfl rfl hO2 (hS0.below hB2).c.rr hsr (by simp; omega) hB2.size (fun v36 V3 hO3 hg3 => ?_)
        have hB3 := hB2.grown hg3 hB2.size (fun q hq => (World.ownsRow.lt hO2 q hq).1)
        have hR3 := reads_grown1 hR2 hg3 (fun e => by have h : V0.heap.size = V1.heap.size := Option.some.inj e; omega)
        rw [List.nil_append] at hO3
        refine hK.out _ _ (fbS_all (hS0.below hB3)) (fun hHd3 => ?_)
        clear hK K
        (try simp only [Act.put, List.setIfInBounds_toArray, List.set_cons_zero, List.set_cons_succ])
        refine heldU_one (i := 6) (o := { dst := some 39, op := _, type := _, pos := _, after := _, guard := _ }) (by kernel_rfl) rfl (by decide) (fun K hK => ?_)
        rw [if_pos (by rfl)]
        refine wp_appendP hi hz0 hz1 hz2 Tryz.underlying22 _ _ rfl _ _ rfl rfl hO3 hR3 (sane_one' _) (by simp; omega) hB3.size (fun v39 V4 hO4 hg4 => ?_)
        have hB4 := hB3.grown hg4 hB3.size (fun q hq => (World.ownsRow.lt hO3 q hq).1)
        refine hK.out _ _ (fbS_all (hS0.below hB4)) (fun hHd4 => ?_)
        clear hK K
        (try simp only [Act.put, List.setIfInBounds_toArray, List.set_cons_zero, List.set_cons_succ])
        obtain ⟨a6, c6, rfl⟩ := ownsP_slice hO4
        rw [hrl1] at hO4 ⊢
        have fr2 := (hS0.below hB4).c.fr 2
        have cc2 := (hS0.below hB4).c.c2
        refine heldU_take (i := 7) (k := 7) (oi := { dst := some 40, op := _, type := _, pos := _, after := _, guard := _ }) (v := ?_) rfl (by kernel_rfl) (by kernel_rfl) (by kernel_rfl) (by kernel_rfl) (by kernel_rfl) (by kernel_rfl) (fun _ _ _ h => h) (Or.inl ⟨by rfl, ?_⟩) (by assumption) ?_
        rotate_left
        focus (intro w hSw; (try dsimp only at hSw); first | (go_simp; done) | (go_simp; with_reducible rfl))
        (try simp only [Act.put, List.setIfInBounds_toArray, List.set_cons_zero, List.set_cons_succ])
        refine heldU_store (o := { dst := none, op := _, type := _, pos := _, after := _, guard := _ }) (by kernel_rfl) rfl (fun K hK => ?_)
        go_simp
        refine hK.out _ _ ?_
        clear hK K fr2 cc2
        (try simp only [Act.put, List.setIfInBounds_toArray, List.set_cons_zero, List.set_cons_succ])
        have hC := (hS0.below hB4).c.setR rfl HQ0.out HE0.out hO4 hNV
        generalize V4.setCell ⟨w.heap.size, 2, none⟩ (.slice a6 (r.length + 1) c6) = VF at *
        refine wpAnyH_done (by kernel_rfl) ?_ _
        (try simp only [Exit.then])
        go_upto_region 5 with fail
        obtain ⟨c0, c1, c2, c3, _⟩ := csS_all hC
        have HC := Lib.hid hC
        clear hC hS0
        go_wp2_with fail
        refine (HO1.out _ _ _ HC.out.rq HC.out.rr HC.out.e).mono ?_
        rintro e wz ⟨rfl, hBz⟩
        obtain ⟨n0, n8, n7⟩ := HFb.out
        have hn0 : (res != 0) = true := by simpa using n0
        have hn8 : (res != 8) = true := by simpa using n8
        have hn7 : (res != 7) = true := by simpa using n7
        clear n0 n8 n7
        go_wp2_with fail
        go_ret
        exact ⟨rfl, HC.out.b.trans (hBz.mono HC.out.b.size)⟩
        (try simp only [Act.put, List.setIfInBounds_toArray, List.set_cons_zero, List.set_cons_succ])
        (try simp only [Act.put, List.setIfInBounds_toArray, List.set_cons_zero, List.set_cons_succ])
        (try simp only [Act.put, List.setIfInBounds_toArray, List.set_cons_zero, List.set_cons_succ])
end Go.Proofs.YtoiampkdmjpljaaGreatDoor

/- StorableAuthorizes: the walk. -/
namespace Go.Proofs.YtoiampkdmjpljaaGreatDoor
open Go.RowKit

/-- A block of a case's four cells. -/
structure BxS (N : Nat) (m : List UInt8) (a b : Value) (s : Int) (w' : World) : Prop where
  c0 : w'.cell? ⟨N, 0, none⟩ = some (.string (strB m))
  c1 : w'.cell? ⟨N, 1, none⟩ = some a
  c2 : w'.cell? ⟨N, 2, none⟩ = some b
  c3 : w'.cell? ⟨N, 3, none⟩ = some (.int .i64 s)
  fr : ∀ j, w'.frozen? ⟨N, j, none⟩ = false
  lt : N < w'.heap.size
theorem BxS.below {N : Nat} {m : List UInt8} {a b : Value} {s : Int} {w w' : World} (h : BxS N m a b s w) (hb : Below w.heap.size w w') : BxS N m a b s w' :=
  ⟨(hb.cell (p := ⟨N, 0, none⟩) h.lt).trans h.c0, (hb.cell (p := ⟨N, 1, none⟩) h.lt).trans h.c1, (hb.cell (p := ⟨N, 2, none⟩) h.lt).trans h.c2, (hb.cell (p := ⟨N, 3, none⟩) h.lt).trans h.c3, fun j => (hb.frozen (p := ⟨N, j, none⟩) h.lt).trans (h.fr j), Nat.lt_of_lt_of_le h.lt hb.size⟩
theorem bxS_new (m : List UInt8) (a b : Value) (s : Int) (w : World) (T : TypeId) : BxS w.heap.size m a b s (w.alloc (.cells (caC m a b s) T)) :=
  ⟨by rw [World.cell?_alloc_at _ _ _ _ rfl]; rfl, by rw [World.cell?_alloc_at _ _ _ _ rfl]; rfl, by rw [World.cell?_alloc_at _ _ _ _ rfl]; rfl, by rw [World.cell?_alloc_at _ _ _ _ rfl]; rfl, fun j => World.frozen?_alloc_new _ _ _ _, by simp⟩
theorem BxS.set0 {N : Nat} {m : List UInt8} {a b : Value} {s : Int} {w : World} (h : BxS N m a b s w) (n : List UInt8) : BxS N n a b s (w.setCell ⟨N, 0, none⟩ (.string (strB n))) := by
  obtain ⟨c0, c1, c2, c3, fr, lt⟩ := h
  refine ⟨?_, ?_, ?_, ?_, fun j => by simpa using fr j, by simpa using lt⟩
  all_goals simp [go_sem, c0, c1, c2, c3]
theorem BxS.set1 {N : Nat} {m : List UInt8} {a b : Value} {s : Int} {w : World} (h : BxS N m a b s w) (v : Value) : BxS N m v b s (w.setCell ⟨N, 1, none⟩ v) := by
  obtain ⟨c0, c1, c2, c3, fr, lt⟩ := h
  refine ⟨?_, ?_, ?_, ?_, fun j => by simpa using fr j, by simpa using lt⟩
  all_goals simp [go_sem, c0, c1, c2, c3]
theorem BxS.set2 {N : Nat} {m : List UInt8} {a b : Value} {s : Int} {w : World} (h : BxS N m a b s w) (v : Value) : BxS N m a v s (w.setCell ⟨N, 2, none⟩ v) := by
  obtain ⟨c0, c1, c2, c3, fr, lt⟩ := h
  refine ⟨?_, ?_, ?_, ?_, fun j => by simpa using fr j, by simpa using lt⟩
  all_goals simp [go_sem, c0, c1, c2, c3]
theorem BxS.other {N K j : Nat} {m : List UInt8} {a b : Value} {s : Int} {w : World} (h : BxS N m a b s w) (hn : K ≠ N) (v : Value) : BxS N m a b s (w.setCell ⟨K, j, none⟩ v) := by
  obtain ⟨c0, c1, c2, c3, fr, lt⟩ := h
  have ne : ∀ i : Nat, (⟨K, j, none⟩ : Addr) ≠ ⟨N, i, none⟩ := fun i he => hn (by injection he)
  have ne2 : ∀ i : Nat, (⟨N, i, none⟩ : Addr) ≠ ⟨K, j, none⟩ := fun i he => hn (by injection he with h1; exact h1.symm)
  refine ⟨?_, ?_, ?_, ?_, fun i => by simpa using fr i, by simpa using lt⟩
  all_goals simp [go_sem, c0, c1, c2, c3]
theorem csS_of {N : Nat} {m : List UInt8} {qv : Value} {q : Flds} {rv : Value} {r : Flds} {s : Int} {w w' : World} (h : BxS N m qv rv s w') (hq : ReadsQ w' qv q) (hr : ReadsQ w' rv r) (e : EnvL w') (b : Below w.heap.size w w') : CsS N m qv q rv r s w w' :=
  ⟨h.c0, h.c1, h.c2, h.c3, h.fr, h.lt, hq, hr, e, b⟩
theorem CsS.box {N : Nat} {m : List UInt8} {qv : Value} {q : Flds} {rv : Value} {r : Flds} {s : Int} {w w' : World} (h : CsS N m qv q rv r s w w') : BxS N m qv rv s w' := ⟨h.c0, h.c1, h.c2, h.c3, h.fr, h.lt⟩
/-- Two cases' blocks. -/
structure TwC (N M : Nat) (m m' : List UInt8) (qv : Value) (q : Flds) (rv : Value) (r : Flds) (qv' : Value) (q' : Flds) (rv' : Value) (r' : Flds) (s : Int) (w w' : World) : Prop where
  a : CsS N m qv q rv r s w w'
  b : CsS M m' qv' q' rv' r' s w w'
theorem TwC.below {N M : Nat} {m m' : List UInt8} {qv : Value} {q : Flds} {rv : Value} {r : Flds} {qv' : Value} {q' : Flds} {rv' : Value} {r' : Flds} {s : Int} {w w1 w2 : World} (h : TwC N M m m' qv q rv r qv' q' rv' r' s w w1) (hb : Below w1.heap.size w1 w2) : TwC N M m m' qv q rv r qv' q' rv' r' s w w2 := ⟨h.a.below hb, h.b.below hb⟩
theorem twC_all {N M : Nat} {m m' : List UInt8} {qv : Value} {q : Flds} {rv : Value} {r : Flds} {qv' : Value} {q' : Flds} {rv' : Value} {r' : Flds} {s : Int} {w w' : World} (h : TwC N M m m' qv q rv r qv' q' rv' r' s w w') :
    w'.cell? ⟨N, 0, none⟩ = some (.string (strB m)) ∧ w'.cell? ⟨N, 1, none⟩ = some qv ∧ w'.cell? ⟨N, 2, none⟩ = some rv ∧ w'.cell? ⟨N, 3, none⟩ = some (.int .i64 s) ∧
    w'.cell? ⟨M, 0, none⟩ = some (.string (strB m')) ∧ w'.cell? ⟨M, 1, none⟩ = some qv' ∧ w'.cell? ⟨M, 2, none⟩ = some rv' ∧ w'.cell? ⟨M, 3, none⟩ = some (.int .i64 s) ∧ TwC N M m m' qv q rv r qv' q' rv' r' s w w' :=
  ⟨h.a.c0, h.a.c1, h.a.c2, h.a.c3, h.b.c0, h.b.c1, h.b.c2, h.b.c3, h⟩
theorem ownsP_other {T : TypeId} {B K j : Nat} {w : World} {v : Value} {ps : Flds} (h : OwnsP T B w v ps) (hK : K < B) (u : Value) : OwnsP T B (w.setCell ⟨K, j, none⟩ u) v ps :=
  ownsRow_setCell_other h (fun hk => by have := (World.ownsRow.lt h _ hk).1; simp at this; omega) u
theorem ownsP_grown {T : TypeId} {B _ : Nat} {w w' : World} {v : Value} {ps : Flds} (h : OwnsP T B w v ps) (hb : Below w.heap.size w w') : OwnsP T B w' v ps := OwnsP.below h hb
theorem rem_fit {q : Flds} {n : List UInt8} (h : FitL q) : FitL (remL q n) := fit_mem h (rem_len q n) (fun _ hp => (List.mem_filter.mp hp).1)
theorem snoc_fit {q : Flds} {f : List UInt8 × List UInt8} (h : FitL q) (hl : q.length ≤ 2000) (hf : f.1.length + f.2.length ≤ 100) : FitL (q ++ [f]) :=
  ⟨by rw [List.length_append]; show q.length + 1 ≤ _; omega, fun p hp => by
    rcases List.mem_append.1 hp with h1 | h1
    · exact h.each p h1
    · obtain rfl := List.mem_singleton.1 h1; omega⟩
theorem perm_len (k : Nat) : (permF k).length ≤ 50 := by
  match k with
  | 0 => decide
  | 1 => decide
  | 2 => decide
  | k + 3 => show nPX.length ≤ 50; decide
abbrev auF : List UInt8 × List UInt8 := (nAU, vXX)
set_option maxHeartbeats 16000000 in
set_option maxRecDepth 100000 in
theorem sb_auth_walk (m : List UInt8) (qa : Option Addr) (qc : Nat) (q : Flds) (ra : Option Addr) (rc : Nat) (r : Flds) (s : Int) (x : Nat) (w : World) (hE : EnvL w) (hq : ReadsQ w (.slice qa q.length qc) q) (hr : ReadsQ w (.slice ra r.length rc) r) (hbq : 2 * q.length + totL q ≤ 3000000) (hbr : 2 * r.length + totL r ≤ 3000000) (hsr : Sane (.slice ra r.length rc)) (hx0 : x ≤ 255) :
    Calls Tryz.prog 6 #[caV m (.slice qa q.length qc) (.slice ra r.length rc) s, .int .u8 (x : Int)] w fun e w' => e = .returned (.bool true) ∧ Below w.heap.size w w' := by
  have HS := Lib.hid (csS_new (m := m) s w 24 hq hr hE)
  have HLg := Lib.hid (fun (lv : Value) (w : World) (hr : ReadsF w lv [((.slice qa q.length qc), q), ((.slice ra r.length rc), r)]) => large15_any lv _ w hr (by simp) (by show 0 + (2 * q.length + totL q) + (2 * r.length + totL r) ≤ _; omega))
  have HAw := Lib.hid (fun (w : World) (hE : EnvL w) => awake15_any w hE)
  have HQ0 := Lib.hid hq
  have HR0 := Lib.hid hr
  have HE0 := Lib.hid hE
  clear hE hq hr hbq hbr
  generalize hlg : lgB [((.slice qa q.length qc), q), ((.slice ra r.length rc), r)] = lg at *
  cases lg with
  | true =>
    clear hlg
    go_enter Tryz.func6, Tryz.ntmps6
    go_upto_region 1 with fail
    change Code.wp _ _ _ _ (w.alloc (.cells (caC m (.slice qa q.length qc) (.slice ra r.length rc) s) 24))
    generalize (w.alloc (.cells (caC m (.slice qa q.length qc) (.slice ra r.length rc) s) 24)) = W at *
    obtain ⟨c0, c1, c2, c3, _⟩ := csS_all HS.out
    go_wp2_with fail
    refine (HLg.out _ _ (readsF_two _ HS.out.rq HS.out.rr)).mono ?_
    rintro e w1 ⟨rfl, hB1⟩
    have HS1 := Lib.hid ((HS.out.below (below_new _ _)).below hB1)
    clear c0 c1 c2 c3 hB1
    obtain ⟨c0, c1, c2, c3, _⟩ := csS_all HS1.out
    go_wp2_with fail
    refine (HLg.out _ _ (readsF_two _ HS1.out.rq HS1.out.rr)).mono ?_
    rintro e w2 ⟨rfl, hB2⟩
    have HS2 := Lib.hid ((HS1.out.below (below_new _ _)).below hB2)
    go_wp2_with fail
    go_ret
    exact ⟨rfl, HS2.out.b⟩
  | false =>
    obtain ⟨i0, hi, hz0, hz1, hz2⟩ := info_parts Tryz.infoG
    have hsm := lg_sum hlg
    have hfq : FitL q := fit_sum (by omega)
    have hfr : FitL r := fit_sum (by omega)
    have hrl : r.length ≤ 2000 := by omega
    have hql : q.length ≤ 2000 := by omega
    clear hlg hsm
    obtain ⟨k, hk⟩ : ∃ k, x % 4 = k := ⟨_, rfl⟩
    have HRm := Lib.hid (fun (w : World) (hq : ReadsQ w (.slice qa q.length qc) q) => refRemove_any (.slice qa q.length qc) q nAU w hq (by decide) (by omega) hfq.each6)
    have hqq := rem_len q nAU
    have hf0 : FitL (remL q nAU) := rem_fit hfq
    have hf1 : FitL (remL q nAU ++ [auF]) := snoc_fit hf0 (by omega) (by decide)
    have hf2 : FitL (r ++ [(nCC, permF k)]) := snoc_fit hfr hrl (by have := perm_len k; show nCC.length + (permF k).length ≤ 100; have : nCC.length = 13 := rfl; omega)
    obtain ⟨dd, hdd⟩ := oneIs_ex (allL r nDA)
    obtain ⟨de, hde⟩ := oneIs_ex (allL r nEX)
    obtain ⟨dl, hdl⟩ := oneIs_ex (allL r nLM)
    obtain ⟨ed, hed⟩ := oneIs_ex (allL (r ++ [(nCC, permF k)]) nDA)
    obtain ⟨ee, hee⟩ := oneIs_ex (allL (r ++ [(nCC, permF k)]) nEX)
    obtain ⟨el, hel⟩ := oneIs_ex (allL (r ++ [(nCC, permF k)]) nLM)
    have HN1 := Lib.hid (fun (a b : Option Addr) (c d : Nat) (w : World) (hq : ReadsQ w (.slice a (remL q nAU ++ [auF]).length c) (remL q nAU ++ [auF])) (hr : ReadsQ w (.slice b r.length d) r) (hE : EnvL w) => of15_any m a c (remL q nAU ++ [auF]) b d r s dd de dl w hq hf1 hr hfr hdd hde hdl hE)
    have HN0 := Lib.hid (fun (a b : Option Addr) (c d : Nat) (w : World) (hq : ReadsQ w (.slice a (remL q nAU).length c) (remL q nAU)) (hr : ReadsQ w (.slice b r.length d) r) (hE : EnvL w) => of15_any m a c (remL q nAU) b d r s dd de dl w hq hf0 hr hfr hdd hde hdl hE)
    have HP1 := Lib.hid (fun (a b : Option Addr) (c d : Nat) (w : World) (hq : ReadsQ w (.slice a (remL q nAU ++ [auF]).length c) (remL q nAU ++ [auF])) (hr : ReadsQ w (.slice b (r ++ [(nCC, permF k)]).length d) (r ++ [(nCC, permF k)])) (hE : EnvL w) => of15_any m a c (remL q nAU ++ [auF]) b d (r ++ [(nCC, permF k)]) s ed ee el w hq hf1 hr hf2 hed hee hel hE)
    have HP0 := Lib.hid (fun (a b : Option Addr) (c d : Nat) (w : World) (hq : ReadsQ w (.slice a (remL q nAU).length c) (remL q nAU)) (hr : ReadsQ w (.slice b (r ++ [(nCC, permF k)]).length d) (r ++ [(nCC, permF k)])) (hE : EnvL w) => of15_any m a c (remL q nAU) b d (r ++ [(nCC, permF k)]) s ed ee el w hq hf0 hr hf2 hed hee hel hE)
    have HAu := Lib.hid (stor_auth m q r vXX s dd de dl)
    have HPe := Lib.hid (stor_perm m q r vXX s ed ee el k)
    rw [← HPe.out.1] at HP0
    clear hfq hfr hf0 hf1 hf2 hdd hde hdl hed hee hel
    generalize storV m (remL q nAU ++ [auF]) r s dd de dl = n1 at *
    generalize storV m (remL q nAU) r s dd de dl = n0 at *
    have HNe := Lib.hid HPe.out.2
    clear HPe
    generalize storV m (remL q nAU ++ [auF]) (r ++ [(nCC, permF k)]) s ed ee el = n2 at *
    go_enter Tryz.func6, Tryz.ntmps6
    go_upto_region 1 with fail
    change Code.wp _ _ _ _ (w.alloc (.cells (caC m (.slice qa q.length qc) (.slice ra r.length rc) s) 24))
    generalize (w.alloc (.cells (caC m (.slice qa q.length qc) (.slice ra r.length rc) s) 24)) = W at *
    obtain ⟨c0, c1, c2, c3, _⟩ := csS_all HS.out
    go_wp2_with fail
    refine (HLg.out _ _ (readsF_two _ HS.out.rq HS.out.rr)).mono ?_
    rintro e w1 ⟨rfl, hB1⟩
    have HS1 := Lib.hid ((HS.out.below (below_new _ _)).below hB1)
    clear c0 c1 c2 c3 hB1
    go_wp2_with fail
    refine (HAw.out _ HS1.out.e).mono ?_
    rintro e w2 ⟨rfl, hB2⟩
    have HS2 := Lib.hid (HS1.out.below hB2)
    clear hB2 HS1 HS
    have hNw : w.heap.size < w2.heap.size := HS2.out.lt
    go_upto_region 3 with fail
    obtain ⟨c0, c1, c2, c3, _⟩ := csS_all HS2.out
    go_upto_region 4 with fail
    have BN3 := Lib.hid (HS2.out.box.below (below_new w2 (.cells (caC m (.slice qa q.length qc) (.slice ra r.length rc) s) 24)))
    have BM3 := Lib.hid (bxS_new m (.slice qa q.length qc) (.slice ra r.length rc) s w2 24)
    have HB3 := Lib.hid (HS2.out.b.alloc HS2.out.b.size (.cells (caC m (.slice qa q.length qc) (.slice ra r.length rc) s) 24))
    clear c0 c1 c2 c3 HS2
    change Code.wp _ _ _ _ (w2.alloc (.cells (caC m (.slice qa q.length qc) (.slice ra r.length rc) s) 24))
    generalize (w2.alloc (.cells (caC m (.slice qa q.length qc) (.slice ra r.length rc) s) 24)) = W3 at *
    generalize hM : w2.heap.size = M at *
    clear hM
    have p1 := BN3.out.c1
    go_wp2_with fail
    refine (HRm.out _ (HQ0.out.below HB3.out)).mono ?_
    rintro e w4 ⟨v0, rfl, hO0, hB4⟩
    obtain ⟨a0, k0, rfl⟩ := ownsP_slice hO0
    have hO0' := hO0
    have BN4 := Lib.hid (BN3.out.below hB4)
    have BM4 := Lib.hid (BM3.out.below hB4)
    have HB4 := Lib.hid (HB3.out.trans (hB4.mono HB3.out.size))
    have hM3 : M < W3.heap.size := BM3.out.lt
    have hw4 := hB4.size
    have pm := BM4.out.fr 1
    have pm1 := BM4.out.c1
    clear p1 hB4 BN3 BM3 HB3
    generalize hq0 : remL q nAU = q0 at *
    clear hq0
    go_upto_region 5 with fail
    have O0 := Lib.hid (ownsP_other (j := 1) hO0 hM3 (.slice a0 q0.length k0))
    have BN5 := Lib.hid (BN4.out.other (j := 1) (K := M) (by omega) (.slice a0 q0.length k0))
    have BM5 := Lib.hid (BM4.out.set1 (.slice a0 q0.length k0))
    have HB5 := Lib.hid (HB4.out.setCell (p := ⟨M, 1, none⟩) (by show w.heap.size ≤ M; omega) (.slice a0 q0.length k0))
    clear pm pm1 hO0 hO0' BN4 BM4
    have hw5 : w4.heap.size ≤ (w4.setCell ⟨M, 1, none⟩ (.slice a0 q0.length k0)).heap.size := by simp
    generalize w4.setCell ⟨M, 1, none⟩ (.slice a0 q0.length k0) = W5 at *
    have HOm := Lib.hid (own_made W5 32)
    have HQm := Lib.hid (O0.out.q.below (below_new W5 (.cells #[] 32)))
    have HSm := Lib.hid O0.out.sane
    have e1 := (BM5.out.below (below_new W5 (.cells #[] 32))).c1
    go_upto_region 6 with (at_builtin; first | (refine wpList_appendP hi hz0 hz1 hz2 Tryz.underlying22 rfl _ _ rfl _ _ rfl rfl HOm.out HQm.out HSm.out (by simp; omega) (by simp) ?_; intro v34 w34 hO34 hg34; have HB34 := Lib.hid ((below_new W5 (.cells #[] 32)).grown hg34 (by simp) (fun k hk => (World.ownsRow.lt HOm.out k hk).1)); have HO34 := Lib.hid (OwnsP.below hO34 (below_new w34 (.cells #[.string (strB nAU), .string (strB vXX)] 32))); have HR34 := Lib.hid (reads_oneP w34 nAU vXX 32); have hs34 := HB34.out.size; clear hO34 hg34) | (refine wpList_appendP hi hz0 hz1 hz2 Tryz.underlying22 rfl _ _ rfl _ _ rfl rfl HO34.out HR34.out (sane_one' _) (by simp; omega) (by simp; omega) ?_; intro v37 w37 hO37 hg37; obtain ⟨a37, k37, rfl⟩ := ownsP_slice hO37; have HB37 := Lib.hid ((HB34.out.alloc HB34.out.size (.cells #[.string (strB nAU), .string (strB vXX)] 32)).grown hg37 (by simp; omega) (fun k hk => (World.ownsRow.lt HO34.out k hk).1)); have HO37 := Lib.hid hO37; have BN37 := Lib.hid (BN5.out.below HB37.out); have pf1 := BN37.out.fr 1; have pc1 := BN37.out.c1; clear hO37 hg37))
    have hlq1 : (q0 ++ [auF]).length = q0.length + 1 := by simp
    rw [hlq1] at HN1 HP1
    have HO1 : OwnsP 32 W5.heap.size w37 (.slice a37 (q0.length + 1) k37) (q0 ++ [auF]) := by have h := HO37.out; rw [List.nil_append, hlq1] at h; exact h
    have hN5 : w.heap.size < W5.heap.size := BN5.out.lt
    have hM5 : M < W5.heap.size := BM5.out.lt
    have O1 := Lib.hid (ownsP_other (j := 1) HO1 hN5 (.slice a37 (q0.length + 1) k37))
    have O0b := Lib.hid (ownsP_other (j := 1) (OwnsP.below O0.out HB37.out) (Nat.lt_trans hNw hM3) (.slice a37 (q0.length + 1) k37))
    have BN6 := Lib.hid (BN37.out.set1 (.slice a37 (q0.length + 1) k37))
    have BM6 := Lib.hid ((BM5.out.below HB37.out).other (j := 1) (K := w.heap.size) (by omega) (.slice a37 (q0.length + 1) k37))
    have HB6 := Lib.hid ((HB5.out.trans (HB37.out.mono HB5.out.size)).setCell (p := ⟨w.heap.size, 1, none⟩) (Nat.le_refl _) (.slice a37 (q0.length + 1) k37))
    clear pf1 pc1 e1 HO37 HO1 BN37 HB37 HOm HQm HSm HB34 HO34 HR34 O0 BN5 BM5 HB5 HB4
    generalize w37.setCell ⟨w.heap.size, 1, none⟩ (.slice a37 (q0.length + 1) k37) = W6 at *
    have hT6 : TwC w.heap.size M m m (.slice a37 (q0.length + 1) k37) (q0 ++ [auF]) (.slice ra r.length rc) r (.slice a0 q0.length k0) q0 (.slice ra r.length rc) r s w W6 := ⟨csS_of BN6.out O1.out.q (HR0.out.below HB6.out) (HE0.out.below HB6.out) HB6.out, csS_of BM6.out O0b.out.q (HR0.out.below HB6.out) (HE0.out.below HB6.out) HB6.out⟩
    have hS0 := hT6.below (Below.refl _ _).drew
    have hV0 : Below W6.heap.size W6 W6.drew := (Below.refl _ _).drew
    clear hT6 BN6 BM6 HB6
    refine wp_region_held_drew (S := (fun w' => w'.cell? ⟨w.heap.size, 0, none⟩ = some (.string (strB m)) ∧ w'.cell? ⟨w.heap.size, 1, none⟩ = some (.slice a37 (q0.length + 1) k37) ∧ w'.cell? ⟨w.heap.size, 2, none⟩ = some (.slice ra r.length rc) ∧ w'.cell? ⟨w.heap.size, 3, none⟩ = some (.int .i64 s) ∧ w'.cell? ⟨M, 0, none⟩ = some (.string (strB m)) ∧ w'.cell? ⟨M, 1, none⟩ = some (.slice a0 q0.length k0) ∧ w'.cell? ⟨M, 2, none⟩ = some (.slice ra r.length rc) ∧ w'.cell? ⟨M, 3, none⟩ = some (.int .i64 s) ∧ TwC w.heap.size M m m (.slice a37 (q0.length + 1) k37) (q0 ++ [auF]) (.slice ra r.length rc) r (.slice a0 q0.length k0) q0 (.slice ra r.length rc) r s w w')) (by kernel_rfl) (twC_all hS0) (fun hHeld => ?_)
    generalize W6.drew = V0 at *
    refine wpAnyH_take (i := 0) (oi := { dst := some 39, op := _, type := _, pos := _, after := _, guard := _ }) (v := caV m (.slice a37 (q0.length + 1) k37) (.slice ra r.length rc) s) rfl (by kernel_rfl) (by kernel_rfl) (by kernel_rfl) (fun _ _ _ h => h) (Or.inl ⟨by rfl, ?_⟩) (by assumption) ?_
    focus (intro w hSw; (try dsimp only at hSw); first | (go_simp; done) | (go_simp; with_reducible rfl))
    (try simp only [Act.put, List.setIfInBounds_toArray, List.set_cons_zero, List.set_cons_succ])
    refine wpAnyH_take (i := 2) (oi := { dst := some 41, op := _, type := _, pos := _, after := _, guard := _ }) (v := caV m (.slice a0 q0.length k0) (.slice ra r.length rc) s) rfl (by kernel_rfl) (by kernel_rfl) (by kernel_rfl) (fun _ _ _ h => h) (Or.inl ⟨by rfl, ?_⟩) (by assumption) ?_
    focus (intro w hSw; (try dsimp only at hSw); first | (go_simp; done) | (go_simp; with_reducible rfl))
    (try simp only [Act.put, List.setIfInBounds_toArray, List.set_cons_zero, List.set_cons_succ])
    refine wpAnyH_ready (rs := [1]) (by kernel_rfl) (by simp) ?_
    refine AllReadyH.cons (o := { dst := some 40, op := _, type := _, pos := _, after := _, guard := _ }) rfl (fun K hK => ?_) AllReadyH.nil
    go_simp
    refine (HN1.out _ _ _ _ _ hS0.a.rq hS0.a.rr hS0.a.e).mono ?_
    rintro e V1 ⟨rfl, hBc⟩
    have hS1 := hS0.below hBc
    have hV1 := hV0.trans (hBc.mono hV0.size)
    refine hK.out _ _ (twC_all hS1) (fun hH1 => ?_)
    clear hK K hBc hS0 hV0 hHeld
    (try simp only [Act.put, List.setIfInBounds_toArray, List.set_cons_zero, List.set_cons_succ])
    refine wpAnyH_ready (rs := [3]) (by kernel_rfl) (by simp) ?_
    refine AllReadyH.cons (o := { dst := some 42, op := _, type := _, pos := _, after := _, guard := _ }) rfl (fun K hK => ?_) AllReadyH.nil
    go_simp
    refine (HN0.out _ _ _ _ _ hS1.b.rq hS1.b.rr hS1.b.e).mono ?_
    rintro e V2 ⟨rfl, hBc⟩
    have hS2 := hS1.below hBc
    have hV2 := hV1.trans (hBc.mono hV1.size)
    refine hK.out _ _ (twC_all hS2) (fun hH2 => ?_)
    clear hK K hBc hS1 hV1 hH1
    (try simp only [Act.put, List.setIfInBounds_toArray, List.set_cons_zero, List.set_cons_succ])
    refine wpAnyH_take (i := 4) (oi := { dst := some 6, op := _, type := _, pos := _, after := _, guard := _ }) (v := ?_) rfl (by kernel_rfl) (by kernel_rfl) (by kernel_rfl) (fun _ _ _ h => h) (Or.inl ⟨by rfl, ?_⟩) (by assumption) ?_
    rotate_left
    focus (intro w hSw; (try dsimp only at hSw); first | (go_simp; done) | (go_simp; with_reducible rfl))
    (try simp only [Act.put, List.setIfInBounds_toArray, List.set_cons_zero, List.set_cons_succ])
    refine wpAnyH_take (i := 5) (oi := { dst := some 7, op := _, type := _, pos := _, after := _, guard := _ }) (v := ?_) rfl (by kernel_rfl) (by kernel_rfl) (by kernel_rfl) (fun _ _ _ h => h) (Or.inl ⟨by rfl, ?_⟩) (by assumption) ?_
    rotate_left
    focus (intro w hSw; (try dsimp only at hSw); first | (go_simp; done) | (go_simp; with_reducible rfl))
    (try simp only [Act.put, List.setIfInBounds_toArray, List.set_cons_zero, List.set_cons_succ])
    refine wpAnyH_done (by kernel_rfl) ?_ _
    (try simp only [Exit.then])
    have HS2 := Lib.hid hS2
    have O1b := Lib.hid (OwnsP.below O1.out hV2)
    have O0c := Lib.hid (OwnsP.below O0b.out hV2)
    have hW62 := hV2.size
    clear hS2 hV2 hH2 O1 O0b
    go_upto_region 7 with fail
    go_cut [57] (fun u wx => u = .bool false ∧ V2 = wx)
    case first =>
      rcases HAu.out with h | ⟨h1, h2 | h2⟩
      · have e1 : (n1 != n0) = false := by simpa using h
        clear h
        go_wp2_with fail
        go_meet
        exact ⟨rfl, rfl⟩
      · subst h1 h2
        go_wp2_with fail
        go_meet
        exact ⟨rfl, rfl⟩
      · subst h1 h2
        go_wp2_with fail
        go_meet
        exact ⟨rfl, rfl⟩
    case rest =>
    obtain ⟨rfl, rfl⟩ := hcut
    clear HAu HN1 HN0
    go_upto_region 9 with fail
    go_cut [8] (fun u wx => u = .string (strB (permF k)) ∧ Below V2.heap.size V2 wx)
    case first =>
      have hk5 : k = 0 ∨ k = 1 ∨ k = 2 ∨ k = 3 := by omega
      have e0 : (0 : Int) ≤ (x : Int) % 4 := by omega
      have e1 : (x : Int) % 4 < 4 := by omega
      have e2 : ((x : Int) % 4).toNat = k := by omega
      have e3 : (x : Int).tmod 4 = (x : Int) % 4 := by rw [Int.tmod_eq_emod_of_nonneg (by omega)]
      clear hk
      rcases hk5 with rfl | rfl | rfl | rfl
      · (go_wp2_with fail; go_meet; exact ⟨rfl, below_new _ _⟩)
      · (go_wp2_with fail; go_meet; exact ⟨rfl, below_new _ _⟩)
      · (go_wp2_with fail; go_meet; exact ⟨rfl, below_new _ _⟩)
      · (go_wp2_with fail; go_meet; exact ⟨rfl, below_new _ _⟩)
    case rest =>
    rename World => wx
    obtain ⟨rfl, hBx⟩ := hcut
    have HT9 := Lib.hid (HS2.out.below hBx)
    have P1 := Lib.hid (OwnsP.below O1b.out hBx)
    have P0 := Lib.hid (OwnsP.below O0c.out hBx)
    have hw2x := hBx.size
    clear hBx HS2 O1b O0c hk
    generalize permF k = pk at *
    have HOm := Lib.hid (own_made wx 32)
    have HQm := Lib.hid (HT9.out.a.rr.below (below_new wx (.cells #[] 32)))
    have e2 := (HT9.out.a.box.below (below_new wx (.cells #[] 32))).c2
    have hNx : w.heap.size < wx.heap.size := HT9.out.a.lt
    have hMx : M < wx.heap.size := HT9.out.b.lt
    go_upto_region 11 with (at_builtin; first | (refine wpList_appendP hi hz0 hz1 hz2 Tryz.underlying22 rfl _ _ rfl _ _ rfl rfl HOm.out HQm.out hsr (by simp; omega) (by simp) ?_; intro v66 w66 hO66 hg66; have HB66 := Lib.hid ((below_new wx (.cells #[] 32)).grown hg66 (by simp) (fun k hk => (World.ownsRow.lt HOm.out k hk).1)); have HO66 := Lib.hid (OwnsP.below hO66 (below_new w66 (.cells #[.string (strB nCC), .string (strB pk)] 32))); have HR66 := Lib.hid (reads_oneP w66 nCC pk 32); have hs66 := HB66.out.size; clear hO66 hg66) | (refine wpList_appendP hi hz0 hz1 hz2 Tryz.underlying22 rfl _ _ rfl _ _ rfl rfl HO66.out HR66.out (sane_one' _) (by simp; omega) (by simp; omega) ?_; intro v70 w70 hO70 hg70; obtain ⟨a70, k70, rfl⟩ := ownsP_slice hO70; have HB70 := Lib.hid ((HB66.out.alloc HB66.out.size (.cells #[.string (strB nCC), .string (strB pk)] 32)).grown hg70 (by simp; omega) (fun k hk => (World.ownsRow.lt HO66.out k hk).1)); have HO70 := Lib.hid hO70; clear hO70 hg70))
    have hlr1 : (r ++ [(nCC, pk)]).length = r.length + 1 := by simp
    have hlr2 : ([] ++ r ++ [(nCC, pk)]).length = r.length + 1 := by simp
    rw [hlr1] at HP1 HP0
    have HO2 : OwnsP 32 wx.heap.size w70 (.slice a70 (r.length + 1) k70) (r ++ [(nCC, pk)]) := by have h := HO70.out; rw [List.nil_append, hlr1] at h; exact h
    try rw [hlr2]
    have C1 := Lib.hid (HT9.out.a.box.below HB70.out)
    have D1 := Lib.hid (HT9.out.b.box.below HB70.out)
    have C2 := Lib.hid (C1.out.set2 (.slice a70 (r.length + 1) k70))
    have D2 := Lib.hid (D1.out.other (j := 2) (K := w.heap.size) (by omega) (.slice a70 (r.length + 1) k70))
    have C3 := Lib.hid (C2.out.other (j := 2) (K := M) (by omega) (.slice a70 (r.length + 1) k70))
    have D3 := Lib.hid (D2.out.set2 (.slice a70 (r.length + 1) k70))
    have x1 := C1.out.fr 2
    have x2 := C1.out.c2
    have x3 := D2.out.fr 2
    have x4 := D2.out.c2
    go_upto_region 12 with fail
    have Z2 := Lib.hid (ownsP_other (j := 2) (ownsP_other (j := 2) HO2 hNx (.slice a70 (r.length + 1) k70)) hMx (.slice a70 (r.length + 1) k70))
    have Z1 := Lib.hid (ownsP_other (j := 2) (ownsP_other (j := 2) (OwnsP.below P1.out HB70.out) hN5 (.slice a70 (r.length + 1) k70)) hM5 (.slice a70 (r.length + 1) k70))
    have Z0 := Lib.hid (ownsP_other (j := 2) (ownsP_other (j := 2) (OwnsP.below P0.out HB70.out) (Nat.lt_trans hNw hM3) (.slice a70 (r.length + 1) k70)) hM3 (.slice a70 (r.length + 1) k70))
    have HB12 := Lib.hid (((HT9.out.a.b.trans (HB70.out.mono HT9.out.a.b.size)).setCell (p := ⟨w.heap.size, 2, none⟩) (Nat.le_refl _) (.slice a70 (r.length + 1) k70)).setCell (p := ⟨M, 2, none⟩) (by show w.heap.size ≤ M; omega) (.slice a70 (r.length + 1) k70))
    clear x1 x2 x3 x4 e2 HO2 HO70 HB70 HB66 HO66 HR66 HOm HQm HT9 C1 C2 D1 D2 P1 P0
    generalize (w70.setCell ⟨w.heap.size, 2, none⟩ (.slice a70 (r.length + 1) k70)).setCell ⟨M, 2, none⟩ (.slice a70 (r.length + 1) k70) = WZ at *
    have hT : TwC w.heap.size M m m (.slice a37 (q0.length + 1) k37) (q0 ++ [auF]) (.slice a70 (r.length + 1) k70) (r ++ [(nCC, pk)]) (.slice a0 q0.length k0) q0 (.slice a70 (r.length + 1) k70) (r ++ [(nCC, pk)]) s w WZ := ⟨csS_of C3.out Z1.out.q Z2.out.q (HE0.out.below HB12.out) HB12.out, csS_of D3.out Z0.out.q Z2.out.q (HE0.out.below HB12.out) HB12.out⟩
    have hY0 := hT.below (Below.refl _ _).drew
    clear hT C3 D3 Z0 Z1 Z2 HB12
    have hn7 : (n2 != 7) = true := by simpa using HNe.out
    have hnn : (n2 == n2) = true := by simp
    refine wp_region_held_drew (S := (fun w' => w'.cell? ⟨w.heap.size, 0, none⟩ = some (.string (strB m)) ∧ w'.cell? ⟨w.heap.size, 1, none⟩ = some (.slice a37 (q0.length + 1) k37) ∧ w'.cell? ⟨w.heap.size, 2, none⟩ = some (.slice a70 (r.length + 1) k70) ∧ w'.cell? ⟨w.heap.size, 3, none⟩ = some (.int .i64 s) ∧ w'.cell? ⟨M, 0, none⟩ = some (.string (strB m)) ∧ w'.cell? ⟨M, 1, none⟩ = some (.slice a0 q0.length k0) ∧ w'.cell? ⟨M, 2, none⟩ = some (.slice a70 (r.length + 1) k70) ∧ w'.cell? ⟨M, 3, none⟩ = some (.int .i64 s) ∧ TwC w.heap.size M m m (.slice a37 (q0.length + 1) k37) (q0 ++ [auF]) (.slice a70 (r.length + 1) k70) (r ++ [(nCC, pk)]) (.slice a0 q0.length k0) q0 (.slice a70 (r.length + 1) k70) (r ++ [(nCC, pk)]) s w w')) (by kernel_rfl) (twC_all hY0) (fun hHeld => ?_)
    generalize WZ.drew = Y0 at *
    refine wpAnyH_take (i := 0) (oi := { dst := some 75, op := _, type := _, pos := _, after := _, guard := _ }) (v := caV m (.slice a37 (q0.length + 1) k37) (.slice a70 (r.length + 1) k70) s) rfl (by kernel_rfl) (by kernel_rfl) (by kernel_rfl) (fun _ _ _ h => h) (Or.inl ⟨by rfl, ?_⟩) (by assumption) ?_
    focus (intro w hSw; (try dsimp only at hSw); first | (go_simp; done) | (go_simp; with_reducible rfl))
    (try simp only [Act.put, List.setIfInBounds_toArray, List.set_cons_zero, List.set_cons_succ])
    refine wpAnyH_take (i := 2) (oi := { dst := some 77, op := _, type := _, pos := _, after := _, guard := _ }) (v := caV m (.slice a0 q0.length k0) (.slice a70 (r.length + 1) k70) s) rfl (by kernel_rfl) (by kernel_rfl) (by kernel_rfl) (fun _ _ _ h => h) (Or.inl ⟨by rfl, ?_⟩) (by assumption) ?_
    focus (intro w hSw; (try dsimp only at hSw); first | (go_simp; done) | (go_simp; with_reducible rfl))
    (try simp only [Act.put, List.setIfInBounds_toArray, List.set_cons_zero, List.set_cons_succ])
    refine wpAnyH_ready (rs := [1]) (by kernel_rfl) (by simp) ?_
    refine AllReadyH.cons (o := { dst := some 76, op := _, type := _, pos := _, after := _, guard := _ }) rfl (fun K hK => ?_) AllReadyH.nil
    go_simp
    refine (HP1.out _ _ _ _ _ hY0.a.rq hY0.a.rr hY0.a.e).mono ?_
    rintro e Y1 ⟨rfl, hBc⟩
    have hY1 := hY0.below hBc
    refine hK.out _ _ (twC_all hY1) (fun hH1 => ?_)
    clear hK K hBc hY0 hHeld
    (try simp only [Act.put, List.setIfInBounds_toArray, List.set_cons_zero, List.set_cons_succ])
    refine wpAnyH_ready (rs := [3]) (by kernel_rfl) (by simp) ?_
    refine AllReadyH.cons (o := { dst := some 78, op := _, type := _, pos := _, after := _, guard := _ }) rfl (fun K hK => ?_) AllReadyH.nil
    go_simp
    refine (HP0.out _ _ _ _ _ hY1.b.rq hY1.b.rr hY1.b.e).mono ?_
    rintro e Y2 ⟨rfl, hBc⟩
    have hY2 := hY1.below hBc
    refine hK.out _ _ (twC_all hY2) (fun hH2 => ?_)
    clear hK K hBc hY1 hH1
    (try simp only [Act.put, List.setIfInBounds_toArray, List.set_cons_zero, List.set_cons_succ])
    refine wpAnyH_take (i := 4) (oi := { dst := some 79, op := _, type := _, pos := _, after := _, guard := _ }) (v := .bool true) rfl (by kernel_rfl) (by kernel_rfl) (by kernel_rfl) (fun _ _ _ h => h) (Or.inl ⟨by rfl, ?_⟩) (by assumption) ?_
    focus (intro w hSw; (try dsimp only at hSw); first | (go_simp; done) | (go_simp; with_reducible rfl))
    (try simp only [Act.put, List.setIfInBounds_toArray, List.set_cons_zero, List.set_cons_succ])
    refine wpAnyH_take (i := 5) (oi := { dst := some 80, op := _, type := _, pos := _, after := _, guard := _ }) (v := ?_) rfl (by kernel_rfl) (by kernel_rfl) (by kernel_rfl) (fun _ _ _ h => h) (Or.inl ⟨by rfl, ?_⟩) (by assumption) ?_
    rotate_left
    focus (intro w hSw; (try dsimp only at hSw); first | (go_simp; done) | (go_simp; with_reducible rfl))
    (try simp only [Act.put, List.setIfInBounds_toArray, List.set_cons_zero, List.set_cons_succ])
    refine wpAnyH_take (i := 6) (oi := { dst := some 81, op := _, type := _, pos := _, after := _, guard := _ }) (v := caV m (.slice a37 (q0.length + 1) k37) (.slice a70 (r.length + 1) k70) s) rfl (by kernel_rfl) (by kernel_rfl) (by kernel_rfl) (fun _ _ _ h => h) (Or.inl ⟨by rfl, ?_⟩) (by assumption) ?_
    focus (intro w hSw; (try dsimp only at hSw); first | (go_simp; done) | (go_simp; with_reducible rfl))
    (try simp only [Act.put, List.setIfInBounds_toArray, List.set_cons_zero, List.set_cons_succ])
    refine wpAnyH_ready (rs := [7]) (by kernel_rfl) (by simp) ?_
    refine AllReadyH.cons (o := { dst := some 82, op := _, type := _, pos := _, after := _, guard := _ }) rfl (fun K hK => ?_) AllReadyH.nil
    go_simp
    refine (HP1.out _ _ _ _ _ hY2.a.rq hY2.a.rr hY2.a.e).mono ?_
    rintro e Y3 ⟨rfl, hBc⟩
    have hY3 := hY2.below hBc
    refine hK.out _ _ (twC_all hY3) (fun hH3 => ?_)
    clear hK K hBc hY2 hH2
    (try simp only [Act.put, List.setIfInBounds_toArray, List.set_cons_zero, List.set_cons_succ])
    refine wpAnyH_take (i := 8) (oi := { dst := some 83, op := _, type := _, pos := _, after := _, guard := _ }) (v := .bool true) rfl (by kernel_rfl) (by kernel_rfl) (by kernel_rfl) (fun _ _ _ h => h) (Or.inl ⟨by rfl, ?_⟩) (by assumption) ?_
    focus (intro w hSw; (try dsimp only at hSw); first | (go_simp; done) | (go_simp; with_reducible rfl))
    (try simp only [Act.put, List.setIfInBounds_toArray, List.set_cons_zero, List.set_cons_succ])
    refine wpAnyH_take (i := 9) (oi := { dst := some 84, op := _, type := _, pos := _, after := _, guard := _ }) (v := ?_) rfl (by kernel_rfl) (by kernel_rfl) (by kernel_rfl) (fun _ _ _ h => h) (Or.inl ⟨by rfl, ?_⟩) (by assumption) ?_
    rotate_left
    focus (intro w hSw; (try dsimp only at hSw); first | (go_simp; done) | (go_simp; with_reducible rfl))
    (try simp only [Act.put, List.setIfInBounds_toArray, List.set_cons_zero, List.set_cons_succ])
    refine wpAnyH_take (i := 10) (oi := { dst := some 4, op := _, type := _, pos := _, after := _, guard := _ }) (v := ?_) rfl (by kernel_rfl) (by kernel_rfl) (by kernel_rfl) (fun _ _ _ h => h) (Or.inl ⟨by rfl, ?_⟩) (by assumption) ?_
    rotate_left
    focus (intro w hSw; (try dsimp only at hSw); first | (go_simp; done) | (go_simp; with_reducible rfl))
    (try simp only [Act.put, List.setIfInBounds_toArray, List.set_cons_zero, List.set_cons_succ])
    refine wpAnyH_done (by kernel_rfl) ?_ _
    (try simp only [Exit.then])
    (try go_wp2_with fail)
    go_ret
    exact ⟨rfl, hY3.a.b⟩
end Go.Proofs.YtoiampkdmjpljaaGreatDoor

/- The code's Same. -/
namespace Go.Proofs.YtoiampkdmjpljaaGreatDoor
open Go.RowKit

set_option maxHeartbeats 4000000 in
set_option maxRecDepth 100000 in
theorem same_any (va vb : Value) (pa pb : Flds) (c : Bool) (hc : c = true ↔ SameF (lowF pa) (lowF pb)) (w : World) (hra : ReadsQ w va pa) (hrb : ReadsQ w vb pb) (hla : pa.length ≤ 100000) (hlb : pb.length ≤ 100000)
    (hba : ∀ p ∈ pa, p.1.length + p.2.length ≤ 1000000) (hbb : ∀ p ∈ pb, p.1.length + p.2.length ≤ 1000000) :
    Calls Tryz.prog 26 #[va, vb] w fun e w' => e = .returned (.bool c) ∧ Below w.heap.size w w' := by
  have NA := fun w h => byName_any va pa w h hla hba
  have NB := fun w h => byName_any vb pb w h hlb hbb
  have HRa := Lib.hid hra
  have HRb := Lib.hid hrb
  have HC := Lib.hid hc
  obtain ⟨ao, ca, rfl, h1⟩ := hra
  obtain ⟨bo, cb, rfl, h2⟩ := hrb
  clear h1 h2 hc hba hbb
  by_cases hl : pa.length = pb.length
  · have e : ((pa.length : Int) == (pb.length : Int)) = true := by simp [hl]
    have HL := Lib.hid hl
    clear hl
    go_enter Tryz.func26, Tryz.ntmps26
    go_wp2_with fail
    refine (NA _ HRa.out).mono ?_
    rintro e w1 ⟨v1, Za, rfl, a1, a2, a3, hB1⟩
    go_wp2_with fail
    refine (NB _ (HRb.out.below hB1)).mono ?_
    rintro e w2 ⟨v2, Zb, rfl, b1, b2, b3, hB2⟩
    have hBB := hB1.trans (hB2.mono hB1.size)
    have hza : Za.length ≤ 1000000 := by rw [a2.length, lowF_len]; omega
    have hzb : Zb.length ≤ 1000000 := by rw [b2.length, lowF_len]; omega
    have EQ := equal_any v1 v2 Za Zb w2 (OwnsP.below a3 hB2).q b3.q hza hzb
    have hcz : decide (Za = Zb) = c := by
      rw [Bool.eq_iff_iff, decide_eq_true_eq, HC.out]
      exact srt_iff a1 b1 a2 b2
    rw [hcz] at EQ
    clear NA NB a1 a2 a3 b1 b2 b3 hcz hza hzb
    go_wp2_with fail
    refine EQ.mono ?_
    rintro e w3 ⟨rfl, k, rfl⟩
    clear EQ
    go_wp2_with fail
    go_ret
    exact ⟨rfl, below_drewN hBB k⟩
  · have e : ((pa.length : Int) == (pb.length : Int)) = false := by simp; omega
    have hcf : c = false := by
      rw [Bool.eq_false_iff]
      intro h
      have := (HC.out.mp h).length
      rw [lowF_len, lowF_len] at this
      exact hl this
    subst hcf
    clear hl NA NB
    go_enter Tryz.func26, Tryz.ntmps26
    go_wp2_with fail
    go_ret
    exact ⟨rfl, Below.refl _ _⟩
end Go.Proofs.YtoiampkdmjpljaaGreatDoor
