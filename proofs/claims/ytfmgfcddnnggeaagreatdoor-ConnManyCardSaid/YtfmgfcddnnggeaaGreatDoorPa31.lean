import Derived.Test.YtfmgfcddnnggeaaGreatDoorPa28
import Derived.Test.YtfmgfcddnnggeaaGreatDoorPa30
import Derived.Test.YtfmgfcddnnggeaaGreatDoorPa10
import Derived.Test.YtfmgfcddnnggeaaGreatDoorPa1
import Derived.Deep.RegionLaw
import Derived.Deep.DeepCutAuto
import Derived.Deep.CutBlock
import Derived.Deep.RegionHeld3
import Derived.Test.YtfmgfcddnnggeaaGreatDoorPa27
import Derived.IntWalk
import Derived.Test.YtfmgfcddnnggeaaGreatDoorPa26
/- ChunkedSpoilt: what its walks share. -/
namespace Go.Proofs.YtfmgfcddnnggeaaGreatDoor
open Go.RowKit

theorem own_form4 {B : Nat} {v : Value} {w : World} {l : List UInt8} (h : OwnB B w v l) (hne : l ≠ []) : ∃ g cap, v = .slice (some ⟨g, 0, none⟩) l.length cap ∧ l.length ≤ cap ∧ cap ≤ maxLen := by
  obtain ⟨_, ⟨_, hh⟩ | ⟨g, cap, cur, hv, _, _, h1, h2, _⟩⟩ := h
  · exact absurd (List.eq_nil_of_length_eq_zero hh) hne
  · exact ⟨g, cap, hv, h1, h2⟩
/-- What the switch makes: the bytes for the decoder, and how many it takes. -/
def SpR (w2 : World) (a b : List UInt8) (q : Nat) (u n : Value) (wx : World) : Prop :=
  OwnB w2.heap.size wx u (chunkL a ++ spoilL q b) ∧ n = .int .i64 (((chunkL a).length + spoilN q b : Nat) : Int) ∧ Below w2.heap.size w2 wx
/-- An append of bytes that are read to a slice of the call's own, at one operation. -/
theorem wp_appendA {B : Nat} {w : World} {o : Oper} {a : Act} {K : Act → World → Prop} {Q : Exit → Act → World → Prop} (s x : Operand)
    (ho : o.op = .call { callee := .builtin .append, args := #[s, x], argTypes := #[30, 30] }) (v v2 : Value) (hs : a.eval s = v) (hx : a.eval x = v2) {l m : List UInt8} (hown : OwnB B w v l) (hr : ReadsD w v2 m)
    (hn : l.length + m.length ≤ 1000000000) (hB : B ≤ w.heap.size) (h : ∀ v' w', OwnB B w' v' (l ++ m) → w.grownBy w' v.ownBlock → (v'.ownBlock = v.ownBlock ∨ v'.ownBlock = some w.heap.size) → K (a.put o.dst v') w') :
    o.wp Tryz.prog a w K Q := by
  obtain ⟨i0, hi, hz0, hz1, hz2⟩ := info_parts Tryz.infoB
  obtain ⟨ao, cap, rfl, hc⟩ := id hr
  cases ao with
  | none =>
    obtain ⟨rfl, _, rfl⟩ := readsB_none hr
    have hrun := run_append_owned_none (P := Tryz.prog) (w := w) B 30 o.type 5 i0 1 Tryz.underlying30 hi v l.length (Lib.byteCells l) hown
    unfold Oper.wp
    simp [execOp, ho, resolve, invoke, builtin, hs, hx, hrun, Result.andThen]
    exact h v w (by rw [List.append_nil]; exact hown) ⟨rfl, rfl, rfl, Nat.le_refl _, fun _ _ _ => rfl⟩ (.inl rfl)
  | some ad =>
    obtain ⟨_, hs'⟩ := readsB_src hr
    obtain ⟨v', w', hr', h2, h3, h4, h5⟩ := run_append_own_at (P := Tryz.prog) w B 30 o.type 5 i0 _ 1 1 Tryz.underlying30 hi hz0 hz1 hz2 rfl (by decide) v l.length (Lib.byteCells l) hown ad m.length cap (Lib.byteCells m) (by rw [Lib.byteCells_length]; omega) hs' (oneB m) (by unfold maxLen; omega) (by omega) hB
    unfold Oper.wp execOp
    simp only [ho, resolve, invoke, builtin, Sem.run_bind, Sem.run_pure, Result.andThen_ok, List.map_toArray, List.map_cons, List.map_nil, hs, hx, hr']
    exact h v' w' (own_appB h2) h3 h5
theorem spoil_len (q : Nat) (b : List UInt8) : (spoilL q b).length ≤ (hexT b.length).length + b.length + 5 := by
  unfold spoilL
  split
  · simp; omega
  split
  · simp; omega
  split
  · simp; omega
  split <;> (simp; omega)
end Go.Proofs.YtfmgfcddnnggeaaGreatDoor

/- What the connection's takeHead returns. -/
namespace Go.Proofs.YtfmgfcddnnggeaaGreatDoor
open Go.RowKit

set_option maxHeartbeats 4000000 in
set_option maxRecDepth 100000 in
theorem takeHead_any {B P : Nat} {X : Nat → Prop} {s : Cn} (bv : Value) (l : List UInt8) (w : World) (h : Con B P X s w) (hok : s.Ok) (ha : atHead s) (hb : ReadsD w bv l) (_ : l ≠ []) (hM : MaxB B w) (hl : l.length ≤ 1000000000) :
    Calls Tryz.prog 19 #[.pointer (some ⟨P, 0, none⟩), bv] w (TkPost B P X (thC s l) w) := by
  obtain ⟨mv, sv, dv, XM, XD, hp⟩ := h
  have HP := Lib.hid hp
  have HB := Lib.hid hb
  have HM := Lib.hid hM
  have h10 := hok.o10
  have HOK := Lib.hid hok
  have HA := Lib.hid ha
  have hs : P < w.heap.size := (hp.lt P hp.p).2
  obtain ⟨ba, bc, rfl, hcap, hcapm, hcn, hcc⟩ := hb
  obtain ⟨r, hr⟩ : ∃ r, r = rmC s l := ⟨_, rfl⟩
  have hrl : r ≤ l.length := by unfold rmC at hr; omega
  have hrs : s.st.length + r ≤ 8192 := by unfold rmC at hr; omega
  have hmin : min (l.length : Int) (8192 - (s.st.length : Int)) = (r : Int) := by unfold rmC at hr; omega
  have hwr : IntKind.i64.wrap (8192 - (s.st.length : Int)) = 8192 - (s.st.length : Int) := IntWalk.i64_in _ (by omega)
  have hr0 : (0 : Int) ≤ (r : Int) := by omega
  have hrc : (r : Int) ≤ (bc : Int) := by omega
  have HR := Lib.hid hr
  obtain ⟨sa, sc, rfl⟩ := hp.t.isSlice
  have hpn := hp.below (below_new w (.cells #[.int .i64 0, .string ⟨#[]⟩, .string ⟨#[]⟩, noV, .int .i64 0, noV, noV, noV] 42))
  obtain ⟨_, _, _, c3, _, _, _, _, _, f⟩ := hpn.cells
  have f3 := f 3
  have HPN := Lib.hid hpn
  clear hp f hpn hcc hcn hr hM ha hok
  go_enter Tryz.func19, Tryz.ntmps19
  go_upto_region 3 with fail
  have hWs : w.heap.size < (w.alloc (.cells #[.int .i64 0, .string ⟨#[]⟩, .string ⟨#[]⟩, noV, .int .i64 0, noV, noV, noV] 42)).heap.size := by simp
  have HS0 := Lib.hid (show (w.alloc (.cells #[.int .i64 0, .string ⟨#[]⟩, .string ⟨#[]⟩, noV, .int .i64 0, noV, noV, noV] 42)).heap.size = w.heap.size + 1 by simp)
  have hbW := below_new w (.cells #[.int .i64 0, .string ⟨#[]⟩, .string ⟨#[]⟩, noV, .int .i64 0, noV, noV, noV] 42)
  have hN := heap_alloc_new w (.cells #[.int .i64 0, .string ⟨#[]⟩, .string ⟨#[]⟩, noV, .int .i64 0, noV, noV, noV] 42)
  generalize hW0 : w.alloc (.cells #[.int .i64 0, .string ⟨#[]⟩, .string ⟨#[]⟩, noV, .int .i64 0, noV, noV, noV] 42) = W0 at *
  have HBW := Lib.hid hbW
  have HN := Lib.hid hN
  have hD := (Below.refl W0.heap.size W0).drew
  have HPD := Lib.hid (HPN.out.below hD)
  have HT := Lib.hid HPD.out.t
  have HLR : Hid (ReadsD W0.drew (.slice ba r bc) (l.take r)) := Lib.hid (by
    obtain ⟨a, c, hv, k1, k2, k4, k5⟩ := (HB.out.below hbW).below hD
    cases hv
    have e : (l.take r).length = r := by simp; omega
    exact ⟨ba, bc, by rw [e], by omega, hcapm, k4, fun j c hj => by
      have hjn : j < r := by have := (List.getElem?_eq_some_iff.mp hj).1; omega
      rw [List.getElem?_take_of_lt hjn] at hj; exact k5 j c hj⟩)
  have hBs : B ≤ W0.drew.heap.size := by have := (HPD.out.lt P HPD.out.p).1; have h2 := (HPD.out.lt P HPD.out.p).2; omega
  have hlt : (l.take r).length ≤ 8192 := by rw [List.length_take]; omega
  have HD := Lib.hid hD
  have HL : Hid ((s.st ++ l.take r).length = s.st.length + r) := Lib.hid (by rw [List.length_append, List.length_take]; omega)
  clear hN hbW hD hW0 hcap hcapm
  go_cut [8] (fun u8 wx => u8 = .int .i64 (r : Int) ∧ ∃ sv', ConP B P (fun k => X k ∨ sv'.ownBlock = some k) XM XD { s with st := s.st ++ l.take r } mv sv' dv wx ∧ Only X W0 wx ∧ (∀ k, sv'.ownBlock = some k → X k ∨ W0.heap.size ≤ k))
  case first =>
    go_region_law (first
      | (rw [if_pos (by rfl)]; refine wp_appendA _ _ rfl _ _ rfl rfl HT.out HLR.out (by omega) hBs ?_; intro v2 w2 hO2 hg2 hat2; have CC := HPD.out.grownC hg2; have z3 := CC.c3; have y3 := CC.f 3; clear CC; obtain ⟨va, vc, hv2⟩ := hO2.isSlice; rw [HL.out] at hv2; subst hv2))
    all_goals go_wp2_with fail
    all_goals go_meet
    all_goals exact ⟨rfl, _, (HPD.out.app hO2 hg2 hat2).1, (Only.below HD.out).trans' (HPD.out.app hO2 hg2 hat2).2, fun k hk => by
      rcases hat2 with e | e
      · exact .inl (HPD.out.xs k (e ▸ hk)).1
      · rw [e] at hk; exact .inr (by have := Option.some.inj hk; subst this; exact Nat.le_refl _)⟩
  case rest =>
    obtain ⟨rfl, sv', hp3, hO3, hX3⟩ := hcut
    have HM3 := Lib.hid (HM.out.to (show Below B w wc from (HBW.out.mono (by have := (HP.out.lt P HP.out.p).1; omega)).trans (hO3.to (fun k hk => (HP.out.lt k hk).1) (by have := (HP.out.lt P HP.out.p).1; have := HBW.out.size; omega))))
    obtain ⟨R, hR⟩ : ∃ R, hdR s.rs (s.st ++ l.take r) = R := ⟨_, rfl⟩
    have HH := Lib.hid (readHead_at hp3 (HM3.out.1) (by rw [HL.out]; omega) hR)
    have HRR := Lib.hid hR
    clear hR
    have HP3 := Lib.hid hp3
    have HO3 := Lib.hid hO3
    have HX3 := Lib.hid hX3
    clear hp3 hO3 hX3
    apply_assumption
    go_wp2_with fail
    refine HH.out.mono ?_
    rintro e w4 ⟨q, p, rfl, hq, hp, hB4⟩
    obtain ⟨qa, qc, rfl⟩ := own_slice' hq
    obtain ⟨pa, pc, rfl⟩ := own_slice' hp
    have HQ := Lib.hid hq
    have HPq := Lib.hid hp
    have HB4 := Lib.hid hB4
    clear hq hp hB4 HH
    go_upto_region 5 with fail
    have hb9 := below_new w4 (.cells #[.int .i64 (R.2.1.k : Int), .string (strB R.2.1.q.1), .string (strB R.2.1.q.2.1), .slice qa R.2.1.q.2.2.length qc, .int .i64 (R.2.1.p.1 : Int), .slice pa R.2.1.p.2.length pc, noV, noV] 42)
    have h9 := heap_alloc_new w4 (.cells #[.int .i64 (R.2.1.k : Int), .string (strB R.2.1.q.1), .string (strB R.2.1.q.2.1), .slice qa R.2.1.q.2.2.length qc, .int .i64 (R.2.1.p.1 : Int), .slice pa R.2.1.p.2.length pc, noV, noV] 42)
    have hz9 : (w4.alloc (.cells #[.int .i64 (R.2.1.k : Int), .string (strB R.2.1.q.1), .string (strB R.2.1.q.2.1), .slice qa R.2.1.q.2.2.length qc, .int .i64 (R.2.1.p.1 : Int), .slice pa R.2.1.p.2.length pc, noV, noV] 42)).heap.size = w4.heap.size + 1 := by simp
    generalize hW9 : w4.alloc (.cells #[.int .i64 (R.2.1.k : Int), .string (strB R.2.1.q.1), .string (strB R.2.1.q.2.1), .slice qa R.2.1.q.2.2.length qc, .int .i64 (R.2.1.p.1 : Int), .slice pa R.2.1.p.2.length pc, noV, noV] 42) = W9 at *
    clear hW9
    have hB9 : Below wc.heap.size wc W9 := HB4.out.trans (hb9.mono HB4.out.size)
    have hs4 := HB4.out.size
    have HP9 := Lib.hid (HP3.out.below hB9)
    have hw1 : W0.heap.size = w.heap.size + 1 := HS0.out
    have hcs := HO3.out.size
    have HQ9 := Lib.hid (OwnsP.mono (by omega) (OwnsP.below HQ.out hb9) : OwnsP 71 (w.heap.size + 1) W9 _ _)
    have HR9 := Lib.hid (OwnsP.mono (by omega) (OwnsP.below HPq.out hb9) : OwnsP 71 (w.heap.size + 1) W9 _ _)
    have HO9 := Lib.hid ((((Only.below HBW.out : Only X w W0).trans' HO3.out).trans' (Only.below hB9)))
    have HXw := Lib.hid (fun k hk => (HP.out.lt k hk).2)
    have HX1 : Hid (∀ k, X k ∨ sv'.ownBlock = some k → k < w4.heap.size) := Lib.hid (fun k a => by have := (HP3.out.lt k a).2; omega)
    have HqX : Hid (∀ k, (Value.slice qa R.2.1.q.2.2.length qc).ownBlock = some k ∨ (Value.slice pa R.2.1.p.2.length pc).ownBlock = some k → ¬ (X k ∨ sv'.ownBlock = some k) ∧ k < w4.heap.size) := Lib.hid (fun k hk => by
      have h : wc.heap.size ≤ k ∧ k < w4.heap.size := by
        rcases hk with a | a
        · exact World.ownsRow.lt HQ.out k a
        · exact World.ownsRow.lt HPq.out k a
      exact ⟨fun a => by have := (HP3.out.lt k a).2; omega, h.2⟩)
    have hn0 : W9.heap[w.heap.size]? = some (.cells #[.int .i64 0, .string ⟨#[]⟩, .string ⟨#[]⟩, noV, .int .i64 0, noV, noV, noV] 42 (0, 0)) := by
      rw [hB9.block _ (by omega), HO3.out.block _ hWs (fun a => Nat.lt_irrefl _ (HXw.out _ a))]; exact HN.out
    have HN0 := Lib.hid hn0
    have K := eight_at hn0
    have j0 : W9.cell? ⟨w.heap.size, 0, none⟩ = some (.int .i64 0) := (K 0).1
    have k0 := (K 0).2
    have j1 : W9.cell? ⟨w.heap.size, 1, none⟩ = some (.string ⟨#[]⟩) := (K 1).1
    have k1 := (K 1).2
    have j2 : W9.cell? ⟨w.heap.size, 2, none⟩ = some (.string ⟨#[]⟩) := (K 2).1
    have k2 := (K 2).2
    have j3 : W9.cell? ⟨w.heap.size, 3, none⟩ = some (noV) := (K 3).1
    have k3 := (K 3).2
    have j4 : W9.cell? ⟨w.heap.size, 4, none⟩ = some (.int .i64 0) := (K 4).1
    have k4 := (K 4).2
    have j5 : W9.cell? ⟨w.heap.size, 5, none⟩ = some (noV) := (K 5).1
    have k5 := (K 5).2
    have j6 : W9.cell? ⟨w.heap.size, 6, none⟩ = some (noV) := (K 6).1
    have k6 := (K 6).2
    have j7 : W9.cell? ⟨w.heap.size, 7, none⟩ = some (noV) := (K 7).1
    have k7 := (K 7).2
    have HX9 : Hid (∀ k, (X k ∨ sv'.ownBlock = some k) → X k ∨ w.heap.size < k) := Lib.hid (fun k hk => by
      rcases hk with a | a
      · exact .inl a
      · rcases HX3.out k a with b | b
        · exact .inl b
        · exact .inr (by omega))
    have H9 := Lib.hid h9
    clear K hn0 h9 hb9 hB9
    have E1 := eq_errno
    have E2 := eq_nilErr
    by_cases h21 : R.1 = 21
    · have he : thC s l = ({ s with st := s.st ++ l.take r }, ev0, r, 0) := by
        unfold thC rdC; rw [← HR.out, HRR.out, if_pos h21]
      have HTE := Lib.hid he
      rw [h21]
      clear he h21
      rw [show errV 21 = .iface 32 (.int .i64 21) from rfl]
      go_wp2_with fail
      (try simp only [Exit.inBlock, Exit.then])
      refine bodyPost_ret (v := .tuple #[evV ev0 noV noV noV noV, .int .i64 (r : Int), errV 0]) (by simp (maxDischargeDepth := 9) [results, Tryz.results19, go_sem, strB, errV, j0, j1, j2, j3, j4, j5, j6, j7]) rfl ?_
      rw [HTE.out]
      exact tk_post (ev := ev0) (qv := noV) (pv := noV) HP9.out HX9.out HXw.out HO9.out (OwnsP.nil _ _ _) (OwnsP.nil _ _ _) (fun k hk => by rcases hk with a | a <;> cases a) rfl (only8 _ _ _ _ _ _ _ _ _ _)
    · obtain ⟨_, _, c2, c3, _, _, _, _, _, f⟩ := HP9.out.cells
      have f3 := f 3
      clear f
      have hPN : ¬ P = w.heap.size := by omega
      by_cases h0 : R.1 = 0
      · have hS64 : thC s l = if s.hd = 64 then ({ s with st := [] }, ev0, 0, 5) else if (frC s R.2.1).1 ≠ 0 then ({ s with st := [] }, ev0, 0, (frC s R.2.1).1) else if interB s R.2.1 = true then ({ s with st := [], hd := s.hd + 1 }, R.2.1, R.2.2 - s.st.length, 0) else (beginC { s with st := [], hd := s.hd + 1 } (frC s R.2.1).2.1 (frC s R.2.1).2.2, R.2.1, R.2.2 - s.st.length, 0) := by
          unfold thC rdC; rw [← HR.out, HRR.out, if_neg h21, if_neg (by simp [h0])]
        have H64 := Lib.hid hS64
        have H0 := Lib.hid h0
        rw [h0, show errV 0 = .nilIface from rfl]
        clear hS64 h0 h21
        go_upto_region 10 with fail
        have hO10 : Only (fun k => k = P) W9 (W9.setCell ⟨P, 3, none⟩ (.slice none 0 0)) := Only.set (X := fun k => k = P) rfl _ _ _
        have HP10 : Hid (ConP B P (fun k => X k ∨ sv'.ownBlock = some k) XM XD { s with st := [] } mv noV dv (W9.setCell ⟨P, 3, none⟩ noV)) := Lib.hid HP9.out.nost
        have hn0 := (hO10.block _ (by omega) (fun e => hPN e.symm)).trans HN0.out
        have HQ10 := Lib.hid (ownsP_only HQ9.out hO10 (fun k hk => by omega))
        have HR10 := Lib.hid (ownsP_only HR9.out hO10 (fun k hk => by omega))
        have h9 := (hO10.block _ (by omega) (fun e => by omega)).trans H9.out
        have HO10 := Lib.hid (HO9.out.trans' (Only.set HP.out.p _ 3 (.slice none 0 0)))
        have hz10 : (W9.setCell ⟨P, 3, none⟩ (.slice none 0 0)).heap.size = w4.heap.size + 1 := by simpa using hz9
        generalize hW10 : W9.setCell ⟨P, 3, none⟩ (.slice none 0 0) = W10 at *
        clear hW10 hO10 HP9 HN0 HQ9 HR9 H9 HO9 j0 j1 j2 j3 j4 j5 j6 j7 k0 k1 k2 k3 k4 k5 k6 k7 c3 f3 c2 HP3 HQ HPq
        have K := eight_at hn0
        have j0 : W10.cell? ⟨w.heap.size, 0, none⟩ = some (.int .i64 0) := (K 0).1
        have k0 := (K 0).2
        have j1 : W10.cell? ⟨w.heap.size, 1, none⟩ = some (.string ⟨#[]⟩) := (K 1).1
        have k1 := (K 1).2
        have j2 : W10.cell? ⟨w.heap.size, 2, none⟩ = some (.string ⟨#[]⟩) := (K 2).1
        have k2 := (K 2).2
        have j3 : W10.cell? ⟨w.heap.size, 3, none⟩ = some (noV) := (K 3).1
        have k3 := (K 3).2
        have j4 : W10.cell? ⟨w.heap.size, 4, none⟩ = some (.int .i64 0) := (K 4).1
        have k4 := (K 4).2
        have j5 : W10.cell? ⟨w.heap.size, 5, none⟩ = some (noV) := (K 5).1
        have k5 := (K 5).2
        have j6 : W10.cell? ⟨w.heap.size, 6, none⟩ = some (noV) := (K 6).1
        have k6 := (K 6).2
        have j7 : W10.cell? ⟨w.heap.size, 7, none⟩ = some (noV) := (K 7).1
        have k7 := (K 7).2
        clear K
        obtain ⟨_, _, c2, _, _, _, _, _, _, f⟩ := HP10.out.cells
        have f2 := f 2
        clear f
        by_cases h64 : s.hd = 64
        · have he := H64.out
          rw [if_pos h64] at he
          have HTE := Lib.hid he
          have hz : ((s.hd : Int) == 64) = true := by rw [h64]; rfl
          clear he H64 h64
          go_wp2_with fail
          (try simp only [Exit.inBlock, Exit.then])
          refine bodyPost_ret (v := .tuple #[evV ev0 noV noV noV noV, .int .i64 ((0 : Nat) : Int), errV 5]) (by simp (maxDischargeDepth := 9) [results, Tryz.results19, go_sem, strB, errV, j0, j1, j2, j3, j4, j5, j6, j7]) rfl ?_
          rw [HTE.out]
          exact tk_post (ev := ev0) (qv := noV) (pv := noV) (n := 0) HP10.out HX9.out HXw.out HO10.out (OwnsP.nil _ _ _) (OwnsP.nil _ _ _) (fun k hk => by rcases hk with a | a <;> cases a) rfl (only8 _ _ _ _ _ _ _ _ _ _)
        · have hz : ((s.hd : Int) == 64) = false := by simp; omega
          have H64 := Lib.hid (H64.out.trans (if_neg h64))
          go_upto_region 12 with fail
          obtain ⟨F, hF⟩ : ∃ F, frC s R.2.1 = F := ⟨_, rfl⟩
          have hfit := fits_hd s.rs (s.st ++ l.take r) (by rw [HL.out]; omega)
          rw [HRR.out] at hfit
          have hfe : frE R.2.1 (s.ms.headD []) = F := by
            have h := frE_frC (s := s) (l := s.st ++ l.take r) (by rw [HRR.out]; exact H0.out)
            rw [HRR.out] at h
            exact h.trans hF
          have hie : interE R.2.1 = interB s R.2.1 := by
            have h := inter_eq (s := s) (l := s.st ++ l.take r) (by rw [HRR.out]; exact H0.out)
            rw [HRR.out] at h
            exact h
          obtain ⟨M0, hM0⟩ : ∃ M0, s.ms.headD [] = M0 := ⟨_, rfl⟩
          rw [hM0] at hfe
          have FR : Hid (∀ V, Below W10.heap.size W10 V → Calls Tryz.prog 24 #[evV R.2.1 (.slice qa R.2.1.q.2.2.length qc) (.slice pa R.2.1.p.2.length pc) noV noV, .string (strB M0)] V (fun x w' => OfRes F V x w')) := Lib.hid (fun V hb => by
            have h := frame_any R.2.1 (.slice qa R.2.1.q.2.2.length qc) (.slice pa R.2.1.p.2.length pc) noV noV M0 V (HQ10.out.q.below hb) (HR10.out.q.below hb) hfit.1 hfit.2
            rw [hfe] at h
            exact h)
          unfold OfRes at FR
          have MT : Hid (∀ V, Below W10.heap.size W10 V → Calls Tryz.prog 25 #[.pointer (some ⟨P, 0, none⟩)] V fun e w' => e = .returned (.string (strB M0)) ∧ V = w') := Lib.hid (fun V hb => by
            have h := method_any (s := { s with st := [] }) (HP10.out.below hb)
            rw [show (({ s with st := [] } : Cn).ms.headD []) = M0 from hM0] at h
            exact h)
          have hS0 : W10.drew.heap[w4.heap.size]? = some (.cells #[.int .i64 (R.2.1.k : Int), .string (strB R.2.1.q.1), .string (strB R.2.1.q.2.1), .slice qa R.2.1.q.2.2.length qc, .int .i64 (R.2.1.p.1 : Int), .slice pa R.2.1.p.2.length pc, noV, noV] 42 (0, 0)) ∧ Below W10.heap.size W10 W10.drew := ⟨h9, (Below.refl _ _).drew⟩
          rw [hF] at H64
          have HIE := Lib.hid hie
          have H9 := Lib.hid h9
          have HN0 := Lib.hid hn0
          have h4z : w4.heap.size < W10.heap.size := by omega
          clear hM0 hfit hfe hF hie h9 hn0 j0 j1 j2 j3 j4 j5 j6 j7 k0 k1 k2 k3 k4 k5 k6 k7 c2 f2 E1 E2
          go_cut [11, 12] (fun u11 u12 wx => ∃ N, u11 = errV F.1 ∧ u12 = .pointer (some ⟨N, 0, none⟩) ∧ W10.heap.size ≤ N ∧ wx.heap[N]? = some (.cells #[.int .i64 (F.2.1 : Int), .int .i64 (F.2.2 : Int)] 48 (0, 0)) ∧ Below W10.heap.size W10 wx)
          case first =>
            refine wp_region_held_drew (S := fun V => V.heap[w4.heap.size]? = some (.cells #[.int .i64 (R.2.1.k : Int), .string (strB R.2.1.q.1), .string (strB R.2.1.q.2.1), .slice qa R.2.1.q.2.2.length qc, .int .i64 (R.2.1.p.1 : Int), .slice pa R.2.1.p.2.length pc, noV, noV] 42 (0, 0)) ∧ Below W10.heap.size W10 V) (by kernel_rfl) hS0 (fun hHeld => ?_)
            clear hHeld
            generalize W10.drew = V0 at *
            refine wpAnyH_take (i := 0) (oi := { dst := some 60, op := _, type := _, pos := _, after := _, guard := _ }) (v := ?_) rfl (by kernel_rfl) (by kernel_rfl) (by kernel_rfl) (fun _ _ _ h => h) (Or.inl ⟨by rfl, ?_⟩) hS0 ?_
            rotate_left
            focus (intro wv hSw; have K := eight_at hSw.1; have e0 : wv.cell? ⟨w4.heap.size, 0, none⟩ = some (.int .i64 (R.2.1.k : Int)) := (K 0).1; have e1 : wv.cell? ⟨w4.heap.size, 1, none⟩ = some (.string (strB R.2.1.q.1)) := (K 1).1; have e2 : wv.cell? ⟨w4.heap.size, 2, none⟩ = some (.string (strB R.2.1.q.2.1)) := (K 2).1; have e3 : wv.cell? ⟨w4.heap.size, 3, none⟩ = some (.slice qa R.2.1.q.2.2.length qc) := (K 3).1; have e4 : wv.cell? ⟨w4.heap.size, 4, none⟩ = some (.int .i64 (R.2.1.p.1 : Int)) := (K 4).1; have e5 : wv.cell? ⟨w4.heap.size, 5, none⟩ = some (.slice pa R.2.1.p.2.length pc) := (K 5).1; have e6 : wv.cell? ⟨w4.heap.size, 6, none⟩ = some (noV) := (K 6).1; have e7 : wv.cell? ⟨w4.heap.size, 7, none⟩ = some (noV) := (K 7).1; clear K hSw; first | (go_simp; done) | (go_simp; with_reducible rfl))
            (try simp only [Act.put, List.setIfInBounds_toArray, List.set_cons_zero, List.set_cons_succ])
            refine wpAnyH_take (i := 1) (oi := { dst := some 61, op := _, type := _, pos := _, after := _, guard := _ }) (v := ?_) rfl (by kernel_rfl) (by kernel_rfl) (by kernel_rfl) (fun _ _ _ h => h) (Or.inl ⟨by rfl, ?_⟩) hS0 ?_
            rotate_left
            focus (intro wv hSw; clear hSw; first | (go_simp; done) | (go_simp; with_reducible rfl))
            (try simp only [Act.put, List.setIfInBounds_toArray, List.set_cons_zero, List.set_cons_succ])
            refine wpAnyH_ready (rs := [2, 7]) (by kernel_rfl) (by simp) ?_
            refine AllReadyH.cons (o := { dst := some 62, op := _, type := _, pos := _, after := _, guard := _ }) rfl (fun K hK => ?_) ?_
            · go_simp
              refine (MT.out V0 hS0.2).mono ?_
              rintro en wv ⟨rfl, rfl⟩
              refine hK.out _ _ hS0 (fun _ => ?_)
              clear hK K
              (try simp only [Act.put, List.setIfInBounds_toArray, List.set_cons_zero, List.set_cons_succ])
              refine wpAnyH_ready (rs := [3, 7]) (by kernel_rfl) (by simp) ?_
              refine AllReadyH.cons (o := { dst := some 63, op := _, type := _, pos := _, after := _, guard := _ }) rfl (fun K hK => ?_) ?_
              · go_simp
                refine (FR.out V0 hS0.2).mono ?_
                rintro en V1 ⟨rfl, hBcV1⟩
                have hS1 : V1.heap[w4.heap.size]? = some (.cells #[.int .i64 (R.2.1.k : Int), .string (strB R.2.1.q.1), .string (strB R.2.1.q.2.1), .slice qa R.2.1.q.2.2.length qc, .int .i64 (R.2.1.p.1 : Int), .slice pa R.2.1.p.2.length pc, noV, noV] 42 (0, 0)) ∧ Below W10.heap.size W10 V1 := ⟨(hBcV1.block _ (Array.getElem?_eq_some_iff.1 hS0.1).1).trans hS0.1, hS0.2.trans (hBcV1.mono hS0.2.size)⟩
                refine hK.out _ _ hS1 (fun _ => ?_)
                clear hK K
                (try simp only [Act.put, List.setIfInBounds_toArray, List.set_cons_zero, List.set_cons_succ])
                refine wpAnyH_take (i := 4) (oi := { dst := some 59, op := _, type := _, pos := _, after := _, guard := _ }) (v := ?_) rfl (by kernel_rfl) (by kernel_rfl) (by kernel_rfl) (fun _ _ _ h => h) (Or.inl ⟨by rfl, ?_⟩) hS1 ?_
                rotate_left
                focus (intro wv hSw; clear hSw; first | (go_simp; done) | (go_simp; with_reducible rfl))
                (try simp only [Act.put, List.setIfInBounds_toArray, List.set_cons_zero, List.set_cons_succ])
                refine wpAnyH_take (i := 5) (oi := { dst := some 64, op := _, type := _, pos := _, after := _, guard := _ }) (v := ?_) rfl (by kernel_rfl) (by kernel_rfl) (by kernel_rfl) (fun _ _ _ h => h) (Or.inl ⟨by rfl, ?_⟩) hS1 ?_
                rotate_left
                focus (intro wv hSw; clear hSw; first | (go_simp; done) | (go_simp; with_reducible rfl))
                (try simp only [Act.put, List.setIfInBounds_toArray, List.set_cons_zero, List.set_cons_succ])
                refine wpAnyH_take (i := 6) (oi := { dst := some 65, op := _, type := _, pos := _, after := _, guard := _ }) (v := ?_) rfl (by kernel_rfl) (by kernel_rfl) (by kernel_rfl) (fun _ _ _ h => h) (Or.inl ⟨by rfl, ?_⟩) hS1 ?_
                rotate_left
                focus (intro wv hSw; clear hSw; first | (go_simp; done) | (go_simp; with_reducible rfl))
                (try simp only [Act.put, List.setIfInBounds_toArray, List.set_cons_zero, List.set_cons_succ])
                refine wpAnyH_ready (rs := [7]) (by kernel_rfl) (by simp) ?_
                refine AllReadyH.cons (o := { dst := some 12, op := _, type := _, pos := _, after := _, guard := _ }) rfl (fun K hK => ?_) AllReadyH.nil
                go_simp
                have hBcV2 := below_new V1 (.cells #[.int .i64 0, .int .i64 0] 48)
                have hbx := heap_alloc_new V1 (.cells #[.int .i64 0, .int .i64 0] 48)
                have hNx : W10.heap.size ≤ V1.heap.size := hS1.2.size
                have hS2 : (V1.alloc (.cells #[.int .i64 0, .int .i64 0] 48)).heap[w4.heap.size]? = some (.cells #[.int .i64 (R.2.1.k : Int), .string (strB R.2.1.q.1), .string (strB R.2.1.q.2.1), .slice qa R.2.1.q.2.2.length qc, .int .i64 (R.2.1.p.1 : Int), .slice pa R.2.1.p.2.length pc, noV, noV] 42 (0, 0)) ∧ Below W10.heap.size W10 (V1.alloc (.cells #[.int .i64 0, .int .i64 0] 48)) := ⟨(hBcV2.block _ (Array.getElem?_eq_some_iff.1 hS1.1).1).trans hS1.1, hS1.2.trans (hBcV2.mono hS1.2.size)⟩
                refine hK.out _ _ hS2 (fun _ => ?_)
                clear hK K
                (try simp only [Act.put, List.setIfInBounds_toArray, List.set_cons_zero, List.set_cons_succ])
                change wpAnyH _ _ _ _ _ _ _ _ (V1.alloc (.cells #[.int .i64 0, .int .i64 0] 48))
                generalize hNe : V1.heap.size = N at *
                generalize V1.alloc (.cells #[.int .i64 0, .int .i64 0] 48) = V2 at *
                refine wpAnyH_ready (rs := [8]) (by kernel_rfl) (by simp) ?_
                refine AllReadyH.cons (o := { dst := none, op := _, type := _, pos := _, after := _, guard := _ }) rfl (fun K hK => ?_) AllReadyH.nil
                have c0 : V2.cell? ⟨N, 0, none⟩ = some (.int .i64 0) := by rw [Lib.cell_of_heap hbx]; rfl
                have c1 : V2.cell? ⟨N, 1, none⟩ = some (.int .i64 0) := by rw [Lib.cell_of_heap hbx]; rfl
                have f0 := Lib.frozen_of_heap hbx 0
                have f1 := Lib.frozen_of_heap hbx 1
                go_simp
                have hfin := frame_box (F := F) hS2.2 hNx hbx
                have hSf : ((V2.setCell ⟨N, 0, none⟩ (.int .i64 (F.2.1 : Int))).setCell ⟨N, 1, none⟩ (.int .i64 (F.2.2 : Int))).heap[w4.heap.size]? = some (.cells #[.int .i64 (R.2.1.k : Int), .string (strB R.2.1.q.1), .string (strB R.2.1.q.2.1), .slice qa R.2.1.q.2.2.length qc, .int .i64 (R.2.1.p.1 : Int), .slice pa R.2.1.p.2.length pc, noV, noV] 42 (0, 0)) ∧ Below W10.heap.size W10 ((V2.setCell ⟨N, 0, none⟩ (.int .i64 (F.2.1 : Int))).setCell ⟨N, 1, none⟩ (.int .i64 (F.2.2 : Int))) := ⟨(hfin.2.2 _ (by omega) (Array.getElem?_eq_some_iff.1 hS2.1).1).trans hS2.1, hfin.2.1⟩
                refine hK.out _ _ hSf (fun _ => ?_)
                clear hK K
                (try simp only [Act.put, List.setIfInBounds_toArray, List.set_cons_zero, List.set_cons_succ])
                refine wpAnyH_take (i := 9) (oi := { dst := some 11, op := _, type := _, pos := _, after := _, guard := _ }) (v := ?_) rfl (by kernel_rfl) (by kernel_rfl) (by kernel_rfl) (fun _ _ _ h => h) (Or.inl ⟨by rfl, ?_⟩) hSf ?_
                rotate_left
                focus (intro wv hSw; clear hSw; first | (go_simp; done) | (go_simp; with_reducible rfl))
                (try simp only [Act.put, List.setIfInBounds_toArray, List.set_cons_zero, List.set_cons_succ])
                refine wpAnyH_done (by kernel_rfl) ?_ _
                (try go_wp2_with fail)
                go_meet
                exact ⟨N, rfl, rfl, hNx, hfin.1, hfin.2.1⟩
              · refine AllReadyH.cons (o := { dst := some 12, op := _, type := _, pos := _, after := _, guard := _ }) rfl (fun K hK => ?_) AllReadyH.nil
                go_simp
                have hBcV1 := below_new V0 (.cells #[.int .i64 0, .int .i64 0] 48)
                have hbx := heap_alloc_new V0 (.cells #[.int .i64 0, .int .i64 0] 48)
                have hNx : W10.heap.size ≤ V0.heap.size := hS0.2.size
                have hS1 : (V0.alloc (.cells #[.int .i64 0, .int .i64 0] 48)).heap[w4.heap.size]? = some (.cells #[.int .i64 (R.2.1.k : Int), .string (strB R.2.1.q.1), .string (strB R.2.1.q.2.1), .slice qa R.2.1.q.2.2.length qc, .int .i64 (R.2.1.p.1 : Int), .slice pa R.2.1.p.2.length pc, noV, noV] 42 (0, 0)) ∧ Below W10.heap.size W10 (V0.alloc (.cells #[.int .i64 0, .int .i64 0] 48)) := ⟨(hBcV1.block _ (Array.getElem?_eq_some_iff.1 hS0.1).1).trans hS0.1, hS0.2.trans (hBcV1.mono hS0.2.size)⟩
                refine hK.out _ _ hS1 (fun _ => ?_)
                clear hK K
                (try simp only [Act.put, List.setIfInBounds_toArray, List.set_cons_zero, List.set_cons_succ])
                change wpAnyH _ _ _ _ _ _ _ _ (V0.alloc (.cells #[.int .i64 0, .int .i64 0] 48))
                generalize hNe : V0.heap.size = N at *
                generalize V0.alloc (.cells #[.int .i64 0, .int .i64 0] 48) = V1 at *
                refine wpAnyH_ready (rs := [3]) (by kernel_rfl) (by simp) ?_
                refine AllReadyH.cons (o := { dst := some 63, op := _, type := _, pos := _, after := _, guard := _ }) rfl (fun K hK => ?_) AllReadyH.nil
                go_simp
                refine (FR.out V1 hS1.2).mono ?_
                rintro en V2 ⟨rfl, hBcV2⟩
                have hS2 : V2.heap[w4.heap.size]? = some (.cells #[.int .i64 (R.2.1.k : Int), .string (strB R.2.1.q.1), .string (strB R.2.1.q.2.1), .slice qa R.2.1.q.2.2.length qc, .int .i64 (R.2.1.p.1 : Int), .slice pa R.2.1.p.2.length pc, noV, noV] 42 (0, 0)) ∧ Below W10.heap.size W10 V2 := ⟨(hBcV2.block _ (Array.getElem?_eq_some_iff.1 hS1.1).1).trans hS1.1, hS1.2.trans (hBcV2.mono hS1.2.size)⟩
                refine hK.out _ _ hS2 (fun _ => ?_)
                clear hK K
                (try simp only [Act.put, List.setIfInBounds_toArray, List.set_cons_zero, List.set_cons_succ])
                have hbx := (hBcV2.block _ (Array.getElem?_eq_some_iff.1 hbx).1).trans hbx
                refine wpAnyH_take (i := 4) (oi := { dst := some 59, op := _, type := _, pos := _, after := _, guard := _ }) (v := ?_) rfl (by kernel_rfl) (by kernel_rfl) (by kernel_rfl) (fun _ _ _ h => h) (Or.inl ⟨by rfl, ?_⟩) hS2 ?_
                rotate_left
                focus (intro wv hSw; clear hSw; first | (go_simp; done) | (go_simp; with_reducible rfl))
                (try simp only [Act.put, List.setIfInBounds_toArray, List.set_cons_zero, List.set_cons_succ])
                refine wpAnyH_take (i := 5) (oi := { dst := some 64, op := _, type := _, pos := _, after := _, guard := _ }) (v := ?_) rfl (by kernel_rfl) (by kernel_rfl) (by kernel_rfl) (fun _ _ _ h => h) (Or.inl ⟨by rfl, ?_⟩) hS2 ?_
                rotate_left
                focus (intro wv hSw; clear hSw; first | (go_simp; done) | (go_simp; with_reducible rfl))
                (try simp only [Act.put, List.setIfInBounds_toArray, List.set_cons_zero, List.set_cons_succ])
                refine wpAnyH_take (i := 6) (oi := { dst := some 65, op := _, type := _, pos := _, after := _, guard := _ }) (v := ?_) rfl (by kernel_rfl) (by kernel_rfl) (by kernel_rfl) (fun _ _ _ h => h) (Or.inl ⟨by rfl, ?_⟩) hS2 ?_
                rotate_left
                focus (intro wv hSw; clear hSw; first | (go_simp; done) | (go_simp; with_reducible rfl))
                (try simp only [Act.put, List.setIfInBounds_toArray, List.set_cons_zero, List.set_cons_succ])
                refine wpAnyH_ready (rs := [8]) (by kernel_rfl) (by simp) ?_
                refine AllReadyH.cons (o := { dst := none, op := _, type := _, pos := _, after := _, guard := _ }) rfl (fun K hK => ?_) AllReadyH.nil
                have c0 : V2.cell? ⟨N, 0, none⟩ = some (.int .i64 0) := by rw [Lib.cell_of_heap hbx]; rfl
                have c1 : V2.cell? ⟨N, 1, none⟩ = some (.int .i64 0) := by rw [Lib.cell_of_heap hbx]; rfl
                have f0 := Lib.frozen_of_heap hbx 0
                have f1 := Lib.frozen_of_heap hbx 1
                go_simp
                have hfin := frame_box (F := F) hS2.2 hNx hbx
                have hSf : ((V2.setCell ⟨N, 0, none⟩ (.int .i64 (F.2.1 : Int))).setCell ⟨N, 1, none⟩ (.int .i64 (F.2.2 : Int))).heap[w4.heap.size]? = some (.cells #[.int .i64 (R.2.1.k : Int), .string (strB R.2.1.q.1), .string (strB R.2.1.q.2.1), .slice qa R.2.1.q.2.2.length qc, .int .i64 (R.2.1.p.1 : Int), .slice pa R.2.1.p.2.length pc, noV, noV] 42 (0, 0)) ∧ Below W10.heap.size W10 ((V2.setCell ⟨N, 0, none⟩ (.int .i64 (F.2.1 : Int))).setCell ⟨N, 1, none⟩ (.int .i64 (F.2.2 : Int))) := ⟨(hfin.2.2 _ (by omega) (Array.getElem?_eq_some_iff.1 hS2.1).1).trans hS2.1, hfin.2.1⟩
                refine hK.out _ _ hSf (fun _ => ?_)
                clear hK K
                (try simp only [Act.put, List.setIfInBounds_toArray, List.set_cons_zero, List.set_cons_succ])
                refine wpAnyH_take (i := 9) (oi := { dst := some 11, op := _, type := _, pos := _, after := _, guard := _ }) (v := ?_) rfl (by kernel_rfl) (by kernel_rfl) (by kernel_rfl) (fun _ _ _ h => h) (Or.inl ⟨by rfl, ?_⟩) hSf ?_
                rotate_left
                focus (intro wv hSw; clear hSw; first | (go_simp; done) | (go_simp; with_reducible rfl))
                (try simp only [Act.put, List.setIfInBounds_toArray, List.set_cons_zero, List.set_cons_succ])
                refine wpAnyH_done (by kernel_rfl) ?_ _
                (try go_wp2_with fail)
                go_meet
                exact ⟨N, rfl, rfl, hNx, hfin.1, hfin.2.1⟩
            · refine AllReadyH.cons (o := { dst := some 12, op := _, type := _, pos := _, after := _, guard := _ }) rfl (fun K hK => ?_) AllReadyH.nil
              go_simp
              have hBcV1 := below_new V0 (.cells #[.int .i64 0, .int .i64 0] 48)
              have hbx := heap_alloc_new V0 (.cells #[.int .i64 0, .int .i64 0] 48)
              have hNx : W10.heap.size ≤ V0.heap.size := hS0.2.size
              have hS1 : (V0.alloc (.cells #[.int .i64 0, .int .i64 0] 48)).heap[w4.heap.size]? = some (.cells #[.int .i64 (R.2.1.k : Int), .string (strB R.2.1.q.1), .string (strB R.2.1.q.2.1), .slice qa R.2.1.q.2.2.length qc, .int .i64 (R.2.1.p.1 : Int), .slice pa R.2.1.p.2.length pc, noV, noV] 42 (0, 0)) ∧ Below W10.heap.size W10 (V0.alloc (.cells #[.int .i64 0, .int .i64 0] 48)) := ⟨(hBcV1.block _ (Array.getElem?_eq_some_iff.1 hS0.1).1).trans hS0.1, hS0.2.trans (hBcV1.mono hS0.2.size)⟩
              refine hK.out _ _ hS1 (fun _ => ?_)
              clear hK K
              (try simp only [Act.put, List.setIfInBounds_toArray, List.set_cons_zero, List.set_cons_succ])
              change wpAnyH _ _ _ _ _ _ _ _ (V0.alloc (.cells #[.int .i64 0, .int .i64 0] 48))
              generalize hNe : V0.heap.size = N at *
              generalize V0.alloc (.cells #[.int .i64 0, .int .i64 0] 48) = V1 at *
              refine wpAnyH_ready (rs := [2]) (by kernel_rfl) (by simp) ?_
              refine AllReadyH.cons (o := { dst := some 62, op := _, type := _, pos := _, after := _, guard := _ }) rfl (fun K hK => ?_) AllReadyH.nil
              go_simp
              refine (MT.out V1 hS1.2).mono ?_
              rintro en wv ⟨rfl, rfl⟩
              refine hK.out _ _ hS1 (fun _ => ?_)
              clear hK K
              (try simp only [Act.put, List.setIfInBounds_toArray, List.set_cons_zero, List.set_cons_succ])
              refine wpAnyH_ready (rs := [3]) (by kernel_rfl) (by simp) ?_
              refine AllReadyH.cons (o := { dst := some 63, op := _, type := _, pos := _, after := _, guard := _ }) rfl (fun K hK => ?_) AllReadyH.nil
              go_simp
              refine (FR.out V1 hS1.2).mono ?_
              rintro en V2 ⟨rfl, hBcV2⟩
              have hS2 : V2.heap[w4.heap.size]? = some (.cells #[.int .i64 (R.2.1.k : Int), .string (strB R.2.1.q.1), .string (strB R.2.1.q.2.1), .slice qa R.2.1.q.2.2.length qc, .int .i64 (R.2.1.p.1 : Int), .slice pa R.2.1.p.2.length pc, noV, noV] 42 (0, 0)) ∧ Below W10.heap.size W10 V2 := ⟨(hBcV2.block _ (Array.getElem?_eq_some_iff.1 hS1.1).1).trans hS1.1, hS1.2.trans (hBcV2.mono hS1.2.size)⟩
              refine hK.out _ _ hS2 (fun _ => ?_)
              clear hK K
              (try simp only [Act.put, List.setIfInBounds_toArray, List.set_cons_zero, List.set_cons_succ])
              have hbx := (hBcV2.block _ (Array.getElem?_eq_some_iff.1 hbx).1).trans hbx
              refine wpAnyH_take (i := 4) (oi := { dst := some 59, op := _, type := _, pos := _, after := _, guard := _ }) (v := ?_) rfl (by kernel_rfl) (by kernel_rfl) (by kernel_rfl) (fun _ _ _ h => h) (Or.inl ⟨by rfl, ?_⟩) hS2 ?_
              rotate_left
              focus (intro wv hSw; clear hSw; first | (go_simp; done) | (go_simp; with_reducible rfl))
              (try simp only [Act.put, List.setIfInBounds_toArray, List.set_cons_zero, List.set_cons_succ])
              refine wpAnyH_take (i := 5) (oi := { dst := some 64, op := _, type := _, pos := _, after := _, guard := _ }) (v := ?_) rfl (by kernel_rfl) (by kernel_rfl) (by kernel_rfl) (fun _ _ _ h => h) (Or.inl ⟨by rfl, ?_⟩) hS2 ?_
              rotate_left
              focus (intro wv hSw; clear hSw; first | (go_simp; done) | (go_simp; with_reducible rfl))
              (try simp only [Act.put, List.setIfInBounds_toArray, List.set_cons_zero, List.set_cons_succ])
              refine wpAnyH_take (i := 6) (oi := { dst := some 65, op := _, type := _, pos := _, after := _, guard := _ }) (v := ?_) rfl (by kernel_rfl) (by kernel_rfl) (by kernel_rfl) (fun _ _ _ h => h) (Or.inl ⟨by rfl, ?_⟩) hS2 ?_
              rotate_left
              focus (intro wv hSw; clear hSw; first | (go_simp; done) | (go_simp; with_reducible rfl))
              (try simp only [Act.put, List.setIfInBounds_toArray, List.set_cons_zero, List.set_cons_succ])
              refine wpAnyH_ready (rs := [8]) (by kernel_rfl) (by simp) ?_
              refine AllReadyH.cons (o := { dst := none, op := _, type := _, pos := _, after := _, guard := _ }) rfl (fun K hK => ?_) AllReadyH.nil
              have c0 : V2.cell? ⟨N, 0, none⟩ = some (.int .i64 0) := by rw [Lib.cell_of_heap hbx]; rfl
              have c1 : V2.cell? ⟨N, 1, none⟩ = some (.int .i64 0) := by rw [Lib.cell_of_heap hbx]; rfl
              have f0 := Lib.frozen_of_heap hbx 0
              have f1 := Lib.frozen_of_heap hbx 1
              go_simp
              have hfin := frame_box (F := F) hS2.2 hNx hbx
              have hSf : ((V2.setCell ⟨N, 0, none⟩ (.int .i64 (F.2.1 : Int))).setCell ⟨N, 1, none⟩ (.int .i64 (F.2.2 : Int))).heap[w4.heap.size]? = some (.cells #[.int .i64 (R.2.1.k : Int), .string (strB R.2.1.q.1), .string (strB R.2.1.q.2.1), .slice qa R.2.1.q.2.2.length qc, .int .i64 (R.2.1.p.1 : Int), .slice pa R.2.1.p.2.length pc, noV, noV] 42 (0, 0)) ∧ Below W10.heap.size W10 ((V2.setCell ⟨N, 0, none⟩ (.int .i64 (F.2.1 : Int))).setCell ⟨N, 1, none⟩ (.int .i64 (F.2.2 : Int))) := ⟨(hfin.2.2 _ (by omega) (Array.getElem?_eq_some_iff.1 hS2.1).1).trans hS2.1, hfin.2.1⟩
              refine hK.out _ _ hSf (fun _ => ?_)
              clear hK K
              (try simp only [Act.put, List.setIfInBounds_toArray, List.set_cons_zero, List.set_cons_succ])
              refine wpAnyH_take (i := 9) (oi := { dst := some 11, op := _, type := _, pos := _, after := _, guard := _ }) (v := ?_) rfl (by kernel_rfl) (by kernel_rfl) (by kernel_rfl) (fun _ _ _ h => h) (Or.inl ⟨by rfl, ?_⟩) hSf ?_
              rotate_left
              focus (intro wv hSw; clear hSw; first | (go_simp; done) | (go_simp; with_reducible rfl))
              (try simp only [Act.put, List.setIfInBounds_toArray, List.set_cons_zero, List.set_cons_succ])
              refine wpAnyH_done (by kernel_rfl) ?_ _
              (try go_wp2_with fail)
              go_meet
              exact ⟨N, rfl, rfl, hNx, hfin.1, hfin.2.1⟩
          case rest =>
            obtain ⟨N, rfl, rfl, hN, hx, hbc⟩ := hcut
            have HBC := Lib.hid hbc
            have hn9 := (hbc.block _ h4z).trans H9.out
            have hn0 := (hbc.block _ (by omega)).trans HN0.out
            have HPc := Lib.hid (HP10.out.below hbc)
            have HQc := Lib.hid (OwnsP.below HQ10.out hbc)
            have HRc := Lib.hid (OwnsP.below HR10.out hbc)
            have HOc := Lib.hid (HO10.out.trans' (Only.below hbc))
            have hsc := hbc.size
            rename World => wF
            clear hbc HP10 HQ10 HR10 HO10 H9 HN0 FR MT
            apply_assumption
            by_cases hF1 : F.1 = 0
            · have HTE := Lib.hid (H64.out.trans (if_neg (by simp [hF1])))
              rw [hF1, show errV 0 = .nilIface from rfl]
              clear hF1 H64
              obtain ⟨_, _, c2, _, _, _, _, _, _, f⟩ := HPc.out.cells
              have f2 := f 2
              clear f
              have h7 := HOK.out.o7
              have hwh : IntKind.i64.wrap ((s.hd : Int) + 1) = (s.hd : Int) + 1 := IntWalk.i64_in _ (by omega)
              have hP11 : ConP B P (fun k => X k ∨ sv'.ownBlock = some k) XM XD { s with st := [], hd := s.hd + 1 } mv noV dv (wF.setCell ⟨P, 2, none⟩ (.int .i64 ((s.hd : Int) + 1))) := HPc.out.hd (n := s.hd + 1) (by omega)
              have hO11 : Only (fun k => k = P) wF (wF.setCell ⟨P, 2, none⟩ (.int .i64 ((s.hd : Int) + 1))) := Only.set (X := fun k => k = P) rfl _ _ _
              have HN0 := Lib.hid ((hO11.block _ (by omega) (fun e => hPN e.symm)).trans hn0)
              have HN9 := Lib.hid ((hO11.block _ (by omega) (fun e => by omega)).trans hn9)
              have HNX := Lib.hid ((hO11.block _ (Array.getElem?_eq_some_iff.1 hx).1 (fun e => by omega)).trans hx)
              have HQ11 := Lib.hid (ownsP_only HQc.out hO11 (fun k hk => by omega))
              have HR11 := Lib.hid (ownsP_only HRc.out hO11 (fun k hk => by omega))
              have HO11 := Lib.hid (HOc.out.trans' (Only.set HP.out.p _ 2 (.int .i64 ((s.hd : Int) + 1))))
              have hs11 := hO11.size
              have HP11 := Lib.hid hP11
              go_upto_region 16 with fail
              generalize hW11 : wF.setCell ⟨P, 2, none⟩ (.int .i64 ((s.hd : Int) + 1)) = W11 at *
              clear hW11 hO11 hP11 HPc HQc HRc HOc c2 f2 hn0 hn9 hx hwh
              have K := eight_at HN9.out
              have e0 : W11.cell? ⟨w4.heap.size, 0, none⟩ = some (.int .i64 (R.2.1.k : Int)) := (K 0).1
              have e1 : W11.cell? ⟨w4.heap.size, 1, none⟩ = some (.string (strB R.2.1.q.1)) := (K 1).1
              have e2 : W11.cell? ⟨w4.heap.size, 2, none⟩ = some (.string (strB R.2.1.q.2.1)) := (K 2).1
              have e3 : W11.cell? ⟨w4.heap.size, 3, none⟩ = some (.slice qa R.2.1.q.2.2.length qc) := (K 3).1
              have e4 : W11.cell? ⟨w4.heap.size, 4, none⟩ = some (.int .i64 (R.2.1.p.1 : Int)) := (K 4).1
              have e5 : W11.cell? ⟨w4.heap.size, 5, none⟩ = some (.slice pa R.2.1.p.2.length pc) := (K 5).1
              have e6 : W11.cell? ⟨w4.heap.size, 6, none⟩ = some (noV) := (K 6).1
              have e7 : W11.cell? ⟨w4.heap.size, 7, none⟩ = some (noV) := (K 7).1
              clear K
              go_wp2_with fail
              refine (isInterim_any R.2.1 (.slice qa R.2.1.q.2.2.length qc) (.slice pa R.2.1.p.2.length pc) noV noV W11).mono ?_
              rintro en W12 ⟨rfl, hB12⟩
              rw [HIE.out]
              obtain ⟨i1, i2, _⟩ := runC_head (l.take r) HA.out (HOK.out.o1 HA.out.1 HA.out.2.1) (by rw [HRR.out]; exact H0.out)
              rw [HRR.out] at i1 i2
              obtain ⟨n, hn⟩ : ∃ n, n = R.2.2 - s.st.length := ⟨_, rfl⟩
              have hns : (R.2.2 : Int) - (s.st.length : Int) = (n : Int) := by omega
              have hnw : IntKind.i64.wrap (n : Int) = (n : Int) := IntWalk.i64_in _ (by omega)
              have HRD : Hid (R.2.1.d = []) := Lib.hid (by rw [← HRR.out]; unfold hdR; split <;> rfl)
              rw [← hn] at HTE
              have HP12 := Lib.hid (HP11.out.below hB12)
              have HQ12 := Lib.hid (OwnsP.below HQ11.out hB12)
              have HR12 := Lib.hid (OwnsP.below HR11.out hB12)
              have HO12 := Lib.hid (HO11.out.trans' (Only.below hB12))
              have hs12 := hB12.size
              have hn0 := (hB12.block _ (by omega)).trans HN0.out
              have hn9 := (hB12.block _ (by omega)).trans HN9.out
              have hnx := (hB12.block _ (Array.getElem?_eq_some_iff.1 HNX.out).1).trans HNX.out
              clear hn i1 i2 e0 e1 e2 e3 e4 e5 e6 e7 HP11 HQ11 HR11 HO11 HN0 HN9 HNX hB12
              cases hI : interB s R.2.1 with
              | true =>
                have HTE := Lib.hid (HTE.out.trans (if_pos hI))
                clear hI
                have K := eight_at hn0
                have j0 : W12.cell? ⟨w.heap.size, 0, none⟩ = some (.int .i64 0) := (K 0).1
                have k0 := (K 0).2
                have j1 : W12.cell? ⟨w.heap.size, 1, none⟩ = some (.string ⟨#[]⟩) := (K 1).1
                have k1 := (K 1).2
                have j2 : W12.cell? ⟨w.heap.size, 2, none⟩ = some (.string ⟨#[]⟩) := (K 2).1
                have k2 := (K 2).2
                have j3 : W12.cell? ⟨w.heap.size, 3, none⟩ = some (noV) := (K 3).1
                have k3 := (K 3).2
                have j4 : W12.cell? ⟨w.heap.size, 4, none⟩ = some (.int .i64 0) := (K 4).1
                have k4 := (K 4).2
                have j5 : W12.cell? ⟨w.heap.size, 5, none⟩ = some (noV) := (K 5).1
                have k5 := (K 5).2
                have j6 : W12.cell? ⟨w.heap.size, 6, none⟩ = some (noV) := (K 6).1
                have k6 := (K 6).2
                have j7 : W12.cell? ⟨w.heap.size, 7, none⟩ = some (noV) := (K 7).1
                have k7 := (K 7).2
                clear K
                have K := eight_at hn9
                have e0 : W12.cell? ⟨w4.heap.size, 0, none⟩ = some (.int .i64 (R.2.1.k : Int)) := (K 0).1
                have e1 : W12.cell? ⟨w4.heap.size, 1, none⟩ = some (.string (strB R.2.1.q.1)) := (K 1).1
                have e2 : W12.cell? ⟨w4.heap.size, 2, none⟩ = some (.string (strB R.2.1.q.2.1)) := (K 2).1
                have e3 : W12.cell? ⟨w4.heap.size, 3, none⟩ = some (.slice qa R.2.1.q.2.2.length qc) := (K 3).1
                have e4 : W12.cell? ⟨w4.heap.size, 4, none⟩ = some (.int .i64 (R.2.1.p.1 : Int)) := (K 4).1
                have e5 : W12.cell? ⟨w4.heap.size, 5, none⟩ = some (.slice pa R.2.1.p.2.length pc) := (K 5).1
                have e6 : W12.cell? ⟨w4.heap.size, 6, none⟩ = some (noV) := (K 6).1
                have e7 : W12.cell? ⟨w4.heap.size, 7, none⟩ = some (noV) := (K 7).1
                clear K
                go_wp2_with fail
                (try simp only [Exit.inBlock, Exit.then])
                refine bodyPost_ret (v := .tuple #[evV R.2.1 (.slice qa R.2.1.q.2.2.length qc) (.slice pa R.2.1.p.2.length pc) noV noV, .int .i64 ((n : Nat) : Int), errV 0]) (by simp (maxDischargeDepth := 9) [results, Tryz.results19, go_sem, strB, errV, j0, j1, j2, j3, j4, j5, j6, j7]) rfl ?_
                rw [HTE.out]
                exact tk_post (ev := R.2.1) (qv := (.slice qa R.2.1.q.2.2.length qc)) (pv := (.slice pa R.2.1.p.2.length pc)) (n := n) HP12.out HX9.out HXw.out HO12.out HQ12.out HR12.out (fun k hk => (HqX.out k hk).1) HRD.out (only8 _ _ _ _ _ _ _ _ _ _)
              | false =>
                have HTE := Lib.hid (HTE.out.trans (if_neg (by simp [hI])))
                have b0 : W12.cell? ⟨N, 0, none⟩ = some (.int .i64 (F.2.1 : Int)) := by rw [Lib.cell_of_heap hnx]; rfl
                have b1 : W12.cell? ⟨N, 1, none⟩ = some (.int .i64 (F.2.2 : Int)) := by rw [Lib.cell_of_heap hnx]; rfl
                have BG := Lib.hid (begin_any F.2.1 F.2.2 W12 ⟨mv, noV, dv, XM, XD, HP12.out⟩ (HOK.out.o6 (by rw [HA.out.2.1]; decide)))
                have HN0 := Lib.hid hn0
                have HN9 := Lib.hid hn9
                clear hI hn0 hn9 hnx
                go_wp2_with fail
                refine BG.out.mono ?_
                rintro en W13 ⟨rfl, X2, hX2, ⟨mv2, sv2, dv2, XM2, XD2, hp2⟩, hO2⟩
                have HP13 := Lib.hid hp2
                have HX13 : Hid (∀ k, X2 k → X k ∨ w.heap.size < k) := Lib.hid (fun k hk => by
                  rcases hX2 k hk with a | a
                  · exact HX9.out k a
                  · exact .inr (by omega))
                have HO13 := Lib.hid (HO12.out.trans hO2 (fun i hi => (HX9.out i hi).imp id Nat.le_of_lt))
                have HQ13 := Lib.hid (hO2.owns HQ12.out (fun k hk => (HqX.out k (.inl hk)).1))
                have HR13 := Lib.hid (hO2.owns HR12.out (fun k hk => (HqX.out k (.inr hk)).1))
                have HD13 := Lib.hid (fun k hk (a : X2 k) => (hX2 k a).elim (fun b => (HqX.out k hk).1 b) (fun b => by have := (HqX.out k hk).2; omega))
                have hn0 := (hO2.block _ (by omega) (fun a => (HX9.out _ a).elim (fun b => Nat.lt_irrefl _ (HXw.out _ b)) (fun b => Nat.lt_irrefl _ b))).trans HN0.out
                have hn9 := (hO2.block _ (by omega) (fun a => Nat.lt_irrefl _ (HX1.out _ a))).trans HN9.out
                clear b0 b1 BG hX2 hp2 hO2 HN0 HN9
                have K := eight_at hn0
                have j0 : W13.cell? ⟨w.heap.size, 0, none⟩ = some (.int .i64 0) := (K 0).1
                have k0 := (K 0).2
                have j1 : W13.cell? ⟨w.heap.size, 1, none⟩ = some (.string ⟨#[]⟩) := (K 1).1
                have k1 := (K 1).2
                have j2 : W13.cell? ⟨w.heap.size, 2, none⟩ = some (.string ⟨#[]⟩) := (K 2).1
                have k2 := (K 2).2
                have j3 : W13.cell? ⟨w.heap.size, 3, none⟩ = some (noV) := (K 3).1
                have k3 := (K 3).2
                have j4 : W13.cell? ⟨w.heap.size, 4, none⟩ = some (.int .i64 0) := (K 4).1
                have k4 := (K 4).2
                have j5 : W13.cell? ⟨w.heap.size, 5, none⟩ = some (noV) := (K 5).1
                have k5 := (K 5).2
                have j6 : W13.cell? ⟨w.heap.size, 6, none⟩ = some (noV) := (K 6).1
                have k6 := (K 6).2
                have j7 : W13.cell? ⟨w.heap.size, 7, none⟩ = some (noV) := (K 7).1
                have k7 := (K 7).2
                clear K
                have K := eight_at hn9
                have e0 : W13.cell? ⟨w4.heap.size, 0, none⟩ = some (.int .i64 (R.2.1.k : Int)) := (K 0).1
                have e1 : W13.cell? ⟨w4.heap.size, 1, none⟩ = some (.string (strB R.2.1.q.1)) := (K 1).1
                have e2 : W13.cell? ⟨w4.heap.size, 2, none⟩ = some (.string (strB R.2.1.q.2.1)) := (K 2).1
                have e3 : W13.cell? ⟨w4.heap.size, 3, none⟩ = some (.slice qa R.2.1.q.2.2.length qc) := (K 3).1
                have e4 : W13.cell? ⟨w4.heap.size, 4, none⟩ = some (.int .i64 (R.2.1.p.1 : Int)) := (K 4).1
                have e5 : W13.cell? ⟨w4.heap.size, 5, none⟩ = some (.slice pa R.2.1.p.2.length pc) := (K 5).1
                have e6 : W13.cell? ⟨w4.heap.size, 6, none⟩ = some (noV) := (K 6).1
                have e7 : W13.cell? ⟨w4.heap.size, 7, none⟩ = some (noV) := (K 7).1
                clear K
                go_wp2_with fail
                (try simp only [Exit.inBlock, Exit.then])
                refine bodyPost_ret (v := .tuple #[evV R.2.1 (.slice qa R.2.1.q.2.2.length qc) (.slice pa R.2.1.p.2.length pc) noV noV, .int .i64 ((n : Nat) : Int), errV 0]) (by simp (maxDischargeDepth := 9) [results, Tryz.results19, go_sem, strB, errV, j0, j1, j2, j3, j4, j5, j6, j7]) rfl ?_
                rw [HTE.out]
                exact tk_post (ev := R.2.1) (qv := (.slice qa R.2.1.q.2.2.length qc)) (pv := (.slice pa R.2.1.p.2.length pc)) (n := n) HP13.out HX13.out HXw.out HO13.out HQ13.out HR13.out HD13.out HRD.out (only8 _ _ _ _ _ _ _ _ _ _)
            · have HTE := Lib.hid (H64.out.trans (if_pos hF1))
              have HE : Hid (errV F.1 = .iface 32 (.int .i64 (F.1 : Int))) := Lib.hid (if_neg hF1)
              rw [HE.out]
              clear hF1 H64
              have K := eight_at hn0
              have j0 : wF.cell? ⟨w.heap.size, 0, none⟩ = some (.int .i64 0) := (K 0).1
              have k0 := (K 0).2
              have j1 : wF.cell? ⟨w.heap.size, 1, none⟩ = some (.string ⟨#[]⟩) := (K 1).1
              have k1 := (K 1).2
              have j2 : wF.cell? ⟨w.heap.size, 2, none⟩ = some (.string ⟨#[]⟩) := (K 2).1
              have k2 := (K 2).2
              have j3 : wF.cell? ⟨w.heap.size, 3, none⟩ = some (noV) := (K 3).1
              have k3 := (K 3).2
              have j4 : wF.cell? ⟨w.heap.size, 4, none⟩ = some (.int .i64 0) := (K 4).1
              have k4 := (K 4).2
              have j5 : wF.cell? ⟨w.heap.size, 5, none⟩ = some (noV) := (K 5).1
              have k5 := (K 5).2
              have j6 : wF.cell? ⟨w.heap.size, 6, none⟩ = some (noV) := (K 6).1
              have k6 := (K 6).2
              have j7 : wF.cell? ⟨w.heap.size, 7, none⟩ = some (noV) := (K 7).1
              have k7 := (K 7).2
              clear K
              go_wp2_with fail
              (try simp only [Exit.inBlock, Exit.then])
              refine bodyPost_ret (v := .tuple #[evV ev0 noV noV noV noV, .int .i64 ((0 : Nat) : Int), errV F.1]) (by simp (maxDischargeDepth := 9) [results, Tryz.results19, go_sem, strB, HE.out, j0, j1, j2, j3, j4, j5, j6, j7]) rfl ?_
              rw [HTE.out]
              exact tk_post (ev := ev0) (qv := noV) (pv := noV) (n := 0) HPc.out HX9.out HXw.out HOc.out (OwnsP.nil _ _ _) (OwnsP.nil _ _ _) (fun k hk => by rcases hk with a | a <;> cases a) rfl (only8 _ _ _ _ _ _ _ _ _ _)
      · have he : thC s l = ({ s with st := [] }, ev0, 0, R.1) := by
          unfold thC rdC; rw [← HR.out, HRR.out, if_neg h21, if_pos h0]
        have hz : ((R.1 : Int) == 21) = false := by simp; omega
        have HE : Hid (errV R.1 = .iface 32 (.int .i64 (R.1 : Int))) := Lib.hid (if_neg h0)
        have HTE := Lib.hid he
        rw [HE.out]
        clear he h21 h0
        go_upto_region 9 with fail
        have hO10 : Only (fun k => k = P) W9 (W9.setCell ⟨P, 3, none⟩ (.slice none 0 0)) := Only.set (X := fun k => k = P) rfl _ _ _
        have HP10 : Hid (ConP B P (fun k => X k ∨ sv'.ownBlock = some k) XM XD { s with st := [] } mv noV dv (W9.setCell ⟨P, 3, none⟩ noV)) := Lib.hid HP9.out.nost
        have hn0 := (hO10.block _ (by omega) (fun e => hPN e.symm)).trans HN0.out
        have HQ10 := Lib.hid (ownsP_only HQ9.out hO10 (fun k hk => by omega))
        have HR10 := Lib.hid (ownsP_only HR9.out hO10 (fun k hk => by omega))
        have h9 := (hO10.block _ (by omega) (fun e => by omega)).trans H9.out
        have HO10 := Lib.hid (HO9.out.trans' (Only.set HP.out.p _ 3 (.slice none 0 0)))
        have hz10 : (W9.setCell ⟨P, 3, none⟩ (.slice none 0 0)).heap.size = w4.heap.size + 1 := by simpa using hz9
        generalize hW10 : W9.setCell ⟨P, 3, none⟩ (.slice none 0 0) = W10 at *
        clear hW10 hO10 HP9 HN0 HQ9 HR9 H9 HO9 j0 j1 j2 j3 j4 j5 j6 j7 k0 k1 k2 k3 k4 k5 k6 k7 c3 f3 c2 HP3 HQ HPq
        have K := eight_at hn0
        have j0 : W10.cell? ⟨w.heap.size, 0, none⟩ = some (.int .i64 0) := (K 0).1
        have k0 := (K 0).2
        have j1 : W10.cell? ⟨w.heap.size, 1, none⟩ = some (.string ⟨#[]⟩) := (K 1).1
        have k1 := (K 1).2
        have j2 : W10.cell? ⟨w.heap.size, 2, none⟩ = some (.string ⟨#[]⟩) := (K 2).1
        have k2 := (K 2).2
        have j3 : W10.cell? ⟨w.heap.size, 3, none⟩ = some (noV) := (K 3).1
        have k3 := (K 3).2
        have j4 : W10.cell? ⟨w.heap.size, 4, none⟩ = some (.int .i64 0) := (K 4).1
        have k4 := (K 4).2
        have j5 : W10.cell? ⟨w.heap.size, 5, none⟩ = some (noV) := (K 5).1
        have k5 := (K 5).2
        have j6 : W10.cell? ⟨w.heap.size, 6, none⟩ = some (noV) := (K 6).1
        have k6 := (K 6).2
        have j7 : W10.cell? ⟨w.heap.size, 7, none⟩ = some (noV) := (K 7).1
        have k7 := (K 7).2
        clear K
        go_wp2_with fail
        (try simp only [Exit.inBlock, Exit.then])
        refine bodyPost_ret (v := .tuple #[evV ev0 noV noV noV noV, .int .i64 ((0 : Nat) : Int), errV R.1]) (by simp (maxDischargeDepth := 9) [results, Tryz.results19, go_sem, strB, HE.out, j0, j1, j2, j3, j4, j5, j6, j7]) rfl ?_
        rw [HTE.out]
        exact tk_post (ev := ev0) (qv := noV) (pv := noV) (n := 0) HP10.out HX9.out HXw.out HO10.out (OwnsP.nil _ _ _) (OwnsP.nil _ _ _) (fun k hk => by rcases hk with a | a <;> cases a) rfl (only8 _ _ _ _ _ _ _ _ _ _)
end Go.Proofs.YtfmgfcddnnggeaaGreatDoor

/- A round of the connection's Write, against the machine that takes byte after byte. -/
namespace Go.Proofs.YtfmgfcddnnggeaaGreatDoor

/-- What take leaves, makes and takes. -/
def takeC (s : Cn) (l : List UInt8) : Cn × Ev × Nat × Nat :=
  if s.fk ≠ 0 then ((tdC s l).1, evD (tdC s l).2.1, (tdC s l).2.2.1, (tdC s l).2.2.2)
  else if s.cl = true ∨ (s.rs = true ∧ s.ms = []) then (s, ev0, 0, 6)
  else thC s l
/-- The events of a round. -/
def evsC (r : Cn × Ev × Nat × Nat) : List Ev := (if r.2.1.k = 0 then [] else [r.2.1]) ++ (offC r.1 []).2
/-- What a round leaves. -/
def nextC (r : Cn × Ev × Nat × Nat) : Cn := { (offC r.1 []).1 with er := r.2.2.2 }
theorem offC_app (s : Cn) (evs : List Ev) : offC s evs = ((offC s []).1, evs ++ (offC s []).2) := by
  unfold offC; split <;> simp
theorem offC_er (s : Cn) (evs : List Ev) : (offC s evs).1.er = s.er := by unfold offC; split <;> rfl
theorem tdC_er (s : Cn) (l : List UInt8) : (tdC s l).1.er = s.er := by
  unfold tdC; split
  · split <;> rfl
  · split <;> rfl
theorem thC_er (s : Cn) (l : List UInt8) : (thC s l).1.er = s.er := by
  unfold thC; repeat' split
  all_goals rfl
theorem self_er {s : Cn} (h : s.er = 0) : ({ s with er := 0 } : Cn) = s := by cases s; simp at h; subst h; rfl
theorem evs_dat (d : List UInt8) : (if (evD d).k = 0 then [] else [evD d]) = datL d := by
  unfold evD datL
  by_cases h : d = []
  · rw [if_pos h, if_pos h]; rfl
  · rw [if_neg h, if_neg h]; rfl
/-- A body that takes less than all needs no more. -/
theorem body_full {s : Cn} {l : List UInt8} (hok : s.Ok) (_ : s.er = 0) (h0 : s.fk ≠ 0) (hr : (tdC s l).2.2.2 = 0) (hc : complB (tdC s l).1 = false) : (tdC s l).2.2.1 = l.length := by
  rcases hok.o2 with h | h | h | h
  · exact absurd h h0
  · have e : tdC s l = ({ s with fl := s.fl - min l.length s.fl }, l.take (min l.length s.fl), min l.length s.fl, 0) := by
      unfold tdC; rw [if_neg (by rw [h]; decide), if_pos h]
    rw [e] at hc ⊢
    unfold complB at hc
    simp only at hc
    rw [if_pos h] at hc
    have := of_decide_eq_false hc
    show min l.length s.fl = l.length
    omega
  · obtain ⟨d, hd, _, hz, h8⟩ := hok.o5 h
    have e : tdC s l = ({ s with dc := some (wrD d l).1 }, (wrD d l).2.1, (wrD d l).2.2, (wrD d l).1.er) := by
      unfold tdC; rw [if_pos h, hd]
    rw [e] at hc hr ⊢
    have hc' : complB { s with dc := some (wrD d l).1 } = decide ((wrD d l).1.pl = 8) := doneO_dec s (wrD d l).1 h
    exact wrD_full hr (of_decide_eq_false (hc'.symm.trans hc))
  · have e : tdC s l = (s, l, l.length, 0) := by
      unfold tdC; rw [if_neg (by rw [h]; decide), if_neg (by rw [h]; decide)]
    rw [e]
theorem tdC_le {s : Cn} (l : List UInt8) : (tdC s l).2.2.1 ≤ l.length := by
  unfold tdC; split
  · split
    · exact (wrD_len _ _).1
    · exact Nat.zero_le _
  · split
    · exact Nat.min_le_left _ _
    · exact Nat.le_refl _
theorem run_parts {s t : Cn} {l : List UInt8} {x : List Ev} (n : Nat) (h : runC s (l.take n) = (t, x)) : runC s l = ((runC t (l.drop n)).1, x ++ (runC t (l.drop n)).2) := by
  have := runC_app (l.take n) s (l.drop n)
  rw [List.take_append_drop, h] at this
  exact this
theorem run_halt {s t : Cn} {l m : List UInt8} {x : List Ev} (h : runC s l = (t, x)) (he : t.er ≠ 0) : runC s l = ((runC t m).1, x ++ (runC t m).2) := by
  rw [runC_stop he, h]; simp
theorem thC_k (s : Cn) (l : List UInt8) : (thC s l).2.1.k ≠ 2 := by
  have h : (rdC s l).2.1.k ≠ 2 := by unfold rdC; rw [hdR_k]; decide
  unfold thC; repeat' split
  all_goals first | exact h | (show (0 : Nat) ≠ 2; decide)
theorem thC_zero {s : Cn} {l : List UInt8} : (thC s l).2.2.2 ≠ 0 → (thC s l).2.2.1 = 0 := by
  unfold thC; repeat' split
  all_goals simp
theorem fold_new : ∀ (x o : List Ev), (∀ e ∈ x, e.k ≠ 2) → x.foldl snocE o = o ++ x := by
  intro x
  induction x with
  | nil => intro o _; simp
  | cons e t ih =>
    intro o h
    rw [List.foldl_cons, snocE_new (.inl (h e (by simp))), ih _ (fun e he => h e (by simp [he]))]
    simp
theorem notDat_app {o x : List Ev} (ho : notDat o) (h : ∀ e ∈ x, e.k ≠ 2) : notDat (o ++ x) := by
  intro y hy
  rw [List.getLast?_append] at hy
  cases hx : x.getLast? with
  | none => rw [hx] at hy; exact ho y (by simpa using hy)
  | some z =>
    rw [hx] at hy
    have : z = y := by simpa using hy
    subst this
    exact h z (List.mem_of_getLast? hx)
theorem off_new (t : Cn) : ∀ e ∈ (offC t []).2, e.k ≠ 2 := by
  intro e he
  unfold offC at he
  split at he
  · simp at he; subst he; show (3 : Nat) ≠ 2; decide
  · cases he
theorem ok_to {s t : Cn} {x : List Ev} (l : List UInt8) (h : s.Ok) (e : runC s l = (t, x)) : t.Ok := by
  have := ok_runC l h
  rw [e] at this; exact this
/-- A round of Write. -/
theorem take_run {s : Cn} {l : List UInt8} {o : List Ev} (hok : s.Ok) (he : s.er = 0) (hl : l ≠ []) (ho : notDat o) :
    (nextC (takeC s l)).Ok ∧ ∃ x, runC s l = ((runC (nextC (takeC s l)) (l.drop (takeC s l).2.2.1)).1, x ++ (runC (nextC (takeC s l)) (l.drop (takeC s l).2.2.1)).2) ∧ x.foldl snocE o = o ++ evsC (takeC s l) ∧
      ((takeC s l).2.2.2 ≠ 0 ∨ l.drop (takeC s l).2.2.1 = [] ∨ notDat (o ++ evsC (takeC s l))) ∧ ((takeC s l).2.2.2 = 0 → 0 < (takeC s l).2.2.1) ∧ (takeC s l).2.2.1 ≤ l.length := by
  by_cases h0 : s.fk = 0
  · by_cases hc : s.cl = true ∨ (s.rs = true ∧ s.ms = [])
    · have e : takeC s l = (s, ev0, 0, 6) := by unfold takeC; rw [if_neg (by simp [h0]), if_pos hc]
      have en : nextC (takeC s l) = { s with er := 6 } := by rw [e]; unfold nextC; rw [offC_none (by exact h0)]
      have ee : evsC (takeC s l) = [] := by rw [e]; unfold evsC; rw [offC_none (by exact h0)]; rfl
      rw [en, ee, e]
      have key : runC s l = ({ s with er := 6 }, []) := by
        cases l with
        | nil => exact absurd rfl hl
        | cons c t =>
          have hs : stepC s c = ({ s with er := 6 }, []) := by unfold stepC; rw [if_neg (by simp [he]), if_neg (by simp [h0]), if_pos hc]
          rw [runC, hs, runC_stop (by simp)]; rfl
      exact ⟨ok_to l hok key, [], run_halt key (by simp), by simp, .inl (by simp), fun h => (by cases h), Nat.zero_le _⟩
    · have e : takeC s l = thC s l := by unfold takeC; rw [if_neg (by simp [h0]), if_neg hc]
      obtain ⟨i1, i2⟩ := head_run hok ⟨he, h0, hc⟩ hl
      have her := thC_er s l
      have hk2 := thC_k s l
      have hz0 := thC_zero (s := s) (l := l)
      rw [e]
      generalize thC s l = r at *
      obtain ⟨t, ev, n, er⟩ := r
      simp only at i1 i2 her hk2 hz0
      by_cases hr : er = 0
      · subst hr
        obtain ⟨j1, j2, j3⟩ := i2 rfl
        rw [offC_app] at j1
        have en : nextC (t, ev, n, 0) = (offC t []).1 := self_er (by rw [offC_er, her, he])
        have hall : ∀ e ∈ (if ev.k = 0 then [] else [ev]) ++ (offC t []).2, e.k ≠ 2 := by
          intro e he
          rcases List.mem_append.1 he with h | h
          · split at h
            · cases h
            · simp at h; subst h; exact hk2
          · exact off_new t e h
        have ee : evsC (t, ev, n, 0) = (if ev.k = 0 then [] else [ev]) ++ (offC t []).2 := rfl
        simp only [en, ee]
        exact ⟨ok_to _ hok j1, _, run_parts n j1, fold_new _ o hall, .inr (.inr (notDat_app ho hall)), fun _ => j2, j3⟩
      · obtain ⟨j1, j2, j3⟩ := i1 hr
        have eo : offC t [] = (t, []) := by unfold offC; rw [j3]; rfl
        have en : nextC (t, ev, n, er) = { t with er := er } := by unfold nextC; rw [eo]
        have ee : evsC (t, ev, n, er) = [] := by unfold evsC; simp only; rw [if_pos j2, eo]; rfl
        simp only [en, ee]
        exact ⟨ok_to _ hok j1, _, run_halt j1 hr, by simp, .inl hr, fun h => absurd h hr, by rw [hz0 hr]; exact Nat.zero_le _⟩
  · have e : takeC s l = ((tdC s l).1, evD (tdC s l).2.1, (tdC s l).2.2.1, (tdC s l).2.2.2) := by unfold takeC; rw [if_pos h0]
    obtain ⟨i1, i2⟩ := body_run hok he h0 hl
    have her := tdC_er s l
    have hfu := body_full hok he h0 (l := l)
    have hle := tdC_le (s := s) l
    rw [e]
    generalize tdC s l = r at *
    obtain ⟨t, d, n, er⟩ := r
    simp only at i1 i2 her hfu hle
    by_cases hr : er = 0
    · subst hr
      obtain ⟨j1, j2, j3⟩ := i2 rfl
      rw [offC_app] at j1
      have en : nextC (t, evD d, n, 0) = (offC t []).1 := self_er (by rw [offC_er, her, he])
      have ev : evsC (t, evD d, n, 0) = datL d ++ (offC t []).2 := by unfold evsC; rw [evs_dat]
      simp only [en, ev]
      refine ⟨ok_to _ hok j1, _, run_parts n j1, ?_, ?_, fun _ => j2, j3⟩
      · rw [List.foldl_append, fold_bytes ho]
        unfold offC
        split
        · show snocE (o ++ datL d) (endE t) = _
          rw [snocE_new (.inl (by show (3 : Nat) ≠ 2; decide))]; simp
        · simp
      · by_cases hcm : complB t = true
        · refine .inr (.inr ?_)
          have : (offC t []).2 = [endE t] := by unfold offC; rw [if_pos hcm]; rfl
          rw [this, ← List.append_assoc]
          exact notDat_end _ (by show (3 : Nat) ≠ 2; decide)
        · refine .inr (.inl ?_)
          rw [hfu rfl (by simpa using hcm)]
          exact List.drop_length
    · obtain ⟨j1, j2⟩ := i1 hr
      have eo : offC t [] = (t, []) := by unfold offC; rw [j2]; rfl
      have en : nextC (t, evD d, n, er) = { t with er := er } := by unfold nextC; rw [eo]
      have ev : evsC (t, evD d, n, er) = datL d := by unfold evsC; rw [evs_dat, eo]; simp
      simp only [en, ev]
      exact ⟨ok_to _ hok j1, _, run_halt j1 hr, fold_bytes ho d, .inl hr, fun h => absurd h hr, hle⟩
end Go.Proofs.YtfmgfcddnnggeaaGreatDoor
