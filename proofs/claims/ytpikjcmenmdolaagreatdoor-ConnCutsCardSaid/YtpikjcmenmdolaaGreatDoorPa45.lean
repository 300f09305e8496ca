import Derived.Test.YtpikjcmenmdolaaGreatDoorPa42
import Derived.Test.YtpikjcmenmdolaaGreatDoorPa44
import Derived.Deep.RegionHeld3
import Derived.Deep.Cut
import Derived.Test.YtpikjcmenmdolaaGreatDoorPa16
import Derived.Test.YtpikjcmenmdolaaGreatDoorPa0
import Derived.Laws.OwnMore
/- The statements' Ref: the reference's fields of the program's. -/
namespace Go.Proofs.YtpikjcmenmdolaaGreatDoor
open Go.RowKit

set_option maxHeartbeats 2000000 in
set_option maxRecDepth 100000 in
theorem ref2_any (lv : Value) (ps : Flds) (w : World) (hr : ReadsQ w lv ps) (hl : ps.length ≤ 1000) :
    Calls Tryz.prog 29 #[lv] w fun e w' => ∃ v, e = .returned v ∧ OwnsP 91 w.heap.size w' v ps ∧ Below w.heap.size w w' := by
  obtain ⟨i0, hi, hz0, hz1, hz2⟩ := info_parts Tryz.infoG
  obtain ⟨ao, cap, rfl, hc⟩ := hr
  have HC := Lib.hid hc
  clear hc
  go_enter Tryz.func29, Tryz.ntmps29
  go_wp2_with fail
  go_loopw [3, 8] (fun v i wr => ∃ k : Nat, i = .int .i64 k ∧ k ≤ ps.length ∧ OwnsP 91 w.heap.size wr v (ps.take k) ∧ Below w.heap.size w wr) (fun _ i _ => ps.length - (intOf i).toNat)
  case atStart => exact ⟨0, rfl, Nat.zero_le _, OwnsP.nil _ _ _, Below.refl _ _⟩
  case round =>
    obtain ⟨k, rfl, hk, hO, hBr⟩ := hrel
    have hbr := hBr.size
    by_cases hlt : k < ps.length
    · obtain ⟨p, hp⟩ : ∃ p, ps[k]? = some p := ⟨ps[k], by simp [hlt]⟩
      obtain ⟨g, off, rfl, hg1, h1, h2⟩ := HC.out k p hp
      have hc1 : wr.cell? ⟨g, off + k * 2, none⟩ = some (.string (strB p.1)) := (hBr.cell (p := ⟨g, off + k * 2, none⟩) hg1).trans h1
      have hc2 : wr.cell? ⟨g, off + k * 2 + 1, none⟩ = some (.string (strB p.2)) := (hBr.cell (p := ⟨g, off + k * 2 + 1, none⟩) hg1).trans h2
      have HP := Lib.hid hp
      clear hp h1 h2
      have hlen : (ps.take k).length = k := by simp; omega
      have HLen := Lib.hid hlen
      clear hlen
      go_wp2_with (at_builtin; refine wpList_append_own _ rfl _ _ 74 rfl w.heap.size 91 i0 (.agg #[.string ByteArray.empty, .string ByteArray.empty]) 2 32 Tryz.underlying74 hi hz0 hz1 hz2 rfl (by decide) _ _ _ rfl ((World.ownsRow.alloc hO _).alloc _) ⟨wr.heap.size + 1, 0, none⟩ 1 1 [strV p.1, strV p.2] rfl rfl (two_new' wr p.1 p.2 _ _) (fun u hu => by simp at hu; rcases hu with rfl | rfl <;> rfl) (by rw [HLen.out]; unfold maxLen; omega) (by rw [HLen.out]; omega) (by simp; omega) ?_; intro v' w4 hown' hgrow _)
      go_roundw
      case rel => exact ⟨k + 1, by go_num, by omega, own_more HP.out hown', below_appendP hBr hbr (below_new wr _) hO hgrow⟩
      case measure => simp [intOf]; omega
    · have htk : ps.take k = ps := List.take_of_length_le (by omega)
      rw [htk] at hO
      go_wp2_with fail
      go_ret
      exact ⟨_, rfl, hO, hBr⟩
end Go.Proofs.YtpikjcmenmdolaaGreatDoor

/- The statements' Ref of a list of events: the reference's events of the program's. -/
namespace Go.Proofs.YtpikjcmenmdolaaGreatDoor
open Go.RowKit

/-- The value v is a list of events that reads as es in the world w. -/
def ReadsE (w : World) (v : Value) (es : List Ev) : Prop :=
  ∃ ao cap, v = .slice ao es.length cap ∧ ∀ i e, es[i]? = some e → ∃ g off, ao = some ⟨g, off, none⟩ ∧ g < w.heap.size ∧ ∃ q p d t, (∀ j u, (evC e q p d t)[j]? = some u → w.cell? ⟨g, off + i * 8 + j, none⟩ = some u) ∧ ReadsQ w q e.q.2.2 ∧ ReadsQ w p e.p.2 ∧ ReadsD w d e.d ∧ ReadsQ w t e.t
theorem LsE.reads {B : Nat} {X : Nat → Prop} {w : World} {v : Value} {es : List Ev} (h : LsE B X v es w) : ReadsE w v es := by
  by_cases hne : es = []
  · obtain ⟨a, c, rfl⟩ := h.isSlice
    subst hne
    exact ⟨a, c, rfl, fun i e h => by simp at h⟩
  · obtain ⟨g, cap, rfl, hg, hc⟩ := h.at hne
    refine ⟨_, cap, rfl, fun i e he => ⟨g, 0, rfl, hg, ?_⟩⟩
    obtain ⟨q, p, d, t, h1, h2⟩ := hc i e he
    exact ⟨q, p, d, t, fun j u hu => by rw [Nat.zero_add]; exact h1 j u hu, h2⟩
/-- Few fields. -/
def EvSm (e : Ev) : Prop := e.q.2.2.length ≤ 1000 ∧ e.p.2.length ≤ 1000 ∧ e.t.length ≤ 1000
/-- What the region holds: the event's box, and what was there when Ref began. -/
def RfS (w : World) (N : Nat) (o : Obj) (V : World) : Prop := V.heap[N]? = some o ∧ Below w.heap.size w V
theorem rf_below {w : World} {N : Nat} {o : Obj} {V V1 : World} (h : RfS w N o V) (hl : N < V.heap.size) (hb : Below V.heap.size V V1) : RfS w N o V1 :=
  ⟨(hb.block N hl).trans h.1, h.2.trans (hb.mono h.2.size)⟩
theorem rf_box {w : World} {N : Nat} {o : Obj} {V : World} (h : RfS w N o V) (hl : N < V.heap.size) (e : Ev) (q p t : Value) :
    RfS w N o (V.alloc (.cells #[.int .i64 (e.k : Int), .string (strB e.q.1), .string (strB e.q.2.1), q, .int .i64 (e.p.1 : Int), p, .string (strB e.d), t] 80)) ∧
    ∀ j u, (rvC e q p t)[j]? = some u → (V.alloc (.cells #[.int .i64 (e.k : Int), .string (strB e.q.1), .string (strB e.q.2.1), q, .int .i64 (e.p.1 : Int), p, .string (strB e.d), t] 80)).cell? ((⟨V.heap.size, 0, none⟩ : Addr).add j) = some u := by
  refine ⟨rf_below h hl (below_new V _), fun j u hu => ?_⟩
  rw [Addr.add_lit, Nat.zero_add, World.cell?_alloc_at _ _ _ _ rfl]
  simpa using hu
theorem rf_grown {w : World} {N : Nat} {o : Obj} {V V1 : World} {v : Value} (h : RfS w N o V) (hg : V.grownBy V1 v.ownBlock) (hl : ∀ i, v.ownBlock = some i → i < N) (hb : ∀ i, v.ownBlock = some i → w.heap.size ≤ i) : RfS w N o V1 := by
  have hN : N < V.heap.size := (Array.getElem?_eq_some_iff.1 h.1).1
  exact ⟨(hg.block N hN (fun e => by have := hl N e.symm; omega)).trans h.1, h.2.grown hg h.2.size (fun k hk => hb k hk)⟩
set_option maxHeartbeats 16000000 in
set_option maxRecDepth 100000 in
theorem refE_any (v : Value) (es : List Ev) (w : World) (hr : ReadsE w v es) (hf : ∀ e ∈ es, EvSm e) (hl : es.length ≤ 1000000) :
    Calls Tryz.prog 18 #[v] w fun e w' => ∃ v' Y, e = .returned v' ∧ OwnsR w.heap.size Y w' v' es ∧ (∀ k, Y k → w.heap.size ≤ k) ∧ Below w.heap.size w w' := by
  obtain ⟨ao, cap, rfl, hc⟩ := hr
  have HC := Lib.hid hc
  have HF := Lib.hid hf
  clear hc hf
  go_enter Tryz.func18, Tryz.ntmps18
  go_wp2_with fail
  go_loopw [3, 4] (fun x3 x4 wr => ∃ (k : Nat) (Y : Nat → Prop), x4 = .int .i64 k ∧ k ≤ es.length ∧ OwnsR w.heap.size Y wr x3 (es.take k) ∧ (∀ i, Y i → w.heap.size ≤ i) ∧ Below w.heap.size w wr) (fun _ x4 _ => es.length - (intOf x4).toNat)
  case atStart => exact ⟨0, fun _ => False, rfl, Nat.zero_le _, OwnsR.nil _ _, fun _ h => False.elim h, Below.refl _ _⟩
  case round =>
    obtain ⟨k, Y, rfl, hk, hO, hY, hBr⟩ := hrel
    by_cases hlt : k < es.length
    · obtain ⟨e, he⟩ : ∃ e, es[k]? = some e := ⟨es[k], by simp [hlt]⟩
      obtain ⟨g, off, rfl, hg, q, p, d, t, h1, hQ, hP, hD, hT⟩ := HC.out k e he
      obtain ⟨HTn, HQn, HPn⟩ : e.t.length ≤ 1000 ∧ e.q.2.2.length ≤ 1000 ∧ e.p.2.length ≤ 1000 := by obtain ⟨a, b, c⟩ := HF.out e (List.mem_of_getElem? he); exact ⟨c, a, b⟩
      obtain ⟨qa, qn, qc, rfl⟩ : ∃ a n c, q = .slice a n c := by obtain ⟨a, c, h, _⟩ := hQ; exact ⟨a, _, c, h⟩
      obtain ⟨pa, pn, pc, rfl⟩ : ∃ a n c, p = .slice a n c := by obtain ⟨a, c, h, _⟩ := hP; exact ⟨a, _, c, h⟩
      obtain ⟨da, dn, dc, rfl⟩ : ∃ a n c, d = .slice a n c := by obtain ⟨a, c, h, _⟩ := hD; exact ⟨a, _, c, h⟩
      obtain ⟨ta, tn, tc, rfl⟩ : ∃ a n c, t = .slice a n c := by obtain ⟨a, c, h, _⟩ := hT; exact ⟨a, _, c, h⟩
      have key : ∀ j u, (evC e (.slice qa qn qc) (.slice pa pn pc) (.slice da dn dc) (.slice ta tn tc))[j]? = some u → wr.cell? ⟨g, off + k * 8 + j, none⟩ = some u := fun j u hu => (hBr.cell (p := ⟨g, off + k * 8 + j, none⟩) hg).trans (h1 j u hu)
      have c0 : wr.cell? ⟨g, off + k * 8, none⟩ = some (.int .i64 (e.k : Int)) := key 0 _ rfl
      have c1 : wr.cell? ⟨g, off + k * 8 + 1, none⟩ = some (.string (strB e.q.1)) := key 1 _ rfl
      have c2 : wr.cell? ⟨g, off + k * 8 + 2, none⟩ = some (.string (strB e.q.2.1)) := key 2 _ rfl
      have c3 : wr.cell? ⟨g, off + k * 8 + 3, none⟩ = some (.slice qa qn qc) := key 3 _ rfl
      have c4 : wr.cell? ⟨g, off + k * 8 + 4, none⟩ = some (.int .i64 (e.p.1 : Int)) := key 4 _ rfl
      have c5 : wr.cell? ⟨g, off + k * 8 + 5, none⟩ = some (.slice pa pn pc) := key 5 _ rfl
      have c6 : wr.cell? ⟨g, off + k * 8 + 6, none⟩ = some (.slice da dn dc) := key 6 _ rfl
      have c7 : wr.cell? ⟨g, off + k * 8 + 7, none⟩ = some (.slice ta tn tc) := key 7 _ rfl
      have HQ := Lib.hid hQ
      have HP := Lib.hid hP
      have HD := Lib.hid hD
      have HT := Lib.hid hT
      have HE := Lib.hid he
      obtain ⟨va, vc, rfl⟩ := hO.isSlice
      have hlen : (es.take k).length = k := by simp; omega
      rw [hlen] at hO
      have HLT0 := hO.lt.1
      have HO := Lib.hid hO
      have HY := hY
      have HBr := Lib.hid hBr
      clear key h1 hQ hP hD hT he hO hY hBr
      rw [hlen]
      go_upto_region 6 with fail
      have hbw := heap_alloc_new wr (.cells #[.int .i64 (e.k : Int), .string (strB e.q.1), .string (strB e.q.2.1), .slice qa qn qc, .int .i64 (e.p.1 : Int), .slice pa pn pc, .slice da dn dc, .slice ta tn tc] 60)
      have hbl := below_new wr (.cells #[.int .i64 (e.k : Int), .string (strB e.q.1), .string (strB e.q.2.1), .slice qa qn qc, .int .i64 (e.p.1 : Int), .slice pa pn pc, .slice da dn dc, .slice ta tn tc] 60)
      have HW1 := Lib.hid hbl
      have HS1 : Hid (RfS w wr.heap.size (.cells #[.int .i64 (e.k : Int), .string (strB e.q.1), .string (strB e.q.2.1), .slice qa qn qc, .int .i64 (e.p.1 : Int), .slice pa pn pc, .slice da dn dc, .slice ta tn tc] 60 (0, 0)) (wr.alloc (.cells #[.int .i64 (e.k : Int), .string (strB e.q.1), .string (strB e.q.2.1), .slice qa qn qc, .int .i64 (e.p.1 : Int), .slice pa pn pc, .slice da dn dc, .slice ta tn tc] 60))) := Lib.hid ⟨hbw, HBr.out.trans (hbl.mono HBr.out.size)⟩
      have hNl : wr.heap.size < (wr.alloc (.cells #[.int .i64 (e.k : Int), .string (strB e.q.1), .string (strB e.q.2.1), .slice qa qn qc, .int .i64 (e.p.1 : Int), .slice pa pn pc, .slice da dn dc, .slice ta tn tc] 60)).heap.size := by simp
      have HLT : ∀ i, (Value.slice va k vc).ownBlock = some i → i < wr.heap.size := fun i hi => (HLT0 i hi).2
      have HLB : ∀ i, (Value.slice va k vc).ownBlock = some i → w.heap.size ≤ i := fun i hi => (HLT0 i hi).1
      clear c0 c1 c2 c3 c4 c5 c6 c7 hbw hbl HLT0 hg
      generalize wr.alloc (.cells #[.int .i64 (e.k : Int), .string (strB e.q.1), .string (strB e.q.2.1), .slice qa qn qc, .int .i64 (e.p.1 : Int), .slice pa pn pc, .slice da dn dc, .slice ta tn tc] 60) = W1 at *
      generalize hN : wr.heap.size = N at *
      have HN := Lib.hid hN
      clear hN
      have htk : es.take k ++ [e] = es.take (k + 1) := by rw [List.take_add_one, HE.out]; rfl
      have HTK := Lib.hid htk
      clear htk
      have hS0 : RfS w N (.cells #[.int .i64 (e.k : Int), .string (strB e.q.1), .string (strB e.q.2.1), .slice qa qn qc, .int .i64 (e.p.1 : Int), .slice pa pn pc, .slice da dn dc, .slice ta tn tc] 60 (0, 0)) W1.drew := ⟨HS1.out.1, HS1.out.2.drew⟩
      have V0lt : N < W1.drew.heap.size := hNl
      have hW0 : Below N wr W1.drew := HW1.out.drew
      have hNw : w.heap.size ≤ N := by have := HBr.out.size; have := HN.out; omega
      refine wp_region_held_drew (S := RfS w N (.cells #[.int .i64 (e.k : Int), .string (strB e.q.1), .string (strB e.q.2.1), .slice qa qn qc, .int .i64 (e.p.1 : Int), .slice pa pn pc, .slice da dn dc, .slice ta tn tc] 60 (0, 0))) (by kernel_rfl) hS0 (fun hHeld => ?_)
      clear hHeld HS1 HW1 hNl
      generalize W1.drew = V0 at *
      refine wpAnyH_take (i := 0) (oi := { dst := some 16, op := _, type := _, pos := _, after := _, guard := _ }) (v := ?_) rfl (by kernel_rfl) (by kernel_rfl) (by kernel_rfl) (fun _ _ _ h => h) (Or.inl ⟨by rfl, ?_⟩) hS0 ?_
      rotate_left
      focus (intro wv hSw; clear hSw; first | (go_simp; done) | (go_simp; with_reducible rfl))
      (try simp only [Act.put, List.setIfInBounds_toArray, List.set_cons_zero, List.set_cons_succ])
      refine wpAnyH_take (i := 1) (oi := { dst := some 17, op := _, type := _, pos := _, after := _, guard := _ }) (v := ?_) rfl (by kernel_rfl) (by kernel_rfl) (by kernel_rfl) (fun _ _ _ h => h) (Or.inl ⟨by rfl, ?_⟩) hS0 ?_
      rotate_left
      focus (intro wv hSw; clear hSw; first | (go_simp; done) | (go_simp; with_reducible rfl))
      (try simp only [Act.put, List.setIfInBounds_toArray, List.set_cons_zero, List.set_cons_succ])
      refine wpAnyH_take (i := 2) (oi := { dst := some 18, op := _, type := _, pos := _, after := _, guard := _ }) (v := ?_) rfl (by kernel_rfl) (by kernel_rfl) (by kernel_rfl) (fun _ _ _ h => h) (Or.inl ⟨by rfl, ?_⟩) hS0 ?_
      rotate_left
      focus (intro wv hSw; have e0 : wv.cell? ⟨N, 0, none⟩ = some (.int .i64 (e.k : Int)) := ((eight_at hSw.1) 0).1; clear hSw; first | (go_simp; done) | (go_simp; with_reducible rfl))
      (try simp only [Act.put, List.setIfInBounds_toArray, List.set_cons_zero, List.set_cons_succ])
      refine wpAnyH_take (i := 3) (oi := { dst := some 19, op := _, type := _, pos := _, after := _, guard := _ }) (v := ?_) rfl (by kernel_rfl) (by kernel_rfl) (by kernel_rfl) (fun _ _ _ h => h) (Or.inl ⟨by rfl, ?_⟩) hS0 ?_
      rotate_left
      focus (intro wv hSw; clear hSw; first | (go_simp; done) | (go_simp; with_reducible rfl))
      (try simp only [Act.put, List.setIfInBounds_toArray, List.set_cons_zero, List.set_cons_succ])
      refine wpAnyH_take (i := 4) (oi := { dst := some 20, op := _, type := _, pos := _, after := _, guard := _ }) (v := ?_) rfl (by kernel_rfl) (by kernel_rfl) (by kernel_rfl) (fun _ _ _ h => h) (Or.inl ⟨by rfl, ?_⟩) hS0 ?_
      rotate_left
      focus (intro wv hSw; have e0 : wv.cell? ⟨N, 6, none⟩ = some (.slice da dn dc) := ((eight_at hSw.1) 6).1; clear hSw; first | (go_simp; done) | (go_simp; with_reducible rfl))
      (try simp only [Act.put, List.setIfInBounds_toArray, List.set_cons_zero, List.set_cons_succ])
      refine wpAnyH_take (i := 5) (oi := { dst := some 21, op := _, type := _, pos := _, after := _, guard := _ }) (v := ?_) rfl (by kernel_rfl) (by kernel_rfl) (by kernel_rfl) (fun _ _ _ h => h) (Or.inl ⟨by rfl, ?_⟩) hS0 ?_
      rotate_left
      focus (intro wv hSw; have e0 : (convert 40 9 (.slice da dn dc)).run Tryz.prog wv = .ok (.string (strB e.d)) wv := convB (HD.out.below hSw.2); clear hSw; first | (go_simp; done) | (go_simp; with_reducible rfl))
      (try simp only [Act.put, List.setIfInBounds_toArray, List.set_cons_zero, List.set_cons_succ])
      refine wpAnyH_take (i := 6) (oi := { dst := some 22, op := _, type := _, pos := _, after := _, guard := _ }) (v := ?_) rfl (by kernel_rfl) (by kernel_rfl) (by kernel_rfl) (fun _ _ _ h => h) (Or.inl ⟨by rfl, ?_⟩) hS0 ?_
      rotate_left
      focus (intro wv hSw; clear hSw; first | (go_simp; done) | (go_simp; with_reducible rfl))
      (try simp only [Act.put, List.setIfInBounds_toArray, List.set_cons_zero, List.set_cons_succ])
      refine wpAnyH_take (i := 7) (oi := { dst := some 23, op := _, type := _, pos := _, after := _, guard := _ }) (v := ?_) rfl (by kernel_rfl) (by kernel_rfl) (by kernel_rfl) (fun _ _ _ h => h) (Or.inl ⟨by rfl, ?_⟩) hS0 ?_
      rotate_left
      focus (intro wv hSw; have e0 : wv.cell? ⟨N, 7, none⟩ = some (.slice ta tn tc) := ((eight_at hSw.1) 7).1; clear hSw; first | (go_simp; done) | (go_simp; with_reducible rfl))
      (try simp only [Act.put, List.setIfInBounds_toArray, List.set_cons_zero, List.set_cons_succ])
      refine wpAnyH_take (i := 9) (oi := { dst := some 25, op := _, type := _, pos := _, after := _, guard := _ }) (v := ?_) rfl (by kernel_rfl) (by kernel_rfl) (by kernel_rfl) (fun _ _ _ h => h) (Or.inl ⟨by rfl, ?_⟩) hS0 ?_
      rotate_left
      focus (intro wv hSw; clear hSw; first | (go_simp; done) | (go_simp; with_reducible rfl))
      (try simp only [Act.put, List.setIfInBounds_toArray, List.set_cons_zero, List.set_cons_succ])
      refine wpAnyH_take (i := 10) (oi := { dst := some 26, op := _, type := _, pos := _, after := _, guard := _ }) (v := ?_) rfl (by kernel_rfl) (by kernel_rfl) (by kernel_rfl) (fun _ _ _ h => h) (Or.inl ⟨by rfl, ?_⟩) hS0 ?_
      rotate_left
      focus (intro wv hSw; clear hSw; first | (go_simp; done) | (go_simp; with_reducible rfl))
      (try simp only [Act.put, List.setIfInBounds_toArray, List.set_cons_zero, List.set_cons_succ])
      refine wpAnyH_take (i := 11) (oi := { dst := some 27, op := _, type := _, pos := _, after := _, guard := _ }) (v := ?_) rfl (by kernel_rfl) (by kernel_rfl) (by kernel_rfl) (fun _ _ _ h => h) (Or.inl ⟨by rfl, ?_⟩) hS0 ?_
      rotate_left
      focus (intro wv hSw; have e0 : wv.cell? ⟨N, 1, none⟩ = some (.string (strB e.q.1)) := ((eight_at hSw.1) 1).1; clear hSw; first | (go_simp; done) | (go_simp; with_reducible rfl))
      (try simp only [Act.put, List.setIfInBounds_toArray, List.set_cons_zero, List.set_cons_succ])
      refine wpAnyH_take (i := 12) (oi := { dst := some 28, op := _, type := _, pos := _, after := _, guard := _ }) (v := ?_) rfl (by kernel_rfl) (by kernel_rfl) (by kernel_rfl) (fun _ _ _ h => h) (Or.inl ⟨by rfl, ?_⟩) hS0 ?_
      rotate_left
      focus (intro wv hSw; clear hSw; first | (go_simp; done) | (go_simp; with_reducible rfl))
      (try simp only [Act.put, List.setIfInBounds_toArray, List.set_cons_zero, List.set_cons_succ])
      refine wpAnyH_take (i := 13) (oi := { dst := some 29, op := _, type := _, pos := _, after := _, guard := _ }) (v := ?_) rfl (by kernel_rfl) (by kernel_rfl) (by kernel_rfl) (fun _ _ _ h => h) (Or.inl ⟨by rfl, ?_⟩) hS0 ?_
      rotate_left
      focus (intro wv hSw; clear hSw; first | (go_simp; done) | (go_simp; with_reducible rfl))
      (try simp only [Act.put, List.setIfInBounds_toArray, List.set_cons_zero, List.set_cons_succ])
      refine wpAnyH_take (i := 14) (oi := { dst := some 30, op := _, type := _, pos := _, after := _, guard := _ }) (v := ?_) rfl (by kernel_rfl) (by kernel_rfl) (by kernel_rfl) (fun _ _ _ h => h) (Or.inl ⟨by rfl, ?_⟩) hS0 ?_
      rotate_left
      focus (intro wv hSw; have e0 : wv.cell? ⟨N, 2, none⟩ = some (.string (strB e.q.2.1)) := ((eight_at hSw.1) 2).1; clear hSw; first | (go_simp; done) | (go_simp; with_reducible rfl))
      (try simp only [Act.put, List.setIfInBounds_toArray, List.set_cons_zero, List.set_cons_succ])
      refine wpAnyH_take (i := 15) (oi := { dst := some 31, op := _, type := _, pos := _, after := _, guard := _ }) (v := ?_) rfl (by kernel_rfl) (by kernel_rfl) (by kernel_rfl) (fun _ _ _ h => h) (Or.inl ⟨by rfl, ?_⟩) hS0 ?_
      rotate_left
      focus (intro wv hSw; clear hSw; first | (go_simp; done) | (go_simp; with_reducible rfl))
      (try simp only [Act.put, List.setIfInBounds_toArray, List.set_cons_zero, List.set_cons_succ])
      refine wpAnyH_take (i := 16) (oi := { dst := some 32, op := _, type := _, pos := _, after := _, guard := _ }) (v := ?_) rfl (by kernel_rfl) (by kernel_rfl) (by kernel_rfl) (fun _ _ _ h => h) (Or.inl ⟨by rfl, ?_⟩) hS0 ?_
      rotate_left
      focus (intro wv hSw; clear hSw; first | (go_simp; done) | (go_simp; with_reducible rfl))
      (try simp only [Act.put, List.setIfInBounds_toArray, List.set_cons_zero, List.set_cons_succ])
      refine wpAnyH_take (i := 17) (oi := { dst := some 33, op := _, type := _, pos := _, after := _, guard := _ }) (v := ?_) rfl (by kernel_rfl) (by kernel_rfl) (by kernel_rfl) (fun _ _ _ h => h) (Or.inl ⟨by rfl, ?_⟩) hS0 ?_
      rotate_left
      focus (intro wv hSw; have e0 : wv.cell? ⟨N, 3, none⟩ = some (.slice qa qn qc) := ((eight_at hSw.1) 3).1; clear hSw; first | (go_simp; done) | (go_simp; with_reducible rfl))
      (try simp only [Act.put, List.setIfInBounds_toArray, List.set_cons_zero, List.set_cons_succ])
      refine wpAnyH_take (i := 20) (oi := { dst := some 36, op := _, type := _, pos := _, after := _, guard := _ }) (v := ?_) rfl (by kernel_rfl) (by kernel_rfl) (by kernel_rfl) (fun _ _ _ h => h) (Or.inl ⟨by rfl, ?_⟩) hS0 ?_
      rotate_left
      focus (intro wv hSw; clear hSw; first | (go_simp; done) | (go_simp; with_reducible rfl))
      (try simp only [Act.put, List.setIfInBounds_toArray, List.set_cons_zero, List.set_cons_succ])
      refine wpAnyH_take (i := 21) (oi := { dst := some 37, op := _, type := _, pos := _, after := _, guard := _ }) (v := ?_) rfl (by kernel_rfl) (by kernel_rfl) (by kernel_rfl) (fun _ _ _ h => h) (Or.inl ⟨by rfl, ?_⟩) hS0 ?_
      rotate_left
      focus (intro wv hSw; clear hSw; first | (go_simp; done) | (go_simp; with_reducible rfl))
      (try simp only [Act.put, List.setIfInBounds_toArray, List.set_cons_zero, List.set_cons_succ])
      refine wpAnyH_take (i := 22) (oi := { dst := some 38, op := _, type := _, pos := _, after := _, guard := _ }) (v := ?_) rfl (by kernel_rfl) (by kernel_rfl) (by kernel_rfl) (fun _ _ _ h => h) (Or.inl ⟨by rfl, ?_⟩) hS0 ?_
      rotate_left
      focus (intro wv hSw; have e0 : wv.cell? ⟨N, 4, none⟩ = some (.int .i64 (e.p.1 : Int)) := ((eight_at hSw.1) 4).1; clear hSw; first | (go_simp; done) | (go_simp; with_reducible rfl))
      (try simp only [Act.put, List.setIfInBounds_toArray, List.set_cons_zero, List.set_cons_succ])
      refine wpAnyH_take (i := 23) (oi := { dst := some 39, op := _, type := _, pos := _, after := _, guard := _ }) (v := ?_) rfl (by kernel_rfl) (by kernel_rfl) (by kernel_rfl) (fun _ _ _ h => h) (Or.inl ⟨by rfl, ?_⟩) hS0 ?_
      rotate_left
      focus (intro wv hSw; clear hSw; first | (go_simp; done) | (go_simp; with_reducible rfl))
      (try simp only [Act.put, List.setIfInBounds_toArray, List.set_cons_zero, List.set_cons_succ])
      refine wpAnyH_take (i := 24) (oi := { dst := some 40, op := _, type := _, pos := _, after := _, guard := _ }) (v := ?_) rfl (by kernel_rfl) (by kernel_rfl) (by kernel_rfl) (fun _ _ _ h => h) (Or.inl ⟨by rfl, ?_⟩) hS0 ?_
      rotate_left
      focus (intro wv hSw; clear hSw; first | (go_simp; done) | (go_simp; with_reducible rfl))
      (try simp only [Act.put, List.setIfInBounds_toArray, List.set_cons_zero, List.set_cons_succ])
      refine wpAnyH_take (i := 25) (oi := { dst := some 41, op := _, type := _, pos := _, after := _, guard := _ }) (v := ?_) rfl (by kernel_rfl) (by kernel_rfl) (by kernel_rfl) (fun _ _ _ h => h) (Or.inl ⟨by rfl, ?_⟩) hS0 ?_
      rotate_left
      focus (intro wv hSw; have e0 : wv.cell? ⟨N, 5, none⟩ = some (.slice pa pn pc) := ((eight_at hSw.1) 5).1; clear hSw; first | (go_simp; done) | (go_simp; with_reducible rfl))
      (try simp only [Act.put, List.setIfInBounds_toArray, List.set_cons_zero, List.set_cons_succ])
      refine wpAnyH_ready (rs := [8]) (by kernel_rfl) (by simp) ?_
      refine AllReadyH.cons (o := { dst := some 24, op := _, type := _, pos := _, after := _, guard := _ }) rfl (fun K hK => ?_) AllReadyH.nil
      go_simp
      refine (ref2_any _ e.t V0 (HT.out.below hS0.2) HTn).mono ?_
      rintro en V1 ⟨z, rfl, hOt, hBV1⟩
      obtain ⟨t1, t2, rfl⟩ := own_slice' hOt
      have hS1 := rf_below hS0 V0lt hBV1
      have V1lt : N < V1.heap.size := Nat.lt_of_lt_of_le V0lt hBV1.size
      have hW1 : Below N wr V1 := hW0.trans (hBV1.mono (Nat.le_of_lt V0lt))
      have hOt := OwnsP.mono (Nat.succ_le_of_lt V0lt) hOt
      refine hK.out _ _ hS1 (fun _ => ?_)
      clear hK K
      (try simp only [Act.put, List.setIfInBounds_toArray, List.set_cons_zero, List.set_cons_succ])
      refine wpAnyH_ready (rs := [18]) (by kernel_rfl) (by simp) ?_
      refine AllReadyH.cons (o := { dst := some 34, op := _, type := _, pos := _, after := _, guard := _ }) rfl (fun K hK => ?_) AllReadyH.nil
      go_simp
      refine (ref2_any _ e.q.2.2 V1 (HQ.out.below hS1.2) HQn).mono ?_
      rintro en V2 ⟨z, rfl, hOq, hBV2⟩
      obtain ⟨q1, q2, rfl⟩ := own_slice' hOq
      have hS2 := rf_below hS1 V1lt hBV2
      have V2lt : N < V2.heap.size := Nat.lt_of_lt_of_le V1lt hBV2.size
      have hW2 : Below N wr V2 := hW1.trans (hBV2.mono (Nat.le_of_lt V1lt))
      have hOt := OwnsP.below hOt hBV2
      have hOq := OwnsP.mono (Nat.succ_le_of_lt V1lt) hOq
      refine hK.out _ _ hS2 (fun _ => ?_)
      clear hK K
      (try simp only [Act.put, List.setIfInBounds_toArray, List.set_cons_zero, List.set_cons_succ])
      refine wpAnyH_take (i := 19) (oi := { dst := some 35, op := _, type := _, pos := _, after := _, guard := _ }) (v := ?_) rfl (by kernel_rfl) (by kernel_rfl) (by kernel_rfl) (fun _ _ _ h => h) (Or.inl ⟨by rfl, ?_⟩) hS2 ?_
      rotate_left
      focus (intro wv hSw; clear hSw; first | (go_simp; done) | (go_simp; with_reducible rfl))
      (try simp only [Act.put, List.setIfInBounds_toArray, List.set_cons_zero, List.set_cons_succ])
      refine wpAnyH_ready (rs := [26]) (by kernel_rfl) (by simp) ?_
      refine AllReadyH.cons (o := { dst := some 42, op := _, type := _, pos := _, after := _, guard := _ }) rfl (fun K hK => ?_) AllReadyH.nil
      go_simp
      refine (ref2_any _ e.p.2 V2 (HP.out.below hS2.2) HPn).mono ?_
      rintro en V3 ⟨z, rfl, hOp, hBV3⟩
      obtain ⟨p1, p2, rfl⟩ := own_slice' hOp
      have hS3 := rf_below hS2 V2lt hBV3
      have V3lt : N < V3.heap.size := Nat.lt_of_lt_of_le V2lt hBV3.size
      have hW3 : Below N wr V3 := hW2.trans (hBV3.mono (Nat.le_of_lt V2lt))
      have hOt := OwnsP.below hOt hBV3
      have hOq := OwnsP.below hOq hBV3
      have hOp := OwnsP.mono (Nat.succ_le_of_lt V2lt) hOp
      refine hK.out _ _ hS3 (fun _ => ?_)
      clear hK K
      (try simp only [Act.put, List.setIfInBounds_toArray, List.set_cons_zero, List.set_cons_succ])
      refine wpAnyH_take (i := 27) (oi := { dst := some 43, op := _, type := _, pos := _, after := _, guard := _ }) (v := ?_) rfl (by kernel_rfl) (by kernel_rfl) (by kernel_rfl) (fun _ _ _ h => h) (Or.inl ⟨by rfl, ?_⟩) hS3 ?_
      rotate_left
      focus (intro wv hSw; clear hSw; first | (go_simp; done) | (go_simp; with_reducible rfl))
      (try simp only [Act.put, List.setIfInBounds_toArray, List.set_cons_zero, List.set_cons_succ])
      refine wpAnyH_take (i := 28) (oi := { dst := some 44, op := _, type := _, pos := _, after := _, guard := _ }) (v := ?_) rfl (by kernel_rfl) (by kernel_rfl) (by kernel_rfl) (fun _ _ _ h => h) (Or.inl ⟨by rfl, ?_⟩) hS3 ?_
      rotate_left
      focus (intro wv hSw; clear hSw; first | (go_simp; done) | (go_simp; with_reducible rfl))
      (try simp only [Act.put, List.setIfInBounds_toArray, List.set_cons_zero, List.set_cons_succ])
      refine wpAnyH_ready (rs := [29]) (by kernel_rfl) (by simp) ?_
      refine AllReadyH.cons (o := { dst := some 45, op := _, type := _, pos := _, after := _, guard := _ }) rfl (fun K hK => ?_) AllReadyH.nil
      go_simp
      obtain ⟨hS4, hc8⟩ := rf_box hS3 V3lt e (.slice q1 e.q.2.2.length q2) (.slice p1 e.p.2.length p2) (.slice t1 e.t.length t2)
      have hb4 := below_new V3 (.cells #[.int .i64 (e.k : Int), .string (strB e.q.1), .string (strB e.q.2.1), .slice q1 e.q.2.2.length q2, .int .i64 (e.p.1 : Int), .slice p1 e.p.2.length p2, .string (strB e.d), .slice t1 e.t.length t2] 80)
      refine hK.out _ _ hS4 (fun _ => ?_)
      clear hK K
      (try simp only [Act.put, List.setIfInBounds_toArray, List.set_cons_zero, List.set_cons_succ])
      change wpAnyH _ _ _ _ _ _ _ _ (V3.alloc (.cells #[.int .i64 (e.k : Int), .string (strB e.q.1), .string (strB e.q.2.1), .slice q1 e.q.2.2.length q2, .int .i64 (e.p.1 : Int), .slice p1 e.p.2.length p2, .string (strB e.d), .slice t1 e.t.length t2] 80))
      have hE4 : RvR (fun i => (Value.slice q1 e.q.2.2.length q2).ownBlock = some i ∨ (Value.slice p1 e.p.2.length p2).ownBlock = some i ∨ (Value.slice t1 e.t.length t2).ownBlock = some i) (V3.alloc (.cells #[.int .i64 (e.k : Int), .string (strB e.q.1), .string (strB e.q.2.1), .slice q1 e.q.2.2.length q2, .int .i64 (e.p.1 : Int), .slice p1 e.p.2.length p2, .string (strB e.d), .slice t1 e.t.length t2] 80)) e (rvC e (.slice q1 e.q.2.2.length q2) (.slice p1 e.p.2.length p2) (.slice t1 e.t.length t2)) := ⟨_, _, _, rfl, (OwnsP.below hOq hb4).q, (OwnsP.below hOp hb4).q, (OwnsP.below hOt hb4).q, fun i hi => hi⟩
      have hZ4 : ∀ i, ((Value.slice q1 e.q.2.2.length q2).ownBlock = some i ∨ (Value.slice p1 e.p.2.length p2).ownBlock = some i ∨ (Value.slice t1 e.t.length t2).ownBlock = some i) → N < i ∧ i < (V3.alloc (.cells #[.int .i64 (e.k : Int), .string (strB e.q.1), .string (strB e.q.2.1), .slice q1 e.q.2.2.length q2, .int .i64 (e.p.1 : Int), .slice p1 e.p.2.length p2, .string (strB e.d), .slice t1 e.t.length t2] 80)).heap.size := fun i hi => by
        have hs := hb4.size
        rcases hi with a | a | a
        · have := World.ownsRow.lt hOq i a; omega
        · have := World.ownsRow.lt hOp i a; omega
        · have := World.ownsRow.lt hOt i a; omega
      have hR4 := (HO.out.below (by rw [HN.out]; exact hW3)).below hb4
      generalize V3.alloc (.cells #[.int .i64 (e.k : Int), .string (strB e.q.1), .string (strB e.q.2.1), .slice q1 e.q.2.2.length q2, .int .i64 (e.p.1 : Int), .slice p1 e.p.2.length p2, .string (strB e.d), .slice t1 e.t.length t2] 80) = V4 at *
      generalize V3.heap.size = N4 at *
      refine wpAnyH_ready (rs := [30]) (by kernel_rfl) (by simp) ?_
      refine AllReadyH.cons (o := { dst := some 46, op := _, type := _, pos := _, after := _, guard := _ }) rfl (fun K hK => ?_) AllReadyH.nil
      (try rw [if_pos (by rfl)])
      refine wp_appendR _ _ rfl _ rfl hR4 N4 rfl hc8 (fun u hu => by simp at hu; rcases hu with rfl | rfl | rfl | rfl | rfl | rfl | rfl | rfl <;> rfl) hE4 (fun i hi => ⟨(hZ4 i hi).2, fun a => by have := HLT i a; have := (hZ4 i hi).1; omega⟩) (by rw [hlen]; omega) hS4.2.size (fun v5 V5 hO5 hg5 _ => ?_)
      have hS5 := rf_grown hS4 hg5 HLT (fun i hi => HLB i hi)
      refine hK.out _ _ hS5 (fun _ => ?_)
      clear hK K
      (try simp only [Act.put, List.setIfInBounds_toArray, List.set_cons_zero, List.set_cons_succ])
      refine wpAnyH_take (i := 31) (oi := { dst := some 3, op := _, type := _, pos := _, after := _, guard := _ }) (v := ?_) rfl (by kernel_rfl) (by kernel_rfl) (by kernel_rfl) (fun _ _ _ h => h) (Or.inl ⟨by rfl, ?_⟩) hS5 ?_
      rotate_left
      focus (intro wv hSw; clear hSw; first | (go_simp; done) | (go_simp; with_reducible rfl))
      (try simp only [Act.put, List.setIfInBounds_toArray, List.set_cons_zero, List.set_cons_succ])
      refine wpAnyH_done (by kernel_rfl) ?_ _
      rw [HTK.out] at hO5
      have hY5 : ∀ i, (Y i ∨ ((Value.slice q1 e.q.2.2.length q2).ownBlock = some i ∨ (Value.slice p1 e.p.2.length p2).ownBlock = some i ∨ (Value.slice t1 e.t.length t2).ownBlock = some i)) → w.heap.size ≤ i := fun i hi => hi.elim (HY i) (fun a => by have := (hZ4 i a).1; omega)
      have hB5 := hS5.2
      (try simp only [Exit.inBlock, Exit.then])
      clear hS0 hS4 hS5 hE4 hZ4 hR4 hg5 hb4 hOq hOp hOt hc8
      go_wp2_with fail
      go_roundw
      case rel => exact ⟨k + 1, _, by go_num, by omega, hO5, hY5, hB5⟩
      case measure => simp [intOf]; omega
    · have htk : es.take k = es := List.take_of_length_le (by omega)
      rw [htk] at hO
      go_wp2_with fail
      go_ret
      exact ⟨_, Y, rfl, hO, hY, hBr⟩
end Go.Proofs.YtpikjcmenmdolaaGreatDoor

/- Lists of the reference's events: the last event's data grows in its place. -/
namespace Go.Proofs.YtpikjcmenmdolaaGreatDoor
open Go.RowKit

theorem joinE_len : ∀ (l o : List Ev), (l.foldl snocE o).length ≤ o.length + l.length := by
  intro l
  induction l with
  | nil => intro o; simp
  | cons e t ih =>
    intro o
    have h : (snocE o e).length ≤ o.length + 1 := by
      unfold snocE
      split
      · split
        · simp
        · simp
      · simp
    have := ih (snocE o e)
    simp only [List.foldl_cons, List.length_cons]
    omega
theorem flat_len {n : Nat} : ∀ {xs : List (List Value)}, (∀ x ∈ xs, x.length = n) → xs.flatten.length = xs.length * n := by
  intro xs
  induction xs with
  | nil => intro _; simp
  | cons c t ih =>
    intro h
    rw [List.flatten_cons, List.length_append, ih (fun x hx => h x (List.mem_cons_of_mem _ hx)), h c (List.mem_cons_self ..), List.length_cons, Nat.add_mul, Nat.one_mul, Nat.add_comm]
/-- An event of a list, in the cells of the list's block. -/
theorem OwnsR.ev {B : Nat} {Y : Nat → Prop} {w : World} {v : Value} {es : List Ev} (h : OwnsR B Y w v es) {i : Nat} {e : Ev} (he : es[i]? = some e) :
    ∃ g cap, v = .slice (some ⟨g, 0, none⟩) es.length cap ∧ B ≤ g ∧ g < w.heap.size ∧ ∃ q p t, (∀ j u, (rvC e q p t)[j]? = some u → w.cell? ⟨g, i * 8 + j, none⟩ = some u) ∧ RvR Y w e (rvC e q p t) := by
  obtain ⟨xs, h1, h2, h3, _, _⟩ := h
  have h10 := h1
  have hi := (List.getElem?_eq_some_iff.1 he).1
  rcases h1 with ⟨hl, ⟨hv, hn⟩ | ⟨g, cap, cur, hv, hb, hg, hn, hm, hs, ht⟩⟩
  · omega
  · have hlt := World.ownsRow.lt h10 g (by rw [hv]; rfl)
    refine ⟨g, cap, hv, hlt.1, hlt.2, ?_⟩
    obtain ⟨x, hx⟩ : ∃ x, xs[i]? = some x := ⟨xs[i], by simp [h2, hi]⟩
    have hr := h3 i x e hx he
    have hr0 := hr
    obtain ⟨q, p, t, rfl, r1, r2, r4, _⟩ := hr
    have h8 : ∀ x ∈ xs, x.length = 8 := by
      intro y hy
      obtain ⟨k, hk⟩ := List.mem_iff_getElem?.1 hy
      have hk' := (List.getElem?_eq_some_iff.1 hk).1
      obtain ⟨f, hf⟩ : ∃ f, es[k]? = some f := ⟨es[k], by simp [show k < es.length by omega]⟩
      obtain ⟨_, _, _, rfl, _⟩ := h3 k y f hk hf
      rfl
    refine ⟨q, p, t, fun j u hu => ?_, hr0⟩
    subst hv
    have hj : j < 8 := (List.getElem?_eq_some_iff.1 hu).1
    rw [World.ownsRow.cellAt h10 (i * 8 + j) (by omega), flat_at h8 hx hj, hu]
/-- The last event's data grows. -/
theorem OwnsR.grow {B : Nat} {Y : Nat → Prop} {w : World} {v : Value} {o : List Ev} {x : Ev} (h : OwnsR B Y w v (o ++ [x])) (d : List UInt8) :
    ∃ g cap, v = .slice (some ⟨g, 0, none⟩) (o.length + 1) cap ∧ B ≤ g ∧ g < w.heap.size ∧ w.cell? ⟨g, o.length * 8, none⟩ = some (.int .i64 (x.k : Int)) ∧ w.cell? ⟨g, o.length * 8 + 6, none⟩ = some (.string (strB x.d)) ∧ w.frozen? ⟨g, o.length * 8 + 6, none⟩ = false ∧
      OwnsR B Y (w.setCell ⟨g, o.length * 8 + 6, none⟩ (.string (strB (x.d ++ d)))) v (o ++ [{ x with d := x.d ++ d }]) := by
  have he : (o ++ [x])[o.length]? = some x := by simp
  obtain ⟨g, cap, hv, hg, hgl, q, p, t, hc, hR⟩ := h.ev he
  obtain ⟨xs, h1, h2, h3, h4, h5⟩ := h
  obtain ⟨ys, c, rfl⟩ : ∃ ys c, xs = ys ++ [c] := by
    have hne : xs ≠ [] := by rintro rfl; simp at h2
    exact ⟨xs.dropLast, xs.getLast hne, (List.dropLast_concat_getLast hne).symm⟩
  have hl : ys.length = o.length := by simpa using h2
  have hcx := h3 o.length c x (by rw [← hl]; simp) he
  obtain ⟨q1, p1, t1, rfl, r1, r2, r4, hy⟩ := hcx
  have h8 : ∀ y ∈ ys, y.length = 8 := by
    intro y hy
    obtain ⟨k, hk⟩ := List.mem_iff_getElem?.1 hy
    have hk' := (List.getElem?_eq_some_iff.1 hk).1
    obtain ⟨f, hf⟩ : ∃ f, (o ++ [x])[k]? = some f := ⟨(o ++ [x])[k]'(by simp; omega), List.getElem?_eq_getElem _⟩
    obtain ⟨_, _, _, rfl, _⟩ := h3 k y f (by rw [List.getElem?_append_left (by omega)]; exact hk) hf
    rfl
  have hfl : ys.flatten.length = o.length * 8 := by rw [flat_len h8, hl]
  have hlen : (o ++ [x]).length = o.length + 1 := by simp
  rw [hlen] at hv
  subst hv
  rw [hlen] at h1
  have hst := World.ownsRow.stored h1 (o.length * 8 + 6) (.string (strB (x.d ++ d)))
  have hset : (ys ++ [rvC x q1 p1 t1]).flatten.set (o.length * 8 + 6) (.string (strB (x.d ++ d))) = (ys ++ [rvC { x with d := x.d ++ d } q1 p1 t1]).flatten := by
    rw [List.flatten_append, List.flatten_append, List.flatten_singleton, List.flatten_singleton, List.set_append_right _ _ (by omega), hfl, Nat.add_sub_cancel_left]; rfl
  have hO : Only (· = g) w (w.setCell ⟨g, o.length * 8 + 6, none⟩ (.string (strB (x.d ++ d)))) := Only.set (X := (· = g)) rfl w _ _
  have hYg : ∀ k, Y k → ¬ k = g := fun k hk e => h4 g rfl (e ▸ hk)
  refine ⟨g, cap, rfl, hg, hgl, hc 0 _ rfl, hc 6 _ rfl, World.ownsRow.frozenAt h1 _, ys ++ [rvC { x with d := x.d ++ d } q1 p1 t1], ?_, by simp [hl], fun i y f hi hf => ?_, h4, fun k hk => Nat.lt_of_lt_of_le (h5 k hk) hO.size⟩
  · rw [← hset]
    have : (o ++ [({ x with d := x.d ++ d } : Ev)]).length = o.length + 1 := by simp
    rw [this]; exact hst.1
  · by_cases hi' : i < o.length
    · rw [List.getElem?_append_left (by omega)] at hi hf
      exact (h3 i y f (by rw [List.getElem?_append_left (by omega)]; exact hi) (by rw [List.getElem?_append_left hi']; exact hf)).only hO hYg
    · have hi0 : i - o.length = 0 := by
        have := (List.getElem?_eq_some_iff.1 hf).1
        simp at this; omega
      rw [List.getElem?_append_right (by omega)] at hi hf
      rw [hl] at hi
      rw [hi0] at hi hf
      simp at hi hf
      subst hi hf
      exact ⟨q1, p1, t1, rfl, r1.only hO (fun k hk => hYg k (hy k (.inl hk))), r2.only hO (fun k hk => hYg k (hy k (.inr (.inl hk)))), r4.only hO (fun k hk => hYg k (hy k (.inr (.inr hk)))), hy⟩
theorem RvR.below {Y : Nat → Prop} {w w' : World} {e : Ev} {x : List Value} (h : RvR Y w e x) (hb : Below w.heap.size w w') : RvR Y w' e x := h.only (Only.below (X := fun _ => False) hb) (fun _ _ h => h)
theorem OwnsR.same {B : Nat} {Y : Nat → Prop} {w : World} {v : Value} {es : List Ev} (h : OwnsR B (fun k => Y k ∨ Y k) w v es) : OwnsR B Y w v es := by simpa only [or_self] using h
theorem rv_box (W : World) (e : Ev) (q p t : Value) : ∀ j u, (rvC e q p t)[j]? = some u → (W.alloc (.cells #[.int .i64 (e.k : Int), .string (strB e.q.1), .string (strB e.q.2.1), q, .int .i64 (e.p.1 : Int), p, .string (strB e.d), t] 80)).cell? ((⟨W.heap.size, 0, none⟩ : Addr).add j) = some u := by
  intro j u hu
  rw [Addr.add_lit, Nat.zero_add, World.cell?_alloc_at _ _ _ _ rfl]
  simpa using hu
theorem wpList_appendR {B : Nat} {Y Z : Nat → Prop} {w : World} {ops : Array Oper} {rest : List Oper} {o : Oper} {a : Act} {Q : Exit → Act → World → Prop} (hgd : o.guard = none) (s x : Operand)
    (ho : o.op = .call { callee := .builtin .append, args := #[s, x], argTypes := #[44, 44] }) (v : Value) (hs : a.eval s = v) {es : List Ev} (hown : OwnsR B Y w v es) (g : Nat) (hx : a.eval x = .slice (some ⟨g, 0, none⟩) 1 1)
    {e : Ev} {q p t : Value} (hc : ∀ j u, (rvC e q p t)[j]? = some u → w.cell? ((⟨g, 0, none⟩ : Addr).add j) = some u) (h1 : ∀ u ∈ rvC e q p t, u.oneCell' = true) (hE : RvR Z w e (rvC e q p t)) (hZ : ∀ k, Z k → k < w.heap.size ∧ v.ownBlock ≠ some k)
    (hn : es.length ≤ 1000000000) (hB : B ≤ w.heap.size)
    (h : ∀ v' w', OwnsR B (fun k => Y k ∨ Z k) w' v' (es ++ [e]) → w.grownBy w' v.ownBlock → (v'.ownBlock = v.ownBlock ∨ v'.ownBlock = some w.heap.size) → wpList Tryz.prog ops Q rest (a.put o.dst v') w') :
    wpList Tryz.prog ops Q (o :: rest) a w :=
  wpList_plain hgd fun _ hK => wp_appendR s x ho v hs hown g hx hc h1 hE hZ hn hB (fun v' w' a b c => hK _ _ (h v' w' a b c))
/-- All the data of a list of events. -/
def datS (l : List Ev) : Nat := (l.map (fun e => e.d.length)).sum
theorem datS_app (a b : List Ev) : datS (a ++ b) = datS a + datS b := by simp [datS]
theorem datS_one (e : Ev) : datS [e] = e.d.length := by simp [datS]
theorem datS_snoc (o : List Ev) (e : Ev) : datS (snocE o e) = datS o + e.d.length := by
  unfold snocE
  split
  · rename_i x hx
    split
    · have h := last_split hx
      have h2 : datS o = datS o.dropLast + x.d.length := by rw [h]; simp only [List.dropLast_concat]; rw [datS_app, datS_one]
      rw [datS_app, datS_one, h2]
      simp; omega
    · rw [datS_app, datS_one]
  · rw [datS_app, datS_one]
theorem datS_fold : ∀ (l o : List Ev), datS (l.foldl snocE o) = datS o + datS l := by
  intro l
  induction l with
  | nil => intro o; simp [datS]
  | cons e t ih =>
    intro o
    rw [List.foldl_cons, ih, datS_snoc]
    have : datS (e :: t) = e.d.length + datS t := by simp [datS]
    omega
theorem datS_join (l : List Ev) : datS (joinE l) = datS l := by
  have h := datS_fold l []
  have h0 : datS [] = 0 := rfl
  rw [h0, Nat.zero_add] at h
  exact h
theorem datS_get {l : List Ev} {k : Nat} {e : Ev} (h : l[k]? = some e) : datS (l.take k) + e.d.length ≤ datS l := by
  have h1 : l.take k ++ [e] = l.take (k + 1) := by rw [List.take_add_one, h]; rfl
  have h2 := datS_app (l.take (k + 1)) (l.drop (k + 1))
  rw [List.take_append_drop, ← h1, datS_app, datS_one] at h2
  omega
theorem strB_two (a b : List UInt8) : strB a ++ strB b = strB (a ++ b) := by rw [strB_app, strB_list]
end Go.Proofs.YtpikjcmenmdolaaGreatDoor
