/- What the reference's IDs, Find, Remove and Put of variants return. -/
import Derived.Test.YtbmbcdbldbjddaaVyPutW
import Derived.Test.YtbmbcdbldbjddaaVyRefK
namespace Go.Proofs.Ytbmbcdbldbjddaa
open Go.RowKit

theorem infoR3 : (Try.prog.info? 84).map (fun i => (i.zero, i.size, i.bytes)) = some (some (.agg #[.slice none 0 0, .string ByteArray.empty, .int .i64 0]), 3, 48) := by kernel_rfl
set_option maxHeartbeats 8000000 in
set_option maxRecDepth 100000 in
theorem refIDs_any (v : Value) (l : List Vr) (G : Nat → Prop) (w : World) (hR : ReadsV G w v l) (hl : l.length ≤ 100) :
    Calls Try.prog 27 #[v] w fun x w' => ∃ v, x = .returned v ∧ OwnsI w.heap.size w' v (idsV l) ∧ Below w.heap.size w w' := by
  obtain ⟨ao, cap, rfl, hca⟩ := hR
  have HC := Lib.hid hca
  clear hca
  go_enter Try.func27, Try.ntmps27
  go_wp2_with fail
  go_loopw [3, 8] (fun v i wr => ∃ k : Nat, i = .int .i64 k ∧ k ≤ l.length ∧ OwnsI w.heap.size wr v (idsV (l.take k)) ∧ Below w.heap.size w wr) (fun _ i _ => l.length - (intOf i).toNat)
  case atStart => exact ⟨0, rfl, Nat.zero_le _, OwnsI.nil _ _, Below.refl _ _⟩
  case round =>
    obtain ⟨k, rfl, hk, hO, hBr⟩ := hrel
    have hbr := hBr.size
    by_cases hlt : k < l.length
    · obtain ⟨p, hp⟩ : ∃ p, l[k]? = some p := ⟨l[k], by simp [hlt]⟩
      obtain ⟨g, n, rfl, hg, _, h0, h1, h2, hrn⟩ := HC.out k p hp
      obtain ⟨na, nc, rfl, _⟩ := id hrn
      have d0 := (hBr.cell (p := ⟨g, k * 3, none⟩) hg).trans h0
      have d1 := (hBr.cell (p := ⟨g, k * 3 + 1, none⟩) hg).trans h1
      have d2 := (hBr.cell (p := ⟨g, k * 3 + 2, none⟩) hg).trans h2
      have hidl : (idsV (l.take k)).length ≤ 100 := by unfold idsV; rw [List.length_map, List.length_take]; omega
      have HR := Lib.hid (ids_yes hp)
      have HB := Lib.hid hBr
      have HO3 := Lib.hid (hO.below (below_new wr (.cells #[.slice na p.ns.length nc, .string (strB p.key), .int .i64 p.id] 84)))
      have hz := (below_new wr (.cells #[.slice na p.ns.length nc, .string (strB p.key), .int .i64 p.id] 84)).size
      have HOl := Lib.hid hO
      clear h0 h1 h2 hrn hp hBr hO
      go_upto_region 5 with fail
      obtain ⟨k0, k1, k2⟩ := new_three wr (.slice na p.ns.length nc) (.string (strB p.key)) (.int .i64 p.id) 84
      have HBn := Lib.hid (below_new wr (.cells #[.slice na p.ns.length nc, .string (strB p.key), .int .i64 p.id] 84))
      change Code.wp _ _ _ _ (wr.alloc (.cells #[.slice na p.ns.length nc, .string (strB p.key), .int .i64 p.id] 84))
      generalize (wr.alloc (.cells #[.slice na p.ns.length nc, .string (strB p.key), .int .i64 p.id] 84)) = w2 at *
      go_wp2_with (at_builtin; refine wpList_appendI rfl _ _ rfl _ rfl (HO3.out.below (below_new _ _)) w2.heap.size rfl (z := p.id) (cell_one_new _ _ _) (by omega) (by simp; omega) ?_; intro v' w3 hown' hgrow hat)
      go_roundw
      case rel => exact ⟨k + 1, by go_num, by omega, by rw [HR.out]; exact hown', below_appendI HB.out hbr HBn.out HOl.out hgrow⟩
      case measure => simp [intOf]; omega
    · have htk : l.take k = l := List.take_of_length_le (by omega)
      rw [htk] at hO
      go_wp2_with fail
      go_ret
      exact ⟨_, rfl, hO, hBr⟩
/-- What a round of the reference's Find asks of a world. -/
structure RcS (N : Nat) (e : Vr) (n fv : Value) (ps : Flds) (w0 w' : World) : Prop where
  c0 : w'.cell? ⟨N, 0, none⟩ = some n
  c1 : w'.cell? ⟨N, 1, none⟩ = some (.string (strB e.key))
  c2 : w'.cell? ⟨N, 2, none⟩ = some (.int .i64 e.id)
  rn : ReadsS w' n e.ns
  rf : ReadsQ w' fv ps
  l1 : N < w'.heap.size
  l : Below w0.heap.size w0 w'
theorem RcS.below {N : Nat} {e : Vr} {n fv : Value} {ps : Flds} {w0 w w' : World} (h : RcS N e n fv ps w0 w) (hb : Below w.heap.size w w') : RcS N e n fv ps w0 w' :=
  ⟨(hb.cell (p := ⟨N, 0, none⟩) h.l1).trans h.c0, (hb.cell (p := ⟨N, 1, none⟩) h.l1).trans h.c1, (hb.cell (p := ⟨N, 2, none⟩) h.l1).trans h.c2, h.rn.below hb, h.rf.below hb, Nat.lt_of_lt_of_le h.l1 hb.size, h.l.trans (hb.mono h.l.size)⟩
theorem rcS_all {N : Nat} {e : Vr} {n fv : Value} {ps : Flds} {w0 w' : World} (h : RcS N e n fv ps w0 w') : w'.cell? ⟨N, 0, none⟩ = some n ∧ w'.cell? ⟨N, 1, none⟩ = some (.string (strB e.key)) ∧ RcS N e n fv ps w0 w' := ⟨h.c0, h.c1, h⟩
set_option maxHeartbeats 8000000 in
set_option maxRecDepth 100000 in
theorem refFind_any (v : Value) (l : List Vr) (G : Nat → Prop) (fa : Option Addr) (fc : Nat) (ps : Flds) (w : World) (hR : ReadsV G w v l) (hq : ReadsQ w (.slice fa ps.length fc) ps) (hl : FitV l) (hf : FitK ps) :
    Calls Try.prog 21 #[v, .slice fa ps.length fc] w fun x w' => ∃ v, x = .returned v ∧ OwnsI w.heap.size w' v (findV l ps) ∧ Below w.heap.size w w' := by
  obtain ⟨ao, cap, rfl, hca⟩ := hR
  have HC := Lib.hid hca
  have HQ := Lib.hid hq
  have hll := hl.len
  have HL := Lib.hid hl.each
  have HF := Lib.hid hf
  clear hca hq hl hf
  go_enter Try.func21, Try.ntmps21
  go_wp2_with fail
  go_loopw [5, 10] (fun v i wr => ∃ k : Nat, i = .int .i64 k ∧ k ≤ l.length ∧ OwnsI w.heap.size wr v (findV (l.take k) ps) ∧ Below w.heap.size w wr) (fun _ i _ => l.length - (intOf i).toNat)
  case atStart => exact ⟨0, rfl, Nat.zero_le _, OwnsI.nil _ _, Below.refl _ _⟩
  case round =>
    obtain ⟨k, rfl, hk, hO, hBr⟩ := hrel
    have hbr := hBr.size
    by_cases hlt : k < l.length
    · obtain ⟨p, hp⟩ : ∃ p, l[k]? = some p := ⟨l[k], by simp [hlt]⟩
      obtain ⟨g, n, rfl, hg, _, h0, h1, h2, hrn⟩ := HC.out k p hp
      obtain ⟨na, nc, rfl, _⟩ := id hrn
      have d0 := (hBr.cell (p := ⟨g, k * 3, none⟩) hg).trans h0
      have d1 := (hBr.cell (p := ⟨g, k * 3 + 1, none⟩) hg).trans h1
      have d2 := (hBr.cell (p := ⟨g, k * 3 + 2, none⟩) hg).trans h2
      have hidl : (findV (l.take k) ps).length ≤ 16 := by have := find_len (l.take k) ps; rw [List.length_take] at this; omega
      have HB := Lib.hid hBr
      have HOl := Lib.hid hO
      have HP := Lib.hid hp
      have HFn := HL.out p (List.mem_of_getElem? hp)
      have HK := Lib.hid (fun (W : World) (ha : ReadsS W (.slice na p.ns.length nc) p.ns) (hq : ReadsQ W (.slice fa ps.length fc) ps) => refKey_any _ p.ns _ ps W ha hq HFn HF.out)
      have HE := Lib.hid (eq_str (keyL p.ns ps) p.key)
      have HS := Lib.hid (show RcS wr.heap.size p (.slice na p.ns.length nc) (.slice fa ps.length fc) ps wr (wr.alloc (.cells #[.slice na p.ns.length nc, .string (strB p.key), .int .i64 p.id] 84)) from
        ⟨(new_three wr _ _ _ _).1, (new_three wr _ _ _ _).2.1, (new_three wr _ _ _ _).2.2, (hrn.s.below hBr).below (below_new _ _), (HQ.out.below hBr).below (below_new _ _), by simp, below_new _ _⟩)
      clear h0 h1 h2 hrn hp hBr hO HFn
      go_upto_region 5 with fail
      change Code.wp _ _ _ _ (wr.alloc (.cells #[.slice na p.ns.length nc, .string (strB p.key), .int .i64 p.id] 84))
      generalize (wr.alloc (.cells #[.slice na p.ns.length nc, .string (strB p.key), .int .i64 p.id] 84)) = W1 at *
      have hS0 := HS.out.below (Below.refl _ _).drew
      clear HS d0 d1 d2
      refine wp_region_held_drew (S := (fun w' => w'.cell? ⟨wr.heap.size, 0, none⟩ = some (.slice na p.ns.length nc) ∧ w'.cell? ⟨wr.heap.size, 1, none⟩ = some (.string (strB p.key)) ∧ RcS wr.heap.size p (.slice na p.ns.length nc) (.slice fa ps.length fc) ps wr w')) (by kernel_rfl) (rcS_all hS0) (fun hHeld => ?_)
      generalize W1.drew = V0 at *
      refine wpAnyH_take (i := 0) (oi := { dst := some 14, op := _, type := _, pos := _, after := _, guard := _ }) (v := ?_) rfl (by kernel_rfl) (by kernel_rfl) (by kernel_rfl) (fun _ _ _ h => h) (Or.inl ⟨by rfl, ?_⟩) (by assumption) ?_
      rotate_left
      focus (intro w hSw; (try dsimp only at hSw); first | (go_simp; done) | (go_simp; with_reducible rfl))
      (try simp only [Act.put, List.setIfInBounds_toArray, List.set_cons_zero, List.set_cons_succ])
      refine wpAnyH_take (i := 1) (oi := { dst := some 15, op := _, type := _, pos := _, after := _, guard := _ }) (v := ?_) rfl (by kernel_rfl) (by kernel_rfl) (by kernel_rfl) (fun _ _ _ h => h) (Or.inl ⟨by rfl, ?_⟩) (by assumption) ?_
      rotate_left
      focus (intro w hSw; (try dsimp only at hSw); first | (go_simp; done) | (go_simp; with_reducible rfl))
      (try simp only [Act.put, List.setIfInBounds_toArray, List.set_cons_zero, List.set_cons_succ])
      refine wpAnyH_take (i := 2) (oi := { dst := some 16, op := _, type := _, pos := _, after := _, guard := _ }) (v := ?_) rfl (by kernel_rfl) (by kernel_rfl) (by kernel_rfl) (fun _ _ _ h => h) (Or.inl ⟨by rfl, ?_⟩) (by assumption) ?_
      rotate_left
      focus (intro w hSw; (try dsimp only at hSw); first | (go_simp; done) | (go_simp; with_reducible rfl))
      (try simp only [Act.put, List.setIfInBounds_toArray, List.set_cons_zero, List.set_cons_succ])
      refine wpAnyH_take (i := 4) (oi := { dst := some 18, op := _, type := _, pos := _, after := _, guard := _ }) (v := ?_) rfl (by kernel_rfl) (by kernel_rfl) (by kernel_rfl) (fun _ _ _ h => h) (Or.inl ⟨by rfl, ?_⟩) (by assumption) ?_
      rotate_left
      focus (intro w hSw; (try dsimp only at hSw); first | (go_simp; done) | (go_simp; with_reducible rfl))
      (try simp only [Act.put, List.setIfInBounds_toArray, List.set_cons_zero, List.set_cons_succ])
      refine wpAnyH_take (i := 5) (oi := { dst := some 19, op := _, type := _, pos := _, after := _, guard := _ }) (v := ?_) rfl (by kernel_rfl) (by kernel_rfl) (by kernel_rfl) (fun _ _ _ h => h) (Or.inl ⟨by rfl, ?_⟩) (by assumption) ?_
      rotate_left
      focus (intro w hSw; (try dsimp only at hSw); first | (go_simp; done) | (go_simp; with_reducible rfl))
      (try simp only [Act.put, List.setIfInBounds_toArray, List.set_cons_zero, List.set_cons_succ])
      refine wpAnyH_ready (rs := [3]) (by kernel_rfl) (by simp) ?_
      refine AllReadyH.cons (o := { dst := some 17, op := _, type := _, pos := _, after := _, guard := _ }) rfl (fun K hK => ?_) AllReadyH.nil
      go_simp
      refine (HK.out _ hS0.rn hS0.rf).mono ?_
      rintro x V1 ⟨rfl, hBc⟩
      have hS1 := hS0.below hBc
      refine hK.out _ _ (rcS_all hS1) (fun hH1 => ?_)
      clear hK K hBc hS0 hHeld
      (try simp only [Act.put, List.setIfInBounds_toArray, List.set_cons_zero, List.set_cons_succ])
      refine wpAnyH_take (i := 6) (oi := { dst := some 20, op := _, type := _, pos := _, after := _, guard := _ }) (v := ?_) rfl (by kernel_rfl) (by kernel_rfl) (by kernel_rfl) (fun _ _ _ h => h) (Or.inl ⟨by rfl, ?_⟩) (by assumption) ?_
      rotate_left
      focus (intro w hSw; (try dsimp only at hSw); first | (go_simp; done) | (go_simp; with_reducible rfl))
      (try simp only [Act.put, List.setIfInBounds_toArray, List.set_cons_zero, List.set_cons_succ])
      refine wpAnyH_done (by kernel_rfl) ?_ _
      (try simp only [Exit.then])
      obtain ⟨k0, k1, k2, _, _, _, hb1⟩ := hS1
      have HB1 := Lib.hid hb1
      have hs1 := hb1.size
      have HO3 := Lib.hid (OwnsI.below HOl.out hb1)
      clear hb1 hH1
      rw [HE.out]
      cases hd : decide (keyL p.ns ps = p.key) with
      | true =>
        have HR := Lib.hid (find_yes HP.out hd)
        clear hd
        go_wp2_with (at_builtin; refine wpList_appendI rfl _ _ rfl _ rfl (HO3.out.below (below_new _ _)) V1.heap.size rfl (z := p.id) (cell_one_new _ _ _) (by omega) (by simp; omega) ?_; intro v' w3 hown' hgrow hat)
        go_roundw
        case rel => exact ⟨k + 1, by go_num, by omega, by rw [HR.out]; exact hown', below_appendI HB.out hbr HB1.out HOl.out hgrow⟩
        case measure => simp [intOf]; omega
      | false =>
        have HR := Lib.hid (find_no HP.out hd)
        clear hd
        go_wp2_with fail
        go_roundw
        case rel => exact ⟨k + 1, by go_num, by omega, by rw [HR.out]; exact HO3.out, HB.out.trans (HB1.out.mono hbr)⟩
        case measure => simp [intOf]; omega
    · have htk : l.take k = l := List.take_of_length_le (by omega)
      rw [htk] at hO
      go_wp2_with fail
      go_ret
      exact ⟨_, rfl, hO, hBr⟩
theorem oth_yes {l : List Vr} {id : Int} {k : Nat} {e : Vr} (h : l[k]? = some e) (hd : e.id ≠ id) : otherV (l.take (k + 1)) id = otherV (l.take k) id ++ [e] := by
  unfold otherV; rw [take_more h, List.filter_append, List.filter_cons, if_pos (by simpa using hd)]; rfl
theorem oth_no {l : List Vr} {id : Int} {k : Nat} {e : Vr} (h : l[k]? = some e) (hd : e.id = id) : otherV (l.take (k + 1)) id = otherV (l.take k) id := by
  unfold otherV; rw [take_more h, List.filter_append, List.filter_cons, if_neg (by simpa using hd)]; simp
theorem oth_len (l : List Vr) (id : Int) : (otherV l id).length ≤ l.length := List.length_filter_le ..
theorem below_appendV {T : TypeId} {B : Nat} {Y : Nat → Prop} {a w w1 w2 : World} {v : Value} {es : List Vr} {o : Obj} (hB : Below B a w) (hBs : B ≤ w.heap.size) (hb1 : Below w.heap.size w w1) (hown : OwnsV T B Y w v es)
    (hgrow : (w1.alloc o).grownBy w2 v.ownBlock) : Below B a w2 :=
  ((hB.trans (hb1.mono hBs)).alloc (by have := hb1.size; omega) o).grown hgrow (by have := hb1.size; simp; omega) (fun q hq => (own_lt hown q hq).1)
set_option maxHeartbeats 8000000 in
set_option maxRecDepth 100000 in
theorem refRemove_any (v : Value) (l : List Vr) (id : Int) (G : Nat → Prop) (w : World) (hR : ReadsV G w v l) (hl : l.length ≤ 100) :
    Calls Try.prog 23 #[v, .int .i64 id] w fun x w' => ∃ v, x = .returned (.tuple #[v, .bool (decide ((otherV l id).length < l.length))]) ∧ OwnsV 84 w.heap.size (fun j => G j ∧ j < w.heap.size) w' v (otherV l id) ∧ Below w.heap.size w w' := by
  obtain ⟨ao, cap, rfl, hca⟩ := hR
  have HC := Lib.hid hca
  clear hca
  go_enter Try.func23, Try.ntmps23
  go_wp2_with fail
  go_loopw [6, 11] (fun v i wr => ∃ k : Nat, i = .int .i64 k ∧ k ≤ l.length ∧ OwnsV 84 w.heap.size (fun j => G j ∧ j < w.heap.size) wr v (otherV (l.take k) id) ∧ Below w.heap.size w wr) (fun _ i _ => l.length - (intOf i).toNat)
  case atStart => exact ⟨0, rfl, Nat.zero_le _, (OwnsV.nil _ _ _).wide (fun _ h => h.elim) (fun j hj => hj.2) (fun j hj => by simp [Value.ownBlock] at hj), Below.refl _ _⟩
  case round =>
    obtain ⟨k, rfl, hk, hO, hBr⟩ := hrel
    have hbr := hBr.size
    by_cases hlt : k < l.length
    · obtain ⟨p, hp⟩ : ∃ p, l[k]? = some p := ⟨l[k], by simp [hlt]⟩
      obtain ⟨g, n, rfl, hg, _, h0, h1, h2, hrn⟩ := HC.out k p hp
      obtain ⟨na, nc, rfl, _⟩ := id_ hrn
      have d0 := (hBr.cell (p := ⟨g, k * 3, none⟩) hg).trans h0
      have d1 := (hBr.cell (p := ⟨g, k * 3 + 1, none⟩) hg).trans h1
      have d2 := (hBr.cell (p := ⟨g, k * 3 + 2, none⟩) hg).trans h2
      have hol : (otherV (l.take k) id).length ≤ 100 := by have := oth_len (l.take k) id; rw [List.length_take] at this; omega
      have HB := Lib.hid hBr
      have HOl := Lib.hid hO
      have HP := Lib.hid hp
      have HRn := Lib.hid (show ReadsG (fun j => G j ∧ j < w.heap.size) wr (.slice na p.ns.length nc) p.ns from by
        obtain ⟨ao', cap', e1, hc⟩ := hrn
        refine ⟨ao', cap', e1, fun j s hj => ?_⟩
        obtain ⟨q, off, a1, a2, a4, a3⟩ := hc j s hj
        exact ⟨q, off, a1, Nat.lt_of_lt_of_le a2 hbr, ⟨a4, a2⟩, (hBr.cell (p := ⟨q, off + j, none⟩) a2).trans a3⟩)
      clear h0 h1 h2 hrn hp hBr hO
      go_upto_region 5 with fail
      obtain ⟨k0, k1, k2⟩ := new_three wr (.slice na p.ns.length nc) (.string (strB p.key)) (.int .i64 p.id) 84
      have HBn := Lib.hid (below_new wr (.cells #[.slice na p.ns.length nc, .string (strB p.key), .int .i64 p.id] 84))
      have HO3 := Lib.hid (HOl.out.below (below_new wr (.cells #[.slice na p.ns.length nc, .string (strB p.key), .int .i64 p.id] 84)))
      have HR3 := Lib.hid (HRn.out.only (Only.below (X := fun _ => False) (below_new wr (.cells #[.slice na p.ns.length nc, .string (strB p.key), .int .i64 p.id] 84))) (fun _ _ _ h => h))
      change Code.wp _ _ _ _ (wr.alloc (.cells #[.slice na p.ns.length nc, .string (strB p.key), .int .i64 p.id] 84))
      have hz := (below_new wr (.cells #[.slice na p.ns.length nc, .string (strB p.key), .int .i64 p.id] 84)).size
      generalize (wr.alloc (.cells #[.slice na p.ns.length nc, .string (strB p.key), .int .i64 p.id] 84)) = w2 at *
      clear d0 d1 d2
      by_cases hd : p.id = id
      · have HR := Lib.hid (oth_no HP.out hd)
        have hne : (p.id != id) = false := by simpa using hd
        clear hd
        go_wp2_with fail
        go_roundw
        case rel => exact ⟨k + 1, by go_num, by omega, by rw [HR.out]; exact HO3.out, HB.out.trans (HBn.out.mono hbr)⟩
        case measure => simp [intOf]; omega
      · have HR := Lib.hid (oth_yes HP.out hd)
        have hne : (p.id != id) = true := by simpa using hd
        clear hd
        go_wp2_with (at_builtin; refine wpList_appendV (T := 84) (Z := fun j => G j ∧ j < w.heap.size) Try.underlying42 infoR3 rfl _ _ rfl _ rfl (HO3.out.below (below_new _ _)) w2.heap.size rfl (e := p) (n := .slice na p.ns.length nc) (cell_three_new _ _ _ _ _) rfl (HR3.out.only (Only.below (X := fun _ => False) (below_new _ _)) (fun _ _ _ h => h)) (fun j hj => ⟨by simp; omega, fun e => Nat.lt_irrefl _ (Nat.lt_of_lt_of_le hj.2 (own_lt HO3.out j e).1)⟩) (by omega) (by simp; omega) ?_; intro v' w3 hown' hgrow hat)
        have HGr := Lib.hid (below_appendV HB.out hbr HBn.out HOl.out hgrow)
        have HOw := Lib.hid (hown'.wide (Z := fun j => G j ∧ j < w.heap.size) (fun j hj => hj.elim (fun h => h) (fun h => h)) (fun j hj => Nat.lt_of_lt_of_le hj.2 HGr.out.size) (fun j hj e => Nat.lt_irrefl _ (Nat.lt_of_lt_of_le e.2 (own_lt hown' j hj).1)))
        go_roundw
        case rel => exact ⟨k + 1, by go_num, by omega, by rw [HR.out]; exact HOw.out, HGr.out⟩
        case measure => simp [intOf]; omega
    · have htk : l.take k = l := List.take_of_length_le (by omega)
      rw [htk] at hO
      have hdl : decide (((otherV l id).length : Int) < (l.length : Int)) = decide ((otherV l id).length < l.length) := by
        by_cases h : (otherV l id).length < l.length
        · rw [decide_eq_true h, decide_eq_true (by omega)]
        · rw [decide_eq_false h, decide_eq_false (by omega)]
      have HDL := Lib.hid hdl
      clear hdl
      have HOl := Lib.hid hO
      rcases hO.val with ⟨rfl, hnil⟩ | ⟨g, c, rfl, _⟩
      · have h0 : (otherV l id).length = 0 := by rw [hnil]; rfl
        rw [h0] at HDL
        clear hO hnil
        go_wp2_with fail
        go_ret2
        exact ⟨_, by rw [h0, ← HDL.out]; rfl, HOl.out, hBr⟩
      · obtain ⟨m, hm⟩ : ∃ m, (otherV l id).length = m := ⟨_, rfl⟩
        rw [hm] at HDL
        have HM := Lib.hid hm
        clear hO
        rw [hm]
        clear hm
        go_wp2_with fail
        go_ret2
        exact ⟨_, by rw [HM.out, ← HDL.out]; rfl, by rw [← HM.out]; exact HOl.out, hBr⟩
theorem dup_step {l : List Vr} {ns : List (List UInt8)} {key : List UInt8} {id : Int} {k : Nat} {e : Vr} (h : l[k]? = some e) :
    (dupV (l.take (k + 1)) ns key id = dupV (l.take k) ns key id ++ if e.id ≠ id ∧ sameV ns key e = true then [e] else []) ∧ (keepV (l.take (k + 1)) ns key id = keepV (l.take k) ns key id ++ if e.id ≠ id ∧ sameV ns key e = false then [e] else []) := by
  unfold dupV keepV
  by_cases hd : e.id = id
  · rw [oth_no h hd, if_neg (fun x => x.1 hd), if_neg (fun x => x.1 hd), List.append_nil, List.append_nil]
    exact ⟨rfl, rfl⟩
  · rw [oth_yes h hd, List.filter_append, List.filter_append]
    cases hs : sameV ns key e with
    | true =>
      rw [if_pos ⟨hd, rfl⟩, if_neg (fun x => by cases x.2)]
      exact ⟨by rw [List.filter_cons, if_pos hs]; rfl, by rw [List.filter_cons, if_neg (by simp [hs])]; rfl⟩
    | false =>
      rw [if_neg (fun x => by cases x.2), if_pos ⟨hd, rfl⟩]
      exact ⟨by rw [List.filter_cons, if_neg (by simp [hs])]; rfl, by rw [List.filter_cons, if_pos (by simp [hs])]; rfl⟩
/-- The first loop of the reference's Put. -/
structure RpR (B : Nat) (Y : Nat → Prop) (l : List Vr) (ns : List (List UInt8)) (key : List UInt8) (id : Int) (w0 : World) (k : Nat) (u r : Value) (wr : World) : Prop where
  own : OwnsV 84 B Y wr u (⟨ns, key, id⟩ :: keepV (l.take k) ns key id)
  ints : OwnsI B wr r ((dupV (l.take k) ns key id).map (·.id))
  two : ∀ j, u.ownBlock = some j → r.ownBlock ≠ some j
  l : Below B w0 wr
theorem dup_len (l : List Vr) (ns : List (List UInt8)) (key : List UInt8) (id : Int) : (dupV l ns key id).length ≤ l.length := Nat.le_trans (List.length_filter_le ..) (List.length_filter_le ..)
theorem keep_len (l : List Vr) (ns : List (List UInt8)) (key : List UInt8) (id : Int) : (keepV l ns key id).length ≤ l.length := (keep_sub l ns key id).length_le
/-- Nothing of this one. -/
theorem RpR.skip {B : Nat} {Y : Nat → Prop} {l : List Vr} {ns : List (List UInt8)} {key : List UInt8} {id : Int} {w0 : World} {k : Nat} {u r : Value} {wr w1 : World} {p : Vr} (h : RpR B Y l ns key id w0 k u r wr) (hp : l[k]? = some p) (hd : p.id = id) (hB : Below wr.heap.size wr w1) (hBs : B ≤ wr.heap.size) : RpR B Y l ns key id w0 (k + 1) u r w1 := by
  obtain ⟨e1, e2⟩ := dup_step (ns := ns) (key := key) (id := id) hp
  rw [if_neg (fun x => x.1 hd), List.append_nil] at e1 e2
  exact ⟨by rw [e2]; exact h.own.below hB, by rw [e1]; exact h.ints.below hB, h.two, h.l.trans (hB.mono hBs)⟩
theorem RpR.gone {B : Nat} {Y : Nat → Prop} {l : List Vr} {ns : List (List UInt8)} {key : List UInt8} {id : Int} {w0 : World} {k : Nat} {u r : Value} {wr w1 w2 : World} {p : Vr} {r' : Value} {o : Obj} (h : RpR B Y l ns key id w0 k u r wr) (hY : ∀ j, Y j → j < B) (hp : l[k]? = some p) (hd : p.id ≠ id) (hs : sameV ns key p = true)
    (hB1 : Below wr.heap.size wr w1) (hBs : B ≤ wr.heap.size) (ho : OwnsI B w2 r' ((dupV (l.take k) ns key id).map (·.id) ++ [p.id])) (hg : (w1.alloc o).grownBy w2 r.ownBlock) (hat : r'.ownBlock = r.ownBlock ∨ r'.ownBlock = some (w1.alloc o).heap.size) : RpR B Y l ns key id w0 (k + 1) u r' w2 := by
  obtain ⟨e1, e2⟩ := dup_step (ns := ns) (key := key) (id := id) hp
  rw [if_pos ⟨hd, hs⟩] at e1
  rw [if_neg (fun x => by rw [hs] at x; cases x.2), List.append_nil] at e2
  have h1 : Below wr.heap.size wr (w1.alloc o) := hB1.alloc hB1.size o
  have hO : Only (fun j => r.ownBlock = some j) (w1.alloc o) w2 := Only.grown hg (fun j hj => .inl hj)
  have hown := h.own.below h1
  refine ⟨by rw [e2]; exact hown.only hO (fun j hj e => Nat.lt_irrefl _ (Nat.lt_of_lt_of_le (hY j hj) (World.ownsRow.lt h.ints j e).1)) (fun j hj e => h.two j hj e), by rw [e1, List.map_append]; exact ho, fun j hj e => ?_, h.l.trans ((h1.mono hBs).trans (hO.to (fun j hj => (World.ownsRow.lt h.ints j hj).1) (by have := h1.size; omega)))⟩
  rcases hat with a | a
  · exact h.two j hj (by rw [← a]; exact e)
  · rw [a] at e
    have e := Option.some.inj e
    subst e
    exact Nat.lt_irrefl _ (own_lt hown _ hj).2
theorem RpR.kept {B : Nat} {Y Z : Nat → Prop} {l : List Vr} {ns : List (List UInt8)} {key : List UInt8} {id : Int} {w0 : World} {k : Nat} {u r : Value} {wr w1 w2 : World} {p : Vr} {u' : Value} {o : Obj} (h : RpR B Y l ns key id w0 k u r wr) (hY : ∀ j, Y j → j < B) (hp : l[k]? = some p) (hd : p.id ≠ id) (hs : sameV ns key p = false)
    (hB1 : Below wr.heap.size wr w1) (hBs : B ≤ wr.heap.size) (hZ : ∀ j, Z j → Y j) (ho : OwnsV 84 B (fun j => Y j ∨ Z j) w2 u' ((⟨ns, key, id⟩ :: keepV (l.take k) ns key id) ++ [p])) (hg : (w1.alloc o).grownBy w2 u.ownBlock) (hat : u'.ownBlock = u.ownBlock ∨ u'.ownBlock = some (w1.alloc o).heap.size) : RpR B Y l ns key id w0 (k + 1) u' r w2 := by
  obtain ⟨e1, e2⟩ := dup_step (ns := ns) (key := key) (id := id) hp
  rw [if_neg (fun x => by rw [hs] at x; cases x.2), List.append_nil] at e1
  rw [if_pos ⟨hd, hs⟩] at e2
  have hb1 : Below wr.heap.size wr (w1.alloc o) := hB1.alloc hB1.size o
  have hO : Only (fun j => u.ownBlock = some j) (w1.alloc o) w2 := Only.grown hg (fun j hj => .inl hj)
  have hi := h.ints.below hb1
  have hsz : B ≤ w2.heap.size := by have a := hb1.size; have b := hO.size; omega
  refine ⟨?_, by rw [e1]; exact hi.only hO (fun j hj e => h.two j e hj), fun j hj e => ?_, h.l.trans ((hb1.mono hBs).trans (hO.to (fun j hj => (own_lt h.own j hj).1) (by have := hb1.size; omega)))⟩
  · rw [e2]
    exact ho.wide (fun j hj => hj.elim (fun h => h) (hZ j)) (fun j hj => Nat.lt_of_lt_of_le (hY j hj) hsz) (fun j hj e => Nat.lt_irrefl _ (Nat.lt_of_lt_of_le (hY j e) (own_lt ho j hj).1))
  · rcases hat with a | a
    · exact h.two j (by rw [← a]; exact hj) e
    · rw [a] at hj
      have hj := Option.some.inj hj
      subst hj
      exact Nat.lt_irrefl _ (World.ownsRow.lt hi _ e).2
theorem drop_next {M : List Vr} {i : Nat} {p : Vr} (h : M[16 + i]? = some p) : ((M.take (16 + (i + 1))).drop 16).map (·.id) = ((M.take (16 + i)).drop 16).map (·.id) ++ [p.id] := by
  have hl := (List.getElem?_eq_some_iff.mp h).1
  rw [show 16 + (i + 1) = (16 + i) + 1 by omega, take_more h, List.drop_append, List.length_take, show 16 - min (16 + i) M.length = 0 by omega, List.drop_zero, List.map_append]; rfl
set_option maxHeartbeats 16000000 in
set_option maxRecDepth 100000 in
theorem refPut_any (v : Value) (l : List Vr) (na : Option Addr) (nc : Nat) (ns : List (List UInt8)) (key : List UInt8) (id : Int) (G : Nat → Prop) (w : World) (hR : ReadsV G w v l) (hn : ReadsG G w (.slice na ns.length nc) ns) (hl : FitV l) (hfn : FitN ns) :
    Calls Try.prog 25 #[v, .slice na ns.length nc, .string (strB key), .int .i64 id] w fun x w' => ∃ u a c, x = .returned (.tuple #[u, .slice a (goneV l ns key id).length c]) ∧ ReadsV (fun j => G j ∨ w.heap.size ≤ j) w' u (putV l ns key id) ∧ ReadsZ w' (.slice a (goneV l ns key id).length c) (goneV l ns key id) ∧ Below w.heap.size w w' := by
  obtain ⟨ao, cap, rfl, hca⟩ := hR
  have HC := Lib.hid hca
  have hll := hl.len
  have hnl := hfn.len
  have HLe := Lib.hid hl.each
  have HN0 := Lib.hid hn
  have HP0 := Lib.hid (OwnsV.single (T := 84) (B := w.heap.size) (Z := fun j => G j ∧ j < w.heap.size) (e := ⟨ns, key, id⟩) (n := .slice na ns.length nc) (hn.mono (fun k h1 h2 => ⟨h2, h1⟩)) (fun k hk => hk.2) (Nat.le_refl _))
  have HB5 := Lib.hid (below_new w (.cells #[.slice na ns.length nc, .string (strB key), .int .i64 id] 84))
  have hs5 : w.heap.size ≤ (w.alloc (.cells #[.slice na ns.length nc, .string (strB key), .int .i64 id] 84)).heap.size := HB5.out.size
  clear hca hl hn hfn
  go_enter Try.func25, Try.ntmps25
  go_wp2_with fail
  go_loopw [10, 11, 22] (fun u r i wr => ∃ k : Nat, i = .int .i64 k ∧ k ≤ l.length ∧ RpR w.heap.size (fun j => G j ∧ j < w.heap.size) l ns key id w k u r wr) (fun _ _ i _ => l.length - (intOf i).toNat)
  case atStart => exact ⟨0, rfl, Nat.zero_le _, HP0.out, OwnsI.nil _ _, fun j _ h => by simp [Value.ownBlock] at h, HB5.out⟩
  case round =>
    obtain ⟨k, rfl, hk, hPR⟩ := hrel
    have hBr := hPR.l
    have hbr := hBr.size
    by_cases hlt : k < l.length
    · obtain ⟨p, hp⟩ : ∃ p, l[k]? = some p := ⟨l[k], by simp [hlt]⟩
      obtain ⟨g, n, rfl, hg, _, h0, h1, h2, hrn⟩ := HC.out k p hp
      obtain ⟨ma, mc, rfl, _⟩ := id_ hrn
      have d0 := (hBr.cell (p := ⟨g, k * 3, none⟩) hg).trans h0
      have d1 := (hBr.cell (p := ⟨g, k * 3 + 1, none⟩) hg).trans h1
      have d2 := (hBr.cell (p := ⟨g, k * 3 + 2, none⟩) hg).trans h2
      have hkl := keep_len (l.take k) ns key id
      have hdl := dup_len (l.take k) ns key id
      rw [List.length_take] at hkl hdl
      have HB := Lib.hid hBr
      have HP := Lib.hid hp
      have HPR := Lib.hid hPR
      have hpl := (HLe.out p (List.mem_of_getElem? hp)).len
      have HRn := Lib.hid (show ReadsG (fun j => G j ∧ j < w.heap.size) wr (.slice ma p.ns.length mc) p.ns from by
        obtain ⟨ao', cap', e1, hc⟩ := hrn
        refine ⟨ao', cap', e1, fun j s hj => ?_⟩
        obtain ⟨q, off, a1, a2, a4, a3⟩ := hc j s hj
        exact ⟨q, off, a1, Nat.lt_of_lt_of_le a2 hbr, ⟨a4, a2⟩, (hBr.cell (p := ⟨q, off + j, none⟩) a2).trans a3⟩)
      clear h0 h1 h2 hrn hp hPR
      go_upto_region 6 with fail
      obtain ⟨k0, k1, k2⟩ := new_three wr (.slice ma p.ns.length mc) (.string (strB p.key)) (.int .i64 p.id) 84
      have HBn := Lib.hid (below_new wr (.cells #[.slice ma p.ns.length mc, .string (strB p.key), .int .i64 p.id] 84))
      have HR3 := Lib.hid (HRn.out.only (Only.below (X := fun _ => False) (below_new wr (.cells #[.slice ma p.ns.length mc, .string (strB p.key), .int .i64 p.id] 84))) (fun _ _ _ h => h))
      change Code.wp _ _ _ _ (wr.alloc (.cells #[.slice ma p.ns.length mc, .string (strB p.key), .int .i64 p.id] 84))
      have hz := (below_new wr (.cells #[.slice ma p.ns.length mc, .string (strB p.key), .int .i64 p.id] 84)).size
      have HX := Lib.hid (fun (W : World) (hB : Below wr.heap.size wr W) => texts_any _ _ p.ns ns W (HRn.out.s.below hB) ((HN0.out.s.below HB.out).below hB) (by omega) (by omega))
      have hNl : wr.heap.size < (wr.alloc (.cells #[.slice ma p.ns.length mc, .string (strB p.key), .int .i64 p.id] 84)).heap.size := by simp
      generalize (wr.alloc (.cells #[.slice ma p.ns.length mc, .string (strB p.key), .int .i64 p.id] 84)) = w2 at *
      clear d0 d1 d2 hBr
      by_cases hd : p.id = id
      · have heq : (p.id == id) = true := by simpa using hd
        have HD := Lib.hid hd
        clear hd
        go_wp2_with fail
        go_roundw
        case rel => exact ⟨k + 1, by go_num, by omega, HPR.out.skip HP.out HD.out HBn.out hbr⟩
        case measure => simp [intOf]; omega
      · have heq : (p.id == id) = false := by simpa using hd
        have HD := Lib.hid hd
        clear hd
        by_cases hns : p.ns = ns
        · have hdn : decide (p.ns = ns) = true := decide_eq_true hns
          rw [hdn] at HX
          clear hdn
          by_cases hky : p.key = key
          · have hkq : ((strB p.key).toList == (strB key).toList) = true := toList_same hky
            have HSm := Lib.hid (show sameV ns key p = true from decide_eq_true ⟨hns, hky⟩)
            clear hns hky
            go_wp2_with fail
            refine (HX.out _ HBn.out).mono ?_
            rintro x w5 ⟨rfl, m5, rfl⟩
            have HB5b := Lib.hid (below_drewN HBn.out m5)
            have q0 : (w2.drewN m5).cell? ⟨wr.heap.size, 0, none⟩ = some (.slice ma p.ns.length mc) := k0
            have q1 : (w2.drewN m5).cell? ⟨wr.heap.size, 1, none⟩ = some (.string (strB p.key)) := k1
            have q2 : (w2.drewN m5).cell? ⟨wr.heap.size, 2, none⟩ = some (.int .i64 p.id) := k2
            generalize w2.drewN m5 = w5 at *
            have hs5b := HB5b.out.size
            clear k0 k1 k2
            go_wp2_with (at_builtin; refine wpList_appendI rfl _ _ rfl _ rfl (HPR.out.ints.below (HB5b.out.alloc HB5b.out.size _)) w5.heap.size rfl (z := p.id) (cell_one_new _ _ _) (by rw [List.length_map]; omega) (by simp; omega) ?_; intro r' w6 hown' hgrow hat)
            go_roundw
            case rel => exact ⟨k + 1, by go_num, by omega, HPR.out.gone (fun j hj => hj.2) HP.out HD.out HSm.out HB5b.out hbr hown' hgrow hat⟩
            case measure => simp [intOf]; omega
          · have hkq : ((strB p.key).toList == (strB key).toList) = false := toList_other hky
            have HSm := Lib.hid (show sameV ns key p = false from decide_eq_false (fun e => hky e.2))
            clear hns hky
            go_wp2_with fail
            refine (HX.out _ HBn.out).mono ?_
            rintro x w5 ⟨rfl, m5, rfl⟩
            have HB5b := Lib.hid (below_drewN HBn.out m5)
            have q0 : (w2.drewN m5).cell? ⟨wr.heap.size, 0, none⟩ = some (.slice ma p.ns.length mc) := k0
            have q1 : (w2.drewN m5).cell? ⟨wr.heap.size, 1, none⟩ = some (.string (strB p.key)) := k1
            have q2 : (w2.drewN m5).cell? ⟨wr.heap.size, 2, none⟩ = some (.int .i64 p.id) := k2
            generalize w2.drewN m5 = w5 at *
            have hs5b := HB5b.out.size
            clear k0 k1 k2
            go_wp2_with (at_builtin; refine wpList_appendV (T := 84) (Z := fun j => G j ∧ j < w.heap.size) Try.underlying42 infoR3 rfl _ _ rfl _ rfl (HPR.out.own.below (HB5b.out.alloc HB5b.out.size _)) w5.heap.size rfl (e := p) (n := .slice ma p.ns.length mc) (cell_three_new _ _ _ _ _) rfl (HRn.out.only (Only.below (X := fun _ => False) (HB5b.out.alloc HB5b.out.size _)) (fun _ _ _ h => h)) (fun j hj => ⟨by simp; omega, fun e => Nat.lt_irrefl _ (Nat.lt_of_lt_of_le hj.2 (own_lt HPR.out.own j e).1)⟩) (by rw [List.length_cons]; omega) (by simp; omega) ?_; intro u' w6 hown' hgrow hat)
            go_roundw
            case rel => exact ⟨k + 1, by go_num, by omega, HPR.out.kept (fun j hj => hj.2) HP.out HD.out HSm.out HB5b.out hbr (fun _ h => h) hown' hgrow hat⟩
            case measure => simp [intOf]; omega
        · have hdn : decide (p.ns = ns) = false := decide_eq_false hns
          rw [hdn] at HX
          have HSm := Lib.hid (show sameV ns key p = false from decide_eq_false (fun e => hns e.1))
          clear hdn hns
          go_wp2_with fail
          refine (HX.out _ HBn.out).mono ?_
          rintro x w5 ⟨rfl, m5, rfl⟩
          have HB5b := Lib.hid (below_drewN HBn.out m5)
          have q0 : (w2.drewN m5).cell? ⟨wr.heap.size, 0, none⟩ = some (.slice ma p.ns.length mc) := k0
          have q1 : (w2.drewN m5).cell? ⟨wr.heap.size, 1, none⟩ = some (.string (strB p.key)) := k1
          have q2 : (w2.drewN m5).cell? ⟨wr.heap.size, 2, none⟩ = some (.int .i64 p.id) := k2
          generalize w2.drewN m5 = w5 at *
          have hs5b := HB5b.out.size
          clear k0 k1 k2
          go_wp2_with (at_builtin; refine wpList_appendV (T := 84) (Z := fun j => G j ∧ j < w.heap.size) Try.underlying42 infoR3 rfl _ _ rfl _ rfl (HPR.out.own.below (HB5b.out.alloc HB5b.out.size _)) w5.heap.size rfl (e := p) (n := .slice ma p.ns.length mc) (cell_three_new _ _ _ _ _) rfl (HRn.out.only (Only.below (X := fun _ => False) (HB5b.out.alloc HB5b.out.size _)) (fun _ _ _ h => h)) (fun j hj => ⟨by simp; omega, fun e => Nat.lt_irrefl _ (Nat.lt_of_lt_of_le hj.2 (own_lt HPR.out.own j e).1)⟩) (by rw [List.length_cons]; omega) (by simp; omega) ?_; intro u' w6 hown' hgrow hat)
          go_roundw
          case rel => exact ⟨k + 1, by go_num, by omega, HPR.out.kept (fun j hj => hj.2) HP.out HD.out HSm.out HB5b.out hbr (fun _ h => h) hown' hgrow hat⟩
          case measure => simp [intOf]; omega
    · have htk : l.take k = l := List.take_of_length_le (by omega)
      obtain ⟨hown, hints, htwo, hBw⟩ := hPR
      rw [htk] at hown hints
      have hkl := keep_len l ns key id
      have hdl := dup_len l ns key id
      have HBw := Lib.hid hBw
      have hdm : ((dupV l ns key id).map (·.id)).length ≤ 16 := by rw [List.length_map]; omega
      obtain ⟨M, hM⟩ : ∃ M, (⟨ns, key, id⟩ :: keepV l ns key id : List Vr) = M := ⟨_, rfl⟩
      have hMl : M.length ≤ 17 := by rw [← hM, List.length_cons]; omega
      have hM0 : 0 < M.length := by rw [← hM, List.length_cons]; omega
      have HPu := Lib.hid (show putV l ns key id = M.take 16 by rw [← hM]; rfl)
      have HGo := Lib.hid (show goneV l ns key id = (dupV l ns key id).map (·.id) ++ (M.drop 16).map (·.id) by rw [← hM]; rfl)
      rw [hM] at hown
      obtain ⟨Dp, hDp⟩ : ∃ D, (dupV l ns key id).map (·.id) = D := ⟨_, rfl⟩
      rw [hDp] at hints HGo hdm
      clear hM hDp hkl hdl hBw
      rcases hown.val with ⟨rfl, hnil⟩ | ⟨gu, uc, rfl, hgu, hgs, huc⟩
      · rw [hnil] at hM0; cases hM0
      · have HOw := Lib.hid hown
        have HTw := Lib.hid htwo
        have HIn := Lib.hid hints
        have hbw := HBw.out.size
        clear hown hints htwo
        rename World => wq
        go_wp2_with fail
        go_loopw [11, 14] (fun r i wr => ∃ j : Nat, i = .int .i64 ((16 + j : Nat) : Int) ∧ 16 + j ≤ max 16 M.length ∧ OwnsI w.heap.size wr r (Dp ++ ((M.take (16 + j)).drop 16).map (·.id)) ∧ (∀ q, r.ownBlock = some q → q ≠ gu) ∧ OwnsV 84 w.heap.size (fun j => G j ∧ j < w.heap.size) wr (.slice (some ⟨gu, 0, none⟩) M.length uc) M ∧ Below w.heap.size w wr) (fun _ i _ => 40 - (intOf i).toNat)
        case atStart => exact ⟨0, rfl, by omega, by rw [List.drop_eq_nil_of_le (by rw [List.length_take]; omega)]; simpa using HIn.out, fun q hq e => HTw.out gu rfl (by rw [← e]; exact hq), HOw.out, HBw.out⟩
        case round =>
          obtain ⟨j, rfl, hj, hI2, hne, hO2, hB2⟩ := hrel
          have hb2 := hB2.size
          have hdl2 : (Dp ++ ((M.take (16 + j)).drop 16).map (·.id)).length ≤ 100 := by rw [List.length_append, List.length_map, List.length_drop, List.length_take]; omega
          by_cases hlj : 16 + j < M.length
          · obtain ⟨p, hp⟩ : ∃ p, M[16 + j]? = some p := ⟨M[16 + j], by simp [hlj]⟩
            obtain ⟨g2, cap2, n2, e1, _, _, _, c0, c1, c2, _⟩ := hO2.at hp
            simp only [Value.slice.injEq, Option.some.injEq, Addr.mk.injEq, and_true, true_and] at e1
            obtain ⟨rfl, rfl⟩ := e1
            have HNx := Lib.hid (drop_next hp)
            have HI2 := Lib.hid hI2
            have HO2 := Lib.hid hO2
            have HB2 := Lib.hid hB2
            have HNe := Lib.hid hne
            clear hp hI2 hO2 hB2 hne c0 c1
            go_wp2_with (at_builtin; refine wpList_appendI rfl _ _ rfl _ rfl (HI2.out.below (below_new _ _)) wr.heap.size rfl (z := p.id) (cell_one_new _ _ _) (by omega) (by simp; omega) ?_; intro r' w6 hown' hgrow hat)
            have hOn := Only.grown (X := fun q => q ≠ gu ∧ w.heap.size ≤ q) hgrow (fun q hq => .inl ⟨HNe.out q hq, (World.ownsRow.lt HI2.out q hq).1⟩)
            have HO6 := Lib.hid ((HO2.out.below (below_new wr (.cells #[.int .i64 p.id] 3))).only hOn (fun q hq e => Nat.lt_irrefl _ (Nat.lt_of_lt_of_le hq.2 e.2)) (fun q hq e => e.1 (Option.some.inj hq).symm))
            have HB6 := Lib.hid ((HB2.out.alloc hb2 (.cells #[.int .i64 p.id] 3)).trans (hOn.to (fun q hq => hq.2) (by simp; omega)))
            have hgl := hgs
            go_roundw
            case rel => exact ⟨j + 1, by go_num, by omega, by rw [HNx.out, ← List.append_assoc]; exact hown', fun q hq e => (hat.elim (fun a => HNe.out q (a.symm.trans hq) e) (fun a => by
              have hq := Option.some.inj (a.symm.trans hq)
              have h1 := (own_lt HO2.out gu rfl).2
              simp at hq
              omega)), HO6.out, HB6.out⟩
            case measure => simp [intOf]; omega
          · have HGo2 := Lib.hid (show goneV l ns key id = Dp ++ ((M.take (16 + j)).drop 16).map (·.id) by rw [HGo.out, List.take_of_length_le (by omega)])
            have HI2 := Lib.hid hI2
            have HO2 := Lib.hid hO2
            obtain ⟨ra, rc, rfl, _⟩ := id_ hI2.reads
            have hmin : ((min M.length 16 : Nat) : Int) = min (M.length : Int) 16 := by omega
            obtain ⟨D2, hD2⟩ : ∃ D, Dp ++ ((M.take (16 + j)).drop 16).map (·.id) = D := ⟨_, rfl⟩
            rw [hD2] at HGo2 HI2 hdl2
            rw [hD2]
            clear hI2 hO2 hne hD2
            go_wp2_with fail
            go_ret2
            have hmm : (min (M.length : Int) 16).toNat ≤ M.length := by omega
            have hR := (HO2.out.reads (G := fun q => G q ∨ w.heap.size ≤ q) (fun q _ hq => .inl hq.1) (fun q _ hq => .inr (own_lt HO2.out q hq).1)).take (min (M.length : Int) 16).toNat uc hmm
            have htk : M.take (min (M.length : Int) 16).toNat = M.take 16 := by
              by_cases h : M.length ≤ 16
              · rw [List.take_of_length_le (by omega), List.take_of_length_le h]
              · congr 1; omega
            rw [htk, ← HPu.out] at hR
            exact ⟨_, ra, rc, by rw [HGo2.out]; rfl, hR, by rw [HGo2.out]; exact HI2.out.reads, hB2⟩
end Go.Proofs.Ytbmbcdbldbjddaa
