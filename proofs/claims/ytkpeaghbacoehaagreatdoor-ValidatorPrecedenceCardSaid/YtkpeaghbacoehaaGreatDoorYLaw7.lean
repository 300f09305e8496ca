/- ValidatorPrecedence: for every request and texts the statement's function returns true: the walk. -/
import Derived.Test.YtkpeaghbacoehaaGreatDoorYFew
import Derived.Test.YtkpeaghbacoehaaGreatDoorFSetOne
import Derived.Test.YtkpeaghbacoehaaGreatDoorYOpen
import Derived.Deep.RegionHeld3
import Derived.Deep.DeepCutAuto
import Derived.Deep.CutBlock
namespace Go.Proofs.YtkpeaghbacoehaaGreatDoor
open Go.RowKit

abbrev askC (q : List UInt8) (u : Value) (s : StV) : Array Value := #[.string (strB q), u, .bool s.ex, .bool s.ht, .bool s.hm, .bool s.tag.1, .string (strB s.tag.2), .int .i64 s.md]
/-- A block of a request's eight cells, and what else the two calls read. -/
structure AskR (N : Nat) (q : List UInt8) (u : Value) (ps : Flds) (s : StV) (w w' : World) : Prop where
  c0 : w'.cell? ⟨N, 0, none⟩ = some (.string (strB q))
  c1 : w'.cell? ⟨N, 1, none⟩ = some u
  c2 : w'.cell? ⟨N, 2, none⟩ = some (.bool s.ex)
  c3 : w'.cell? ⟨N, 3, none⟩ = some (.bool s.ht)
  c4 : w'.cell? ⟨N, 4, none⟩ = some (.bool s.hm)
  c5 : w'.cell? ⟨N, 5, none⟩ = some (.bool s.tag.1)
  c6 : w'.cell? ⟨N, 6, none⟩ = some (.string (strB s.tag.2))
  c7 : w'.cell? ⟨N, 7, none⟩ = some (.int .i64 s.md)
  lt : N < w'.heap.size
  e : EnvY w'
  r : ReadsQ w' u ps
  b : Below w.heap.size w w'
theorem AskR.below {N : Nat} {q : List UInt8} {u : Value} {ps : Flds} {s : StV} {w w1 w2 : World} (h : AskR N q u ps s w w1) (hb : Below w1.heap.size w1 w2) : AskR N q u ps s w w2 :=
  ⟨(hb.cell (p := ⟨N, 0, none⟩) h.lt).trans h.c0, (hb.cell (p := ⟨N, 1, none⟩) h.lt).trans h.c1, (hb.cell (p := ⟨N, 2, none⟩) h.lt).trans h.c2, (hb.cell (p := ⟨N, 3, none⟩) h.lt).trans h.c3, (hb.cell (p := ⟨N, 4, none⟩) h.lt).trans h.c4, (hb.cell (p := ⟨N, 5, none⟩) h.lt).trans h.c5, (hb.cell (p := ⟨N, 6, none⟩) h.lt).trans h.c6, (hb.cell (p := ⟨N, 7, none⟩) h.lt).trans h.c7, Nat.lt_of_lt_of_le h.lt hb.size, h.e.below hb, h.r.below hb, h.b.trans (hb.mono h.b.size)⟩
theorem askR_new {q : List UInt8} {u : Value} {ps : Flds} (s : StV) (w : World) (T : TypeId) (hE : EnvY w) (hr : ReadsQ w u ps) : AskR w.heap.size q u ps s w (w.alloc (.cells (askC q u s) T)) :=
  ⟨by rw [World.cell?_alloc_at _ _ _ _ rfl]; rfl, by rw [World.cell?_alloc_at _ _ _ _ rfl]; rfl, by rw [World.cell?_alloc_at _ _ _ _ rfl]; rfl, by rw [World.cell?_alloc_at _ _ _ _ rfl]; rfl, by rw [World.cell?_alloc_at _ _ _ _ rfl]; rfl, by rw [World.cell?_alloc_at _ _ _ _ rfl]; rfl, by rw [World.cell?_alloc_at _ _ _ _ rfl]; rfl, by rw [World.cell?_alloc_at _ _ _ _ rfl]; rfl, by simp, hE.below (below_new _ _), hr.below (below_new _ _), below_new _ _⟩
theorem askR_all {N : Nat} {q : List UInt8} {u : Value} {ps : Flds} {s : StV} {w w' : World} (h : AskR N q u ps s w w') : w'.cell? ⟨N, 0, none⟩ = some (.string (strB q)) ∧ w'.cell? ⟨N, 1, none⟩ = some u ∧ w'.cell? ⟨N, 2, none⟩ = some (.bool s.ex) ∧ w'.cell? ⟨N, 3, none⟩ = some (.bool s.ht) ∧ w'.cell? ⟨N, 4, none⟩ = some (.bool s.hm) ∧ w'.cell? ⟨N, 5, none⟩ = some (.bool s.tag.1) ∧ w'.cell? ⟨N, 6, none⟩ = some (.string (strB s.tag.2)) ∧ w'.cell? ⟨N, 7, none⟩ = some (.int .i64 s.md) ∧ AskR N q u ps s w w' :=
  ⟨h.c0, h.c1, h.c2, h.c3, h.c4, h.c5, h.c6, h.c7, h⟩
theorem AskR.other {N M : Nat} {q : List UInt8} {u : Value} {ps : Flds} {s : StV} {w w1 w2 : World} (h : AskR N q u ps s w w1) (hM : w1.heap.size ≤ M) (hb : Below w1.heap.size w1 w2) (a b c d e f : Value) :
    AskR N q u ps s w ((((((w2.setCell ⟨M, 0, none⟩ a).setCell ⟨M, 1, none⟩ b).setCell ⟨M, 2, none⟩ c).setCell ⟨M, 3, none⟩ d).setCell ⟨M, 4, none⟩ e).setCell ⟨M, 5, none⟩ f) := h.below (below_six hb hM _ _ _ _ _ _)
theorem ownsP_six {T : TypeId} {B M : Nat} {w' : World} {v : Value} {ps : Flds} (h : OwnsP T B w' v ps) (hM : M < B) (a b c d e f : Value) :
    OwnsP T B ((((((w'.setCell ⟨M, 0, none⟩ a).setCell ⟨M, 1, none⟩ b).setCell ⟨M, 2, none⟩ c).setCell ⟨M, 3, none⟩ d).setCell ⟨M, 4, none⟩ e).setCell ⟨M, 5, none⟩ f) v ps := by
  have hn : ∀ k, v.ownBlock ≠ some (⟨M, k, none⟩ : Addr).block := fun k hq => by have := (World.ownsRow.lt h _ hq).1; simp at this; omega
  exact ownsRow_setCell_other (ownsRow_setCell_other (ownsRow_setCell_other (ownsRow_setCell_other (ownsRow_setCell_other (ownsRow_setCell_other h (hn 0) a) (hn 1) b) (hn 2) c) (hn 3) d) (hn 4) e) (hn 5) f
/-- What stands behind the two calls. -/
structure TwoR (N M : Nat) (q : List UInt8) (u fv : Value) (ps : Flds) (s : StV) (w w' : World) : Prop where
  a : AskR N q u ps s w w'
  f : ReadsQ w' fv ps
  s : StB M w' s
theorem set_memY {ps : Flds} {n v : List UInt8} : ∀ p ∈ setL ps n v, p ∈ ps ∨ p = (lowS n, v) := by
  induction ps with
  | nil => intro p hp; exact .inr (by simpa [setL] using hp)
  | cons r rs ih =>
    intro p hp
    rw [setL] at hp
    split at hp
    · rcases List.mem_cons.mp hp with rfl | hp
      · exact .inr rfl
      · exact .inl (List.mem_cons_of_mem _ (List.mem_filter.mp hp).1)
    · rcases List.mem_cons.mp hp with rfl | hp
      · exact .inl (by simp)
      · rcases ih p hp with h | h
        · exact .inl (List.mem_cons_of_mem _ h)
        · exact .inr h
theorem set_lenY (ps : Flds) (n v : List UInt8) : (setL ps n v).length ≤ ps.length + 1 := by
  induction ps with
  | nil => simp [setL]
  | cons r rs ih =>
    rw [setL]
    split
    · have := rem_len rs n; simp only [List.length_cons]; omega
    · simp only [List.length_cons]; omega
theorem lowS_lenY (n : List UInt8) : (lowS n).length = n.length := by unfold lowS; simp
theorem set_each {ps : Flds} {n v : List UInt8} (hb : ∀ p ∈ ps, p.1.length + p.2.length ≤ 3000) (hn : n.length ≤ 100) (hv : v.length ≤ 500) : ∀ p ∈ setL ps n v, p.1.length + p.2.length ≤ 3000 := by
  intro p hp
  rcases set_memY p hp with h | h
  · exact hb p h
  · subst h
    show (lowS n).length + v.length ≤ 3000
    rw [lowS_lenY]; omega
theorem val_same {ps qs : Flds} {n : List UInt8} (h : allL ps n = allL qs n) : valF ps n = valF qs n ∧ fnd ps n = fnd qs n := by unfold valF fnd; rw [h]; exact ⟨rfl, rfl⟩
theorem eval_match {q : List UInt8} {ps : Flds} {s : StV} {x y : List UInt8} {du du' dm dm' : Option Nat} (h1 : DateIs (valF (setL ps nIM x) nIS) dm) (h2 : DateIs (valF (setL (setL ps nIM x) nIU y) nIS) dm') :
    evalL q (setL ps nIM x) s du dm = evalL q (setL (setL ps nIM x) nIU y) s du' dm' := by
  have e1 := val_same (all_set_other (ps := setL ps nIM x) (n := nIU) (m := nIM) (v := y) (by decide))
  have e2 := val_same (all_set_other (ps := setL ps nIM x) (n := nIU) (m := nIN) (v := y) (by decide))
  have e3 := val_same (all_set_other (ps := setL ps nIM x) (n := nIU) (m := nIS) (v := y) (by decide))
  have hf : fnd (setL ps nIM x) nIM = true := by unfold fnd; rw [all_set_same rfl]; rfl
  rw [e3.1] at h2
  have hd := h1.uniq h2
  subst hd
  unfold evalL otherL
  rw [e1.1, e1.2, e2.1, e2.2, hf, if_pos rfl, if_pos rfl]
theorem eval_none {q : List UInt8} {ps : Flds} {s : StV} {x y : List UInt8} {du du' dm dm' : Option Nat} (h1 : DateIs (valF (setL ps nIN x) nIU) du) (h2 : DateIs (valF (setL (setL ps nIN x) nIS y) nIU) du') :
    evalL q (setL ps nIN x) s du dm = evalL q (setL (setL ps nIN x) nIS y) s du' dm' := by
  have e1 := val_same (all_set_other (ps := setL ps nIN x) (n := nIS) (m := nIM) (v := y) (by decide))
  have e2 := val_same (all_set_other (ps := setL ps nIN x) (n := nIS) (m := nIN) (v := y) (by decide))
  have e3 := val_same (all_set_other (ps := setL ps nIN x) (n := nIS) (m := nIU) (v := y) (by decide))
  have hf : fnd (setL ps nIN x) nIN = true := by unfold fnd; rw [all_set_same rfl]; rfl
  rw [e3.1] at h2
  have hd := h1.uniq h2
  subst hd
  unfold evalL otherL
  rw [e1.1, e1.2, e2.1, e2.2, hf, if_pos rfl, if_pos rfl]
theorem setY_any (fv : Value) (ps : Flds) (n x : ByteArray) (w : World) (hr : ReadsQ w fv ps) (hn : n.size ≤ 100) (hx : x.size ≤ 500) (hl : ps.length ≤ 30) (hb : ∀ p ∈ ps, p.1.length + p.2.length ≤ 3000) :
    Calls Tryz.prog 30 #[fv, .string n, .string x] w fun e w' => ∃ v, e = .returned v ∧ ReadsQ w' v (setL ps n.data.toList x.data.toList) ∧ Below w.heap.size w w' := by
  have := set_any fv ps n.data.toList x.data.toList w hr (by simp; omega) (by simp; omega) (by omega) (fun p hp => by have := hb p hp; omega)
  rw [strB_of, strB_of] at this
  refine this.mono ?_
  rintro e w' ⟨v, rfl, hO, hB⟩
  exact ⟨v, rfl, hO.q, hB⟩
/-- What the last statement reads. -/
structure PreS (N M : Nat) (q : List UInt8) (u va vb vc vd : Value) (ps pa pb pc pd : Flds) (s : StV) (w w' : World) : Prop where
  a : AskR N q u ps s w w'
  s : StB M w' s
  ra : ReadsQ w' va pa
  rb : ReadsQ w' vb pb
  rc : ReadsQ w' vc pc
  rd : ReadsQ w' vd pd
theorem PreS.below {N M : Nat} {q : List UInt8} {u va vb vc vd : Value} {ps pa pb pc pd : Flds} {s : StV} {w w1 w2 : World} (h : PreS N M q u va vb vc vd ps pa pb pc pd s w w1) (hb : Below w1.heap.size w1 w2) : PreS N M q u va vb vc vd ps pa pb pc pd s w w2 :=
  ⟨h.a.below hb, h.s.below hb, h.ra.below hb, h.rb.below hb, h.rc.below hb, h.rd.below hb⟩
theorem pre_all {N M : Nat} {q : List UInt8} {u va vb vc vd : Value} {ps pa pb pc pd : Flds} {s : StV} {w w' : World} (h : PreS N M q u va vb vc vd ps pa pb pc pd s w w') : w'.cell? ⟨N, 0, none⟩ = some (.string (strB q)) ∧ w'.cell? ⟨M, 0, none⟩ = some (.bool s.ex) ∧ w'.cell? ⟨M, 1, none⟩ = some (.bool s.ht) ∧ w'.cell? ⟨M, 2, none⟩ = some (.bool s.hm) ∧ w'.cell? ⟨M, 3, none⟩ = some (.bool s.tag.1) ∧ w'.cell? ⟨M, 4, none⟩ = some (.string (strB s.tag.2)) ∧ w'.cell? ⟨M, 5, none⟩ = some (.int .i64 s.md) ∧ PreS N M q u va vb vc vd ps pa pb pc pd s w w' :=
  ⟨h.a.c0, h.s.c0, h.s.c1, h.s.c2, h.s.c3, h.s.c4, h.s.c5, h⟩
theorem pre_eval {N M : Nat} {q : List UInt8} {u va vb vc vd : Value} {ps pa pb pc pd : Flds} {s : StV} {w w' : World} {fv : Value} {pf : Flds} {du dm : Option Nat} {x : Int} (hf : Hid (FitY pf)) (hdu : Hid (DateIs (valF pf nIU) du)) (hdm : Hid (DateIs (valF pf nIS) dm)) (hx : Hid (evalL q pf s du dm = x)) (h : PreS N M q u va vb vc vd ps pa pb pc pd s w w') (hr : ReadsQ w' fv pf) :
    Calls Tryz.prog 25 #[.string (strB q), fv, stV s] w' fun e w2 => e = .returned (.int .i64 x) ∧ PreS N M q u va vb vc vd ps pa pb pc pd s w w2 := by
  refine (evaluate_any q fv pf s du dm w' hr hf.out hdu.out hdm.out h.a.e).mono ?_
  rintro e w2 ⟨rfl, hB⟩
  exact ⟨by rw [hx.out], h.below hB⟩
set_option maxHeartbeats 16000000 in
set_option maxRecDepth 100000 in
theorem precedence_walk (q : List UInt8) (u : Value) (ps : Flds) (s : StV) (x y : ByteArray) (w : World) (hE : EnvY w) (hA : AskOk w q u ps) (hs : x.size ≤ 140737488355328) (hy : y.size ≤ 140737488355328) :
    Calls Tryz.prog 8 #[askV q u s, .string x, .string y] w fun e w' => e = .returned (.bool true) ∧ Below w.heap.size w w' := by
  obtain ⟨hql, hr, hpl, hpb⟩ := hA
  have HR0 := Lib.hid (askR_new (ps := ps) (q := q) (u := u) s w 54 hE hr)
  have HF := Lib.hid (fun (w : World) (hr : ReadsQ w u ps) => few_any u ps w hr (by unfold maxLen at hpl; omega) hpb)
  clear hE hr hpb hql
  obtain ⟨fw, hfw⟩ : ∃ x, fewB ps = x := ⟨_, rfl⟩
  rw [hfw] at HF
  cases fw with
  | false =>
    clear hfw
    go_enter Tryz.func8, Tryz.ntmps8
    go_wp2_with fail
    refine (awakeY_any _ HR0.out.e).mono ?_
    rintro e w1 ⟨rfl, hB1⟩
    have HR1 := Lib.hid (HR0.out.below hB1)
    have c1 := HR1.out.c1
    clear hB1
    go_wp2_with fail
    refine (HF.out _ HR1.out.r).mono ?_
    rintro e w2 ⟨rfl, hB2⟩
    have HR2 := Lib.hid (HR1.out.below hB2)
    clear hB2
    go_wp2_with fail
    refine (awakeY_any _ HR2.out.e).mono ?_
    rintro e w3 ⟨rfl, hB3⟩
    go_wp2_with fail
    go_ret
    exact ⟨rfl, (HR2.out.below hB3).b⟩
  | true =>
    by_cases hxy : x.size + y.size ≤ 500
    · obtain ⟨hl20, hb3⟩ := few_yes hfw
      have HFl := Lib.hid (fun (w : World) (hr : ReadsQ w u ps) => fields_any u ps w hr (by omega) (fun p hp => by have := hb3 p hp; omega))
      have HB3 := Lib.hid hb3
      clear hfw hb3
      go_enter Tryz.func8, Tryz.ntmps8
      go_wp2_with fail
      refine (awakeY_any _ HR0.out.e).mono ?_
      rintro e w1 ⟨rfl, hB1⟩
      have HR1 := Lib.hid (HR0.out.below hB1)
      have c1 := HR1.out.c1
      clear hB1
      go_wp2_with fail
      refine (HF.out _ HR1.out.r).mono ?_
      rintro e w2 ⟨rfl, hB2⟩
      have HR2 := Lib.hid (HR1.out.below hB2)
      have HRd := Lib.hid (HR2.out.below (Below.refl _ _).drew)
      clear hB2 c1
      go_wp2_with fail
      go_upto_region 3 with fail
      go_cut [7, 8] (fun u7 u8 wx => ∃ fv M, u7 = fv ∧ u8 = .pointer (some ⟨M, 0, none⟩) ∧ TwoR w.heap.size M q u fv ps s w wx)
      case first =>
        refine wp_region_held_drew (S := (fun w' => w'.cell? ⟨w.heap.size, 0, none⟩ = some (.string (strB q)) ∧ w'.cell? ⟨w.heap.size, 1, none⟩ = some u ∧ w'.cell? ⟨w.heap.size, 2, none⟩ = some (.bool s.ex) ∧ w'.cell? ⟨w.heap.size, 3, none⟩ = some (.bool s.ht) ∧ w'.cell? ⟨w.heap.size, 4, none⟩ = some (.bool s.hm) ∧ w'.cell? ⟨w.heap.size, 5, none⟩ = some (.bool s.tag.1) ∧ w'.cell? ⟨w.heap.size, 6, none⟩ = some (.string (strB s.tag.2)) ∧ w'.cell? ⟨w.heap.size, 7, none⟩ = some (.int .i64 s.md) ∧ AskR w.heap.size q u ps s w w')) (by kernel_rfl) (askR_all HRd.out) (fun hHeld => ?_)
        refine wpAnyH_take (i := 0) (oi := { dst := some 30, op := _, type := _, pos := _, after := _, guard := _ }) (v := ?_) rfl (by kernel_rfl) (by kernel_rfl) (by kernel_rfl) (fun _ _ _ h => h) (Or.inl ⟨by rfl, ?_⟩) (by assumption) ?_
        rotate_left
        focus (intro w hSw; (try dsimp only at hSw); first | (go_simp; done) | (go_simp; with_reducible rfl))
        (try simp only [Act.put, List.setIfInBounds_toArray, List.set_cons_zero, List.set_cons_succ])
        refine wpAnyH_take (i := 1) (oi := { dst := some 31, op := _, type := _, pos := _, after := _, guard := _ }) (v := ?_) rfl (by kernel_rfl) (by kernel_rfl) (by kernel_rfl) (fun _ _ _ h => h) (Or.inl ⟨by rfl, ?_⟩) (by assumption) ?_
        rotate_left
        focus (intro w hSw; (try dsimp only at hSw); first | (go_simp; done) | (go_simp; with_reducible rfl))
        (try simp only [Act.put, List.setIfInBounds_toArray, List.set_cons_zero, List.set_cons_succ])
        refine wpAnyH_take (i := 3) (oi := { dst := some 33, op := _, type := _, pos := _, after := _, guard := _ }) (v := ?_) rfl (by kernel_rfl) (by kernel_rfl) (by kernel_rfl) (fun _ _ _ h => h) (Or.inl ⟨by rfl, ?_⟩) (by assumption) ?_
        rotate_left
        focus (intro w hSw; (try dsimp only at hSw); first | (go_simp; done) | (go_simp; with_reducible rfl))
        (try simp only [Act.put, List.setIfInBounds_toArray, List.set_cons_zero, List.set_cons_succ])
        refine wpAnyH_take (i := 4) (oi := { dst := some 34, op := _, type := _, pos := _, after := _, guard := _ }) (v := ?_) rfl (by kernel_rfl) (by kernel_rfl) (by kernel_rfl) (fun _ _ _ h => h) (Or.inl ⟨by rfl, ?_⟩) (by assumption) ?_
        rotate_left
        focus (intro w hSw; (try dsimp only at hSw); first | (go_simp; done) | (go_simp; with_reducible rfl))
        (try simp only [Act.put, List.setIfInBounds_toArray, List.set_cons_zero, List.set_cons_succ])
        refine wpAnyH_ready (rs := [2, 6]) (by kernel_rfl) (by simp) ?_
        refine AllReadyH.cons (o := { dst := some 32, op := _, type := _, pos := _, after := _, guard := _ }) rfl (fun K hK => ?_) (AllReadyH.cons (o := { dst := some 8, op := _, type := _, pos := _, after := _, guard := _ }) rfl (fun K hK => ?_) AllReadyH.nil)
        · go_simp
          go_at_call 24
          refine (HFl.out _ HRd.out.r).mono ?_
          rintro e wa ⟨fv, rfl, hO, hBa⟩
          have hRa := HRd.out.below hBa
          refine hK.out _ _ (askR_all hRa) (fun hHa => ?_)
          clear hK K
          (try simp only [Act.put, List.setIfInBounds_toArray, List.set_cons_zero, List.set_cons_succ])
          refine wpAnyH_ready (rs := [5, 6]) (by kernel_rfl) (by simp) ?_
          refine AllReadyH.cons (o := { dst := some 35, op := _, type := _, pos := _, after := _, guard := _ }) rfl (fun K hK => ?_) (AllReadyH.cons (o := { dst := some 8, op := _, type := _, pos := _, after := _, guard := _ }) rfl (fun K hK => ?_) AllReadyH.nil)
          · go_simp
            go_at_call 26
            refine (state_any s _).mono ?_
            rintro e wb ⟨rfl, hBb⟩
            have hRb := hRa.below hBb
            refine hK.out _ _ (askR_all hRb) (fun hHb => ?_)
            clear hK K
            (try simp only [Act.put, List.setIfInBounds_toArray, List.set_cons_zero, List.set_cons_succ])
            refine wpAnyH_ready (rs := [6]) (by kernel_rfl) (by simp) ?_
            refine AllReadyH.cons (o := { dst := some 8, op := _, type := _, pos := _, after := _, guard := _ }) rfl (fun K hK => ?_) AllReadyH.nil
            go_simp
            have hRm := hRb.below (below_new wb (.cells (stC zS) 61))
            have hM := stB_new wb zS 61
            refine hK.out _ _ (askR_all hRm) (fun hHm => ?_)
            clear hK K
            (try simp only [Act.put, List.setIfInBounds_toArray, List.set_cons_zero, List.set_cons_succ])
            refine wpAnyH_take (i := 7) (oi := { dst := some 7, op := _, type := _, pos := _, after := _, guard := _ }) (v := ?_) rfl (by kernel_rfl) (by kernel_rfl) (by kernel_rfl) (fun _ _ _ h => h) (Or.inl ⟨by rfl, ?_⟩) (by assumption) ?_
            rotate_left
            focus (intro w hSw; (try dsimp only at hSw); first | (go_simp; done) | (go_simp; with_reducible rfl))
            (try simp only [Act.put, List.setIfInBounds_toArray, List.set_cons_zero, List.set_cons_succ])
            refine wpAnyH_ready (rs := [8]) (by kernel_rfl) (by simp) ?_
            refine AllReadyH.cons (o := { dst := none, op := _, type := _, pos := _, after := _, guard := _ }) rfl (fun K hK => ?_) AllReadyH.nil
            go_simp
            have hRz := hRb.below (below_new wb (.cells (stC s) 61))
            refine hK.out _ _ (askR_all hRz) (fun hHz => ?_)
            clear hK K
            (try simp only [Act.put, List.setIfInBounds_toArray, List.set_cons_zero, List.set_cons_succ])
            refine wpAnyH_done (by kernel_rfl) ?_ _
            (try go_wp2_with fail)
            go_meet
            exact ⟨fv, wb.heap.size, rfl, rfl, ⟨hRz, (hO.q.below hBb).below (below_new _ _), stB_new wb s 61⟩⟩
          · go_simp
            have hRm := hRa.below (below_new wa (.cells (stC zS) 61))
            have hM := stB_new wa zS 61
            refine hK.out _ _ (askR_all hRm) (fun hHm => ?_)
            clear hK K
            (try simp only [Act.put, List.setIfInBounds_toArray, List.set_cons_zero, List.set_cons_succ])
            refine wpAnyH_ready (rs := [5]) (by kernel_rfl) (by simp) ?_
            refine AllReadyH.cons (o := { dst := some 35, op := _, type := _, pos := _, after := _, guard := _ }) rfl (fun K hK => ?_) AllReadyH.nil
            go_simp
            go_at_call 26
            refine (state_any s _).mono ?_
            rintro e wb ⟨rfl, hBb⟩
            have hRb := hRm.below hBb
            refine hK.out _ _ (askR_all hRb) (fun hHb => ?_)
            clear hK K
            (try simp only [Act.put, List.setIfInBounds_toArray, List.set_cons_zero, List.set_cons_succ])
            have hMM := hM.below hBb
            have hSM := hMM
            obtain ⟨z0, z1, z2, z3, z4, z5, zf, zl⟩ := hMM
            have zf0 := zf 0
            have zf1 := zf 1
            have zf2 := zf 2
            have zf3 := zf 3
            have zf4 := zf 4
            have zf5 := zf 5
            clear zf
            refine wpAnyH_take (i := 7) (oi := { dst := some 7, op := _, type := _, pos := _, after := _, guard := _ }) (v := ?_) rfl (by kernel_rfl) (by kernel_rfl) (by kernel_rfl) (fun _ _ _ h => h) (Or.inl ⟨by rfl, ?_⟩) (by assumption) ?_
            rotate_left
            focus (intro w hSw; (try dsimp only at hSw); first | (go_simp; done) | (go_simp; with_reducible rfl))
            (try simp only [Act.put, List.setIfInBounds_toArray, List.set_cons_zero, List.set_cons_succ])
            refine wpAnyH_ready (rs := [8]) (by kernel_rfl) (by simp) ?_
            refine AllReadyH.cons (o := { dst := none, op := _, type := _, pos := _, after := _, guard := _ }) rfl (fun K hK => ?_) AllReadyH.nil
            go_simp
            have hbz : Below wa.heap.size wa wb := (below_new wa (.cells (stC zS) 61)).trans (hBb.mono (by simp))
            have hRz := hRa.other (Nat.le_refl _) hbz (.bool s.ex) (.bool s.ht) (.bool s.hm) (.bool s.tag.1) (.string (strB s.tag.2)) (.int .i64 s.md)
            refine hK.out _ _ (askR_all hRz) (fun hHz => ?_)
            clear hK K
            (try simp only [Act.put, List.setIfInBounds_toArray, List.set_cons_zero, List.set_cons_succ])
            refine wpAnyH_done (by kernel_rfl) ?_ _
            (try go_wp2_with fail)
            go_meet
            exact ⟨fv, wa.heap.size, rfl, rfl, ⟨hRz, hO.q.below (below_six hbz (Nat.le_refl _) (.bool s.ex) (.bool s.ht) (.bool s.hm) (.bool s.tag.1) (.string (strB s.tag.2)) (.int .i64 s.md)), hSM.set s⟩⟩
        · go_simp
          have hRm := HRd.out.below (below_new w2.drew (.cells (stC zS) 61))
          have hM := stB_new w2.drew zS 61
          refine hK.out _ _ (askR_all hRm) (fun hHm => ?_)
          clear hK K
          (try simp only [Act.put, List.setIfInBounds_toArray, List.set_cons_zero, List.set_cons_succ])
          refine wpAnyH_ready (rs := [2]) (by kernel_rfl) (by simp) ?_
          refine AllReadyH.cons (o := { dst := some 32, op := _, type := _, pos := _, after := _, guard := _ }) rfl (fun K hK => ?_) AllReadyH.nil
          go_simp
          go_at_call 24
          refine (HFl.out _ hRm.r).mono ?_
          rintro e wa ⟨fv, rfl, hO, hBa⟩
          have hRa := hRm.below hBa
          refine hK.out _ _ (askR_all hRa) (fun hHa => ?_)
          clear hK K
          (try simp only [Act.put, List.setIfInBounds_toArray, List.set_cons_zero, List.set_cons_succ])
          refine wpAnyH_ready (rs := [5]) (by kernel_rfl) (by simp) ?_
          refine AllReadyH.cons (o := { dst := some 35, op := _, type := _, pos := _, after := _, guard := _ }) rfl (fun K hK => ?_) AllReadyH.nil
          go_simp
          go_at_call 26
          refine (state_any s _).mono ?_
          rintro e wb ⟨rfl, hBb⟩
          have hRb := hRa.below hBb
          refine hK.out _ _ (askR_all hRb) (fun hHb => ?_)
          clear hK K
          (try simp only [Act.put, List.setIfInBounds_toArray, List.set_cons_zero, List.set_cons_succ])
          have hMM := (hM.below hBa).below hBb
          have hSM : StB w2.heap.size wb zS := hMM
          have hMM := hSM
          obtain ⟨z0, z1, z2, z3, z4, z5, zf, zl⟩ := hMM
          have zf0 := zf 0
          have zf1 := zf 1
          have zf2 := zf 2
          have zf3 := zf 3
          have zf4 := zf 4
          have zf5 := zf 5
          clear zf
          refine wpAnyH_take (i := 7) (oi := { dst := some 7, op := _, type := _, pos := _, after := _, guard := _ }) (v := ?_) rfl (by kernel_rfl) (by kernel_rfl) (by kernel_rfl) (fun _ _ _ h => h) (Or.inl ⟨by rfl, ?_⟩) (by assumption) ?_
          rotate_left
          focus (intro w hSw; (try dsimp only at hSw); first | (go_simp; done) | (go_simp; with_reducible rfl))
          (try simp only [Act.put, List.setIfInBounds_toArray, List.set_cons_zero, List.set_cons_succ])
          refine wpAnyH_ready (rs := [8]) (by kernel_rfl) (by simp) ?_
          refine AllReadyH.cons (o := { dst := none, op := _, type := _, pos := _, after := _, guard := _ }) rfl (fun K hK => ?_) AllReadyH.nil
          go_simp
          have hbz : Below w2.drew.heap.size w2.drew wb := ((below_new w2.drew (.cells (stC zS) 61)).trans (hBa.mono (by simp))).trans (hBb.mono (by have := hBa.size; simp at this ⊢; omega))
          have hRz := HRd.out.other (M := w2.heap.size) (Nat.le_refl _) hbz (.bool s.ex) (.bool s.ht) (.bool s.hm) (.bool s.tag.1) (.string (strB s.tag.2)) (.int .i64 s.md)
          refine hK.out _ _ (askR_all hRz) (fun hHz => ?_)
          clear hK K
          (try simp only [Act.put, List.setIfInBounds_toArray, List.set_cons_zero, List.set_cons_succ])
          refine wpAnyH_done (by kernel_rfl) ?_ _
          (try go_wp2_with fail)
          go_meet
          exact ⟨fv, w2.heap.size, rfl, rfl, ⟨hRz, (ownsP_six (M := w2.heap.size) (hO.below hBb) (by simp) (.bool s.ex) (.bool s.ht) (.bool s.hm) (.bool s.tag.1) (.string (strB s.tag.2)) (.int .i64 s.md)).q, hSM.set s⟩⟩
      case rest =>
        obtain ⟨fv, M, h7, rfl, hT⟩ := hcut
        have h7' := h7.symm
        subst h7'
        clear h7
        have HT := Lib.hid hT
        clear hT
        have hxl : x.data.toList.length ≤ 500 := by simp; omega
        have hyl : y.data.toList.length ≤ 500 := by simp; omega
        have HA1 := Lib.hid (set_lenY ps nIM x.data.toList)
        have HA2 := Lib.hid (set_lenY (setL ps nIM x.data.toList) nIU y.data.toList)
        have HC1 := Lib.hid (set_lenY ps nIN x.data.toList)
        have HC2 := Lib.hid (set_lenY (setL ps nIN x.data.toList) nIS y.data.toList)
        have HEa := Lib.hid (set_each (n := nIM) (v := x.data.toList) HB3.out (by decide) hxl)
        have HEb := Lib.hid (set_each (n := nIU) (v := y.data.toList) HEa.out (by decide) hyl)
        have HEc := Lib.hid (set_each (n := nIN) (v := x.data.toList) HB3.out (by decide) hxl)
        have HEd := Lib.hid (set_each (n := nIS) (v := y.data.toList) HEc.out (by decide) hyl)
        have HFa := Lib.hid (fit_of (by have := HA1.out; omega) HEa.out)
        have HFb := Lib.hid (fit_of (by have := HA1.out; have := HA2.out; omega) HEb.out)
        have HFc := Lib.hid (fit_of (by have := HC1.out; omega) HEc.out)
        have HFd := Lib.hid (fit_of (by have := HC1.out; have := HC2.out; omega) HEd.out)
        obtain ⟨ua, hua⟩ := date_ex (valF (setL ps nIM x.data.toList) nIU)
        obtain ⟨ma, hma⟩ := date_ex (valF (setL ps nIM x.data.toList) nIS)
        obtain ⟨ub, hub⟩ := date_ex (valF (setL (setL ps nIM x.data.toList) nIU y.data.toList) nIU)
        obtain ⟨mb, hmb⟩ := date_ex (valF (setL (setL ps nIM x.data.toList) nIU y.data.toList) nIS)
        obtain ⟨uc, huc⟩ := date_ex (valF (setL ps nIN x.data.toList) nIU)
        obtain ⟨mc, hmc⟩ := date_ex (valF (setL ps nIN x.data.toList) nIS)
        obtain ⟨ud, hud⟩ := date_ex (valF (setL (setL ps nIN x.data.toList) nIS y.data.toList) nIU)
        obtain ⟨md, hmd⟩ := date_ex (valF (setL (setL ps nIN x.data.toList) nIS y.data.toList) nIS)
        obtain ⟨r1, hr1⟩ : ∃ r, evalL q (setL ps nIM x.data.toList) s ua ma = r := ⟨_, rfl⟩
        obtain ⟨r2, hr2⟩ : ∃ r, evalL q (setL ps nIN x.data.toList) s uc mc = r := ⟨_, rfl⟩
        have H1 := Lib.hid hr1
        have H2 := Lib.hid ((eval_match (y := y.data.toList) (du' := ub) hma hmb).symm.trans hr1)
        have H3 := Lib.hid hr2
        have H4 := Lib.hid ((eval_none (y := y.data.toList) (dm' := md) huc hud).symm.trans hr2)
        have Dua := Lib.hid hua
        have Dma := Lib.hid hma
        have Dub := Lib.hid hub
        have Dmb := Lib.hid hmb
        have Duc := Lib.hid huc
        have Dmc := Lib.hid hmc
        have Dud := Lib.hid hud
        have Dmd := Lib.hid hmd
        clear hua hma hub hmb huc hmc hud hmd hr1 hr2
        have HS1 := Lib.hid (fun (w : World) (hr : ReadsQ w fv ps) => setY_any fv ps ⟨#[105, 102, 45, 109, 97, 116, 99, 104]⟩ x w hr (by decide) (by omega) (by omega) HB3.out)
        have HS3 := Lib.hid (fun (w : World) (hr : ReadsQ w fv ps) => setY_any fv ps ⟨#[105, 102, 45, 110, 111, 110, 101, 45, 109, 97, 116, 99, 104]⟩ x w hr (by decide) (by omega) (by omega) HB3.out)
        have HS2 := Lib.hid (fun (v : Value) (w : World) (hr : ReadsQ w v (setL ps nIM x.data.toList)) => setY_any v _ ⟨#[105, 102, 45, 117, 110, 109, 111, 100, 105, 102, 105, 101, 100, 45, 115, 105, 110, 99, 101]⟩ y w hr (by decide) (by omega) (by have := HA1.out; omega) HEa.out)
        have HS4 := Lib.hid (fun (v : Value) (w : World) (hr : ReadsQ w v (setL ps nIN x.data.toList)) => setY_any v _ ⟨#[105, 102, 45, 109, 111, 100, 105, 102, 105, 101, 100, 45, 115, 105, 110, 99, 101]⟩ y w hr (by decide) (by omega) (by have := HC1.out; omega) HEc.out)
        clear hxl hyl
        go_wp2_with fail
        refine (HS1.out _ HT.out.f).mono ?_
        rintro e w4 ⟨va, rfl, hra, hB4⟩
        have HA4 := Lib.hid (HT.out.a.below hB4)
        have HM4 := Lib.hid (HT.out.s.below hB4)
        have HF4 := Lib.hid (HT.out.f.below hB4)
        have Hra := Lib.hid (show ReadsQ w4 va (setL ps nIM x.data.toList) from hra)
        clear hra hB4
        go_wp2_with fail
        refine (HS2.out _ _ Hra.out).mono ?_
        rintro e w5 ⟨vb, rfl, hrb, hB5⟩
        have HA5 := Lib.hid (HA4.out.below hB5)
        have HM5 := Lib.hid (HM4.out.below hB5)
        have HF5 := Lib.hid (HF4.out.below hB5)
        have Hra5 := Lib.hid (Hra.out.below hB5)
        have Hrb5 := Lib.hid (show ReadsQ w5 vb (setL (setL ps nIM x.data.toList) nIU y.data.toList) from hrb)
        clear hrb hB5
        go_wp2_with fail
        refine (HS3.out _ HF5.out).mono ?_
        rintro e w6 ⟨vc, rfl, hrc, hB6⟩
        have HA6 := Lib.hid (HA5.out.below hB6)
        have HM6 := Lib.hid (HM5.out.below hB6)
        have Hra6 := Lib.hid (Hra5.out.below hB6)
        have Hrb6 := Lib.hid (Hrb5.out.below hB6)
        have Hrc6 := Lib.hid (show ReadsQ w6 vc (setL ps nIN x.data.toList) from hrc)
        clear hrc hB6
        go_wp2_with fail
        refine (HS4.out _ _ Hrc6.out).mono ?_
        rintro e w7 ⟨vd, rfl, hrd, hB7⟩
        have HP := Lib.hid ((show PreS w.heap.size M q u va vb vc vd ps (setL ps nIM x.data.toList) (setL (setL ps nIM x.data.toList) nIU y.data.toList) (setL ps nIN x.data.toList) (setL (setL ps nIN x.data.toList) nIS y.data.toList) s w w7 from ⟨HA6.out.below hB7, HM6.out.below hB7, Hra6.out.below hB7, Hrb6.out.below hB7, Hrc6.out.below hB7, hrd⟩).below (Below.refl _ _).drew)
        clear hrd hB7
        have hq1 : (r1 == r1) = true := by simp
        have hq2 : (r2 == r2) = true := by simp
        generalize setL (setL ps nIM x.data.toList) nIU y.data.toList = pb at *
        generalize setL ps nIM x.data.toList = pa at *
        generalize setL (setL ps nIN x.data.toList) nIS y.data.toList = pd at *
        generalize setL ps nIN x.data.toList = pc at *
        go_wp2_with fail
        go_upto_region 8 with fail
        go_region_held3 (fun w' => w'.cell? ⟨w.heap.size, 0, none⟩ = some (.string (strB q)) ∧ w'.cell? ⟨M, 0, none⟩ = some (.bool s.ex) ∧ w'.cell? ⟨M, 1, none⟩ = some (.bool s.ht) ∧ w'.cell? ⟨M, 2, none⟩ = some (.bool s.hm) ∧ w'.cell? ⟨M, 3, none⟩ = some (.bool s.tag.1) ∧ w'.cell? ⟨M, 4, none⟩ = some (.string (strB s.tag.2)) ∧ w'.cell? ⟨M, 5, none⟩ = some (.int .i64 s.md) ∧ PreS w.heap.size M q u va vb vc vd ps pa pb pc pd s w w')
          (first | with_reducible exact pre_all hK | with_reducible exact pre_all HP.out)
          (first
            | (go_at_call 25; with_reducible refine (pre_eval HFa Dua Dma H1 HP.out HP.out.ra).mono ?_; rintro e w10 ⟨rfl, hK⟩)
            | (go_at_call 25; with_reducible refine (pre_eval HFb Dub Dmb H2 hK hK.rb).mono ?_; rintro e w11 ⟨rfl, hK⟩)
            | (go_at_call 25; with_reducible refine (pre_eval HFc Duc Dmc H3 hK hK.rc).mono ?_; rintro e w12 ⟨rfl, hK⟩)
            | (go_at_call 25; with_reducible refine (pre_eval HFd Dud Dmd H4 hK hK.rd).mono ?_; rintro e w13 ⟨rfl, hK⟩))
        go_wp2_with fail
        go_ret
        exact ⟨rfl, hK.a.b⟩
    · have hxy' : 500 < x.size + y.size := by omega
      clear hfw
      go_enter Tryz.func8, Tryz.ntmps8
      go_wp2_with fail
      refine (awakeY_any _ HR0.out.e).mono ?_
      rintro e w1 ⟨rfl, hB1⟩
      have HR1 := Lib.hid (HR0.out.below hB1)
      have c1 := HR1.out.c1
      clear hB1
      go_wp2_with fail
      refine (HF.out _ HR1.out.r).mono ?_
      rintro e w2 ⟨rfl, hB2⟩
      have HR2 := Lib.hid (HR1.out.below hB2)
      clear hB2
      go_wp2_with fail
      refine (awakeY_any _ HR2.out.e).mono ?_
      rintro e w3 ⟨rfl, hB3⟩
      go_wp2_with fail
      go_ret
      exact ⟨rfl, (HR2.out.below hB3).b⟩
end Go.Proofs.YtkpeaghbacoehaaGreatDoor
