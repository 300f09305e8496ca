import Derived.Test.YtoiampkdmjpljaaGreatDoorPa7
import Derived.Test.YtoiampkdmjpljaaGreatDoorPa6
import Derived.Test.YtoiampkdmjpljaaGreatDoorPa41
import Derived.Test.YtoiampkdmjpljaaGreatDoorPa46
import Derived.Test.YtoiampkdmjpljaaGreatDoorPa4
/- What Is and Clip return where the statements call them. -/
namespace Go.Proofs.YtoiampkdmjpljaaGreatDoor
open Go.RowKit

set_option maxHeartbeats 400000 in
set_option maxRecDepth 100000 in
theorem is_errno (a : Int) (ha : (a != 0) = true) (w : World) : Calls Tryz.prog 22 #[.iface 49 (.int .i64 a), .int .i64 a] w fun e w' => e = .returned (.bool true) ∧ w = w' := by
  go_enter Tryz.func22, Tryz.ntmps22
  go_wp2_with (go_at_call 20; refine (num_errno _ _).mono ?_; rintro e w' ⟨rfl, rfl⟩)
  go_ret
  exact ⟨rfl, rfl⟩
set_option maxHeartbeats 400000 in
set_option maxRecDepth 100000 in
theorem is_nil (b : Int) (hb : ((0 : Int) == b) = false) (w : World) : Calls Tryz.prog 22 #[.nilIface, .int .i64 b] w fun e w' => e = .returned (.bool false) ∧ w = w' := by
  go_enter Tryz.func22, Tryz.ntmps22
  go_wp2_with (go_at_call 20; refine (num_nil _).mono ?_; rintro e w' ⟨rfl, rfl⟩)
  go_ret
  exact ⟨rfl, rfl⟩
end Go.Proofs.YtoiampkdmjpljaaGreatDoor

/- StorableKeeps: the walk. -/
namespace Go.Proofs.YtoiampkdmjpljaaGreatDoor
open Go.RowKit

theorem upd_keepN {a b : Flds} {k : Nat} {n : List UInt8} (h : keepN[k]? = some n) : allL (updL a b) n = allL a n := by
  match k, h with
  | 0, h => cases h; exact upd_other (put_cl b)
  | 1, h => cases h; exact upd_other (put_ce b)
  | 2, h => cases h; exact upd_other (put_cg b)
  | k + 3, h => simp [keepN] at h
theorem upd_each {a b : Flds} {M : Nat} (ha : ∀ p ∈ a, p.1.length + p.2.length ≤ M) (hb : ∀ p ∈ b, p.1.length + p.2.length ≤ M) : ∀ p ∈ updL a b, p.1.length + p.2.length ≤ M := by
  intro p hp
  rcases upd_mem hp with h | h
  · exact ha p h
  · exact hb p h
/-- What a round reads: the field's box, and the two lists. -/
structure KpS (M : Nat) (n : List UInt8) (fv : Value) (U : Flds) (av : Value) (a : Flds) (w w' : World) : Prop where
  c0 : w'.cell? ⟨M, 0, none⟩ = some (.string (strB n))
  lt : M < w'.heap.size
  u : ReadsQ w' fv U
  a : ReadsQ w' av a
  b : Below w.heap.size w w'
theorem KpS.below {M : Nat} {n : List UInt8} {fv : Value} {U : Flds} {av : Value} {a : Flds} {w w1 w2 : World} (h : KpS M n fv U av a w w1) (hb : Below w1.heap.size w1 w2) : KpS M n fv U av a w w2 :=
  ⟨(hb.cell (p := ⟨M, 0, none⟩) h.lt).trans h.c0, Nat.lt_of_lt_of_le h.lt hb.size, h.u.below hb, h.a.below hb, h.b.trans (hb.mono h.b.size)⟩
theorem kpS_all {M : Nat} {n : List UInt8} {fv : Value} {U : Flds} {av : Value} {a : Flds} {w w' : World} (h : KpS M n fv U av a w w') : w'.cell? ⟨M, 0, none⟩ = some (.string (strB n)) ∧ KpS M n fv U av a w w' := ⟨h.c0, h⟩
/-- What All returns, as a value whose list is read. -/
theorem allQ_any (fv : Value) (ps : Flds) (n : List UInt8) (w : World) (hr : ReadsQ w fv ps) (hl : ps.length ≤ 1000000) (hb : ∀ p ∈ ps, p.1.length + p.2.length ≤ 1000000) (hn : n.length ≤ 1000000) :
    Calls Tryz.prog 25 #[fv, .string (strB n)] w fun e w' => ∃ a c, e = .returned (.slice a (allL ps n).length c) ∧ ReadsS w' (.slice a (allL ps n).length c) (allL ps n) ∧ Below w.heap.size w w' := by
  have := all_any fv ps (strB n) w hr (by rw [strB_size]; omega) hl hb
  rw [strB_list] at this
  refine this.mono ?_
  rintro e w' ⟨v, rfl, hO, hB⟩
  have hR := hO.reads
  obtain ⟨a, c, rfl, _⟩ := id hR
  exact ⟨a, c, rfl, hR, hB⟩
theorem texts_same (va vb : Value) (l : List (List UInt8)) (w : World) (ha : ReadsS w va l) (hb : ReadsS w vb l) (hl : l.length ≤ 1000000) :
    Calls Tryz.prog 24 #[va, vb] w fun e w' => e = .returned (.bool true) ∧ Below w.heap.size w w' :=
  (texts_any va vb l l w ha hb hl hl).mono fun e w' ⟨he, n, hw⟩ => ⟨by rw [he, decide_eq_true rfl], by rw [hw]; exact below_drewN (Below.refl _ _) n⟩
set_option maxHeartbeats 16000000 in
set_option maxRecDepth 100000 in
theorem sb_keeps_walk (aa : Option Addr) (ac : Nat) (a : Flds) (ba : Option Addr) (bc : Nat) (b : Flds) (w : World) (hE : EnvL w) (ha : ReadsQ w (.slice aa a.length ac) a) (hb : ReadsQ w (.slice ba b.length bc) b) (hba : 2 * a.length + totL a ≤ 3000000) (hbb : 2 * b.length + totL b ≤ 3000000) :
    Calls Tryz.prog 8 #[(.slice aa a.length ac), (.slice ba b.length bc)] w fun e w' => e = .returned (.bool true) ∧ Below w.heap.size w w' := by
  have HRa := Lib.hid ha
  have HRb := Lib.hid hb
  have HE := Lib.hid hE
  have HLg := Lib.hid (fun (lv : Value) (w : World) (hr : ReadsF w lv [((.slice aa a.length ac), a), ((.slice ba b.length bc), b)]) => large15_any lv _ w hr (by simp) (by show 0 + (2 * a.length + totL a) + (2 * b.length + totL b) ≤ _; omega))
  have HAw := Lib.hid (fun (w : World) (hE : EnvL w) => awake15_any w hE)
  clear hE ha hb hba hbb
  generalize hlg : lgB [((.slice aa a.length ac), a), ((.slice ba b.length bc), b)] = lg at *
  cases lg with
  | true =>
    clear hlg
    go_enter Tryz.func8, Tryz.ntmps8
    go_wp2_with fail
    refine (HLg.out _ _ (readsF_two _ HRa.out HRb.out)).mono ?_
    rintro e w1 ⟨rfl, hB1⟩
    have HB1 := Lib.hid ((below_new w _).trans (hB1.mono (by simp)))
    clear hB1
    go_wp2_with fail
    refine (HLg.out _ _ (readsF_two _ (HRa.out.below HB1.out) (HRb.out.below HB1.out))).mono ?_
    rintro e w2 ⟨rfl, hB2⟩
    have HB2 := Lib.hid ((HB1.out.alloc HB1.out.size _).trans (hB2.mono (Nat.le_trans HB1.out.size (by simp))))
    go_wp2_with fail
    go_ret
    exact ⟨rfl, HB2.out⟩
  | false =>
    have hsum := lg_sum hlg
    have hfa : FitL a := fit_sum (by omega)
    have hfb : FitL b := fit_sum (by omega)
    have hbl : b.length ≤ 2000 := by omega
    have hal : a.length ≤ 2000 := by omega
    have hbe : ∀ p ∈ b, p.1.length + p.2.length ≤ 6000 := fun p hp => by have := tot_mem hp; omega
    have HFa := Lib.hid (fun (w : World) (hr : ReadsQ w (.slice aa a.length ac) a) => fields_any _ a w hr hfa.len hfa.each6)
    have HFb := Lib.hid (fun (w : World) (hr : ReadsQ w (.slice ba b.length bc) b) => fields_any _ b w hr hfb.len hfb.each6)
    clear hlg hsum
    have hae : ∀ p ∈ a, p.1.length + p.2.length ≤ 1000000 := hfa.each6
    have hbe6 : ∀ p ∈ b, p.1.length + p.2.length ≤ 1000000 := hfb.each6
    cases hx : mixB (allL a nET) (allL b nET) with
    | true =>
      have HU := Lib.hid (fun (u v : Value) (w : World) (hu : ReadsQ w u a) (hv : ReadsQ w v b) (hM : MaxIs w) => update_mix u a v b w hu hfa hv hfb hM hx)
      clear hx hfa hfb hbe hae hbe6
      go_enter Tryz.func8, Tryz.ntmps8
      go_wp2_with fail
      refine (HLg.out _ _ (readsF_two _ HRa.out HRb.out)).mono ?_
      rintro e w1 ⟨rfl, hB1⟩
      have HB1 := Lib.hid ((below_new w _).trans (hB1.mono (by simp)))
      clear hB1
      go_wp2_with fail
      refine (HAw.out _ (HE.out.below HB1.out)).mono ?_
      rintro e w2 ⟨rfl, hB2⟩
      have HB2 := Lib.hid (HB1.out.trans (hB2.mono HB1.out.size))
      clear hB2 HB1
      go_wp2_with fail
      refine (HFa.out _ (HRa.out.below HB2.out)).mono ?_
      rintro e w3 ⟨v3, rfl, hO3, hB3⟩
      have HQ3 := Lib.hid hO3.q
      obtain ⟨fa, fc, rfl⟩ := ownsP_slice hO3
      have HB3 := Lib.hid (HB2.out.trans (hB3.mono HB2.out.size))
      clear hB3 hO3 HB2
      go_wp2_with fail
      refine (HFb.out _ (HRb.out.below HB3.out)).mono ?_
      rintro e w4 ⟨v4, rfl, hO4, hB4⟩
      have HQ4 := Lib.hid hO4.q
      obtain ⟨ga, gc, rfl⟩ := ownsP_slice hO4
      have HQ3b := Lib.hid (HQ3.out.below hB4)
      have HB4 := Lib.hid (HB3.out.trans (hB4.mono HB3.out.size))
      clear hB4 hO4 HB3 HQ3
      go_wp2_with fail
      refine (HU.out _ _ _ HQ3b.out HQ4.out (HE.out.below HB4.out).1).mono ?_
      rintro e w5 ⟨rfl, hB5⟩
      have HB5 := Lib.hid (HB4.out.trans (hB5.mono HB4.out.size))
      clear hB5 HB4 HQ3b HQ4
      go_wp2_with fail
      refine (is_errno 20 (by decide) _).mono ?_
      rintro e w6 ⟨rfl, rfl⟩
      go_wp2_with fail
      go_ret
      exact ⟨rfl, HB5.out⟩
    | false =>
      have hMx := mix_again hx
      have hul := upd_len a b
      have hue : ∀ p ∈ updL a b, p.1.length + p.2.length ≤ 1000000 := upd_each hae hbe6
      have hfU : FitL (updL a b) := ⟨by omega, upd_each hfa.each hfb.each⟩
      have HU := Lib.hid (fun (u v : Value) (w : World) (hu : ReadsQ w u a) (hv : ReadsQ w v b) (hM : MaxIs w) => update_ok u a v b w hu hfa hv (by omega) hbe hM hx)
      have HV := Lib.hid (fun (u v : Value) (w : World) (hu : ReadsQ w u (updL a b)) (hv : ReadsQ w v b) (hM : MaxIs w) => update_ok u (updL a b) v b w hu hfU hv (by omega) hbe hM hMx)
      rw [upd_again] at HV
      have HK := Lib.hid (fun n (h : hasF b n = false) => upd_kept (a := a) h)
      have HKn := Lib.hid (fun k n (h : keepN[k]? = some n) => upd_keepN (a := a) (b := b) h)
      have HSm := Lib.hid (fun (u v : Value) (w : World) (hu : ReadsQ w u (updL a b)) (hv : ReadsQ w v (updL a b)) => same_any u v (updL a b) (updL a b) true ⟨fun _ => SameF.refl _, fun _ => rfl⟩ w hu hv (by omega) (by omega) hue hue)
      have HUe := Lib.hid hue
      have HAe := Lib.hid hae
      have HBe := Lib.hid hbe6
      clear hx hMx hfa hfb hbe hfU hue hae hbe6
      generalize updL a b = U at *
      go_enter Tryz.func8, Tryz.ntmps8
      go_wp2_with fail
      refine (HLg.out _ _ (readsF_two _ HRa.out HRb.out)).mono ?_
      rintro e w1 ⟨rfl, hB1⟩
      have HB1 := Lib.hid ((below_new w _).trans (hB1.mono (by simp)))
      clear hB1
      go_wp2_with fail
      refine (HAw.out _ (HE.out.below HB1.out)).mono ?_
      rintro e w2 ⟨rfl, hB2⟩
      have HB2 := Lib.hid (HB1.out.trans (hB2.mono HB1.out.size))
      clear hB2 HB1
      go_wp2_with fail
      refine (HFa.out _ (HRa.out.below HB2.out)).mono ?_
      rintro e w3 ⟨v3, rfl, hO3, hB3⟩
      have HQ3 := Lib.hid hO3.q
      obtain ⟨fa, fc, rfl⟩ := ownsP_slice hO3
      have HB3 := Lib.hid (HB2.out.trans (hB3.mono HB2.out.size))
      clear hB3 hO3 HB2
      go_wp2_with fail
      refine (HFb.out _ (HRb.out.below HB3.out)).mono ?_
      rintro e w4 ⟨v4, rfl, hO4, hB4⟩
      have HQ4 := Lib.hid hO4.q
      obtain ⟨ga, gc, rfl⟩ := ownsP_slice hO4
      have HQ3b := Lib.hid (HQ3.out.below hB4)
      have HB4 := Lib.hid (HB3.out.trans (hB4.mono HB3.out.size))
      clear hB4 hO4 HB3 HQ3
      go_wp2_with fail
      refine (HU.out _ _ _ HQ3b.out HQ4.out (HE.out.below HB4.out).1).mono ?_
      rintro e w5 ⟨v5, rfl, hO5, hB5⟩
      obtain ⟨ua, uc, rfl⟩ := ownsP_slice hO5
      have HQ5 := Lib.hid hO5.q
      have HA5 := Lib.hid (HQ3b.out.below hB5)
      have HG5 := Lib.hid (HQ4.out.below hB5)
      have HB5 := Lib.hid (HB4.out.trans (hB5.mono HB4.out.size))
      clear hB5 HB4 HQ3b HQ4 hO5
      have HRs := Lib.hid (HRa.out.below HB5.out)
      obtain ⟨sa, sc, hsv, hsc⟩ := HRs.out
      simp only [Value.slice.injEq] at hsv
      obtain ⟨rfl, _, rfl⟩ := hsv
      have HC := Lib.hid hsc
      clear hsc HRs
      generalize hW : w5 = W at *
      clear hW
      go_wp2_with fail
      go_loopw [49] (fun i wr => ∃ k : Nat, i = .int .i64 k ∧ k ≤ a.length ∧ Below W.heap.size W wr) (fun i _ => a.length - (intOf i).toNat)
      case atStart => exact ⟨0, rfl, Nat.zero_le _, Below.refl _ _⟩
      case round =>
        obtain ⟨k, rfl, hk, hBr⟩ := hrel
        have hbr := hBr.size
        have HBr := Lib.hid hBr
        clear hBr
        by_cases hlt : k < a.length
        · obtain ⟨p, hp⟩ : ∃ p, a[k]? = some p := ⟨a[k], by simp [hlt]⟩
          obtain ⟨g, off, rfl, hg1, h1, h2⟩ := HC.out k p hp
          have hc1 : wr.cell? ⟨g, off + k * 2, none⟩ = some (.string (strB p.1)) := (HBr.out.cell (p := ⟨g, off + k * 2, none⟩) hg1).trans h1
          have hc2 : wr.cell? ⟨g, off + k * 2 + 1, none⟩ = some (.string (strB p.2)) := (HBr.out.cell (p := ⟨g, off + k * 2 + 1, none⟩) hg1).trans h2
          have hpl := HAe.out p (List.mem_of_getElem? hp)
          have HG := Lib.hid (fun (w : World) (hr : ReadsQ w (.slice ga b.length gc) b) => get_any (.slice ga b.length gc) b (strB p.1) w hr (by rw [strB_size]; omega) (by omega) HBe.out)
          rw [strB_list] at HG
          have hg0 : decide (0 < (allL b p.1).length) = hasF b p.1 := rfl
          rw [hg0] at HG
          have HAu := Lib.hid (fun (w : World) (hr : ReadsQ w (.slice ua U.length uc) U) => allQ_any (.slice ua U.length uc) U p.1 w hr (by omega) HUe.out (by omega))
          have HAa := Lib.hid (fun (w : World) (hr : ReadsQ w (.slice fa a.length fc) a) => allQ_any (.slice fa a.length fc) a p.1 w hr (by omega) HAe.out (by omega))
          have HK1 := Lib.hid (HK.out p.1)
          have hall := all_len a p.1
          generalize strB (getL (allL b p.1)) = gs at *
          clear hp h1 h2 hg0
          cases hh : hasF b p.1 with
          | true =>
            rw [hh] at HG
            clear hh
            go_wp2_with fail
            refine (HG.out _ ((HG5.out.below HBr.out).below (below_new _ _))).mono ?_
            rintro e w9 ⟨rfl, hB9⟩
            have HB9 := Lib.hid (HBr.out.trans ((below_pair' hB9).mono hbr))
            clear hB9
            go_wp2_with fail
            go_roundw
            case rel => exact ⟨k + 1, by go_num, by omega, HB9.out⟩
            case measure => simp [intOf]; omega
          | false =>
            have he := HK1.out hh
            rw [hh] at HG
            rw [he] at HAu
            clear hh he HK1
            have hlp : (allL a p.1).length ≤ 1000000 := by omega
            clear hall
            generalize allL a p.1 = lp at *
            go_wp2_with fail
            refine (HG.out _ ((HG5.out.below HBr.out).below (below_new _ _))).mono ?_
            rintro e w9 ⟨rfl, hB9⟩
            have HS9 := Lib.hid (show KpS wr.heap.size p.1 (.slice ua U.length uc) U (.slice fa a.length fc) a W w9 from ⟨(pair_kept hB9).1, by have h9 := hB9.size; simp at h9; omega, (HQ5.out.below HBr.out).below (below_pair' hB9), (HA5.out.below HBr.out).below (below_pair' hB9), HBr.out.trans ((below_pair' hB9).mono hbr)⟩)
            clear hB9 hc1 hc2
            go_upto_region 12 with fail
            have hS0 := HS9.out.below (Below.refl _ _).drew
            clear HS9
            refine wp_region_held_drew (S := (fun w' => w'.cell? ⟨wr.heap.size, 0, none⟩ = some (.string (strB p.1)) ∧ KpS wr.heap.size p.1 (.slice ua U.length uc) U (.slice fa a.length fc) a W w')) (by kernel_rfl) (kpS_all hS0) (fun hHeld => ?_)
            generalize w9.drew = V0 at *
            refine wpAnyH_take (i := 0) (oi := { dst := some 61, op := _, type := _, pos := _, after := _, guard := _ }) (v := ?_) rfl (by kernel_rfl) (by kernel_rfl) (by kernel_rfl) (fun _ _ _ h => h) (Or.inl ⟨by rfl, ?_⟩) (by assumption) ?_
            rotate_left
            focus (intro w hSw; (try dsimp only at hSw); first | (go_simp; done) | (go_simp; with_reducible rfl))
            (try simp only [Act.put, List.setIfInBounds_toArray, List.set_cons_zero, List.set_cons_succ])
            refine wpAnyH_take (i := 1) (oi := { dst := some 62, op := _, type := _, pos := _, after := _, guard := _ }) (v := ?_) rfl (by kernel_rfl) (by kernel_rfl) (by kernel_rfl) (fun _ _ _ h => h) (Or.inl ⟨by rfl, ?_⟩) (by assumption) ?_
            rotate_left
            focus (intro w hSw; (try dsimp only at hSw); first | (go_simp; done) | (go_simp; with_reducible rfl))
            (try simp only [Act.put, List.setIfInBounds_toArray, List.set_cons_zero, List.set_cons_succ])
            refine wpAnyH_take (i := 2) (oi := { dst := some 63, op := _, type := _, pos := _, after := _, guard := _ }) (v := ?_) rfl (by kernel_rfl) (by kernel_rfl) (by kernel_rfl) (fun _ _ _ h => h) (Or.inl ⟨by rfl, ?_⟩) (by assumption) ?_
            rotate_left
            focus (intro w hSw; (try dsimp only at hSw); first | (go_simp; done) | (go_simp; with_reducible rfl))
            (try simp only [Act.put, List.setIfInBounds_toArray, List.set_cons_zero, List.set_cons_succ])
            refine wpAnyH_take (i := 4) (oi := { dst := some 65, op := _, type := _, pos := _, after := _, guard := _ }) (v := ?_) rfl (by kernel_rfl) (by kernel_rfl) (by kernel_rfl) (fun _ _ _ h => h) (Or.inl ⟨by rfl, ?_⟩) (by assumption) ?_
            rotate_left
            focus (intro w hSw; (try dsimp only at hSw); first | (go_simp; done) | (go_simp; with_reducible rfl))
            (try simp only [Act.put, List.setIfInBounds_toArray, List.set_cons_zero, List.set_cons_succ])
            refine wpAnyH_take (i := 5) (oi := { dst := some 66, op := _, type := _, pos := _, after := _, guard := _ }) (v := ?_) rfl (by kernel_rfl) (by kernel_rfl) (by kernel_rfl) (fun _ _ _ h => h) (Or.inl ⟨by rfl, ?_⟩) (by assumption) ?_
            rotate_left
            focus (intro w hSw; (try dsimp only at hSw); first | (go_simp; done) | (go_simp; with_reducible rfl))
            (try simp only [Act.put, List.setIfInBounds_toArray, List.set_cons_zero, List.set_cons_succ])
            refine wpAnyH_take (i := 6) (oi := { dst := some 67, op := _, type := _, pos := _, after := _, guard := _ }) (v := ?_) rfl (by kernel_rfl) (by kernel_rfl) (by kernel_rfl) (fun _ _ _ h => h) (Or.inl ⟨by rfl, ?_⟩) (by assumption) ?_
            rotate_left
            focus (intro w hSw; (try dsimp only at hSw); first | (go_simp; done) | (go_simp; with_reducible rfl))
            (try simp only [Act.put, List.setIfInBounds_toArray, List.set_cons_zero, List.set_cons_succ])
            refine wpAnyH_ready (rs := [3]) (by kernel_rfl) (by simp) ?_
            refine AllReadyH.cons (o := { dst := some 64, op := _, type := _, pos := _, after := _, guard := _ }) rfl (fun K hK => ?_) AllReadyH.nil
            go_simp
            refine (HAu.out _ hS0.u).mono ?_
            rintro e V1 ⟨x1, k1, rfl, hR1, hBc⟩
            have hS1 := hS0.below hBc
            have HR1 := Lib.hid hR1
            refine hK.out _ _ (kpS_all hS1) (fun hH1 => ?_)
            clear hK K hBc hS0 hHeld hR1
            (try simp only [Act.put, List.setIfInBounds_toArray, List.set_cons_zero, List.set_cons_succ])
            refine wpAnyH_ready (rs := [7]) (by kernel_rfl) (by simp) ?_
            refine AllReadyH.cons (o := { dst := some 68, op := _, type := _, pos := _, after := _, guard := _ }) rfl (fun K hK => ?_) AllReadyH.nil
            go_simp
            refine (HAa.out _ hS1.a).mono ?_
            rintro e V2 ⟨x2, k2, rfl, hR2, hBc⟩
            have hS2 := hS1.below hBc
            have HR2 := Lib.hid hR2
            have HR1b := Lib.hid (HR1.out.below hBc)
            refine hK.out _ _ (kpS_all hS2) (fun hH2 => ?_)
            clear hK K hBc hS1 hH1 hR2 HR1
            (try simp only [Act.put, List.setIfInBounds_toArray, List.set_cons_zero, List.set_cons_succ])
            refine wpAnyH_ready (rs := [8]) (by kernel_rfl) (by simp) ?_
            refine AllReadyH.cons (o := { dst := some 69, op := _, type := _, pos := _, after := _, guard := _ }) rfl (fun K hK => ?_) AllReadyH.nil
            go_simp
            refine (texts_same _ _ lp _ HR1b.out HR2.out hlp).mono ?_
            rintro e V3 ⟨rfl, hBc⟩
            have hS3 := hS2.below hBc
            refine hK.out _ _ (kpS_all hS3) (fun hH3 => ?_)
            clear hK K hBc hS2 hH2 HR1b HR2
            (try simp only [Act.put, List.setIfInBounds_toArray, List.set_cons_zero, List.set_cons_succ])
            refine wpAnyH_take (i := 9) (oi := { dst := some 70, op := _, type := _, pos := _, after := _, guard := _ }) (v := ?_) rfl (by kernel_rfl) (by kernel_rfl) (by kernel_rfl) (fun _ _ _ h => h) (Or.inl ⟨by rfl, ?_⟩) (by assumption) ?_
            rotate_left
            focus (intro w hSw; (try dsimp only at hSw); first | (go_simp; done) | (go_simp; with_reducible rfl))
            (try simp only [Act.put, List.setIfInBounds_toArray, List.set_cons_zero, List.set_cons_succ])
            refine wpAnyH_done (by kernel_rfl) ?_ _
            (try simp only [Exit.then])
            have HS3 := Lib.hid hS3
            clear hS3 hH3
            (try go_wp2_with fail)
            go_roundw
            case rel => exact ⟨k + 1, by go_num, by omega, HS3.out.b⟩
            case measure => simp [intOf]; omega
        · have HB7 := Lib.hid (HB5.out.trans (HBr.out.mono HB5.out.size))
          have HQ7 := Lib.hid (HQ5.out.below HBr.out)
          have HA7 := Lib.hid (HA5.out.below HBr.out)
          have HG7 := Lib.hid (HG5.out.below HBr.out)
          clear HC HK HBr HG5 HQ5 HA5
          rename World => wq
          have HKc := Lib.hid (keep_at wq)
          have HB8 := Lib.hid (HB7.out.alloc HB7.out.size (.cells keepV 9))
          have HQ8 := Lib.hid (HQ7.out.below (below_new wq (.cells keepV 9)))
          have HA8 := Lib.hid (HA7.out.below (below_new wq (.cells keepV 9)))
          have HG8 := Lib.hid (HG7.out.below (below_new wq (.cells keepV 9)))
          have hz8 : wq.heap.size < (wq.alloc (.cells keepV 9)).heap.size := by simp
          clear HQ7 HA7 HG7 HB7
          go_upto_region 16 with fail
          change Code.wp _ _ _ _ (wq.alloc (.cells keepV 9))
          generalize (wq.alloc (.cells keepV 9)) = W8 at *
          generalize wq.heap.size = NK at *
          go_loopw [74] (fun i wr => ∃ j : Nat, i = .int .i64 j ∧ j ≤ 3 ∧ Below W8.heap.size W8 wr) (fun i _ => 3 - (intOf i).toNat)
          case atStart => exact ⟨0, rfl, Nat.zero_le _, Below.refl _ _⟩
          case round =>
            obtain ⟨j, rfl, hj, hBr⟩ := hrel
            have hbr2 := hBr.size
            have HBr := Lib.hid hBr
            clear hBr
            by_cases hlj : j < 3
            · obtain ⟨nm, hnm⟩ : ∃ nm, keepN[j]? = some nm := ⟨keepN[j]'(by simpa [keepN] using hlj), by simp⟩
              have hcell : wr.cell? ⟨NK, j, none⟩ = some (.string (strB nm)) := (HBr.out.cell (p := ⟨NK, j, none⟩) hz8).trans (HKc.out j nm hnm)
              have hnl : nm.length ≤ 100 := by
                have : nm ∈ keepN := List.mem_of_getElem? hnm
                simp only [keepN, List.mem_cons, List.not_mem_nil, or_false] at this
                rcases this with rfl | rfl | rfl <;> decide
              have he := HKn.out j nm hnm
              have HAu := Lib.hid (fun (w : World) (hr : ReadsQ w (.slice ua U.length uc) U) => allQ_any (.slice ua U.length uc) U nm w hr (by omega) HUe.out (by omega))
              have HAa := Lib.hid (fun (w : World) (hr : ReadsQ w (.slice fa a.length fc) a) => allQ_any (.slice fa a.length fc) a nm w hr (by omega) HAe.out (by omega))
              rw [he] at HAu
              have hall := all_len a nm
              have hlp : (allL a nm).length ≤ 1000000 := by omega
              clear he hnm hall
              generalize allL a nm = lp at *
              go_wp2_with fail
              refine (HAu.out _ (HQ8.out.below HBr.out)).mono ?_
              rintro e w9 ⟨x1, k1, rfl, hR1, hB9⟩
              have HR1 := Lib.hid hR1
              have HB9 := Lib.hid (HBr.out.trans (hB9.mono hbr2))
              clear hR1 hB9
              go_wp2_with fail
              refine (HAa.out _ (HA8.out.below HB9.out)).mono ?_
              rintro e w10 ⟨x2, k2, rfl, hR2, hB10⟩
              have HR2 := Lib.hid hR2
              have HR1b := Lib.hid (HR1.out.below hB10)
              have HB10 := Lib.hid (HB9.out.trans (hB10.mono HB9.out.size))
              clear hR2 hB10 HR1
              go_wp2_with fail
              refine (texts_same _ _ lp _ HR1b.out HR2.out hlp).mono ?_
              rintro e w11 ⟨rfl, hB11⟩
              have HB11 := Lib.hid (HB10.out.trans (hB11.mono HB10.out.size))
              clear hB11
              go_wp2_with fail
              go_roundw
              case rel => exact ⟨j + 1, by go_num, by omega, HB11.out⟩
              case measure => simp [intOf]; omega
            · have HB9 := Lib.hid (HB8.out.trans (HBr.out.mono HB8.out.size))
              have HQ9 := Lib.hid (HQ8.out.below HBr.out)
              have HG9 := Lib.hid (HG8.out.below HBr.out)
              clear HBr HKc HKn
              go_wp2_with fail
              refine (HV.out _ _ _ HQ9.out HG9.out (HE.out.below HB9.out).1).mono ?_
              rintro e w12 ⟨v12, rfl, hO12, hB12⟩
              obtain ⟨za, zc, rfl⟩ := ownsP_slice hO12
              have HQ12 := Lib.hid hO12.q
              have HQ9b := Lib.hid (HQ9.out.below hB12)
              have HB12 := Lib.hid (HB9.out.trans (hB12.mono HB9.out.size))
              clear hO12 hB12
              go_wp2_with fail
              refine (HSm.out _ _ _ HQ12.out HQ9b.out).mono ?_
              rintro e w13 ⟨rfl, hB13⟩
              go_wp2_with fail
              go_ret
              exact ⟨rfl, HB12.out.trans (hB13.mono HB12.out.size)⟩
end Go.Proofs.YtoiampkdmjpljaaGreatDoor

/- Plain mathematics of chapter 11: values joined by commas, values in upper case, values that are no list, and the text of directives read again. -/
namespace Go.Proofs.YtoiampkdmjpljaaGreatDoor

/-! ### Lists -/
theorem scan_comma {b : UInt8} (hb : b ≠ 34) : ∀ (l : List UInt8) (st : St) (cur : List UInt8) (ps : List (List UInt8)) (r : List UInt8), scan b st cur l = some ps → scan b st cur (l ++ b :: r) = (scan b .out [] r).map (ps ++ ·) := by
  intro l
  induction l with
  | nil =>
    intro st cur ps r h
    cases st
    · simp only [scan, Option.some.injEq] at h
      subst h
      simp [scan, hb]
    · simp [scan] at h
    · simp [scan] at h
  | cons c t ih =>
    intro st cur ps r h
    cases st
    · rw [List.cons_append, scan]
      rw [scan] at h
      by_cases h34 : c = 34
      · rw [if_pos h34] at h ⊢; exact ih _ _ _ _ h
      · rw [if_neg h34] at h ⊢
        by_cases hc : c = b
        · rw [if_pos hc] at h ⊢
          cases hr : scan b .out [] t with
          | none => rw [hr] at h; cases h
          | some qs =>
            rw [hr] at h
            simp only [Option.map_some, Option.some.injEq] at h
            subst h
            rw [ih _ _ _ r hr, Option.map_map]; rfl
        · rw [if_neg hc] at h ⊢; exact ih _ _ _ _ h
    · rw [List.cons_append, scan]
      rw [scan] at h
      by_cases h34 : c = 34
      · rw [if_pos h34] at h ⊢; exact ih _ _ _ _ h
      · rw [if_neg h34] at h ⊢
        by_cases h92 : c = 92
        · rw [if_pos h92] at h ⊢; exact ih _ _ _ _ h
        · rw [if_neg h92] at h ⊢; exact ih _ _ _ _ h
    · rw [List.cons_append, scan]
      rw [scan] at h
      exact ih _ _ _ _ h
theorem list_some {l : List UInt8} {ls : List (List UInt8)} (h : listO l = some ls) : ctlS l = false ∧ ∃ ps, scan 44 .out [] l = some ps ∧ ls = (ps.map trimB).filter (!·.isEmpty) := by
  unfold listO partsO at h
  cases hc : ctlS l with
  | true => rw [hc] at h; cases h
  | false =>
    rw [hc] at h
    cases hs : scan 44 .out [] l with
    | none => rw [hs] at h; cases h
    | some ps =>
      rw [hs] at h
      simp only [Bool.false_eq_true, if_false, Option.map_some, Option.some.injEq] at h
      exact ⟨rfl, ps, rfl, h.symm⟩
theorem list_of {l : List UInt8} {ps : List (List UInt8)} (hc : ctlS l = false) (hs : scan 44 .out [] l = some ps) : listO l = some ((ps.map trimB).filter (!·.isEmpty)) := by
  unfold listO partsO; rw [hc, hs]; rfl
theorem ctl_app (l r : List UInt8) : ctlS (l ++ r) = (ctlS l || ctlS r) := by unfold ctlS; rw [List.any_append]
theorem ctl_cons (c : UInt8) (r : List UInt8) : ctlS (c :: r) = (ctlB c || ctlS r) := rfl
theorem list_join {v r : List UInt8} {ls : List (List UInt8)} (h : listO v = some ls) : listO (v ++ 44 :: r) = (listO r).map (ls ++ ·) := by
  obtain ⟨hc, ps, hs, rfl⟩ := list_some h
  have e := scan_comma (b := 44) (by decide) _ _ _ _ r hs
  have ec : ctlS (v ++ 44 :: r) = ctlS r := by rw [ctl_app, hc, ctl_cons]; rfl
  unfold listO partsO
  rw [ec, e]
  cases ctlS r
  · cases scan 44 .out [] r with
    | none => rfl
    | some qs => simp
  · rfl
/-- The values, with a comma between them. -/
def joinC : List (List UInt8) → List UInt8
  | [] => []
  | [v] => v
  | v :: u :: r => v ++ 44 :: joinC (u :: r)
theorem joinC_snoc : ∀ (vs : List (List UInt8)) (v : List UInt8), vs ≠ [] → joinC (vs ++ [v]) = joinC vs ++ 44 :: v := by
  intro vs
  induction vs with
  | nil => intro v h; exact absurd rfl h
  | cons u r ih =>
    intro v _
    cases r with
    | nil => rfl
    | cons t q =>
      show u ++ 44 :: joinC (t :: (q ++ [v])) = (u ++ 44 :: joinC (t :: q)) ++ 44 :: v
      have := ih v (by simp)
      rw [List.cons_append] at this
      rw [this]; simp
theorem vals_flat : ∀ (vs : List (List UInt8)) (d : Dv), (∀ v ∈ vs, listO v ≠ none) → vs.foldl valD d = (vs.flatMap fun v => (listO v).getD []).foldl elemD d := by
  intro vs
  induction vs with
  | nil => intro d _; rfl
  | cons v r ih =>
    intro d h
    rw [List.foldl_cons, List.flatMap_cons, List.foldl_append, ih _ fun u hu => h u (by simp [hu])]
    congr 1
    unfold valD
    cases hv : listO v with
    | none => exact absurd hv (h v (by simp))
    | some ls => rfl
theorem list_joinC : ∀ vs : List (List UInt8), (∀ v ∈ vs, listO v ≠ none) → listO (joinC vs) = some (vs.flatMap fun v => (listO v).getD []) := by
  intro vs
  induction vs with
  | nil => intro _; decide +kernel
  | cons v r ih =>
    intro h
    cases hv : listO v with
    | none => exact absurd hv (h v (by simp))
    | some ls =>
      cases r with
      | nil => show listO v = _; rw [hv]; simp [hv]
      | cons u q =>
        show listO (v ++ 44 :: joinC (u :: q)) = _
        rw [list_join hv, ih fun x hx => h x (by simp [hx])]
        simp [hv]
theorem parse_joinC {vs : List (List UInt8)} (h : ∀ v ∈ vs, listO v ≠ none) : parseD [joinC vs] = parseD vs := by
  unfold parseD
  rw [vals_flat vs _ h, vals_flat [joinC vs] _ (fun v hv => by
    obtain rfl := List.mem_singleton.1 hv
    rw [list_joinC vs h]; simp)]
  simp [list_joinC vs h]

/-! ### Upper case -/
def upB (c : UInt8) : UInt8 := if 97 ≤ c.toNat ∧ c.toNat ≤ 122 then c - 32 else c
def upS (l : List UInt8) : List UInt8 := l.map upB
theorem all_u8 {p : UInt8 → Bool} (h : (List.range 256).all (fun n => p (UInt8.ofNat n)) = true) (c : UInt8) : p c = true := by
  have := List.all_eq_true.1 h c.toNat (List.mem_range.2 (UInt8.toNat_lt c))
  simp at this; exact this
theorem up_eq (c : UInt8) : (upB c = 34 ↔ c = 34) ∧ (upB c = 92 ↔ c = 92) ∧ (upB c = 44 ↔ c = 44) ∧ (upB c = 61 ↔ c = 61) := by
  have h := all_u8 (p := fun c => (decide (upB c = 34) == decide (c = 34)) && (decide (upB c = 92) == decide (c = 92)) && (decide (upB c = 44) == decide (c = 44)) && (decide (upB c = 61) == decide (c = 61))) (by decide +kernel) c
  simp only [Bool.and_eq_true, beq_iff_eq, decide_eq_decide] at h
  exact ⟨h.1.1.1, h.1.1.2, h.1.2, h.2⟩
theorem up_ctl (c : UInt8) : ctlB (upB c) = ctlB c := by
  have h := all_u8 (p := fun c => ctlB (upB c) == ctlB c) (by decide +kernel) c
  simpa using h
theorem up_blank (c : UInt8) : blank (upB c) = blank c := by
  have h := all_u8 (p := fun c => blank (upB c) == blank c) (by decide +kernel) c
  simpa using h
theorem up_low (c : UInt8) : lowB (upB c) = lowB c := by
  have h := all_u8 (p := fun c => lowB (upB c) == lowB c) (by decide +kernel) c
  simpa using h
theorem up_dig (c : UInt8) : (48 ≤ c.toNat ∧ c.toNat ≤ 57 → upB c = c) ∧ ((48 ≤ (upB c).toNat ∧ (upB c).toNat ≤ 57) ↔ (48 ≤ c.toNat ∧ c.toNat ≤ 57)) := by
  have h := all_u8 (p := fun c => (!(decide (48 ≤ c.toNat ∧ c.toNat ≤ 57)) || decide (upB c = c)) && (decide (48 ≤ (upB c).toNat ∧ (upB c).toNat ≤ 57) == decide (48 ≤ c.toNat ∧ c.toNat ≤ 57))) (by decide +kernel) c
  simp only [Bool.and_eq_true, Bool.or_eq_true, Bool.not_eq_true', decide_eq_false_iff_not, decide_eq_true_eq, beq_iff_eq, decide_eq_decide] at h
  refine ⟨fun hd => ?_, h.2⟩
  rcases h.1 with h1 | h1
  · exact absurd hd h1
  · exact h1
theorem upS_app (l r : List UInt8) : upS (l ++ r) = upS l ++ upS r := by simp [upS]
theorem upS_cons (c : UInt8) (r : List UInt8) : upS (c :: r) = upB c :: upS r := rfl
theorem upS_nil (l : List UInt8) : upS l = [] ↔ l = [] := by simp [upS]
theorem up_ctlS (l : List UInt8) : ctlS (upS l) = ctlS l := by
  unfold ctlS upS; rw [List.any_map]
  congr 1; funext c; exact up_ctl c
theorem up_lowS (l : List UInt8) : lowS (upS l) = lowS l := by
  unfold lowS upS; rw [List.map_map]
  exact List.map_congr_left fun c _ => up_low c
theorem up_scan : ∀ (l : List UInt8) (st : St) (cur : List UInt8), scan 44 st (upS cur) (upS l) = (scan 44 st cur l).map (·.map upS) := by
  intro l
  induction l with
  | nil => intro st cur; cases st <;> simp [scan, upS]
  | cons c r ih =>
    intro st cur
    have h := up_eq c
    have e : upS cur ++ [upB c] = upS (cur ++ [c]) := by simp [upS]
    rw [upS_cons]
    cases st
    · rw [scan, scan, e]
      by_cases h34 : c = 34
      · rw [if_pos h34, if_pos (h.1.2 h34)]; exact ih _ _
      · rw [if_neg h34, if_neg (fun x => h34 (h.1.1 x))]
        by_cases h44 : c = 44
        · rw [if_pos h44, if_pos (h.2.2.1.2 h44)]
          have := ih .out []
          rw [show upS [] = [] from rfl] at this
          rw [this, Option.map_map, Option.map_map]; rfl
        · rw [if_neg h44, if_neg (fun x => h44 (h.2.2.1.1 x))]; exact ih _ _
    · rw [scan, scan, e]
      by_cases h34 : c = 34
      · rw [if_pos h34, if_pos (h.1.2 h34)]; exact ih _ _
      · rw [if_neg h34, if_neg (fun x => h34 (h.1.1 x))]
        by_cases h92 : c = 92
        · rw [if_pos h92, if_pos (h.2.1.2 h92)]; exact ih _ _
        · rw [if_neg h92, if_neg (fun x => h92 (h.2.1.1 x))]; exact ih _ _
    · rw [scan, scan, e]; exact ih _ _
theorem up_drop : ∀ l : List UInt8, (upS l).dropWhile blank = upS (l.dropWhile blank) := by
  intro l
  induction l with
  | nil => rfl
  | cons c r ih =>
    rw [upS_cons, List.dropWhile_cons, List.dropWhile_cons, up_blank]
    split
    · exact ih
    · rfl
theorem up_rev (l : List UInt8) : (upS l).reverse = upS l.reverse := by simp [upS]
theorem up_trim (l : List UInt8) : trimB (upS l) = upS (trimB l) := by
  rw [trimB_eq, trimB_eq]
  unfold tR tL
  rw [up_drop, up_rev, up_drop, up_rev]
theorem up_list (l : List UInt8) : listO (upS l) = (listO l).map (·.map upS) := by
  unfold listO partsO
  rw [up_ctlS]
  cases ctlS l
  · have := up_scan l .out []
    rw [show upS [] = [] from rfl] at this
    rw [this]
    cases scan 44 .out [] l with
    | none => rfl
    | some ps =>
      simp only [Bool.false_eq_true, if_false, Option.map_some, List.map_map, Option.some.injEq]
      have e1 : trimB ∘ upS = upS ∘ trimB := by funext x; exact up_trim x
      rw [e1, ← List.map_map, List.filter_map]
      congr 2
      funext x
      show (!(upS x).isEmpty) = !x.isEmpty
      cases x <;> rfl
  · rfl
theorem up_cut : ∀ l : List UInt8, cutE (upS l) = (cutE l).map fun p => (upS p.1, upS p.2) := by
  intro l
  induction l with
  | nil => rfl
  | cons c r ih =>
    have h := (up_eq c).2.2.2
    rw [upS_cons, cutE, cutE]
    by_cases h61 : c = 61
    · rw [if_pos h61, if_pos (h.2 h61)]; rfl
    · rw [if_neg h61, if_neg (fun x => h61 (h.1 x)), ih, Option.map_map, Option.map_map]; rfl
theorem up_rq : ∀ (l : List UInt8) (e : Bool), rq e (upS l) = (rq e l).map upS := by
  intro l
  induction l with
  | nil => intro e; cases e <;> rfl
  | cons c r ih =>
    intro e
    have h := up_eq c
    rw [upS_cons]
    cases e
    · rw [rq, rq]
      by_cases h34 : c = 34
      · rw [if_pos h34, if_pos (h.1.2 h34)]
        by_cases hr : r = []
        · subst hr; rfl
        · rw [if_neg hr, if_neg (fun x => hr ((upS_nil r).1 x))]; rfl
      · rw [if_neg h34, if_neg (fun x => h34 (h.1.1 x))]
        by_cases h92 : c = 92
        · rw [if_pos h92, if_pos (h.2.1.2 h92)]; exact ih _
        · rw [if_neg h92, if_neg (fun x => h92 (h.2.1.1 x)), ih, Option.map_map, Option.map_map]; rfl
    · rw [rq, rq, ih, Option.map_map, Option.map_map]; rfl
theorem up_head (l : List UInt8) : (upS l).headD 0 = 34 ↔ l.headD 0 = 34 := by
  cases l with
  | nil => rfl
  | cons c r => exact (up_eq c).1
theorem up_unq (l : List UInt8) : unqO (upS l) = (unqO l).map upS := by
  have hl : (upS l).length = l.length := by simp [upS]
  have hd : (upS l).drop 1 = upS (l.drop 1) := by simp [upS]
  unfold unqO
  by_cases h : ctlS l = true ∨ l.length < 2 ∨ l.headD 0 ≠ 34
  · rw [if_pos h, if_pos]
    · rfl
    · rw [up_ctlS, hl]
      rcases h with h | h | h
      · exact .inl h
      · exact .inr (.inl h)
      · exact .inr (.inr fun x => h ((up_head l).1 x))
  · rw [if_neg h, if_neg, hd, up_rq]
    rw [up_ctlS, hl]
    rintro (x | x | x)
    · exact h (.inl x)
    · exact h (.inr (.inl x))
    · exact h (.inr (.inr fun y => x ((up_head l).2 y)))
theorem up_arg (a : List UInt8) : argL (upS a) = upS (argL a) := by
  unfold argL
  by_cases h : a.headD 0 = 34
  · rw [if_pos h, if_pos ((up_head a).2 h), up_unq]
    cases unqO a <;> rfl
  · rw [if_neg h, if_neg (fun x => h ((up_head a).1 x))]
theorem up_num : ∀ (l : List UInt8) (n : Int), numA (upS l) n = numA l n := by
  intro l
  induction l with
  | nil => intro n; rfl
  | cons c r ih =>
    intro n
    have h := up_dig c
    rw [upS_cons, numA, numA]
    by_cases hd : 48 ≤ c.toNat ∧ c.toNat ≤ 57
    · rw [if_pos hd, if_pos (h.2.2 hd), h.1 hd]; exact ih _
    · rw [if_neg hd, if_neg (fun x => hd (h.2.1 x))]
theorem up_sec (a : List UInt8) : secL (upS a) = secL a := by
  unfold secL
  rw [up_arg, up_num]
  by_cases h : argL a = []
  · rw [if_pos h, if_pos ((upS_nil _).2 h)]
  · rw [if_neg h, if_neg (fun x => h ((upS_nil _).1 x))]
theorem up_elem (d : Dv) (e : List UInt8) : elemD d (upS e) = elemD d e := by
  unfold elemD
  rw [up_cut]
  cases cutE e with
  | none => show putD d (lowS (upS e)) none = _; rw [up_lowS]
  | some p =>
    show putD d (lowS (upS p.1)) (some (upS p.2)) = putD d (lowS p.1) (some p.2)
    rw [up_lowS]
    unfold putD argX argY argZ
    simp only [Option.bind_some, up_sec]
theorem up_elems : ∀ (ls : List (List UInt8)) (d : Dv), (ls.map upS).foldl elemD d = ls.foldl elemD d := by
  intro ls
  induction ls with
  | nil => intro d; rfl
  | cons e r ih => intro d; rw [List.map_cons, List.foldl_cons, List.foldl_cons, up_elem, ih]
theorem up_val (d : Dv) (v : List UInt8) : valD d (upS v) = valD d v := by
  unfold valD
  rw [up_list]
  cases listO v with
  | none => rfl
  | some ls => exact up_elems ls d
theorem up_parse (vs : List (List UInt8)) : parseD (vs.map upS) = parseD vs := by
  have : ∀ (vs : List (List UInt8)) (d : Dv), (vs.map upS).foldl valD d = vs.foldl valD d := by
    intro vs
    induction vs with
    | nil => intro d; rfl
    | cons v r ih => intro d; rw [List.map_cons, List.foldl_cons, List.foldl_cons, up_val, ih]
  exact this vs noneD

/-! ### An unknown directive -/
def more0 : List UInt8 := [120, 45, 109, 111, 114, 101, 61, 34, 97, 44, 32, 110, 111, 45, 115, 116, 111, 114, 101, 34, 32]
def immL : List UInt8 := [105, 109, 109, 117, 116, 97, 98, 108, 101]
theorem list_more0 : listO more0 = some [[120, 45, 109, 111, 114, 101, 61, 34, 97, 44, 32, 110, 111, 45, 115, 116, 111, 114, 101, 34]] := by decide +kernel
theorem list_imm : listO immL = some [immL] := by decide +kernel
theorem elem_more0 (d : Dv) : elemD d [120, 45, 109, 111, 114, 101, 61, 34, 97, 44, 32, 110, 111, 45, 115, 116, 111, 114, 101, 34] = d := by
  have h : cutE [120, 45, 109, 111, 114, 101, 61, 34, 97, 44, 32, 110, 111, 45, 115, 116, 111, 114, 101, 34] = some ([120, 45, 109, 111, 114, 101], [34, 97, 44, 32, 110, 111, 45, 115, 116, 111, 114, 101, 34]) := by decide +kernel
  have hk : kindL (lowS [120, 45, 109, 111, 114, 101]) = 12 := by decide +kernel
  unfold elemD; rw [h]
  show putD d _ _ = d
  unfold putD; rw [hk]; rfl
theorem elem_imm (d : Dv) : elemD d immL = d := by
  have h : cutE immL = none := by decide +kernel
  have hk : kindL (lowS immL) = 12 := by decide +kernel
  unfold elemD; rw [h]
  show putD d _ _ = d
  unfold putD; rw [hk]; rfl
theorem val_more (d : Dv) (v : List UInt8) : valD d (more0 ++ 44 :: v) = valD d v := by
  unfold valD
  rw [list_join list_more0]
  cases listO v with
  | none => rfl
  | some ls => show List.foldl elemD d (_ :: ls) = _; rw [List.foldl_cons, elem_more0]
theorem val_imm (d : Dv) : valD d immL = d := by
  unfold valD; rw [list_imm]
  show elemD d immL = d
  exact elem_imm d
def moreV (vs : List (List UInt8)) : List (List UInt8) := vs.flatMap fun v => [more0 ++ 44 :: v, immL]
theorem parse_more (vs : List (List UInt8)) : parseD (moreV vs) = parseD vs := by
  have : ∀ (vs : List (List UInt8)) (d : Dv), (moreV vs).foldl valD d = vs.foldl valD d := by
    intro vs
    induction vs with
    | nil => intro d; rfl
    | cons v r ih =>
      intro d
      show (moreV r).foldl valD (valD (valD d (more0 ++ 44 :: v)) immL) = _
      rw [val_more, val_imm, ih]; rfl
  exact this vs noneD

/-! ### A value with a quoted string that does not end -/
theorem scan_open (b : UInt8) : ∀ (t cur : List UInt8), (∀ c ∈ t, c ≠ 34 ∧ c ≠ 92) → scan b .inn cur t = none := by
  intro t
  induction t with
  | nil => intro cur _; rfl
  | cons c r ih =>
    intro cur h
    have hc := h c (by simp)
    rw [scan, if_neg hc.1, if_neg hc.2]
    exact ih _ fun x hx => h x (by simp [hx])
theorem scan_none (b : UInt8) (t : List UInt8) (ht : ∀ c ∈ t, c ≠ 34 ∧ c ≠ 92) : ∀ (p cur : List UInt8), 34 ∉ p → scan b .out cur (p ++ 34 :: t) = none := by
  intro p
  induction p with
  | nil => intro cur _; rw [List.nil_append, scan, if_pos rfl]; exact scan_open b t _ ht
  | cons c r ih =>
    intro cur h
    have hc : c ≠ 34 := fun e => h (by rw [e]; simp)
    have hr : 34 ∉ r := fun e => h (by simp [e])
    rw [List.cons_append, scan, if_neg hc]
    split
    · rw [ih _ hr]; rfl
    · exact ih _ hr
def brokP : List UInt8 := [112, 117, 98, 108, 105, 99, 44, 32, 109, 97, 120, 45, 97, 103, 101, 61]
theorem val_broken (d : Dv) (t : List UInt8) (ht : ∀ c ∈ t, c ≠ 34 ∧ c ≠ 92) : valD d (brokP ++ 34 :: 49 :: t) = { d with ns := true } := by
  have hs : scan 44 .out [] (brokP ++ 34 :: 49 :: t) = none := scan_none 44 (49 :: t) (fun c hc => by
    rcases List.mem_cons.1 hc with e | e
    · subst e; decide
    · exact ht c e) brokP [] (by decide)
  have h : listO (brokP ++ 34 :: 49 :: t) = none := by
    unfold listO partsO; rw [hs]; split <;> rfl
  unfold valD; rw [h]
end Go.Proofs.YtoiampkdmjpljaaGreatDoor
