import Derived.Test.YtoiampkdmjpljaaGreatDoorPa35
import Derived.Test.YtoiampkdmjpljaaGreatDoorPa40
import Derived.Test.YtoiampkdmjpljaaGreatDoorPa36
import Derived.Test.YtoiampkdmjpljaaGreatDoorPa6
import Derived.Test.YtoiampkdmjpljaaGreatDoorPa0
import Derived.Deep.RegionHeld3
import Derived.Test.YtoiampkdmjpljaaGreatDoorPa38
import Derived.Test.YtoiampkdmjpljaaGreatDoorPa1
import Derived.Test.YtoiampkdmjpljaaGreatDoorPa9
import Derived.Deep.QuietTactic
import Derived.BigQuiet
/- StorableUpdates: the walk. -/
namespace Go.Proofs.YtoiampkdmjpljaaGreatDoor
open Go.RowKit

set_option maxHeartbeats 16000000 in
set_option maxRecDepth 100000 in
theorem sb_updates_walk (aa : Option Addr) (ac : Nat) (a : Flds) (ba : Option Addr) (bc : Nat) (b : Flds) (w : World) (hE : EnvL w) (ha : ReadsQ w (.slice aa a.length ac) a) (hb : ReadsQ w (.slice ba b.length bc) b) (hp : Sane (.slice ba b.length bc)) (hba : 2 * a.length + totL a ≤ 3000000) (hbb : 2 * b.length + totL b ≤ 3000000) :
    Calls Tryz.prog 7 #[(.slice aa a.length ac), (.slice ba b.length bc)] w fun e w' => e = .returned (.bool true) ∧ Below w.heap.size w w' := by
  have HRa := Lib.hid ha
  have HRb := Lib.hid hb
  have HE := Lib.hid hE
  have HLg := Lib.hid (fun (lv : Value) (w : World) (hr : ReadsF w lv [((.slice aa a.length ac), a), ((.slice ba b.length bc), b)]) => large15_any lv _ w hr (by simp) (by show 0 + (2 * a.length + totL a) + (2 * b.length + totL b) ≤ _; omega))
  have HAw := Lib.hid (fun (w : World) (hE : EnvL w) => awake15_any w hE)
  clear hE ha hb hba hbb
  generalize hlg : lgB [((.slice aa a.length ac), a), ((.slice ba b.length bc), b)] = lg at *
  cases lg with
  | true =>
    clear hlg hp
    go_enter Tryz.func7, Tryz.ntmps7
    go_wp2_with fail
    refine (HLg.out _ _ (readsF_two _ HRa.out HRb.out)).mono ?_
    rintro e w1 ⟨rfl, hB1⟩
    have HB1 := Lib.hid ((below_new w _).trans (hB1.mono (by simp)))
    clear hB1
    go_wp2_with fail
    refine (HLg.out _ _ (readsF_two _ (HRa.out.below HB1.out) (HRb.out.below HB1.out))).mono ?_
    rintro e w2 ⟨rfl, hB2⟩
    have HB2 := Lib.hid ((HB1.out.alloc HB1.out.size _).trans (hB2.mono (Nat.le_trans HB1.out.size (by simp))))
    go_wp2_with fail
    go_ret
    exact ⟨rfl, HB2.out⟩
  | false =>
    have hsum := lg_sum hlg
    have hfa : FitL a := fit_sum (by omega)
    have hfb : FitL b := fit_sum (by omega)
    have hbl : b.length ≤ 2000 := by omega
    have hal : a.length ≤ 2000 := by omega
    have hbe : ∀ p ∈ b, p.1.length + p.2.length ≤ 6000 := fun p hp => by have := tot_mem hp; omega
    have HFa := Lib.hid (fun (w : World) (hr : ReadsQ w (.slice aa a.length ac) a) => fields_any _ a w hr hfa.len hfa.each6)
    have HFb := Lib.hid (fun (w : World) (hr : ReadsQ w (.slice ba b.length bc) b) => fields_any _ b w hr hfb.len hfb.each6)
    clear hlg hsum
    cases hx : mixB (allL a nET) (allL b nET) with
    | true =>
      have HU := Lib.hid (fun (u v : Value) (w : World) (hu : ReadsQ w u a) (hv : ReadsQ w v b) (hM : MaxIs w) => update_mix u a v b w hu hfa hv hfb hM hx)
      have HV := Lib.hid (fun (w : World) (hu : ReadsQ w (.slice aa a.length ac) a) (hv : ReadsQ w (.slice ba b.length bc) b) => refUpdate_mix (.slice aa a.length ac) a (.slice ba b.length bc) b w hu hfa hv hfb hx)
      clear hx hp hfa hfb hbe
      go_enter Tryz.func7, Tryz.ntmps7
      go_wp2_with fail
      refine (HLg.out _ _ (readsF_two _ HRa.out HRb.out)).mono ?_
      rintro e w1 ⟨rfl, hB1⟩
      have HB1 := Lib.hid ((below_new w _).trans (hB1.mono (by simp)))
      clear hB1
      go_wp2_with fail
      refine (HAw.out _ (HE.out.below HB1.out)).mono ?_
      rintro e w2 ⟨rfl, hB2⟩
      have HB2 := Lib.hid (HB1.out.trans (hB2.mono HB1.out.size))
      clear hB2 HB1
      go_wp2_with fail
      refine (HFa.out _ (HRa.out.below HB2.out)).mono ?_
      rintro e w3 ⟨v3, rfl, hO3, hB3⟩
      have HQ3 := Lib.hid hO3.q
      have HB3 := Lib.hid (HB2.out.trans (hB3.mono HB2.out.size))
      clear hB3 hO3 HB2
      go_wp2_with fail
      refine (HFb.out _ (HRb.out.below HB3.out)).mono ?_
      rintro e w4 ⟨v4, rfl, hO4, hB4⟩
      have HQ4 := Lib.hid hO4.q
      have HQ3b := Lib.hid (HQ3.out.below hB4)
      have HB4 := Lib.hid (HB3.out.trans (hB4.mono HB3.out.size))
      clear hB4 hO4 HB3 HQ3
      go_wp2_with fail
      refine (HU.out _ _ _ HQ3b.out HQ4.out (HE.out.below HB4.out).1).mono ?_
      rintro e w5 ⟨rfl, hB5⟩
      have HB5 := Lib.hid (HB4.out.trans (hB5.mono HB4.out.size))
      clear hB5 HB4 HQ3b HQ4
      go_wp2_with fail
      refine (HV.out _ (HRa.out.below HB5.out) (HRb.out.below HB5.out)).mono ?_
      rintro e w6 ⟨rfl, hB6⟩
      have HB6 := Lib.hid (HB5.out.trans (hB6.mono HB5.out.size))
      clear hB6 HB5
      go_wp2_with fail
      refine (num_errno 20 _).mono ?_
      rintro e w7 ⟨rfl, rfl⟩
      go_wp2_with fail
      refine (are_same _ _ [] _ (reads_nil _) (reads_nil _) (by simp)).mono ?_
      rintro e w8 ⟨rfl, hB8⟩
      go_wp2_with fail
      go_ret
      exact ⟨rfl, HB6.out.trans (hB8.mono HB6.out.size)⟩
    | false =>
      have HU := Lib.hid (fun (u v : Value) (w : World) (hu : ReadsQ w u a) (hv : ReadsQ w v b) (hM : MaxIs w) => update_ok u a v b w hu hfa hv (by omega) hbe hM hx)
      have HV := Lib.hid (fun (w : World) (hu : ReadsQ w (.slice aa a.length ac) a) (hv : ReadsQ w (.slice ba b.length bc) b) => refUpdate_ok (.slice aa a.length ac) a (.slice ba b.length bc) b w hu hfa hv hp (by omega) hbe hx)
      have hul : (updL a b).length ≤ 1000000 := by have := upd_len a b; omega
      clear hx hp hfa hfb hbe
      generalize updL a b = U at *
      go_enter Tryz.func7, Tryz.ntmps7
      go_wp2_with fail
      refine (HLg.out _ _ (readsF_two _ HRa.out HRb.out)).mono ?_
      rintro e w1 ⟨rfl, hB1⟩
      have HB1 := Lib.hid ((below_new w _).trans (hB1.mono (by simp)))
      clear hB1
      go_wp2_with fail
      refine (HAw.out _ (HE.out.below HB1.out)).mono ?_
      rintro e w2 ⟨rfl, hB2⟩
      have HB2 := Lib.hid (HB1.out.trans (hB2.mono HB1.out.size))
      clear hB2 HB1
      go_wp2_with fail
      refine (HFa.out _ (HRa.out.below HB2.out)).mono ?_
      rintro e w3 ⟨v3, rfl, hO3, hB3⟩
      have HQ3 := Lib.hid hO3.q
      have HB3 := Lib.hid (HB2.out.trans (hB3.mono HB2.out.size))
      clear hB3 hO3 HB2
      go_wp2_with fail
      refine (HFb.out _ (HRb.out.below HB3.out)).mono ?_
      rintro e w4 ⟨v4, rfl, hO4, hB4⟩
      have HQ4 := Lib.hid hO4.q
      have HQ3b := Lib.hid (HQ3.out.below hB4)
      have HB4 := Lib.hid (HB3.out.trans (hB4.mono HB3.out.size))
      clear hB4 hO4 HB3 HQ3
      go_wp2_with fail
      refine (HU.out _ _ _ HQ3b.out HQ4.out (HE.out.below HB4.out).1).mono ?_
      rintro e w5 ⟨v5, rfl, hO5, hB5⟩
      have HQ5 := Lib.hid hO5.q
      have HB5 := Lib.hid (HB4.out.trans (hB5.mono HB4.out.size))
      clear hB5 HB4 HQ3b HQ4 hO5
      go_wp2_with fail
      refine (HV.out _ (HRa.out.below HB5.out) (HRb.out.below HB5.out)).mono ?_
      rintro e w6 ⟨v6, rfl, hO6, hB6⟩
      have HQ6 := Lib.hid hO6.q
      have HQ5b := Lib.hid (HQ5.out.below hB6)
      have HB6 := Lib.hid (HB5.out.trans (hB6.mono HB5.out.size))
      clear hB6 HB5 hO6 HQ5
      go_wp2_with fail
      refine (num_nil _).mono ?_
      rintro e w7 ⟨rfl, rfl⟩
      go_wp2_with fail
      refine (are_same _ _ U _ HQ5b.out HQ6.out hul).mono ?_
      rintro e w8 ⟨rfl, hB8⟩
      go_wp2_with fail
      go_ret
      exact ⟨rfl, HB6.out.trans (hB8.mono HB6.out.size)⟩
end Go.Proofs.YtoiampkdmjpljaaGreatDoor

/- A region that draws its order and at last writes the cells that it reads ('x, y = f(x), g(y)'): what it reads holds until the first of its stores comes up. -/
namespace Go.Proofs.YtoiampkdmjpljaaGreatDoor
open Go.RowKit

section
variable {P : Program} {ops : Array Oper} {Q : Exit → Act → World → Prop} {md : Region.Mode} {S : World → Prop} {s : Nat}

/-- Until number s has come up S holds behind each operation; from then on nothing is asked but the end. -/
def heldU (P : Program) (md : Region.Mode) (ops : Array Oper) (Q : Exit → Act → World → Prop) (S : World → Prop) (s : Nat) : Nat → Array Bool → Act → World → Prop
  | 0, done, a, w => Region.ready md ops done = [] ∧ Q .normal a w
  | n + 1, done, a, w => (Region.ready md ops done = [] → Q .normal a w) ∧
      ∀ i ∈ Region.ready md ops done, wpOp P ops Q i (fun a' w' => if i = s then wpAny P md ops Q n (done.setIfInBounds i true) a' w' else S w' ∧ heldU P md ops Q S s n (done.setIfInBounds i true) a' w') a w
theorem heldU.any : ∀ (n : Nat) (done : Array Bool) (a : Act) (w : World), heldU P md ops Q S s n done a w → wpAny P md ops Q n done a w
  | 0, _, _, _, h => h
  | n + 1, _, _, _, h => ⟨h.1, fun i hi => wpOp_mono (fun a' w' h' => by
      by_cases his : i = s
      · rw [if_pos his] at h'; exact h'
      · rw [if_neg his] at h'; exact heldU.any n _ _ _ h'.2) (h.2 i hi)⟩
/-- Number j waits for number i, by itself. -/
def waitsB (md : Region.Mode) (ops : Array Oper) (j i : Nat) : Bool := match ops[j]? with
  | some o => o.after.toList.any fun e => Region.binds md e && e.on == i
  | none => false
theorem waits_not {j i : Nat} {done : Array Bool} (h : waitsB md ops j i = true) (hi : done.getD i true = false) : j ∉ Region.ready md ops done := by
  intro hj
  obtain ⟨_, o, ho, hall⟩ := mem_ready.1 hj
  unfold waitsB at h
  rw [ho] at h
  obtain ⟨e, he, hb⟩ := List.any_eq_true.1 h
  rw [Bool.and_eq_true, beq_iff_eq] at hb
  have h1 := hall e (by simpa using he) hb.1
  rw [hb.2] at h1
  rcases Nat.lt_or_ge i done.size with h' | h'
  · simp [h'] at hi h1; rw [hi] at h1; cases h1
  · simp [Array.getElem?_eq_none h'] at h1
/-- An operation that the first store waits for (or that one waits for which it waits for) may be taken first. -/
theorem heldU_first {i k : Nat} {oi : Oper} {v : Value} (hi : ops[i]? = some oi) (hsel : ∀ (j : Nat) (o : Oper) cs b, ops[j]? = some o → o.op ≠ .select cs b)
    (hQ : ∀ c a w, Q (.panic c) (a.put oi.dst v) w → Q (.panic c) a w) (hsk : waitsB md ops s k = true) (hki : k = i ∨ waitsB md ops k i = true) :
    ∀ (n : Nat) (done : Array Bool) (a : Act) (w : World),
      (∀ j oj, ops[j]? = some oj → j ≠ i → done.getD j true = false → (∀ e ∈ oj.after, Region.binds md e = true → e.on ≠ i) → oi.apart ops oj = true) →
      done.getD k true = false → i ∈ Region.ready md ops done → YieldsIf P ops S oi v a → S w →
      heldU P md ops Q S s n (done.setIfInBounds i true) (a.put oi.dst v) w → heldU P md ops Q S s (n + 1) done a w := by
  have his : ∀ done : Array Bool, done.getD k true = false → i ∈ Region.ready md ops done → i ≠ s := by
    intro done hk hr e
    subst e
    exact waits_not hsk hk hr
  intro n
  induction n with
  | zero =>
    intro done a w _ hk hr hy hS H
    refine ⟨fun h => (by rw [h] at hr; cases hr), fun j hj => ?_⟩
    by_cases hji : j = i
    · subst hji
      refine hy.wpOp hi hS ?_
      rw [if_neg (his _ hk hr)]
      exact ⟨hS, H⟩
    · have := ready_mono hj hji
      rw [H.1] at this
      cases this
  | succ n ih =>
    intro done a w hfree hk hr hy hS H
    refine ⟨fun h => (by rw [h] at hr; cases hr), fun j hj => ?_⟩
    by_cases hji : j = i
    · subst hji
      refine hy.wpOp hi hS ?_
      rw [if_neg (his _ hk hr)]
      exact ⟨hS, H⟩
    · have hjs : j ≠ s := by
        intro e
        subst e
        exact waits_not hsk hk hj
      have hjk : j ≠ k := by
        intro e
        subst e
        rcases hki with e | e
        · exact hji e
        · exact waits_not e (mem_ready.1 hr).1 hj
      have h1 := H.2 j (ready_mono hj hji)
      obtain ⟨hjun, oj, hoj, hall⟩ := mem_ready.1 hj
      have hnot : ∀ e ∈ oj.after, Region.binds md e = true → e.on ≠ i := fun e he hb heq => by
        have g1 := hall e he hb
        have g0 := (mem_ready.1 hr).1
        rw [heq] at g1
        rcases Nat.lt_or_ge i done.size with h' | h'
        · simp [h'] at g0 g1; rw [g0] at g1; cases g1
        · simp [Array.getElem?_eq_none h'] at g1
      have h2 := wpOp_putIf hoj (hfree j oj hoj hji hjun hnot) (fun cs b => hsel i oi cs b hi) (fun cs b => hsel j oj cs b hoj) hQ hy h1
      have hfree' : ∀ m om, ops[m]? = some om → m ≠ i → (done.setIfInBounds j true).getD m true = false →
          (∀ e ∈ om.after, Region.binds md e = true → e.on ≠ i) → oi.apart ops om = true := fun m om hm hmi hun hno => by
        refine hfree m om hm hmi ?_ hno
        by_cases hjm : j = m
        · subst hjm; exact hjun
        · rw [getD_set_ne true hjm] at hun; exact hun
      refine wpOp_mono (fun a' w' h3 => ?_) h2
      rw [if_neg hjs] at h3 ⊢
      refine ⟨h3.2.1, ih (done.setIfInBounds j true) a' w' hfree' (by rw [getD_set_ne true hjk]; exact hk) (ready_mono hr (Ne.symm hji)) h3.1 h3.2.1 ?_⟩
      rw [Array.setIfInBounds_comm _ _ hji]
      exact h3.2.2
/-- Take number i first. -/
theorem heldU_take {i k : Nat} {oi : Oper} {v : Value} {n : Nat} {done : Array Bool} {a : Act} {w : World} (hi : ops[i]? = some oi)
    (hs : Region.noSelect ops = true) (hf : Region.free md ops done i = true) (hr : (Region.ready md ops done).contains i = true)
    (hsk : waitsB md ops s k = true) (hki : (decide (k = i) || waitsB md ops k i) = true) (hk : done.getD k true = false)
    (hQ : ∀ c a w, Q (.panic c) (a.put oi.dst v) w → Q (.panic c) a w) (hy : YieldsIf P ops S oi v a) (hS : S w)
    (h : heldU P md ops Q S s n (done.setIfInBounds i true) (a.put oi.dst v) w) : heldU P md ops Q S s (n + 1) done a w :=
  heldU_first hi (Region.noSelect_spec hs) hQ hsk (by simpa using hki) n done a w (Region.free_spec hi hf) hk (by simpa using hr) hy hS h
/-- The one that may come up comes up; it is not the first store. -/
theorem heldU_one {i : Nat} {o : Oper} {n : Nat} {done : Array Bool} {a : Act} {w : World} (hr : Region.ready md ops done = [i]) (ho : ops[i]? = some o) (hs : i ≠ s)
    (h : ∀ K' : Act → World → Prop, Shut (∀ a w, S w → (S w → heldU P md ops Q S s n (done.setIfInBounds i true) a w) → K' a w) → if Region.wanted o (yielded ops a.tmps) = true then Oper.wp P o a w K' Q else K' (a.put o.dst undef) w) :
    heldU P md ops Q S s (n + 1) done a w := by
  refine ⟨fun h0 => (by rw [hr] at h0; cases h0), fun j hj => ?_⟩
  rw [hr] at hj
  obtain rfl := List.mem_singleton.1 hj
  refine wpOp_step ho (fun K' hK => h K' (fun a w hS hW => hK a w ?_))
  rw [if_neg hs]
  exact ⟨hS, hW hS⟩
/-- Two may come up, neither the first store. -/
theorem heldU_two {i j : Nat} {oi oj : Oper} {n : Nat} {done : Array Bool} {a : Act} {w : World} (hr : Region.ready md ops done = [i, j]) (hi : ops[i]? = some oi) (hj : ops[j]? = some oj) (his : i ≠ s) (hjs : j ≠ s)
    (h1 : ∀ K' : Act → World → Prop, Shut (∀ a w, S w → (S w → heldU P md ops Q S s n (done.setIfInBounds i true) a w) → K' a w) → if Region.wanted oi (yielded ops a.tmps) = true then Oper.wp P oi a w K' Q else K' (a.put oi.dst undef) w)
    (h2 : ∀ K' : Act → World → Prop, Shut (∀ a w, S w → (S w → heldU P md ops Q S s n (done.setIfInBounds j true) a w) → K' a w) → if Region.wanted oj (yielded ops a.tmps) = true then Oper.wp P oj a w K' Q else K' (a.put oj.dst undef) w) :
    heldU P md ops Q S s (n + 1) done a w := by
  refine ⟨fun h0 => (by rw [hr] at h0; cases h0), fun k hk => ?_⟩
  rw [hr] at hk
  rcases List.mem_cons.1 hk with rfl | hk
  · refine wpOp_step hi (fun K' hK => h1 K' (fun a w hS hW => hK a w ?_))
    rw [if_neg his]
    exact ⟨hS, hW hS⟩
  · obtain rfl := List.mem_singleton.1 hk
    refine wpOp_step hj (fun K' hK => h2 K' (fun a w hS hW => hK a w ?_))
    rw [if_neg hjs]
    exact ⟨hS, hW hS⟩
/-- The first store comes up: what follows is a region of which nothing is held. -/
theorem heldU_store {o : Oper} {n : Nat} {done : Array Bool} {a : Act} {w : World} (hr : Region.ready md ops done = [s]) (ho : ops[s]? = some o)
    (h : ∀ K' : Act → World → Prop, Shut (∀ a w, wpAnyH P md ops Q (fun _ => True) n (done.setIfInBounds s true) a w → K' a w) → if Region.wanted o (yielded ops a.tmps) = true then Oper.wp P o a w K' Q else K' (a.put o.dst undef) w) :
    heldU P md ops Q S s (n + 1) done a w := by
  refine ⟨fun h0 => (by rw [hr] at h0; cases h0), fun j hj => ?_⟩
  rw [hr] at hj
  obtain rfl := List.mem_singleton.1 hj
  refine wpOp_step ho (fun K' hK => h K' (fun a w hW => hK a w ?_))
  rw [if_pos rfl]
  exact wpAny_of_held _ _ _ _ hW
/-- The beginning. -/
theorem heldU_begin {id : Nat} {a : Act} {w : World} (s : Nat) (hm : P.follows .mixedOrders = true) (hS : S w.drew)
    (h : S w.drew → heldU P .any ops Q S s ops.size (Array.replicate ops.size false) a w.drew) : (Code.region id ops true).wp P Q a w :=
  wp_region_any hm (heldU.any _ _ _ _ (h hS))
end
end Go.Proofs.YtoiampkdmjpljaaGreatDoor

/- What the order's comparison and slices.insertionSort do. -/
namespace Go.Proofs.YtoiampkdmjpljaaGreatDoor
open Go.RowKit

abbrev cmpV : Value := .func (.func 74) #[] #[]
set_option maxHeartbeats 1000000 in
set_option maxRecDepth 100000 in
theorem cmp_any (a b c e : List UInt8) (w : World) :
    Calls Tryz.prog 74 #[.agg #[.string (strB a), .string (strB b)], .agg #[.string (strB c), .string (strB e)]] w fun r w' => r = .returned (.int .i64 (Lib.compareBytes a c)) ∧ Below w.heap.size w w' := by
  have C := fun w => Tryz.strings_Compare (strB a) (strB c) w
  rw [strB_list, strB_list] at C
  go_enter Tryz.func74, Tryz.ntmps74
  go_wp2_with fail
  refine (C _).mono ?_
  rintro r w' ⟨rfl, rfl⟩
  go_wp2_with fail
  go_ret
  have h1 := below_new w (.cells #[.string (strB a), .string (strB b)] 58)
  exact ⟨rfl, h1.alloc h1.size _⟩
/-- Two fields of a block, and what was there, as they were. -/
def Pair4 (w0 : World) (g i j : Nat) (x y : List UInt8 × List UInt8) (w' : World) : Prop :=
  w'.cell? ⟨g, i * 2, none⟩ = some (.string (strB x.1)) ∧ w'.cell? ⟨g, i * 2 + 1, none⟩ = some (.string (strB x.2)) ∧ w'.cell? ⟨g, j * 2, none⟩ = some (.string (strB y.1)) ∧ w'.cell? ⟨g, j * 2 + 1, none⟩ = some (.string (strB y.2)) ∧ Below w0.heap.size w0 w'
theorem Pair4.below {w0 : World} {g i j : Nat} {x y : List UInt8 × List UInt8} {w w' : World} (h : Pair4 w0 g i j x y w) (hb : Below w.heap.size w w') : Pair4 w0 g i j x y w' :=
  ⟨(hb.cell (World.block_lt_of_cell? w _ h.1)).trans h.1, (hb.cell (World.block_lt_of_cell? w _ h.2.1)).trans h.2.1, (hb.cell (World.block_lt_of_cell? w _ h.2.2.1)).trans h.2.2.1, (hb.cell (World.block_lt_of_cell? w _ h.2.2.2.1)).trans h.2.2.2.1,
    h.2.2.2.2.trans (hb.mono h.2.2.2.2.size)⟩
theorem Pair4.drew {w0 : World} {g i j : Nat} {x y : List UInt8 × List UInt8} {w : World} (h : Pair4 w0 g i j x y w) : Pair4 w0 g i j x y w.drew := h.below (below_drewN (Below.refl _ _) 1)
theorem pair4_of {B g n cap i j : Nat} {w : World} {d : Flds} {x y : List UInt8 × List UInt8} (h : OwnsP 58 B w (.slice (some ⟨g, 0, none⟩) n cap) d) (hx : d[i]? = some x) (hy : d[j]? = some y) : Pair4 w g i j x y w :=
  ⟨(own_at h hx).1, (own_at h hx).2.1, (own_at h hy).1, (own_at h hy).2.1, Below.refl _ _⟩
theorem cmp_lt {w0 : World} {g i j : Nat} {x y : List UInt8 × List UInt8} {w : World} (h : Pair4 w0 g i j x y w) (hl : ltK x.1 y.1 = true) :
    Calls Tryz.prog 74 #[.agg #[.string (strB x.1), .string (strB x.2)], .agg #[.string (strB y.1), .string (strB y.2)]] w fun r w' => ∃ z : Int, r = .returned (.int .i64 z) ∧ z < 0 ∧ Pair4 w0 g i j x y w' :=
  (cmp_any x.1 x.2 y.1 y.2 w).mono fun _ _ ⟨hr, hb⟩ => ⟨_, hr, of_decide_eq_true hl, h.below hb⟩
theorem cmp_ge {w0 : World} {g i j : Nat} {x y : List UInt8 × List UInt8} {w : World} (h : Pair4 w0 g i j x y w) (hl : ltK x.1 y.1 = false) :
    Calls Tryz.prog 74 #[.agg #[.string (strB x.1), .string (strB x.2)], .agg #[.string (strB y.1), .string (strB y.2)]] w fun r w' => ∃ z : Int, r = .returned (.int .i64 z) ∧ 0 ≤ z ∧ Pair4 w0 g i j x y w' :=
  (cmp_any x.1 x.2 y.1 y.2 w).mono fun _ _ ⟨hr, hb⟩ => ⟨_, hr, by have := of_decide_eq_false hl; omega, h.below hb⟩

theorem ins_srt {Z1 Z2 : Flds} {x : List UInt8 × List UInt8} (h : Srt (Z1 ++ Z2)) (h1 : ∀ z ∈ Z1, leK z.1 x.1) (h2 : ∀ z ∈ Z2, ltK x.1 z.1 = true) : Srt (Z1 ++ x :: Z2) := by
  refine h.left.app (List.pairwise_cons.2 ⟨fun z hz => lt_le (h2 z hz), h.right⟩) fun p hp q hq => ?_
  rcases List.mem_cons.1 hq with rfl | hq
  · exact h1 p hp
  · exact h.cross p hp q hq
theorem ins_same {Z1 Z2 T : Flds} {x : List UInt8 × List UInt8} (h : SameF (Z1 ++ Z2) T) (h2 : ∀ z ∈ Z2, ltK x.1 z.1 = true) : SameF (Z1 ++ x :: Z2) (T ++ [x]) := by
  have e : SameF ([x] ++ Z2) (Z2 ++ [x]) := SameF.swap fun p hp q hq he => by
    simp at hq; subst hq
    have := h2 p hp
    rw [he, lt_irrefl'] at this; cases this
  have h3 : SameF (Z1 ++ ([x] ++ Z2)) (Z1 ++ (Z2 ++ [x])) := (SameF.refl Z1).app e
  have h4 : SameF ((Z1 ++ Z2) ++ [x]) (T ++ [x]) := h.app (SameF.refl [x])
  rw [List.append_assoc] at h4
  exact h3.trans h4
theorem last_le {Z1 : Flds} {x y : List UInt8 × List UInt8} (h : Srt (Z1 ++ [y])) (hy : leK y.1 x.1) : ∀ z ∈ Z1 ++ [y], leK z.1 x.1 := by
  intro z hz
  rcases List.mem_append.1 hz with hz | hz
  · exact le_trans' (h.cross z hz y (List.mem_cons_self ..)) hy
  · simp at hz; subst hz; exact hy
theorem srt_take1 (X : Flds) : Srt (X.take 1) := by
  cases X with
  | nil => exact srt_nil
  | cons x r => exact srt_one x

set_option maxHeartbeats 4000000 in
set_option maxRecDepth 100000 in
theorem insertion_any (B g n cap a b : Nat) (P X S : Flds) (w : World) (h : OwnsP 58 B w (.slice (some ⟨g, 0, none⟩) n cap) (P ++ X ++ S)) (ha : a = P.length) (hb : b = a + X.length) (hn : n ≤ 1000000) :
    Calls Tryz.prog 119 #[.slice (some ⟨g, 0, none⟩) n cap, .int .i64 a, .int .i64 b, cmpV] w fun e w' => e = .returned (.tuple #[]) ∧
      ∃ Z, Srt Z ∧ SameF Z X ∧ OwnsP 58 B w' (.slice (some ⟨g, 0, none⟩) n cap) (P ++ Z ++ S) ∧ Below B w w' := by
  obtain ⟨hml, hBg, hgl, hmc⟩ := own_len h
  have hmle : P.length + X.length + S.length = n := by rw [hml]; simp; omega
  have hbn : b ≤ n := by omega
  have han : a ≤ n := by omega
  have hBw : B ≤ w.heap.size := by omega
  have h0 : OwnsP 58 B w (.slice (some ⟨g, 0, none⟩) n cap) (P ++ X.take 1 ++ X.drop 1 ++ S) := by
    rw [List.append_assoc P, List.take_append_drop]; exact h
  have H0 := Lib.hid h0
  have HA := Lib.hid ha
  have HB := Lib.hid hb
  clear h hml hmle ha hb h0
  go_enter Tryz.func119, Tryz.ntmps119
  go_wp2_with fail
  go_loopw [8] (fun i wr => ∃ (k : Nat) (Z : Flds), i = .int .i64 (a + 1 + k : Nat) ∧ Srt Z ∧ SameF Z (X.take (1 + k)) ∧ OwnsP 58 B wr (.slice (some ⟨g, 0, none⟩) n cap) (P ++ Z ++ X.drop (1 + k) ++ S) ∧ Below B w wr) (fun i _ => b + 1 - (intOf i).toNat)
  case atStart => exact ⟨0, X.take 1, by go_num, srt_take1 X, SameF.refl _, H0.out, Below.refl _ _⟩
  case round =>
    obtain ⟨k, Z, rfl, hS, hF, hO, hBr⟩ := hrel
    have hbr := hBr.size
    have HS := Lib.hid hS
    have HF := Lib.hid hF
    have HO := Lib.hid hO
    clear hS hF hO
    generalize hi : a + 1 + k = i
    have HI := Lib.hid hi
    clear hi
    by_cases hlt : i < b
    · obtain ⟨x, hx⟩ : ∃ x, X[1 + k]? = some x := ⟨X[1 + k]'(by have := HI.out; have := HB.out; omega), by simp⟩
      have hzl : Z.length = 1 + k := by
        rw [HF.out.length]; have := HI.out; have := HB.out; simp; omega
      have hst : OwnsP 58 B wr (.slice (some ⟨g, 0, none⟩) n cap) (P ++ Z ++ x :: ([] ++ X.drop (1 + k + 1) ++ S)) := by
        have := HO.out
        rw [drop_at hx] at this
        simpa using this
      have HX := Lib.hid hx
      have HZl := Lib.hid hzl
      have HSt := Lib.hid hst
      have hai : a ≤ i := by have := HI.out; omega
      clear hx hzl hst HO
      go_wp2_with fail
      go_loopw [9] (fun jv wi => ∃ (j : Nat) (Z1 Z2 : Flds), jv = .int .i64 j ∧ Z = Z1 ++ Z2 ∧ a + Z1.length = j ∧ j ≤ i ∧ (∀ z ∈ Z2, ltK x.1 z.1 = true) ∧ OwnsP 58 B wi (.slice (some ⟨g, 0, none⟩) n cap) (P ++ Z1 ++ x :: (Z2 ++ X.drop (1 + k + 1) ++ S)) ∧ Below B w wi) (fun jv _ => (intOf jv).toNat)
      case atStart => exact ⟨i, Z, [], rfl, by simp, by have := HI.out; have := HZl.out; omega, Nat.le_refl _, (fun z hz => by cases hz), HSt.out, hBr⟩
      case round =>
        obtain ⟨j, Z1, Z2, rfl, hZ, hZl, hji, hZ2, hOi, hBi⟩ := hrel
        have hbi := hBi.size
        have HZ := Lib.hid hZ
        have HZ2 := Lib.hid hZ2
        have HOi := Lib.hid hOi
        have HZ1 := Lib.hid hZl
        clear hZ hZ2 hOi hZl
        by_cases hja : a < j
        · obtain ⟨Y, y, hY⟩ : ∃ Y y, Z1 = Y ++ [y] := by
            rcases List.eq_nil_or_concat Z1 with h | ⟨Y, y, h⟩
            · have := HZ1.out; rw [h] at this; simp at this; omega
            · exact ⟨Y, y, by simpa using h⟩
          subst hY
          have hO2 : OwnsP 58 B wr (.slice (some ⟨g, 0, none⟩) n cap) (two (P ++ Y) y [] x (Z2 ++ X.drop (1 + k + 1) ++ S)) := by
            have := HOi.out; unfold two; simpa using this
          have e1 : j - 1 = (P ++ Y).length := by have := HZ1.out; have := HA.out; simp at *; omega
          have e2 : j = (P ++ Y).length + 1 + ([] : Flds).length := by have := HZ1.out; have := HA.out; simp at *; omega
          have g1 := two_1 (P ++ Y) [] (Z2 ++ X.drop (1 + k + 1) ++ S) y x
          have g2 := two_2 (P ++ Y) [] (Z2 ++ X.drop (1 + k + 1) ++ S) y x
          rw [← e1] at g1
          rw [← e2] at g2
          have hP := pair4_of hO2 g2 g1
          obtain ⟨_, _, f3, f4⟩ := own_at hO2 g1
          obtain ⟨_, _, f1, f2⟩ := own_at hO2 g2
          have HO2 := Lib.hid hO2
          have E1 := Lib.hid e1
          have E2 := Lib.hid e2
          have r1 : IntKind.i64.wrap ((j : Int) - 1) = (j : Int) - 1 := by rw [IntKind.wrap_i64]; omega
          have p1 : (0 : Int) ≤ (j : Int) - 1 := by omega
          have t1 : (j : Int) - 1 < (n : Int) := by omega
          have p3 : (1 : Int) ≤ (j : Int) := by omega
          have p4 : (0 : Int) < (j : Int) := by omega
          have p5 : 0 < j := by omega
          have p6 : 1 ≤ j := by omega
          have t3 : (j : Int) ≤ (n : Int) := by omega
          have t4 : j ≤ n := by omega
          have t2 : (j : Int) < (n : Int) := by omega
          have n1 : ((j : Int) - 1).toNat = j - 1 := by omega
          have hgd : decide ((a : Int) < (j : Int)) = true := by simp; omega
          have G1 := Lib.hid g1
          have G2 := Lib.hid g2
          clear hO2 e1 e2 g1 g2 HOi f1 f2 f3 f4
          cases hl : ltK x.1 y.1 with
          | true =>
            have HL := Lib.hid hl
            clear hl
            go_wp2_with fail
            go_region_held3 (fun w' => w'.cell? ⟨g, j * 2, none⟩ = some (.string (strB x.1)) ∧ w'.cell? ⟨g, j * 2 + 1, none⟩ = some (.string (strB x.2)) ∧ w'.cell? ⟨g, (j - 1) * 2, none⟩ = some (.string (strB y.1)) ∧ w'.cell? ⟨g, (j - 1) * 2 + 1, none⟩ = some (.string (strB y.2)) ∧ Below wr.heap.size wr w')
              (first | exact hP.drew | exact hP2)
              (first | (go_at_call 74; refine (cmp_lt (by assumption) HL.out).mono ?_; rintro e w2 ⟨z, rfl, hz, hP2⟩))
            have hO3 := OwnsP.below HO2.out hP2.2.2.2.2
            have hB3 := hBi.trans (hP2.2.2.2.2.mono (Nat.le_trans hBw hbi))
            obtain ⟨c3, c4, f3, f4⟩ := own_at hO3 G1.out
            obtain ⟨c1, c2, f1, f2⟩ := own_at hO3 G2.out
            have HO3 := Lib.hid hO3
            clear hO3 hP hP2
            go_wp2_with fail
            go_region
            go_wp2_with fail
            go_roundw
            case rel => exact ⟨j - 1, Y, y :: Z2, by congr 1; omega, by rw [HZ.out]; simp, by have := HZ1.out; simp at this; omega, by omega, fun z hz => by
              rcases List.mem_cons.1 hz with h | h
              · rw [h]; exact HL.out
              · exact HZ2.out z h, by
                have e : P ++ Y ++ x :: (y :: Z2 ++ X.drop (1 + k + 1) ++ S) = two (P ++ Y) x [] y (Z2 ++ X.drop (1 + k + 1) ++ S) := by unfold two; simp
                rw [e]
                exact World.ownsRow.drew (own_swap' HO3.out E1.out E2.out), (below_four hB3 hBg _ _ _ _ _ _ _ _).drew⟩
            case measure => simp [intOf]; omega
          | false =>
            have HL := Lib.hid hl
            clear hl
            go_wp2_with fail
            go_region_held3 (fun w' => w'.cell? ⟨g, j * 2, none⟩ = some (.string (strB x.1)) ∧ w'.cell? ⟨g, j * 2 + 1, none⟩ = some (.string (strB x.2)) ∧ w'.cell? ⟨g, (j - 1) * 2, none⟩ = some (.string (strB y.1)) ∧ w'.cell? ⟨g, (j - 1) * 2 + 1, none⟩ = some (.string (strB y.2)) ∧ Below wr.heap.size wr w')
              (first | exact hP.drew | exact hP2)
              (first | (go_at_call 74; refine (cmp_ge (by assumption) HL.out).mono ?_; rintro e w2 ⟨z, rfl, hz, hP2⟩))
            have hO3 := OwnsP.below HO2.out hP2.2.2.2.2
            have hB3 := hBi.trans (hP2.2.2.2.2.mono (Nat.le_trans hBw hbi))
            have hsz : Srt (Y ++ [y] ++ x :: Z2) := ins_srt (by rw [← HZ.out]; exact HS.out) (last_le (by have := HS.out; rw [HZ.out] at this; exact this.left) HL.out) HZ2.out
            have hsf : SameF (Y ++ [y] ++ x :: Z2) (X.take (1 + (k + 1))) := by
              have e : X.take (1 + (k + 1)) = X.take (1 + k) ++ [x] := by rw [show 1 + (k + 1) = (1 + k) + 1 by omega]; exact take_more HX.out
              rw [e]
              exact ins_same (by rw [← HZ.out]; exact HF.out) HZ2.out
            have hoz : OwnsP 58 B w2 (.slice (some ⟨g, 0, none⟩) n cap) (P ++ (Y ++ [y] ++ x :: Z2) ++ X.drop (1 + (k + 1)) ++ S) := by
              unfold two at hO3
              rw [show 1 + (k + 1) = 1 + k + 1 by omega]
              simpa using hO3
            have HSz := Lib.hid hsz
            have HSf := Lib.hid hsf
            have HOz := Lib.hid hoz
            clear hO3 hsz hsf hoz hP hP2
            go_wp2_with fail
            go_roundw
            case rel => exact ⟨k + 1, _, by have := HI.out; congr 1; omega, HSz.out, HSf.out, HOz.out, hB3⟩
            case measure => simp [intOf]; omega
        · have hz0 : Z1 = [] := List.eq_nil_of_length_eq_zero (by have := HZ1.out; omega)
          subst hz0
          have hgd : decide ((a : Int) < (j : Int)) = false := by simp; omega
          have hsz : Srt ([] ++ x :: Z2) := ins_srt (by rw [← HZ.out]; exact HS.out) (fun z hz => by cases hz) HZ2.out
          have hsf : SameF ([] ++ x :: Z2) (X.take (1 + (k + 1))) := by
            have e : X.take (1 + (k + 1)) = X.take (1 + k) ++ [x] := by rw [show 1 + (k + 1) = (1 + k) + 1 by omega]; exact take_more HX.out
            rw [e]
            exact ins_same (by rw [← HZ.out]; exact HF.out) HZ2.out
          have hoz : OwnsP 58 B wr (.slice (some ⟨g, 0, none⟩) n cap) (P ++ ([] ++ x :: Z2) ++ X.drop (1 + (k + 1)) ++ S) := by
            have := HOi.out
            rw [show 1 + (k + 1) = 1 + k + 1 by omega]
            simpa using this
          have HSz := Lib.hid hsz
          have HSf := Lib.hid hsf
          have HOz := Lib.hid hoz
          clear hsz hsf hoz HOi
          go_wp2_with fail
          go_quiet (fail)
          go_wp2_with fail
          go_roundw
          case rel => exact ⟨k + 1, _, by have := HI.out; congr 1; omega, HSz.out, HSf.out, OwnsP.below HOz.out (below_drewN (Below.refl _ _) _), below_drewN hBi _⟩
          case measure => simp [intOf]; omega
    · have hge : X.length ≤ 1 + k := by have := HI.out; have := HB.out; omega
      have hO := HO.out
      have hF := HF.out
      rw [List.drop_eq_nil_of_le hge, List.append_nil] at hO
      rw [List.take_of_length_le hge] at hF
      go_wp2_with fail
      go_end0
      exact ⟨rfl, Z, HS.out, hF, hO, hBr⟩
end Go.Proofs.YtoiampkdmjpljaaGreatDoor
