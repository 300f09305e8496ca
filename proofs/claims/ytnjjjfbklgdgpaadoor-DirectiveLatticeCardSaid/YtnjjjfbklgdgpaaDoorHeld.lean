/- A region that draws its order and at last writes the cells that it reads ('x, y = f(x), g(y)'): what it reads holds until the first of its stores comes up. -/
import Derived.Test.YtnjjjfbklgdgpaaDoorBase
import Derived.Deep.RegionHeld3
namespace Go.Proofs.YtnjjjfbklgdgpaaDoor
open Go.RowKit

section
variable {P : Program} {ops : Array Oper} {Q : Exit → Act → World → Prop} {md : Region.Mode} {S : World → Prop} {s : Nat}

/-- Until number s has come up S holds behind each operation; from then on nothing is asked but the end. -/
def heldU (P : Program) (md : Region.Mode) (ops : Array Oper) (Q : Exit → Act → World → Prop) (S : World → Prop) (s : Nat) : Nat → Array Bool → Act → World → Prop
  | 0, done, a, w => Region.ready md ops done = [] ∧ Q .normal a w
  | n + 1, done, a, w => (Region.ready md ops done = [] → Q .normal a w) ∧
      ∀ i ∈ Region.ready md ops done, wpOp P ops Q i (fun a' w' => if i = s then wpAny P md ops Q n (done.setIfInBounds i true) a' w' else S w' ∧ heldU P md ops Q S s n (done.setIfInBounds i true) a' w') a w
theorem heldU.any : ∀ (n : Nat) (done : Array Bool) (a : Act) (w : World), heldU P md ops Q S s n done a w → wpAny P md ops Q n done a w
  | 0, _, _, _, h => h
  | n + 1, _, _, _, h => ⟨h.1, fun i hi => wpOp_mono (fun a' w' h' => by
      by_cases his : i = s
      · rw [if_pos his] at h'; exact h'
      · rw [if_neg his] at h'; exact heldU.any n _ _ _ h'.2) (h.2 i hi)⟩
/-- Number j waits for number i, by itself. -/
def waitsB (md : Region.Mode) (ops : Array Oper) (j i : Nat) : Bool := match ops[j]? with
  | some o => o.after.toList.any fun e => Region.binds md e && e.on == i
  | none => false
theorem waits_not {j i : Nat} {done : Array Bool} (h : waitsB md ops j i = true) (hi : done.getD i true = false) : j ∉ Region.ready md ops done := by
  intro hj
  obtain ⟨_, o, ho, hall⟩ := mem_ready.1 hj
  unfold waitsB at h
  rw [ho] at h
  obtain ⟨e, he, hb⟩ := List.any_eq_true.1 h
  rw [Bool.and_eq_true, beq_iff_eq] at hb
  have h1 := hall e (by simpa using he) hb.1
  rw [hb.2] at h1
  rcases Nat.lt_or_ge i done.size with h' | h'
  · simp [h'] at hi h1; rw [hi] at h1; cases h1
  · simp [Array.getElem?_eq_none h'] at h1
/-- An operation that the first store waits for (or that one waits for which it waits for) may be taken first. -/
theorem heldU_first {i k : Nat} {oi : Oper} {v : Value} (hi : ops[i]? = some oi) (hsel : ∀ (j : Nat) (o : Oper) cs b, ops[j]? = some o → o.op ≠ .select cs b)
    (hQ : ∀ c a w, Q (.panic c) (a.put oi.dst v) w → Q (.panic c) a w) (hsk : waitsB md ops s k = true) (hki : k = i ∨ waitsB md ops k i = true) :
    ∀ (n : Nat) (done : Array Bool) (a : Act) (w : World),
      (∀ j oj, ops[j]? = some oj → j ≠ i → done.getD j true = false → (∀ e ∈ oj.after, Region.binds md e = true → e.on ≠ i) → oi.apart ops oj = true) →
      done.getD k true = false → i ∈ Region.ready md ops done → YieldsIf P ops S oi v a → S w →
      heldU P md ops Q S s n (done.setIfInBounds i true) (a.put oi.dst v) w → heldU P md ops Q S s (n + 1) done a w := by
  have his : ∀ done : Array Bool, done.getD k true = false → i ∈ Region.ready md ops done → i ≠ s := by
    intro done hk hr e
    subst e
    exact waits_not hsk hk hr
  intro n
  induction n with
  | zero =>
    intro done a w _ hk hr hy hS H
    refine ⟨fun h => (by rw [h] at hr; cases hr), fun j hj => ?_⟩
    by_cases hji : j = i
    · subst hji
      refine hy.wpOp hi hS ?_
      rw [if_neg (his _ hk hr)]
      exact ⟨hS, H⟩
    · have := ready_mono hj hji
      rw [H.1] at this
      cases this
  | succ n ih =>
    intro done a w hfree hk hr hy hS H
    refine ⟨fun h => (by rw [h] at hr; cases hr), fun j hj => ?_⟩
    by_cases hji : j = i
    · subst hji
      refine hy.wpOp hi hS ?_
      rw [if_neg (his _ hk hr)]
      exact ⟨hS, H⟩
    · have hjs : j ≠ s := by
        intro e
        subst e
        exact waits_not hsk hk hj
      have hjk : j ≠ k := by
        intro e
        subst e
        rcases hki with e | e
        · exact hji e
        · exact waits_not e (mem_ready.1 hr).1 hj
      have h1 := H.2 j (ready_mono hj hji)
      obtain ⟨hjun, oj, hoj, hall⟩ := mem_ready.1 hj
      have hnot : ∀ e ∈ oj.after, Region.binds md e = true → e.on ≠ i := fun e he hb heq => by
        have g1 := hall e he hb
        have g0 := (mem_ready.1 hr).1
        rw [heq] at g1
        rcases Nat.lt_or_ge i done.size with h' | h'
        · simp [h'] at g0 g1; rw [g0] at g1; cases g1
        · simp [Array.getElem?_eq_none h'] at g1
      have h2 := wpOp_putIf hoj (hfree j oj hoj hji hjun hnot) (fun cs b => hsel i oi cs b hi) (fun cs b => hsel j oj cs b hoj) hQ hy h1
      have hfree' : ∀ m om, ops[m]? = some om → m ≠ i → (done.setIfInBounds j true).getD m true = false →
          (∀ e ∈ om.after, Region.binds md e = true → e.on ≠ i) → oi.apart ops om = true := fun m om hm hmi hun hno => by
        refine hfree m om hm hmi ?_ hno
        by_cases hjm : j = m
        · subst hjm; exact hjun
        · rw [getD_set_ne true hjm] at hun; exact hun
      refine wpOp_mono (fun a' w' h3 => ?_) h2
      rw [if_neg hjs] at h3 ⊢
      refine ⟨h3.2.1, ih (done.setIfInBounds j true) a' w' hfree' (by rw [getD_set_ne true hjk]; exact hk) (ready_mono hr (Ne.symm hji)) h3.1 h3.2.1 ?_⟩
      rw [Array.setIfInBounds_comm _ _ hji]
      exact h3.2.2
/-- Take number i first. -/
theorem heldU_take {i k : Nat} {oi : Oper} {v : Value} {n : Nat} {done : Array Bool} {a : Act} {w : World} (hi : ops[i]? = some oi)
    (hs : Region.noSelect ops = true) (hf : Region.free md ops done i = true) (hr : (Region.ready md ops done).contains i = true)
    (hsk : waitsB md ops s k = true) (hki : (decide (k = i) || waitsB md ops k i) = true) (hk : done.getD k true = false)
    (hQ : ∀ c a w, Q (.panic c) (a.put oi.dst v) w → Q (.panic c) a w) (hy : YieldsIf P ops S oi v a) (hS : S w)
    (h : heldU P md ops Q S s n (done.setIfInBounds i true) (a.put oi.dst v) w) : heldU P md ops Q S s (n + 1) done a w :=
  heldU_first hi (Region.noSelect_spec hs) hQ hsk (by simpa using hki) n done a w (Region.free_spec hi hf) hk (by simpa using hr) hy hS h
/-- The one that may come up comes up; it is not the first store. -/
theorem heldU_one {i : Nat} {o : Oper} {n : Nat} {done : Array Bool} {a : Act} {w : World} (hr : Region.ready md ops done = [i]) (ho : ops[i]? = some o) (hs : i ≠ s)
    (h : ∀ K' : Act → World → Prop, Shut (∀ a w, S w → (S w → heldU P md ops Q S s n (done.setIfInBounds i true) a w) → K' a w) → if Region.wanted o (yielded ops a.tmps) = true then Oper.wp P o a w K' Q else K' (a.put o.dst undef) w) :
    heldU P md ops Q S s (n + 1) done a w := by
  refine ⟨fun h0 => (by rw [hr] at h0; cases h0), fun j hj => ?_⟩
  rw [hr] at hj
  obtain rfl := List.mem_singleton.1 hj
  refine wpOp_step ho (fun K' hK => h K' (fun a w hS hW => hK a w ?_))
  rw [if_neg hs]
  exact ⟨hS, hW hS⟩
/-- The first store comes up: what follows is a region of which nothing is held. -/
theorem heldU_store {o : Oper} {n : Nat} {done : Array Bool} {a : Act} {w : World} (hr : Region.ready md ops done = [s]) (ho : ops[s]? = some o)
    (h : ∀ K' : Act → World → Prop, Shut (∀ a w, wpAnyH P md ops Q (fun _ => True) n (done.setIfInBounds s true) a w → K' a w) → if Region.wanted o (yielded ops a.tmps) = true then Oper.wp P o a w K' Q else K' (a.put o.dst undef) w) :
    heldU P md ops Q S s (n + 1) done a w := by
  refine ⟨fun h0 => (by rw [hr] at h0; cases h0), fun j hj => ?_⟩
  rw [hr] at hj
  obtain rfl := List.mem_singleton.1 hj
  refine wpOp_step ho (fun K' hK => h K' (fun a w hW => hK a w ?_))
  rw [if_pos rfl]
  exact wpAny_of_held _ _ _ _ hW
/-- The beginning. -/
theorem heldU_begin {id : Nat} {a : Act} {w : World} (s : Nat) (hm : P.follows .mixedOrders = true) (hS : S w.drew)
    (h : S w.drew → heldU P .any ops Q S s ops.size (Array.replicate ops.size false) a w.drew) : (Code.region id ops true).wp P Q a w :=
  wp_region_any hm (heldU.any _ _ _ _ (h hS))
end
end Go.Proofs.YtnjjjfbklgdgpaaDoor
