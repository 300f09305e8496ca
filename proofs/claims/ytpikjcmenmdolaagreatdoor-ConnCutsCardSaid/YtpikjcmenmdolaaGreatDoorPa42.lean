import Derived.Test.YtpikjcmenmdolaaGreatDoorPa34
import Derived.OwnWalk
import Derived.Test.YtpikjcmenmdolaaGreatDoorPa9
import Derived.Deep.QuietTactic
import Derived.BigQuiet
import Derived.Test.YtpikjcmenmdolaaGreatDoorPa7
/- Lists of the reference's events: a list that the call makes, and an event appended to it. -/
namespace Go.Proofs.YtpikjcmenmdolaaGreatDoor
open Go.RowKit

/-- The eight cells of the reference's event, with the slices q, p, t. -/
abbrev rvC (e : Ev) (q p t : Value) : List Value := [.int .i64 (e.k : Int), .string (strB e.q.1), .string (strB e.q.2.1), q, .int .i64 (e.p.1 : Int), p, .string (strB e.d), t]
def RvR (Y : Nat → Prop) (w : World) (e : Ev) (x : List Value) : Prop :=
  ∃ q p t, x = rvC e q p t ∧ ReadsQ w q e.q.2.2 ∧ ReadsQ w p e.p.2 ∧ ReadsQ w t e.t ∧ (∀ k, q.ownBlock = some k ∨ p.ownBlock = some k ∨ t.ownBlock = some k → Y k)
theorem RvR.only {Y X : Nat → Prop} {w w' : World} {e : Ev} {x : List Value} (h : RvR Y w e x) (hO : Only X w w') (hY : ∀ k, Y k → ¬ X k) : RvR Y w' e x := by
  obtain ⟨q, p, t, hx, h1, h2, h4, hy⟩ := h
  exact ⟨q, p, t, hx, h1.only hO (fun k hk => hY k (hy k (.inl hk))), h2.only hO (fun k hk => hY k (hy k (.inr (.inl hk)))), h4.only hO (fun k hk => hY k (hy k (.inr (.inr hk)))), hy⟩
theorem RvR.mono {Y Z : Nat → Prop} {w : World} {e : Ev} {x : List Value} (h : RvR Y w e x) (hY : ∀ k, Y k → Z k) : RvR Z w e x := by
  obtain ⟨q, p, t, hx, h1, h2, h4, hy⟩ := h
  exact ⟨q, p, t, hx, h1, h2, h4, fun k hk => hY k (hy k hk)⟩
/-- The value v is a list of the reference's events that the call has made; what they hold lies in blocks of Y. -/
def OwnsR (B : Nat) (Y : Nat → Prop) (w : World) (v : Value) (es : List Ev) : Prop :=
  ∃ xs : List (List Value), w.ownsRow B 80 8 v es.length xs.flatten ∧ xs.length = es.length ∧ (∀ (i : Nat) (x : List Value) (e : Ev), xs[i]? = some x → es[i]? = some e → RvR Y w e x) ∧ (∀ k, v.ownBlock = some k → ¬ Y k) ∧ ∀ k, Y k → k < w.heap.size
theorem OwnsR.nil (B : Nat) (w : World) : OwnsR B (fun _ => False) w (.slice none 0 0) [] :=
  ⟨[], World.ownsRow_nil _ _ _ _, rfl, fun i x e h => (by simp at h), fun _ _ h => h, fun _ h => False.elim h⟩
theorem OwnsR.only {B : Nat} {Y X : Nat → Prop} {w w' : World} {v : Value} {es : List Ev} (h : OwnsR B Y w v es) (hO : Only X w w') (hY : ∀ k, Y k → ¬ X k) (hv : ∀ k, v.ownBlock = some k → ¬ X k) : OwnsR B Y w' v es := by
  obtain ⟨xs, h1, h2, h3, h4, h5⟩ := h
  exact ⟨xs, hO.owns h1 hv, h2, fun i x e hx he => (h3 i x e hx he).only hO hY, h4, fun k hk => Nat.lt_of_lt_of_le (h5 k hk) hO.size⟩
theorem OwnsR.below {B : Nat} {Y : Nat → Prop} {w w' : World} {v : Value} {es : List Ev} (h : OwnsR B Y w v es) (hb : Below w.heap.size w w') : OwnsR B Y w' v es := h.only (Only.below (X := fun _ => False) hb) (fun _ _ h => h) (fun _ _ h => h)
theorem OwnsR.lt {B : Nat} {Y : Nat → Prop} {w : World} {v : Value} {es : List Ev} (h : OwnsR B Y w v es) : (∀ i, v.ownBlock = some i → B ≤ i ∧ i < w.heap.size) ∧ (∀ i, Y i → i < w.heap.size) := by
  obtain ⟨xs, h1, _, _, _, h5⟩ := h
  exact ⟨fun i hi => World.ownsRow.lt h1 i hi, h5⟩
theorem OwnsR.isSlice {B : Nat} {Y : Nat → Prop} {w : World} {v : Value} {es : List Ev} (h : OwnsR B Y w v es) : ∃ a c, v = .slice a es.length c := by
  obtain ⟨xs, ⟨_, ⟨hv, hn⟩ | ⟨g, cap, cur, hv, _⟩⟩, _⟩ := h
  · exact ⟨none, 0, by rw [hv, hn]⟩
  · exact ⟨_, cap, hv⟩
theorem OwnsR.snoc {B : Nat} {Y Z : Nat → Prop} {w w' : World} {v v' : Value} {es : List Ev} {e : Ev} {x : List Value} {xs : List (List Value)} (h2 : xs.length = es.length) (h3 : ∀ (i : Nat) (x : List Value) (e : Ev), xs[i]? = some x → es[i]? = some e → RvR Y w e x) (h4 : ∀ k, v.ownBlock = some k → ¬ Y k) (h5 : ∀ k, Y k → k < w.heap.size) (hx : RvR Z w e x) (hZ : ∀ k, Z k → k < w.heap.size ∧ v.ownBlock ≠ some k)
    (hrow : w'.ownsRow B 80 8 v' (es.length + 1) (xs.flatten ++ x)) (hg : w.grownBy w' v.ownBlock) (hat : v'.ownBlock = v.ownBlock ∨ v'.ownBlock = some w.heap.size) :
    OwnsR B (fun k => Y k ∨ Z k) w' v' (es ++ [e]) := by
  have hO : Only (fun k => v.ownBlock = some k) w w' := Only.grown hg (fun k hk => .inl hk)
  refine ⟨xs ++ [x], ?_, by simp [h2], fun i y f hy hf => ?_, fun k hk hyz => ?_, fun k hk => ?_⟩
  · rw [List.flatten_append, List.flatten_singleton, List.length_append]; exact hrow
  · by_cases hi : i < es.length
    · rw [List.getElem?_append_left (by omega)] at hy
      rw [List.getElem?_append_left hi] at hf
      exact ((h3 i y f hy hf).only hO (fun k hk e => h4 k e hk)).mono (fun k hk => .inl hk)
    · rw [List.getElem?_append_right (by omega)] at hy
      rw [List.getElem?_append_right (by omega)] at hf
      have hi0 : i - es.length = 0 := by
        have := (List.getElem?_eq_some_iff.1 hf).1
        simp at this; omega
      rw [h2] at hy
      rw [hi0] at hy hf
      simp at hy hf
      subst hy hf
      exact (hx.only hO (fun k hk e => (hZ k hk).2 e)).mono (fun k hk => .inr hk)
  · rcases hat with a | a
    · rw [a] at hk
      rcases hyz with b | b
      · exact h4 k hk b
      · exact (hZ k b).2 hk
    · rw [a] at hk
      have hk := Option.some.inj hk
      subst hk
      rcases hyz with b | b
      · exact Nat.lt_irrefl _ (h5 _ b)
      · exact Nat.lt_irrefl _ (hZ _ b).1
  · rcases hk with a | a
    · exact Nat.lt_of_lt_of_le (h5 k a) hO.size
    · exact Nat.lt_of_lt_of_le (hZ k a).1 hO.size
theorem Tryz.infoRv : (Tryz.prog.info? 80).map (fun i => (i.zero, i.size, i.bytes)) = some (some (.agg #[.int .i64 0, .string ByteArray.empty, .string ByteArray.empty, noV, .int .i64 0, noV, .string ByteArray.empty, noV]), 8, 136) := by kernel_rfl
theorem wp_appendR {B : Nat} {Y Z : Nat → Prop} {w : World} {o : Oper} {a : Act} {K : Act → World → Prop} {Q : Exit → Act → World → Prop} (s x : Operand)
    (ho : o.op = .call { callee := .builtin .append, args := #[s, x], argTypes := #[44, 44] }) (v : Value) (hs : a.eval s = v) {es : List Ev} (hown : OwnsR B Y w v es) (g : Nat) (hx : a.eval x = .slice (some ⟨g, 0, none⟩) 1 1)
    {e : Ev} {q p t : Value} (hc : ∀ j u, (rvC e q p t)[j]? = some u → w.cell? ((⟨g, 0, none⟩ : Addr).add j) = some u) (h1 : ∀ u ∈ rvC e q p t, u.oneCell' = true) (hE : RvR Z w e (rvC e q p t)) (hZ : ∀ k, Z k → k < w.heap.size ∧ v.ownBlock ≠ some k)
    (hn : es.length ≤ 1000000000) (hB : B ≤ w.heap.size)
    (h : ∀ v' w', OwnsR B (fun k => Y k ∨ Z k) w' v' (es ++ [e]) → w.grownBy w' v.ownBlock → (v'.ownBlock = v.ownBlock ∨ v'.ownBlock = some w.heap.size) → K (a.put o.dst v') w') :
    o.wp Tryz.prog a w K Q := by
  obtain ⟨i0, hi, hz0, hz1, hz2⟩ := info_parts Tryz.infoRv
  obtain ⟨xs, r1, r2, r3, r4, r5⟩ := hown
  obtain ⟨v', w', hr', hrow, hg, _, hat⟩ := run_append_own_at (P := Tryz.prog) w B 44 o.type 80 i0 _ 8 136 Tryz.underlying44 hi hz0 hz1 hz2 rfl (by decide) v es.length xs.flatten r1 ⟨g, 0, none⟩ 1 1 (rvC e q p t) rfl hc h1 (by unfold maxLen; omega) (by omega) hB
  unfold Oper.wp execOp
  simp only [ho, resolve, invoke, builtin, Sem.run_bind, Sem.run_pure, Result.andThen_ok, List.map_toArray, List.map_cons, List.map_nil, hs, hx, hr']
  exact h _ _ (OwnsR.snoc r2 r3 r4 r5 hE hZ hrow hg hat) hg hat
/-- The events of a list, in the cells of its block. -/
theorem OwnsR.at {B : Nat} {Y : Nat → Prop} {w : World} {v : Value} {es : List Ev} (h : OwnsR B Y w v es) (hne : es ≠ []) :
    ∃ g cap, v = .slice (some ⟨g, 0, none⟩) es.length cap ∧ B ≤ g ∧ g < w.heap.size ∧ ∀ i e, es[i]? = some e → ∃ q p t, (∀ j u, (rvC e q p t)[j]? = some u → w.cell? ⟨g, i * 8 + j, none⟩ = some u) ∧ ReadsQ w q e.q.2.2 ∧ ReadsQ w p e.p.2 ∧ ReadsQ w t e.t := by
  obtain ⟨xs, h1, h2, h3, _, _⟩ := h
  have h10 := h1
  rcases h1 with ⟨hl, ⟨hv, hn⟩ | ⟨g, cap, cur, hv, hb, hg, hn, hm, hs, ht⟩⟩
  · exact absurd (List.eq_nil_of_length_eq_zero hn) hne
  · have hlt := World.ownsRow.lt h10 g (by rw [hv]; rfl)
    refine ⟨g, cap, hv, hlt.1, hlt.2, fun i e he => ?_⟩
    have hi := (List.getElem?_eq_some_iff.1 he).1
    obtain ⟨x, hx⟩ : ∃ x, xs[i]? = some x := ⟨xs[i], by simp [h2, hi]⟩
    obtain ⟨q, p, t, rfl, r1, r2, r4, _⟩ := h3 i x e hx he
    have h8 : ∀ x ∈ xs, x.length = 8 := by
      intro y hy
      obtain ⟨k, hk⟩ := List.mem_iff_getElem?.1 hy
      have hk' := (List.getElem?_eq_some_iff.1 hk).1
      obtain ⟨f, hf⟩ : ∃ f, es[k]? = some f := ⟨es[k], by simp [show k < es.length by omega]⟩
      obtain ⟨_, _, _, rfl, _⟩ := h3 k y f hk hf
      rfl
    refine ⟨q, p, t, fun j u hu => ?_, r1, r2, r4⟩
    subst hv
    have hj : j < 8 := (List.getElem?_eq_some_iff.1 hu).1
    rw [World.ownsRow.cellAt h10 (i * 8 + j) (by omega), flat_at h8 hx hj, hu]
end Go.Proofs.YtpikjcmenmdolaaGreatDoor

/- What Are returns: whether two lists of fields are the same. -/
namespace Go.Proofs.YtpikjcmenmdolaaGreatDoor
open Go.RowKit

theorem same_step {la lb : Flds} {k : Nat} {l : List UInt8 × List UInt8} (h : la.take k = lb.take k) (ha : la[k]? = some l) (hb : lb[k]? = some l) : la.take (k + 1) = lb.take (k + 1) := by
  rw [List.take_add_one, List.take_add_one, h, ha, hb]
theorem same_no {la lb : Flds} {k : Nat} {l m : List UInt8 × List UInt8} (ha : la[k]? = some l) (hb : lb[k]? = some m) (h : l ≠ m) : false = decide (la = lb) := by
  rw [eq_comm, decide_eq_false_iff_not]; intro e; rw [e, hb] at ha; simp at ha; exact h ha.symm
theorem same_end {la lb : Flds} {k : Nat} (h : la.take k = lb.take k) (ha : la.length ≤ k) (hb : lb.length ≤ k) : true = decide (la = lb) := by
  rw [List.take_of_length_le ha, List.take_of_length_le hb] at h; simp [h]

end Go.Proofs.YtpikjcmenmdolaaGreatDoor

/- What the statements' Same and Alike return. -/
namespace Go.Proofs.YtpikjcmenmdolaaGreatDoor
open Go.RowKit

end Go.Proofs.YtpikjcmenmdolaaGreatDoor
