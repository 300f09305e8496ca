/- Appends of fields that are read to a slice of fields that the call made; a slice of a slice of fields. -/
import Derived.Test.YthlfhbhjiofneaaDoorJApp
import Derived.Test.YthlfhbhjiofneaaDoorFAll
namespace Go.Proofs.YthlfhbhjiofneaaDoor
open Go.RowKit

theorem flatF_get : ∀ (ps : Flds) (j : Nat) (u : Value), (flatP ps)[j]? = some u → ∃ i p, ps[i]? = some p ∧ ((j = i * 2 ∧ u = strV p.1) ∨ (j = i * 2 + 1 ∧ u = strV p.2)) := by
  intro ps
  induction ps with
  | nil => intro j u h; simp [flatP] at h
  | cons q r ih =>
    intro j u h
    have e : flatP (q :: r) = strV q.1 :: strV q.2 :: flatP r := rfl
    rw [e] at h
    match j, h with
    | 0, h => simp at h; exact ⟨0, q, rfl, .inl ⟨rfl, h.symm⟩⟩
    | 1, h => simp at h; exact ⟨0, q, rfl, .inr ⟨rfl, h.symm⟩⟩
    | j + 2, h =>
      obtain ⟨i, p, hi, hc⟩ := ih j u (by simpa using h)
      exact ⟨i + 1, p, by simpa using hi, by rcases hc with ⟨rfl, hu⟩ | ⟨rfl, hu⟩
                                             · exact .inl ⟨by omega, hu⟩
                                             · exact .inr ⟨by omega, hu⟩⟩
theorem flatF_one (ps : Flds) : ∀ u ∈ flatP ps, u.oneCell' = true := by
  intro u hu
  obtain ⟨j, hj⟩ := List.getElem?_of_mem hu
  obtain ⟨i, p, _, h | h⟩ := flatF_get ps j u hj <;> rw [h.2] <;> rfl
theorem readsF_src {w : World} {ad : Addr} {n cap : Nat} {ps : Flds} (h : ReadsQ w (.slice (some ad) n cap) ps) : n = ps.length ∧ ∀ j u, (flatP ps)[j]? = some u → w.cell? (ad.add j) = some u := by
  obtain ⟨ao, c, hv, hc⟩ := h
  simp only [Value.slice.injEq] at hv
  obtain ⟨rfl, rfl, rfl⟩ := hv
  refine ⟨rfl, fun j u hj => ?_⟩
  obtain ⟨i, p, hi, hu⟩ := flatF_get ps j u hj
  obtain ⟨g, off, ha, _, h1, h2⟩ := hc i p hi
  obtain rfl : ad = ⟨g, off, none⟩ := Option.some.inj ha
  rcases hu with ⟨rfl, rfl⟩ | ⟨rfl, rfl⟩
  · rw [Addr.add_lit]; exact h1
  · rw [Addr.add_lit, ← Nat.add_assoc]; exact h2
theorem readsF_none {w : World} {n cap : Nat} {ps : Flds} (h : ReadsQ w (.slice none n cap) ps) : ps = [] ∧ n = 0 := by
  obtain ⟨ao, c, hv, hc⟩ := h
  simp only [Value.slice.injEq] at hv
  obtain ⟨rfl, rfl, rfl⟩ := hv
  cases ps with
  | nil => exact ⟨rfl, rfl⟩
  | cons p r => obtain ⟨g, off, ha, _⟩ := hc 0 p rfl; cases ha
theorem own_appF {T : TypeId} {B : Nat} {w : World} {v : Value} {ps qs : Flds} (h : w.ownsRow B T 2 v (ps.length + qs.length) (flatP ps ++ flatP qs)) : OwnsP T B w v (ps ++ qs) := by
  unfold OwnsP
  have e : flatP (ps ++ qs) = flatP ps ++ flatP qs := by simp [flatP]
  rw [e, List.length_append]; exact h
/-- An append of fields that are read to a slice of fields that the call made. -/
theorem wpList_appendF {B : Nat} {w : World} {ops : Array Oper} {rest : List Oper} {o : Oper} {a : Act} {Q : Exit → Act → World → Prop} (hw : Region.wanted o (yielded ops a.tmps) = true) (s x : Operand)
    (ho : o.op = .call { callee := .builtin .append, args := #[s, x], argTypes := #[37, 37] }) (v v2 : Value) (hs : a.eval s = v) (hx : a.eval x = v2) {ps qs : Flds} (hown : OwnsP 52 B w v ps) (hr : ReadsQ w v2 qs) (hp : Sane v2)
    (hn : ps.length + qs.length ≤ 100000) (hB : B ≤ w.heap.size) (h : ∀ v' w', OwnsP 52 B w' v' (ps ++ qs) → w.grownBy w' v.ownBlock → wpList Tryd.prog ops Q rest (a.put o.dst v') w') :
    wpList Tryd.prog ops Q (o :: rest) a w := by
  obtain ⟨i0, hi, hz0, hz1, hz2⟩ := info_parts Tryd.infoF
  refine BigFrame.wpList_want hw fun K hK => ?_
  obtain ⟨ao, cap, rfl, hc⟩ := id hr
  cases ao with
  | none =>
    obtain ⟨rfl, _⟩ := readsF_none hr
    obtain rfl := (hp _ _ _ rfl).2 rfl
    have hrun := run_append_owned_none (P := Tryd.prog) (w := w) B 37 o.type 52 i0 2 Tryd.underlying37 hi v ps.length (flatP ps) hown
    unfold Oper.wp
    simp [execOp, ho, resolve, invoke, builtin, hs, hx, hrun, Result.andThen]
    exact hK _ _ (h v w (by rw [List.append_nil]; exact hown) ⟨rfl, rfl, rfl, Nat.le_refl _, fun _ _ _ => rfl⟩)
  | some ad =>
    obtain ⟨_, hs'⟩ := readsF_src hr
    exact wp_append_own w s x 37 ho B 52 i0 _ 2 32 Tryd.underlying37 hi hz0 hz1 hz2 rfl (by decide) v ps.length (flatP ps) hs hown ad qs.length cap (flatP qs) hx (flatP_len qs) hs' (flatF_one qs) (by unfold maxLen; omega) (by omega) hB
      fun v' w' h1 h2 _ => hK _ _ (h v' w' (own_appF h1) h2)
theorem below_appendF {T : TypeId} {B : Nat} {a w w2 : World} {v : Value} {ps : Flds} (hB : Below B a w) (hBs : B ≤ w.heap.size) (hown : OwnsP T B w v ps) (hgrow : w.grownBy w2 v.ownBlock) : Below B a w2 :=
  hB.grown hgrow hBs (fun q hq => (World.ownsRow.lt hown q hq).1)
/-- What stands before a place in a slice that is read, and what stands from it on. -/
theorem reads_pre {w : World} {g cap : Nat} {ps : Flds} (k : Nat) (hk : k ≤ ps.length) (h : ReadsQ w (.slice (some ⟨g, 0, none⟩) ps.length cap) ps) : ReadsQ w (.slice (some ⟨g, 0, none⟩) k cap) (ps.take k) := by
  obtain ⟨ao, c, hv, hc⟩ := h
  simp only [Value.slice.injEq] at hv
  obtain ⟨rfl, _, rfl⟩ := hv
  refine ⟨_, cap, by rw [List.length_take, Nat.min_eq_left hk], fun j p hj => ?_⟩
  have hjk : j < k := by have := (List.getElem?_eq_some_iff.mp hj).1; rw [List.length_take] at this; omega
  rw [List.getElem?_take_of_lt hjk] at hj
  exact hc j p hj
theorem reads_post {w : World} {g cap c2 : Nat} {ps : Flds} (k : Nat) (_hk : k ≤ ps.length) (h : ReadsQ w (.slice (some ⟨g, 0, none⟩) ps.length cap) ps) : ReadsQ w (.slice (some ⟨g, k * 2, none⟩) (ps.length - k) c2) (ps.drop k) := by
  obtain ⟨ao, c, hv, hc⟩ := h
  simp only [Value.slice.injEq] at hv
  obtain ⟨rfl, _, rfl⟩ := hv
  refine ⟨_, c2, by rw [List.length_drop], fun j p hj => ?_⟩
  rw [List.getElem?_drop] at hj
  obtain ⟨g', off, ha, h1, h2, h3⟩ := hc (k + j) p hj
  simp only [Option.some.injEq, Addr.mk.injEq, and_true] at ha
  obtain ⟨rfl, rfl⟩ := ha
  refine ⟨g, k * 2, rfl, h1, ?_, ?_⟩
  · rw [← h2]; congr 2; omega
  · rw [← h3]; congr 2; omega
end Go.Proofs.YthlfhbhjiofneaaDoor
