/- A list of variants in memory, each with names of its own, and a set: a box that holds such a list. -/
import Derived.Test.YtbmbcdbldbjddaaGreatDoorVySet
import Derived.Test.YtbmbcdbldbjddaaGreatDoorKOnly
import Derived.OwnWalk
namespace Go.Proofs.YtbmbcdbldbjddaaGreatDoor
open Go.RowKit

/-- A slice of strings that is read; it lies in a block of G. -/
def ReadsG (G : Nat → Prop) (w : World) (v : Value) (ls : List (List UInt8)) : Prop :=
  ∃ ao cap, v = .slice ao ls.length cap ∧ ∀ j l, ls[j]? = some l → ∃ g off, ao = some ⟨g, off, none⟩ ∧ g < w.heap.size ∧ G g ∧ w.cell? ⟨g, off + j, none⟩ = some (.string (strB l))
theorem ReadsG.s {G : Nat → Prop} {w : World} {v : Value} {ls : List (List UInt8)} (h : ReadsG G w v ls) : ReadsS w v ls := by
  obtain ⟨ao, cap, rfl, hc⟩ := h
  refine ⟨ao, cap, rfl, fun j l hj => ?_⟩
  obtain ⟨g, off, h1, h2, _, h3⟩ := hc j l hj
  exact ⟨g, off, h1, h2, h3⟩
theorem ReadsG.only {G X : Nat → Prop} {w w' : World} {v : Value} {ls : List (List UInt8)} (h : ReadsG G w v ls) (hO : Only X w w') (hX : ∀ k, k < w.heap.size → G k → ¬ X k) : ReadsG G w' v ls := by
  obtain ⟨ao, cap, rfl, hc⟩ := h
  refine ⟨ao, cap, rfl, fun j l hj => ?_⟩
  obtain ⟨g, off, h1, h2, h3, h4⟩ := hc j l hj
  exact ⟨g, off, h1, Nat.lt_of_lt_of_le h2 hO.size, h3, (hO.cell (p := ⟨g, off + j, none⟩) h2 (hX g h2 h3)).trans h4⟩
theorem ReadsG.mono {G H : Nat → Prop} {w : World} {v : Value} {ls : List (List UInt8)} (h : ReadsG G w v ls) (hG : ∀ k, k < w.heap.size → G k → H k) : ReadsG H w v ls := by
  obtain ⟨ao, cap, rfl, hc⟩ := h
  refine ⟨ao, cap, rfl, fun j l hj => ?_⟩
  obtain ⟨g, off, h1, h2, h3, h4⟩ := hc j l hj
  exact ⟨g, off, h1, h2, hG g h2 h3, h4⟩
theorem ReadsS.g {w : World} {v : Value} {ls : List (List UInt8)} (h : ReadsS w v ls) : ReadsG (fun k => k < w.heap.size) w v ls := by
  obtain ⟨ao, cap, rfl, hc⟩ := h
  refine ⟨ao, cap, rfl, fun j l hj => ?_⟩
  obtain ⟨g, off, h1, h2, h3⟩ := hc j l hj
  exact ⟨g, off, h1, h2, h2, h3⟩
theorem OwnsS.g {B : Nat} {w : World} {v : Value} {ls : List (List UInt8)} (h : OwnsS B w v ls) : ReadsG (fun k => B ≤ k ∧ k < w.heap.size) w v ls := by
  rcases h.open' with ⟨rfl, rfl⟩ | ⟨g, cap, rfl, hb, hg, hc⟩
  · exact ⟨none, 0, rfl, fun j l h => by simp at h⟩
  · exact ⟨_, cap, rfl, fun j l hj => ⟨g, 0, rfl, hg, ⟨hb, hg⟩, by rw [Nat.zero_add]; exact hc j l hj⟩⟩
/-- The three cells of a variant, with the slice n of names. -/
abbrev vrC (e : Vr) (n : Value) : List Value := [n, .string (strB e.key), .int .i64 e.id]
/-- The cells x are a variant's; its names lie in a block of Y. -/
def VrR (Y : Nat → Prop) (w : World) (e : Vr) (x : List Value) : Prop := ∃ n, x = vrC e n ∧ ReadsG Y w n e.ns
theorem VrR.only {Y X : Nat → Prop} {w w' : World} {e : Vr} {x : List Value} (h : VrR Y w e x) (hO : Only X w w') (hY : ∀ k, Y k → ¬ X k) : VrR Y w' e x := by
  obtain ⟨n, hx, h1⟩ := h
  exact ⟨n, hx, h1.only hO (fun k _ hk => hY k hk)⟩
theorem VrR.mono {Y Z : Nat → Prop} {w : World} {e : Vr} {x : List Value} (h : VrR Y w e x) (hY : ∀ k, Y k → Z k) : VrR Z w e x := by
  obtain ⟨n, hx, h1⟩ := h
  exact ⟨n, hx, h1.mono (fun k _ hk => hY k hk)⟩
theorem VrR.len {Y : Nat → Prop} {w : World} {e : Vr} {x : List Value} (h : VrR Y w e x) : x.length = 3 := by
  obtain ⟨n, rfl, _⟩ := h; rfl
/-- The value v is a list of variants that the program has made; their names lie in blocks of Y. -/
def OwnsV (T : TypeId) (B : Nat) (Y : Nat → Prop) (w : World) (v : Value) (es : List Vr) : Prop :=
  ∃ xs : List (List Value), w.ownsRow B T 3 v es.length xs.flatten ∧ xs.length = es.length ∧ (∀ (i : Nat) (x : List Value) (e : Vr), xs[i]? = some x → es[i]? = some e → VrR Y w e x) ∧ (∀ k, v.ownBlock = some k → ¬ Y k) ∧ ∀ k, Y k → k < w.heap.size
theorem OwnsV.nil (T : TypeId) (B : Nat) (w : World) : OwnsV T B (fun _ => False) w (.slice none 0 0) [] :=
  ⟨[], World.ownsRow_nil _ _ _ _, rfl, fun i x e h => (by simp at h), fun _ _ h => h, fun _ h => False.elim h⟩
theorem OwnsV.only {T : TypeId} {B : Nat} {Y X : Nat → Prop} {w w' : World} {v : Value} {es : List Vr} (h : OwnsV T B Y w v es) (hO : Only X w w') (hY : ∀ k, Y k → ¬ X k) (hv : ∀ k, v.ownBlock = some k → ¬ X k) : OwnsV T B Y w' v es := by
  obtain ⟨xs, h1, h2, h3, h4, h5⟩ := h
  exact ⟨xs, hO.owns h1 hv, h2, fun i x e hx he => (h3 i x e hx he).only hO hY, h4, fun k hk => Nat.lt_of_lt_of_le (h5 k hk) hO.size⟩
theorem OwnsV.below {T : TypeId} {B : Nat} {Y : Nat → Prop} {w w' : World} {v : Value} {es : List Vr} (h : OwnsV T B Y w v es) (hb : Below w.heap.size w w') : OwnsV T B Y w' v es :=
  h.only (X := fun _ => False) (Only.below hb) (fun _ _ h => h) (fun _ _ h => h)
theorem OwnsV.wide {T : TypeId} {B : Nat} {Y Z : Nat → Prop} {w : World} {v : Value} {es : List Vr} (h : OwnsV T B Y w v es) (hY : ∀ k, Y k → Z k) (hZ : ∀ k, Z k → k < w.heap.size) (hv : ∀ k, v.ownBlock = some k → ¬ Z k) : OwnsV T B Z w v es := by
  obtain ⟨xs, h1, h2, h3, h4, h5⟩ := h
  exact ⟨xs, h1, h2, fun i x e hx he => (h3 i x e hx he).mono hY, hv, hZ⟩
theorem OwnsV.base {T : TypeId} {B C : Nat} {Y : Nat → Prop} {w : World} {v : Value} {es : List Vr} (h : OwnsV T B Y w v es) (hv : ∀ k, v.ownBlock = some k → C ≤ k) : OwnsV T C Y w v es := by
  obtain ⟨xs, ⟨hl, h1⟩, h2, h3, h4, h5⟩ := h
  refine ⟨xs, ⟨hl, ?_⟩, h2, h3, h4, h5⟩
  rcases h1 with h0 | ⟨g, cap, cur, e, hb, r⟩
  · exact .inl h0
  · subst e; exact .inr ⟨g, cap, cur, rfl, hv g rfl, r⟩
/-- One variant more: the row is appended to; the new one's names lie in blocks of Z. -/
theorem OwnsV.snoc {T : TypeId} {B : Nat} {Y Z : Nat → Prop} {w w' : World} {v v' : Value} {es : List Vr} {e : Vr} {x : List Value} {xs : List (List Value)} (h2 : xs.length = es.length) (h3 : ∀ (i : Nat) (x : List Value) (e : Vr), xs[i]? = some x → es[i]? = some e → VrR Y w e x) (h4 : ∀ k, v.ownBlock = some k → ¬ Y k) (h5 : ∀ k, Y k → k < w.heap.size) (hx : VrR Z w e x) (hZ : ∀ k, Z k → k < w.heap.size ∧ v.ownBlock ≠ some k)
    (hrow : w'.ownsRow B T 3 v' (es.length + 1) (xs.flatten ++ x)) (hg : w.grownBy w' v.ownBlock) (hat : v'.ownBlock = v.ownBlock ∨ v'.ownBlock = some w.heap.size) :
    OwnsV T B (fun k => Y k ∨ Z k) w' v' (es ++ [e]) := by
  have hO : Only (fun k => v.ownBlock = some k) w w' := Only.grown hg (fun k hk => .inl hk)
  refine ⟨xs ++ [x], ?_, by simp [h2], fun i y f hy hf => ?_, fun k hk hyz => ?_, fun k hk => ?_⟩
  · rw [List.flatten_append, List.flatten_singleton, List.length_append]; exact hrow
  · by_cases hi : i < es.length
    · rw [List.getElem?_append_left (by omega)] at hy
      rw [List.getElem?_append_left hi] at hf
      exact ((h3 i y f hy hf).only hO (fun k hk e => h4 k e hk)).mono (fun k hk => .inl hk)
    · rw [List.getElem?_append_right (by omega)] at hy
      rw [List.getElem?_append_right (by omega)] at hf
      have hi0 : i - es.length = 0 := by
        have := (List.getElem?_eq_some_iff.1 hf).1
        simp at this; omega
      rw [h2] at hy
      rw [hi0] at hy hf
      simp at hy hf
      subst hy hf
      exact (hx.only hO (fun k hk e => (hZ k hk).2 e)).mono (fun k hk => .inr hk)
  · rcases hat with a | a
    · rw [a] at hk
      rcases hyz with b | b
      · exact h4 k hk b
      · exact (hZ k b).2 hk
    · rw [a] at hk
      have hk := Option.some.inj hk
      subst hk
      rcases hyz with b | b
      · exact Nat.lt_irrefl _ (h5 _ b)
      · exact Nat.lt_irrefl _ (hZ _ b).1
  · rcases hk with a | a
    · exact Nat.lt_of_lt_of_le (h5 k a) hO.size
    · exact Nat.lt_of_lt_of_le (hZ k a).1 hO.size
theorem flat3_len : ∀ (xs : List (List Value)), (∀ x ∈ xs, x.length = 3) → xs.flatten.length = xs.length * 3
  | [], _ => rfl
  | x :: t, h => by
    rw [List.flatten_cons, List.length_append, h x (List.mem_cons_self ..), flat3_len t (fun y hy => h y (List.mem_cons_of_mem _ hy)), List.length_cons]; omega
theorem flat3_at : ∀ (xs : List (List Value)), (∀ x ∈ xs, x.length = 3) → ∀ (i j : Nat) (x : List Value), xs[i]? = some x → j < 3 → xs.flatten[i * 3 + j]? = x[j]?
  | [], _, i, j, x, hx, _ => by simp at hx
  | y :: t, h, i, j, x, hx, hj => by
    have hy := h y (List.mem_cons_self ..)
    rw [List.flatten_cons]
    cases i with
    | zero =>
      simp at hx; subst hx
      rw [Nat.zero_mul, Nat.zero_add, List.getElem?_append_left (by omega)]
    | succ i =>
      rw [List.getElem?_append_right (by omega), hy, show (i + 1) * 3 + j - 3 = i * 3 + j by omega]
      exact flat3_at t (fun z hz => h z (List.mem_cons_of_mem _ hz)) i j x (by simpa using hx) hj
theorem OwnsV.three {Y : Nat → Prop} {w : World} {es : List Vr} {xs : List (List Value)} (h2 : xs.length = es.length) (h3 : ∀ (i : Nat) (x : List Value) (e : Vr), xs[i]? = some x → es[i]? = some e → VrR Y w e x) : ∀ x ∈ xs, x.length = 3 := by
  intro x hx
  obtain ⟨i, hi⟩ := List.getElem?_of_mem hx
  have hl := (List.getElem?_eq_some_iff.1 hi).1
  exact (h3 i x (es[i]'(by omega)) hi (by simp)).len
/-- A variant of the list: its cells, and its names. -/
theorem OwnsV.at {T : TypeId} {B : Nat} {Y : Nat → Prop} {w : World} {v : Value} {es : List Vr} (h : OwnsV T B Y w v es) {i : Nat} {e : Vr} (he : es[i]? = some e) :
    ∃ g cap n, v = .slice (some ⟨g, 0, none⟩) es.length cap ∧ B ≤ g ∧ g < w.heap.size ∧ es.length ≤ cap ∧ w.cell? ⟨g, i * 3, none⟩ = some n ∧ w.cell? ⟨g, i * 3 + 1, none⟩ = some (.string (strB e.key)) ∧ w.cell? ⟨g, i * 3 + 2, none⟩ = some (.int .i64 e.id) ∧ ReadsG Y w n e.ns ∧
      w.frozen? ⟨g, i * 3, none⟩ = false ∧ w.frozen? ⟨g, i * 3 + 1, none⟩ = false ∧ w.frozen? ⟨g, i * 3 + 2, none⟩ = false := by
  obtain ⟨xs, h1, h2, h3, h4, h5⟩ := h
  have hi := (List.getElem?_eq_some_iff.1 he).1
  have hx3 := OwnsV.three h2 h3
  obtain ⟨x, hx⟩ : ∃ x, xs[i]? = some x := ⟨xs[i]'(by omega), by simp⟩
  obtain ⟨n, hxe, hr⟩ := h3 i x e hx he
  have hrow := h1
  rcases h1 with ⟨hl, ⟨_, hn⟩ | ⟨g, cap, cur, hv, hb, hg, hnc, hm, hs, ht⟩⟩
  · omega
  · subst hv
    have hgs := (Array.getElem?_eq_some_iff.1 hg).1
    have hf : ∀ j, w.frozen? ⟨g, j, none⟩ = false := fun j => by simp [World.frozen?, hg]
    have f0 := flat3_at xs hx3 i 0 x hx (by omega)
    have f1 := flat3_at xs hx3 i 1 x hx (by omega)
    have f2 := flat3_at xs hx3 i 2 x hx (by omega)
    subst hxe
    refine ⟨g, cap, n, rfl, hb, hgs, hnc, ?_, ?_, ?_, hr, hf _, hf _, hf _⟩
    · rw [World.ownsRow.cellAt hrow (i * 3) (by omega), show i * 3 = i * 3 + 0 by omega, f0]; rfl
    · rw [World.ownsRow.cellAt hrow (i * 3 + 1) (by omega), f1]; rfl
    · rw [World.ownsRow.cellAt hrow (i * 3 + 2) (by omega), f2]; rfl
/-- The value v of a list that is not empty. -/
theorem OwnsV.val {T : TypeId} {B : Nat} {Y : Nat → Prop} {w : World} {v : Value} {es : List Vr} (h : OwnsV T B Y w v es) : (v = .slice none 0 0 ∧ es = []) ∨ ∃ g cap, v = .slice (some ⟨g, 0, none⟩) es.length cap ∧ B ≤ g ∧ g < w.heap.size ∧ es.length ≤ cap := by
  obtain ⟨xs, ⟨hl, h1⟩, _⟩ := h
  rcases h1 with ⟨h0, hn⟩ | ⟨g, cap, cur, hv, hb, hg, hn, _⟩
  · exact .inl ⟨h0, List.eq_nil_of_length_eq_zero hn⟩
  · exact .inr ⟨g, cap, hv, hb, (Array.getElem?_eq_some_iff.1 hg).1, hn⟩

/-- The value v is a list of variants that is read; it, and their names, lie in blocks of G. -/
def ReadsV (G : Nat → Prop) (w : World) (v : Value) (es : List Vr) : Prop :=
  ∃ ao cap, v = .slice ao es.length cap ∧ ∀ j e, es[j]? = some e → ∃ g n, ao = some ⟨g, 0, none⟩ ∧ g < w.heap.size ∧ G g ∧ w.cell? ⟨g, j * 3, none⟩ = some n ∧ w.cell? ⟨g, j * 3 + 1, none⟩ = some (.string (strB e.key)) ∧ w.cell? ⟨g, j * 3 + 2, none⟩ = some (.int .i64 e.id) ∧ ReadsG G w n e.ns
theorem OwnsV.reads {T : TypeId} {B : Nat} {Y G : Nat → Prop} {w : World} {v : Value} {es : List Vr} (h : OwnsV T B Y w v es) (hY : ∀ k, k < w.heap.size → Y k → G k) (hv : ∀ k, k < w.heap.size → v.ownBlock = some k → G k) : ReadsV G w v es := by
  rcases h.val with ⟨rfl, rfl⟩ | ⟨g, cap, rfl, _⟩
  · exact ⟨none, 0, rfl, fun j e he => by simp at he⟩
  · refine ⟨_, cap, rfl, fun j e he => ?_⟩
    obtain ⟨g', cap', n, e1, _, h2, _, c0, c1, c2, hr, _⟩ := h.at he
    simp only [Value.slice.injEq, Option.some.injEq, Addr.mk.injEq, and_true, true_and] at e1
    obtain ⟨rfl, _⟩ := e1
    exact ⟨g, n, rfl, h2, hv g h2 rfl, c0, c1, c2, hr.mono hY⟩
theorem ReadsV.only {G X : Nat → Prop} {w w' : World} {v : Value} {es : List Vr} (h : ReadsV G w v es) (hO : Only X w w') (hX : ∀ k, k < w.heap.size → G k → ¬ X k) : ReadsV G w' v es := by
  obtain ⟨ao, cap, rfl, hc⟩ := h
  refine ⟨ao, cap, rfl, fun j e he => ?_⟩
  obtain ⟨g, n, h1, h2, h3, c0, c1, c2, hr⟩ := hc j e he
  exact ⟨g, n, h1, Nat.lt_of_lt_of_le h2 hO.size, h3, (hO.cell (p := ⟨g, j * 3, none⟩) h2 (hX g h2 h3)).trans c0, (hO.cell (p := ⟨g, j * 3 + 1, none⟩) h2 (hX g h2 h3)).trans c1, (hO.cell (p := ⟨g, j * 3 + 2, none⟩) h2 (hX g h2 h3)).trans c2, hr.only hO hX⟩
theorem ReadsV.below {G : Nat → Prop} {w w' : World} {v : Value} {es : List Vr} (h : ReadsV G w v es) (hb : Below w.heap.size w w') : ReadsV G w' v es :=
  h.only (X := fun _ => False) (Only.below hb) (fun _ _ _ h => h)
theorem ReadsV.mono {G H : Nat → Prop} {w : World} {v : Value} {es : List Vr} (h : ReadsV G w v es) (hG : ∀ k, k < w.heap.size → G k → H k) : ReadsV H w v es := by
  obtain ⟨ao, cap, rfl, hc⟩ := h
  refine ⟨ao, cap, rfl, fun j e he => ?_⟩
  obtain ⟨g, n, h1, h2, h3, c0, c1, c2, hr⟩ := hc j e he
  exact ⟨g, n, h1, h2, hG g h2 h3, c0, c1, c2, hr.mono hG⟩
theorem ReadsV.take {G : Nat → Prop} {w : World} {ao : Option Addr} {n cap : Nat} {es : List Vr} (h : ReadsV G w (.slice ao n cap) es) (m c : Nat) (hm : m ≤ es.length) : ReadsV G w (.slice ao m c) (es.take m) := by
  obtain ⟨ao', cap', e0, hc⟩ := h
  simp only [Value.slice.injEq] at e0
  obtain ⟨rfl, _, _⟩ := e0
  refine ⟨ao, c, by rw [List.length_take, Nat.min_eq_left hm], fun j e he => ?_⟩
  refine hc j e ?_
  rw [List.getElem?_take] at he
  split at he
  · exact he
  · cases he
/-- The three cells of a new variable. -/
theorem new_three (w : World) (a b c : Value) (T : TypeId) : (w.alloc (.cells #[a, b, c] T)).cell? ⟨w.heap.size, 0, none⟩ = some a ∧ (w.alloc (.cells #[a, b, c] T)).cell? ⟨w.heap.size, 1, none⟩ = some b ∧ (w.alloc (.cells #[a, b, c] T)).cell? ⟨w.heap.size, 2, none⟩ = some c := by
  refine ⟨?_, ?_, ?_⟩ <;> rw [World.cell?_alloc_at _ _ _ _ rfl] <;> rfl
theorem three_kept {w w' : World} {a b c : Value} {T : TypeId} (h : Below (w.alloc (.cells #[a, b, c] T)).heap.size (w.alloc (.cells #[a, b, c] T)) w') :
    w'.cell? ⟨w.heap.size, 0, none⟩ = some a ∧ w'.cell? ⟨w.heap.size, 1, none⟩ = some b ∧ w'.cell? ⟨w.heap.size, 2, none⟩ = some c := by
  have hs : w.heap.size < (w.alloc (.cells #[a, b, c] T)).heap.size := by simp
  obtain ⟨h0, h1, h2⟩ := new_three w a b c T
  exact ⟨(h.cell (p := ⟨w.heap.size, 0, none⟩) hs).trans h0, (h.cell (p := ⟨w.heap.size, 1, none⟩) hs).trans h1, (h.cell (p := ⟨w.heap.size, 2, none⟩) hs).trans h2⟩
theorem below_three {w w' : World} {a b c : Value} {T : TypeId} (h : Below (w.alloc (.cells #[a, b, c] T)).heap.size (w.alloc (.cells #[a, b, c] T)) w') : Below w.heap.size w w' :=
  ((Below.refl _ _).alloc (Nat.le_refl _) _).trans (h.mono (by simp))
theorem cell_three_new (w : World) (a b c : Value) (T : TypeId) : ∀ j u, [a, b, c][j]? = some u → (w.alloc (.cells #[a, b, c] T)).cell? ((⟨w.heap.size, 0, none⟩ : Addr).add j) = some u := by
  intro j u hj
  match j, hj with
  | 0, hj => simp at hj; subst hj; simp [Addr.add]
  | 1, hj => simp at hj; subst hj; simp [Addr.add]
  | 2, hj => simp at hj; subst hj; simp [Addr.add]
  | (j + 3), hj => simp at hj

/-- A variant is appended to a list of variants. -/
theorem wpList_appendV {TL T : TypeId} {B : Nat} {Y Z : Nat → Prop} {w : World} {ops : Array Oper} {rest : List Oper} {o : Oper} {a : Act} {Q : Exit → Act → World → Prop} (hu : Tryz.prog.underlying TL = some (.slice T)) (hinf : (Tryz.prog.info? T).map (fun i => (i.zero, i.size, i.bytes)) = some (some (.agg #[.slice none 0 0, .string ByteArray.empty, .int .i64 0]), 3, 48)) (hgd : o.guard = none) (s x : Operand)
    (ho : o.op = .call { callee := .builtin .append, args := #[s, x], argTypes := #[TL, TL] }) (v : Value) (hs : a.eval s = v) {es : List Vr} (hown : OwnsV T B Y w v es) (g : Nat) (hx : a.eval x = .slice (some ⟨g, 0, none⟩) 1 1)
    {e : Vr} {n : Value} (hc : ∀ j u, (vrC e n)[j]? = some u → w.cell? ((⟨g, 0, none⟩ : Addr).add j) = some u) (h1 : n.oneCell' = true) (hE : ReadsG Z w n e.ns) (hZ : ∀ k, Z k → k < w.heap.size ∧ v.ownBlock ≠ some k)
    (hn : es.length ≤ 1000000000) (hB : B ≤ w.heap.size)
    (h : ∀ v' w', OwnsV T B (fun k => Y k ∨ Z k) w' v' (es ++ [e]) → w.grownBy w' v.ownBlock → (v'.ownBlock = v.ownBlock ∨ v'.ownBlock = some w.heap.size) → wpList Tryz.prog ops Q rest (a.put o.dst v') w') :
    wpList Tryz.prog ops Q (o :: rest) a w := by
  obtain ⟨i0, hi, hz0, hz1, hz2⟩ := info_parts hinf
  obtain ⟨xs, r1, r2, r3, r4, r5⟩ := hown
  refine wpList_plain hgd fun K hK => ?_
  obtain ⟨v', w', hr', hrow, hg, _, hat⟩ := run_append_own_at (P := Tryz.prog) w B TL o.type T i0 _ 3 48 hu hi hz0 hz1 hz2 rfl (by decide) v es.length xs.flatten r1 ⟨g, 0, none⟩ 1 1 (vrC e n) rfl hc (fun u hu => by simp at hu; rcases hu with rfl | rfl | rfl <;> first | exact h1 | rfl) (by unfold maxLen; omega) (by omega) hB
  unfold Oper.wp execOp
  simp only [ho, resolve, invoke, builtin, Sem.run_bind, Sem.run_pure, Result.andThen_ok, List.map_toArray, List.map_cons, List.map_nil, hs, hx, hr']
  exact hK _ _ (h v' w' (OwnsV.snoc r2 r3 r4 r5 ⟨n, rfl, hE⟩ hZ hrow hg hat) hg hat)
theorem ReadsG.one {G : Nat → Prop} {w : World} {v : Value} {ls : List (List UInt8)} (h : ReadsG G w v ls) : v.oneCell' = true := by
  obtain ⟨ao, cap, rfl, _⟩ := h; rfl

/-- Ints that the call has made. -/
def OwnsI (B : Nat) (w : World) (v : Value) (zs : List Int) : Prop := w.ownsRow B 3 1 v zs.length (zs.map (Value.int .i64))
theorem OwnsI.nil (B : Nat) (w : World) : OwnsI B w (.slice none 0 0) [] := World.ownsRow_nil _ _ _ _
theorem OwnsI.below {B : Nat} {w w' : World} {v : Value} {zs : List Int} (h : OwnsI B w v zs) (hb : Below w.heap.size w w') : OwnsI B w' v zs :=
  World.ownsRow.kept h (grown_of_below hb none) (by cases hv : v.ownBlock <;> simp)
theorem OwnsI.only {B : Nat} {X : Nat → Prop} {w w' : World} {v : Value} {zs : List Int} (h : OwnsI B w v zs) (hO : Only X w w') (hv : ∀ k, v.ownBlock = some k → ¬ X k) : OwnsI B w' v zs := hO.owns h hv
theorem OwnsI.snoc {B : Nat} {w : World} {v : Value} {zs : List Int} {z : Int} (h : w.ownsRow B 3 1 v (zs.length + 1) (zs.map (Value.int .i64) ++ [.int .i64 z])) : OwnsI B w v (zs ++ [z]) := by
  unfold OwnsI
  rw [List.length_append, List.map_append]; exact h
/-- Ints that are read. -/
def ReadsZ (w : World) (v : Value) (zs : List Int) : Prop :=
  ∃ ao cap, v = .slice ao zs.length cap ∧ ∀ j z, zs[j]? = some z → ∃ g off, ao = some ⟨g, off, none⟩ ∧ g < w.heap.size ∧ w.cell? ⟨g, off + j, none⟩ = some (.int .i64 z)
theorem OwnsI.reads {B : Nat} {w : World} {v : Value} {zs : List Int} (h : OwnsI B w v zs) : ReadsZ w v zs := by
  have h0 := h
  rcases h with ⟨hl, ⟨hv, hn⟩ | ⟨g, cap, cur, hv, hb, hg, hn, hm, hs, ht⟩⟩
  · have : zs = [] := List.eq_nil_of_length_eq_zero hn
    subst this
    exact ⟨none, 0, hv, fun j p h => by simp at h⟩
  · refine ⟨_, cap, hv, fun j z hj => ⟨g, 0, rfl, (Array.getElem?_eq_some_iff.1 hg).1, ?_⟩⟩
    subst hv
    have hj' : j < zs.length := (List.getElem?_eq_some_iff.mp hj).1
    rw [Nat.zero_add, World.ownsRow.cellAt h0 j (by omega), List.getElem?_map, hj]; rfl
theorem ReadsZ.below {w w' : World} {v : Value} {zs : List Int} (h : ReadsZ w v zs) (hb : Below w.heap.size w w') : ReadsZ w' v zs := by
  obtain ⟨ao, cap, rfl, hc⟩ := h
  refine ⟨ao, cap, rfl, fun j z hj => ?_⟩
  obtain ⟨g, off, h1, h2, h3⟩ := hc j z hj
  exact ⟨g, off, h1, Nat.lt_of_lt_of_le h2 hb.size, (hb.cell (p := ⟨g, off + j, none⟩) h2).trans h3⟩

/-- A set at the address sa holds the variants l; all that belongs to it lies in blocks of F. -/
structure SetO (F : Nat → Prop) (w : World) (sa : Nat) (l : List Vr) : Prop where
  box : ∃ v Y, w.heap[sa]? = some (.cells #[v] 60 (0, 0)) ∧ OwnsV 62 0 Y w v l ∧ ¬ Y sa ∧ v.ownBlock ≠ some sa ∧ (∀ k, Y k → F k) ∧ ∀ k, v.ownBlock = some k → F k
  me : F sa
  lt : ∀ k, F k → k < w.heap.size
theorem SetO.only {F X : Nat → Prop} {w w' : World} {sa : Nat} {l : List Vr} (h : SetO F w sa l) (hO : Only X w w') (hX : ∀ k, F k → ¬ X k) : SetO F w' sa l := by
  obtain ⟨⟨v, Y, h1, h2, h3, h4, h5, h6⟩, hm, hl⟩ := h
  refine ⟨⟨v, Y, (hO.block sa (hl sa hm) (hX sa hm)).trans h1, h2.only hO (fun k hk => hX k (h5 k hk)) (fun k hk => hX k (h6 k hk)), h3, h4, h5, h6⟩, hm, fun k hk => Nat.lt_of_lt_of_le (hl k hk) hO.size⟩
theorem SetO.below {F : Nat → Prop} {w w' : World} {sa : Nat} {l : List Vr} (h : SetO F w sa l) (hb : Below w.heap.size w w') : SetO F w' sa l :=
  h.only (X := fun _ => False) (Only.below hb) (fun _ _ h => h)
end Go.Proofs.YtbmbcdbldbjddaaGreatDoor
