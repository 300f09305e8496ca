import Derived.Test.YtpikjcmenmdolaaGreatDoorPa32
import Derived.Test.YtpikjcmenmdolaaGreatDoorPa34
import Derived.Laws.OwnMore
import Derived.Test.YtpikjcmenmdolaaGreatDoorPa16
import Derived.Test.YtpikjcmenmdolaaGreatDoorPa38
/- A list of events is appended to a list of events. -/
namespace Go.Proofs.YtpikjcmenmdolaaGreatDoor
open Go.RowKit

theorem evR_len {Y : Nat → Prop} {w : World} {e : Ev} {x : List Value} (h : EvR Y w e x) : x.length = 8 := by
  obtain ⟨_, _, _, _, rfl, _⟩ := h
  rfl
theorem evR_one {Y : Nat → Prop} {w : World} {e : Ev} {x : List Value} (h : EvR Y w e x) : ∀ u ∈ x, u.oneCell' = true := by
  obtain ⟨q, p, d, t, rfl, h1, h2, h3, h4, _⟩ := h
  obtain ⟨_, _, rfl, _⟩ := h1
  obtain ⟨_, _, rfl, _⟩ := h2
  obtain ⟨_, _, rfl, _⟩ := h3
  obtain ⟨_, _, rfl, _⟩ := h4
  intro u hu
  simp at hu
  rcases hu with rfl | rfl | rfl | rfl | rfl | rfl | rfl | rfl <;> rfl
theorem flat_len8 : ∀ {xs : List (List Value)}, (∀ x ∈ xs, x.length = 8) → xs.flatten.length = xs.length * 8 := by
  intro xs
  induction xs with
  | nil => intro _; simp
  | cons c t ih =>
    intro h
    rw [List.flatten_cons, List.length_append, ih (fun x hx => h x (List.mem_cons_of_mem _ hx)), h c (List.mem_cons_self ..), List.length_cons, Nat.add_mul, Nat.one_mul, Nat.add_comm]
theorem OwnsE.app {B : Nat} {Y Z : Nat → Prop} {w w' : World} {v v' : Value} {es fs : List Ev} {xs zs : List (List Value)} (h2 : xs.length = es.length) (h3 : ∀ (i : Nat) (x : List Value) (e : Ev), xs[i]? = some x → es[i]? = some e → EvR Y w e x) (h4 : ∀ k, v.ownBlock = some k → ¬ Y k) (h5 : ∀ k, Y k → k < w.heap.size)
    (k2 : zs.length = fs.length) (k3 : ∀ (i : Nat) (x : List Value) (e : Ev), zs[i]? = some x → fs[i]? = some e → EvR Z w e x) (hZ : ∀ k, Z k → k < w.heap.size ∧ v.ownBlock ≠ some k)
    (hrow : w'.ownsRow B 60 8 v' (es.length + fs.length) (xs.flatten ++ zs.flatten)) (hg : w.grownBy w' v.ownBlock) (hat : v'.ownBlock = v.ownBlock ∨ v'.ownBlock = some w.heap.size) :
    OwnsE B (fun k => Y k ∨ Z k) w' v' (es ++ fs) := by
  have hO : Only (fun k => v.ownBlock = some k) w w' := Only.grown hg (fun k hk => .inl hk)
  refine ⟨xs ++ zs, ?_, by simp [h2, k2], fun i y f hy hf => ?_, fun k hk hyz => ?_, fun k hk => ?_⟩
  · rw [List.flatten_append, List.length_append]; exact hrow
  · by_cases hi : i < es.length
    · rw [List.getElem?_append_left (by omega)] at hy
      rw [List.getElem?_append_left hi] at hf
      exact ((h3 i y f hy hf).only hO (fun k hk e => h4 k e hk)).mono (fun k hk => .inl hk)
    · rw [List.getElem?_append_right (by omega), h2] at hy
      rw [List.getElem?_append_right (by omega)] at hf
      exact ((k3 _ y f hy hf).only hO (fun k hk e => (hZ k hk).2 e)).mono (fun k hk => .inr hk)
  · rcases hat with a | a
    · rw [a] at hk
      rcases hyz with b | b
      · exact h4 k hk b
      · exact (hZ k b).2 hk
    · rw [a] at hk
      have hk := Option.some.inj hk
      subst hk
      rcases hyz with b | b
      · exact Nat.lt_irrefl _ (h5 _ b)
      · exact Nat.lt_irrefl _ (hZ _ b).1
  · rcases hk with a | a
    · exact Nat.lt_of_lt_of_le (h5 k a) hO.size
    · exact Nat.lt_of_lt_of_le (hZ k a).1 hO.size
theorem wp_appendL {B C : Nat} {Y Z : Nat → Prop} {w : World} {o : Oper} {a : Act} {K : Act → World → Prop} {Q : Exit → Act → World → Prop} (s x : Operand)
    (ho : o.op = .call { callee := .builtin .append, args := #[s, x], argTypes := #[35, 35] }) (v : Value) (hs : a.eval s = v) {es fs : List Ev} (hown : OwnsE B Y w v es) (u : Value) (hx : a.eval x = u) (hu : OwnsE C Z w u fs)
    (hZ : ∀ k, Z k → v.ownBlock ≠ some k) (hn : es.length + fs.length ≤ 1000000000) (hB : B ≤ w.heap.size)
    (h : ∀ v' w', OwnsE B (fun k => Y k ∨ Z k) w' v' (es ++ fs) → w.grownBy w' v.ownBlock → (v'.ownBlock = v.ownBlock ∨ v'.ownBlock = some w.heap.size) → K (a.put o.dst v') w') :
    o.wp Tryz.prog a w K Q := by
  obtain ⟨i0, hi, hz0, hz1, hz2⟩ := info_parts Tryz.infoEv
  obtain ⟨xs, r1, r2, r3, r4, r5⟩ := hown
  obtain ⟨zs, q1, q2, q3, _, q5⟩ := hu
  have q10 := q1
  rcases q1 with ⟨hl, ⟨hv, h0⟩ | ⟨g, cap, cur, hv, hb, hg, h0, hm, hz, ht⟩⟩
  · have hf0 := List.eq_nil_of_length_eq_zero h0
    subst hf0 hv
    have hr' := run_append_owned_none (P := Tryz.prog) (w := w) B 35 o.type 60 i0 8 Tryz.underlying35 hi v es.length xs.flatten r1
    unfold Oper.wp execOp
    simp only [ho, resolve, invoke, builtin, Sem.run_bind, Sem.run_pure, Result.andThen_ok, List.map_toArray, List.map_cons, List.map_nil, hs, hx, hr']
    refine h _ _ ?_ (World.grownBy.refl _ _) (.inl rfl)
    rw [List.append_nil]
    exact ⟨xs, r1, r2, fun i x e hx he => (r3 i x e hx he).mono (fun k hk => .inl hk), fun k hk hyz => hyz.elim (r4 k hk) (fun b => hZ k b hk), fun k hk => hk.elim (r5 k) (q5 k)⟩
  · subst hv
    have h8 : ∀ x ∈ zs, x.length = 8 ∧ ∀ u ∈ x, u.oneCell' = true := by
      intro y hy
      obtain ⟨k, hk⟩ := List.mem_iff_getElem?.1 hy
      have hk' := (List.getElem?_eq_some_iff.1 hk).1
      obtain ⟨f, hf⟩ : ∃ f, fs[k]? = some f := ⟨fs[k], by simp [show k < fs.length by omega]⟩
      exact ⟨evR_len (q3 k y f hk hf), evR_one (q3 k y f hk hf)⟩
    have hfl : zs.flatten.length = fs.length * 8 := by rw [flat_len8 (fun x hx => (h8 x hx).1), q2]
    obtain ⟨v', w', hr', hrow, hgr, _, hat⟩ := run_append_own_at (P := Tryz.prog) w B 35 o.type 60 i0 _ 8 144 Tryz.underlying35 hi hz0 hz1 hz2 rfl (by decide) v es.length xs.flatten r1 ⟨g, 0, none⟩ fs.length cap zs.flatten hfl
      (fun j u hu => by
        rw [Addr.add_lit, Nat.zero_add, World.ownsRow.cellAt q10 j (by have := (List.getElem?_eq_some_iff.1 hu).1; omega), hu])
      (fun u hu => by obtain ⟨x, hx, hux⟩ := List.mem_flatten.1 hu; exact (h8 x hx).2 u hux) (by unfold maxLen; omega) (by omega) hB
    unfold Oper.wp execOp
    simp only [ho, resolve, invoke, builtin, Sem.run_bind, Sem.run_pure, Result.andThen_ok, List.map_toArray, List.map_cons, List.map_nil, hs, hx, hr']
    exact h _ _ (OwnsE.app r2 r3 r4 r5 q2 q3 (fun k hk => ⟨q5 k hk, hZ k hk⟩) hrow hgr hat) hgr hat
end Go.Proofs.YtpikjcmenmdolaaGreatDoor

/- Bytes that arrive one by one: the same events once they are joined, and the same connection. -/
namespace Go.Proofs.YtpikjcmenmdolaaGreatDoor

/-- What a Write of each byte returns, one list behind the other. -/
def accC : Cn → List UInt8 → List Ev
  | _, [] => []
  | s, c :: t => joinE (runC s [c]).2 ++ accC (runC s [c]).1 t
theorem runC_cons (s : Cn) (c : UInt8) (t : List UInt8) : runC s (c :: t) = ((runC (runC s [c]).1 t).1, (runC s [c]).2 ++ (runC (runC s [c]).1 t).2) := by
  rw [show c :: t = [c] ++ t from rfl, runC_app]
theorem accC_snoc (c : UInt8) : ∀ (l : List UInt8) (s : Cn), accC s (l ++ [c]) = accC s l ++ joinE (runC (runC s l).1 [c]).2 := by
  intro l
  induction l with
  | nil => intro s; simp [accC, runC]
  | cons d t ih =>
    intro s
    rw [List.cons_append, accC, ih, accC, List.append_assoc, runC_cons s d t]
theorem accC_take {s : Cn} {l : List UInt8} {k : Nat} {c : UInt8} (h : l[k]? = some c) : accC s (l.take (k + 1)) = accC s (l.take k) ++ joinE (runC (runC s (l.take k)).1 [c]).2 := by
  rw [← accC_snoc, List.take_add_one, h]; rfl
theorem runC_take {s : Cn} {l : List UInt8} {k : Nat} {c : UInt8} (h : l[k]? = some c) : (runC s (l.take (k + 1))).1 = (runC (runC s (l.take k)).1 [c]).1 := by
  rw [List.take_add_one, h, Option.toList_some, runC_app]
theorem accC_join : ∀ (l : List UInt8) (s : Cn), joinE (accC s l) = joinE (runC s l).2 := by
  intro l
  induction l with
  | nil => intro s; rfl
  | cons d t ih =>
    intro s
    have h := congrArg Prod.snd (runC_cons s d t)
    simp only at h
    rw [h, accC, joinE_app, joinE_app, ← fold_join (joinE (joinE (runC s [d]).2)), ih, fold_join]
    congr 1
    exact fold_join [] _
/-- Behind an error nothing comes. -/
theorem cut_stop {s : Cn} {l : List UInt8} {k : Nat} (c : UInt8) (h : (runC s (l.take k)).1.er ≠ 0) : runC (runC s (l.take k)).1 [c] = ((runC s (l.take k)).1, []) := runC_stop h [c]
theorem joinE_twice (l : List Ev) : joinE (joinE l) = joinE l := fold_join [] l
end Go.Proofs.YtpikjcmenmdolaaGreatDoor

/- Write of a string's bytes and Close, with all that is said of where the lists lie. -/
namespace Go.Proofs.YtpikjcmenmdolaaGreatDoor
open Go.RowKit

theorem OwnsE.mono {B C : Nat} {Y : Nat → Prop} {w : World} {v : Value} {es : List Ev} (hBC : B ≤ C) (h : OwnsE C Y w v es) : OwnsE B Y w v es := by
  obtain ⟨xs, ⟨hl, hv | ⟨g, cap, cur, hv, hb, hr⟩⟩, h2⟩ := h
  · exact ⟨xs, ⟨hl, .inl hv⟩, h2⟩
  · exact ⟨xs, ⟨hl, .inr ⟨g, cap, cur, hv, Nat.le_trans hBC hb, hr⟩⟩, h2⟩
theorem LsE.mono {B C : Nat} {X : Nat → Prop} {w : World} {v : Value} {es : List Ev} (hBC : B ≤ C) (h : LsE C X v es w) : LsE B X v es w := by
  obtain ⟨Y, h1, h2, h3⟩ := h
  exact ⟨Y, h1.mono hBC, fun i hi => ⟨Nat.le_trans hBC (h2 i hi).1, (h2 i hi).2⟩, h3⟩
/-- What a Write of a new block's bytes leaves, said of the world before that block. -/
def WbPost (B P : Nat) (X : Nat → Prop) (s : Cn) (l : List UInt8) (w : World) (e : Ending) (w' : World) : Prop :=
  ∃ v X', e = .returned (.tuple #[v, errV (runC s l).1.er]) ∧ (∀ i, X' i → X i ∨ w.heap.size ≤ i) ∧ Con B P X' (runC s l).1 w' ∧ LsE w.heap.size X' v (joinE (runC s l).2) w' ∧ Only X w w'
theorem wb_of {B P : Nat} {X : Nat → Prop} {s : Cn} {l : List UInt8} {w W : World} {e : Ending} {w' : World} (h : WrPost B P X s l W e w') (hb : Below w.heap.size w W) : WbPost B P X s l w e w' := by
  obtain ⟨v, X', h1, h2, h3, h4, h5⟩ := h
  exact ⟨v, X', h1, fun i hi => (h2 i hi).imp id (fun a => Nat.le_trans hb.size a), h3, h4.mono hb.size, (Only.below (X := X) hb).trans' h5⟩
/-- Write of a string's bytes. -/
theorem write_strB {B P : Nat} {X : Nat → Prop} {s : Cn} (t : ByteArray) (z : Nat) (W : World) (g : Nat) (hz : z = t.size) (hg : g = W.heap.size) (h : Con B P X s W) (hok : s.Ok) (hM : MaxB B W) (hl : t.size ≤ 100000) :
    Calls Tryz.prog 13 #[.pointer (some ⟨P, 0, none⟩), .slice (some ⟨g, 0, none⟩) z (grownCap W z 0 5)]
      (W.alloc (.cells (bytesRow t (grownCap W z 0 5)) 5 ((bytesRow t (grownCap W z 0 5)).size, (bytesRow t (grownCap W z 0 5)).size + 1))).drew
      (WbPost B P X s t.data.toList W) := by
  subst hz hg
  have hb : Below W.heap.size W (W.alloc (.cells (bytesRow t (grownCap W t.size 0 5)) 5 ((bytesRow t (grownCap W t.size 0 5)).size, (bytesRow t (grownCap W t.size 0 5)).size + 1))).drew := (below_new W _).drew
  have hr := reads_strV t W ((bytesRow t (grownCap W t.size 0 5)).size, (bytesRow t (grownCap W t.size 0 5)).size + 1) (by omega)
  have hlt := h.lt
  have hsl : t.data.toList.length = t.size := by rw [Array.length_toList]; rfl
  refine (write_any (.slice (some ⟨W.heap.size, 0, none⟩) t.size (grownCap W t.size 0 5)) t.data.toList _ (h.below hb) hok (hr.below (Below.refl _ _).drew) (fun _ k hk e => ?_) (hM.to (hb.mono (by have := hlt.2.2 P hlt.2.1; omega))) (by omega)).mono fun e w' hp => wb_of hp hb
  simp [Value.ownBlock] at hk
  have := (hlt.2.2 k e).2
  omega
/-- A list of events is appended to a list of events, in a row of operations. -/
theorem wpList_appendL {B C : Nat} {Y Z : Nat → Prop} {w : World} {ops : Array Oper} {rest : List Oper} {o : Oper} {a : Act} {Q : Exit → Act → World → Prop} (hgd : o.guard = none) (s x : Operand)
    (ho : o.op = .call { callee := .builtin .append, args := #[s, x], argTypes := #[35, 35] }) (v : Value) (hs : a.eval s = v) {es fs : List Ev} (hown : OwnsE B Y w v es) (u : Value) (hx : a.eval x = u) (hu : OwnsE C Z w u fs)
    (hZ : ∀ k, Z k → v.ownBlock ≠ some k) (hn : es.length + fs.length ≤ 1000000000) (hB : B ≤ w.heap.size)
    (h : ∀ v' w', OwnsE B (fun k => Y k ∨ Z k) w' v' (es ++ fs) → w.grownBy w' v.ownBlock → (v'.ownBlock = v.ownBlock ∨ v'.ownBlock = some w.heap.size) → wpList Tryz.prog ops Q rest (a.put o.dst v') w') :
    wpList Tryz.prog ops Q (o :: rest) a w :=
  wpList_plain hgd fun _ hK => wp_appendL s x ho v hs hown u hx hu hZ hn hB (fun v' w' a b c => hK _ _ (h v' w' a b c))
/-- A list of events behind a list of events. -/
theorem LsE.app {B : Nat} {X Y Z : Nat → Prop} {v v' : Value} {es fs : List Ev} {w w1 : World} (h2 : ∀ i, Y i → B ≤ i ∧ ¬ X i) (h3 : ∀ i, v.ownBlock = some i → ¬ X i) (hZ : ∀ i, Z i → B ≤ i ∧ ¬ X i) (hX : ∀ i, X i → i < w.heap.size)
    (hO : OwnsE B (fun k => Y k ∨ Z k) w1 v' (es ++ fs)) (hat : v'.ownBlock = v.ownBlock ∨ v'.ownBlock = some w.heap.size) : LsE B X v' (es ++ fs) w1 := by
  refine ⟨_, hO, fun i hi => ?_, fun i hi hx => ?_⟩
  · rcases hi with a | a
    · exact h2 i a
    · exact hZ i a
  · rcases hat with a | a
    · exact h3 i (a ▸ hi) hx
    · rw [a] at hi
      have := hX i hx
      have := Option.some.inj hi
      omega
/-- The loop that writes byte after byte: the connection and the list of its events so far; nothing else has changed since W. -/
structure CutI (B P : Nat) (X : Nat → Prop) (s : Cn) (l : List UInt8) (W : World) (k : Nat) (mv : Value) (X' : Nat → Prop) (wr : World) : Prop where
  c : Con B P X' (runC s (l.take k)).1 wr
  x : ∀ i, X' i → X i ∨ W.heap.size ≤ i
  ls : LsE W.heap.size X' mv (accC s (l.take k)) wr
  on : Only (fun i => X i ∨ W.heap.size ≤ i) W wr
theorem CutI.start {B P : Nat} {X : Nat → Prop} {s : Cn} {l : List UInt8} {W : World} (h : Con B P X s W) : CutI B P X s l W 0 (.slice none 0 0) X W :=
  ⟨by simpa [runC] using h, fun _ a => .inl a, by simpa [accC] using LsE.nil _ _ _, Only.refl _ _⟩
theorem CutI.max {B P : Nat} {X : Nat → Prop} {s : Cn} {l : List UInt8} {W : World} {k : Nat} {mv : Value} {X' : Nat → Prop} {wr : World} (h : CutI B P X s l W k mv X' wr) (hM : MaxB B W) (hX : ∀ i, X i → B ≤ i) (hB : B ≤ W.heap.size) : MaxB B wr :=
  hM.to (h.on.to (fun i hi => hi.elim (hX i) (fun a => Nat.le_trans hB a)) hB)
/-- Behind the Write of one byte: what the append wants. -/
theorem CutI.next {B P : Nat} {X : Nat → Prop} {s : Cn} {l : List UInt8} {W : World} {k : Nat} {mv : Value} {X' : Nat → Prop} {wr w4 : World} {c : UInt8} {e : Ending} (h : CutI B P X s l W k mv X' wr) (hc : l[k]? = some c)
    (hp : WbPost B P X' (runC s (l.take k)).1 [c] wr e w4) :
    ∃ v X2 Y Z, e = .returned (.tuple #[v, errV (runC s (l.take (k + 1))).1.er]) ∧ Con B P X2 (runC s (l.take (k + 1))).1 w4 ∧ (∀ i, X2 i → X i ∨ W.heap.size ≤ i) ∧ Only (fun i => X i ∨ W.heap.size ≤ i) W w4 ∧
      OwnsE W.heap.size Y w4 mv (accC s (l.take k)) ∧ (∀ i, Y i → W.heap.size ≤ i ∧ ¬ X2 i) ∧ (∀ i, mv.ownBlock = some i → ¬ X2 i) ∧
      OwnsE wr.heap.size Z w4 v (joinE (runC (runC s (l.take k)).1 [c]).2) ∧ (∀ i, Z i → W.heap.size ≤ i ∧ ¬ X2 i) ∧ (∀ i, Z i → mv.ownBlock ≠ some i) := by
  obtain ⟨v, X2, h1, h2, h3, h4, h5⟩ := hp
  have hsz := h.on.size
  have hm := h.ls
  have hmo : ∀ i, mv.ownBlock = some i → i < wr.heap.size := by
    obtain ⟨Y0, a0, _, _⟩ := hm
    exact fun i hi => (a0.lt.1 i hi).2
  obtain ⟨Y, y1, y2, y3⟩ := hm.take h5 h2
  obtain ⟨Z, z1, z2, z3⟩ := h4
  refine ⟨v, X2, Y, Z, by rw [runC_take hc]; exact h1, by rw [runC_take hc]; exact h3, fun i hi => ?_, ?_, y1, y2, y3, z1, fun i hi => ⟨Nat.le_trans hsz (z2 i hi).1, (z2 i hi).2⟩, fun i hi he => ?_⟩
  · rcases h2 i hi with a | a
    · exact h.x i a
    · exact .inr (Nat.le_trans hsz a)
  · exact h.on.trans' (h5.mono h.x)
  · have := hmo i he
    have := (z2 i hi).1
    omega
/-- Behind the append: the next round's relation. -/
theorem CutI.round {B P : Nat} {X : Nat → Prop} {s : Cn} {l : List UInt8} {W : World} {k : Nat} {mv mv' : Value} {X2 Y Z : Nat → Prop} {w4 w5 : World} {c : UInt8} (hc : l[k]? = some c) (h3 : Con B P X2 (runC s (l.take (k + 1))).1 w4) (hx : ∀ i, X2 i → X i ∨ W.heap.size ≤ i) (hon : Only (fun i => X i ∨ W.heap.size ≤ i) W w4)
    (y1 : OwnsE W.heap.size Y w4 mv (accC s (l.take k))) (y2 : ∀ i, Y i → W.heap.size ≤ i ∧ ¬ X2 i) (y3 : ∀ i, mv.ownBlock = some i → ¬ X2 i) (z2 : ∀ i, Z i → W.heap.size ≤ i ∧ ¬ X2 i)
    (hO : OwnsE W.heap.size (fun k => Y k ∨ Z k) w5 mv' (accC s (l.take k) ++ joinE (runC (runC s (l.take k)).1 [c]).2)) (hg : w4.grownBy w5 mv.ownBlock) (hat : mv'.ownBlock = mv.ownBlock ∨ mv'.ownBlock = some w4.heap.size) :
    CutI B P X s l W (k + 1) mv' X2 w5 := by
  have hmB : ∀ i, mv.ownBlock = some i → W.heap.size ≤ i := fun i hi => (y1.lt.1 i hi).1
  refine ⟨con_grown h3 hg y3, hx, ?_, ?_⟩
  · rw [accC_take hc]
    exact LsE.app y2 y3 z2 (fun i hi => (h3.lt.2.2 i hi).2) hO hat
  · exact hon.trans' (Only.grown (X := fun i => X i ∨ W.heap.size ≤ i) hg (fun i hi => .inl (.inr (hmB i hi))))
end Go.Proofs.YtpikjcmenmdolaaGreatDoor
