/- Slices of bytes: those that are read, those of the call's own; appends; whether two hold the same. -/
import Derived.Test.YthlfhbhjiofneaaDoorKOnly
import Derived.BigFrame
import Derived.Laws.OwnMore
import Derived.Deep.AppendLies
import Derived.Laws.IdiomStrings
namespace Go.Proofs.YthlfhbhjiofneaaDoor
open Go.RowKit

theorem Tryd.infoB : (Tryd.prog.info? 5).map (fun i => (i.zero, i.size, i.bytes)) = some (some (.int .u8 0), 1, 1) := by kernel_rfl
/-- The value v is a slice of bytes of the call's own (its block lies from B on) that holds l. -/
def OwnB (B : Nat) (w : World) (v : Value) (l : List UInt8) : Prop := w.ownsRow B 5 1 v l.length (Lib.byteCells l)
/-- The value v is a slice of bytes that reads as l in the world w. -/
def ReadsD (w : World) (v : Value) (l : List UInt8) : Prop :=
  ∃ ao cap, v = .slice ao l.length cap ∧ l.length ≤ cap ∧ cap ≤ maxLen ∧ (ao = none → cap = 0) ∧ ∀ j c, l[j]? = some c → ∃ g off, ao = some ⟨g, off, none⟩ ∧ g < w.heap.size ∧ w.cell? ⟨g, off + j, none⟩ = some (.int .u8 (c.toNat : Int))
theorem OwnB.nil (B : Nat) (w : World) : OwnB B w (.slice none 0 0) [] := World.ownsRow_nil _ _ _ _
theorem OwnB.below {B : Nat} {w w' : World} {v : Value} {l : List UInt8} (h : OwnB B w v l) (hb : Below w.heap.size w w') : OwnB B w' v l :=
  World.ownsRow.kept h (grown_of_below hb none) (by cases hv : v.ownBlock <;> simp)
theorem OwnB.mono {B C : Nat} {w : World} {v : Value} {l : List UInt8} (hBC : B ≤ C) (h : OwnB C w v l) : OwnB B w v l :=
  ownsRow_base h fun k hk => Nat.le_trans hBC (World.ownsRow.lt h k hk).1
theorem OwnB.only {B : Nat} {w w' : World} {v : Value} {l : List UInt8} {X : Nat → Prop} (h : OwnB B w v l) (hO : Only X w w') (hv : ∀ k, v.ownBlock = some k → ¬ X k) : OwnB B w' v l := hO.owns h hv
theorem cellB_get {l : List UInt8} {j : Nat} {c : UInt8} (h : l[j]? = some c) : (Lib.byteCells l)[j]? = some (.int .u8 (c.toNat : Int)) := by
  unfold Lib.byteCells; rw [List.getElem?_map, h]; rfl
theorem cellB_of {l : List UInt8} {j : Nat} {u : Value} (h : (Lib.byteCells l)[j]? = some u) : ∃ c, l[j]? = some c ∧ u = .int .u8 (c.toNat : Int) := by
  unfold Lib.byteCells at h
  rw [List.getElem?_map] at h
  cases hc : l[j]? with
  | none => rw [hc] at h; cases h
  | some c => rw [hc] at h; exact ⟨c, rfl, (Option.some.inj h).symm⟩
theorem cellB_app (a b : List UInt8) : Lib.byteCells a ++ Lib.byteCells b = Lib.byteCells (a ++ b) := by unfold Lib.byteCells; rw [List.map_append]
theorem OwnB.reads {B : Nat} {w : World} {v : Value} {l : List UInt8} (h : OwnB B w v l) : ReadsD w v l := by
  have h0 := h
  rcases h with ⟨hl, ⟨hv, hn⟩ | ⟨g, cap, cur, hv, hb, hg, hn, hm, hs, ht⟩⟩
  · have : l = [] := List.eq_nil_of_length_eq_zero hn
    subst this
    exact ⟨none, 0, hv, Nat.le_refl _, Nat.zero_le _, fun _ => rfl, fun j c h => by simp at h⟩
  · refine ⟨_, cap, hv, hn, hm, fun h => (by cases h), fun j c hj => ⟨g, 0, rfl, (World.ownsRow.lt h0 g (by rw [hv]; rfl)).2, ?_⟩⟩
    have hj' : j < l.length := (List.getElem?_eq_some_iff.mp hj).1
    subst hv
    rw [Nat.zero_add, World.ownsRow.cellAt h0 j (by omega), cellB_get hj]
theorem OwnB.isSlice {B : Nat} {w : World} {v : Value} {l : List UInt8} (h : OwnB B w v l) : ∃ a c, v = .slice a l.length c := by
  obtain ⟨ao, cap, rfl, _⟩ := h.reads; exact ⟨ao, cap, rfl⟩
theorem ReadsD.below {w w' : World} {v : Value} {l : List UInt8} (h : ReadsD w v l) (hb : Below w.heap.size w w') : ReadsD w' v l := by
  obtain ⟨ao, cap, rfl, h1, h2, h3, hc⟩ := h
  refine ⟨ao, cap, rfl, h1, h2, h3, fun j l hj => ?_⟩
  obtain ⟨g, off, h1, h2, h3⟩ := hc j l hj
  exact ⟨g, off, h1, Nat.lt_of_lt_of_le h2 hb.size, (hb.cell (p := ⟨g, off + j, none⟩) h2).trans h3⟩
theorem ReadsD.only {w w' : World} {v : Value} {l : List UInt8} {X : Nat → Prop} (h : ReadsD w v l) (hO : Only X w w') (hv : ∀ k, v.ownBlock = some k → ¬ X k) : ReadsD w' v l := by
  obtain ⟨ao, cap, rfl, h1, h2, h3, hc⟩ := h
  refine ⟨ao, cap, rfl, h1, h2, h3, fun j l hj => ?_⟩
  obtain ⟨g, off, rfl, h2, h3⟩ := hc j l hj
  exact ⟨g, off, rfl, Nat.lt_of_lt_of_le h2 hO.size, (hO.cell (p := ⟨g, off + j, none⟩) h2 (hv g rfl)).trans h3⟩
theorem readsB_nil (w : World) : ReadsD w (.slice none 0 0) [] := (OwnB.nil 0 w).reads
theorem readsB_src {w : World} {ad : Addr} {n cap : Nat} {l : List UInt8} (h : ReadsD w (.slice (some ad) n cap) l) : n = l.length ∧ ∀ j u, (Lib.byteCells l)[j]? = some u → w.cell? (ad.add j) = some u := by
  obtain ⟨ao, c, hv, _, _, _, hc⟩ := h
  simp only [Value.slice.injEq] at hv
  obtain ⟨rfl, rfl, rfl⟩ := hv
  refine ⟨rfl, fun j u hj => ?_⟩
  obtain ⟨b, hb, rfl⟩ := cellB_of hj
  obtain ⟨g, off, ha, _, h1⟩ := hc j b hb
  obtain rfl : ad = ⟨g, off, none⟩ := Option.some.inj ha
  rw [Addr.add_lit]; exact h1
theorem readsB_none {w : World} {n cap : Nat} {l : List UInt8} (h : ReadsD w (.slice none n cap) l) : l = [] ∧ n = 0 ∧ cap = 0 := by
  obtain ⟨ao, c, hv, _, _, h3, hc⟩ := h
  simp only [Value.slice.injEq] at hv
  obtain ⟨rfl, rfl, rfl⟩ := hv
  cases l with
  | nil => exact ⟨rfl, rfl, h3 rfl⟩
  | cons p r => obtain ⟨g, off, ha, _⟩ := hc 0 p rfl; cases ha
theorem readsB_lt {w : World} {v : Value} {l : List UInt8} (h : ReadsD w v l) (hl : l ≠ []) : ∀ k, v.ownBlock = some k → k < w.heap.size := by
  obtain ⟨ao, cap, rfl, _, _, _, hc⟩ := h
  cases l with
  | nil => exact absurd rfl hl
  | cons c t =>
    obtain ⟨g, off, rfl, hg, _⟩ := hc 0 c rfl
    intro k hk
    have : g = k := by simpa [Value.ownBlock] using hk
    omega
theorem own_appB {B : Nat} {w : World} {v : Value} {l m : List UInt8} (h : w.ownsRow B 5 1 v (l.length + m.length) (Lib.byteCells l ++ Lib.byteCells m)) : OwnB B w v (l ++ m) := by
  unfold OwnB; rw [List.length_append, ← cellB_app]; exact h
theorem oneB (l : List UInt8) : ∀ u ∈ Lib.byteCells l, u.oneCell' = true := by
  intro u hu
  unfold Lib.byteCells at hu
  obtain ⟨m, _, rfl⟩ := List.mem_map.mp hu; rfl
/-- An append of bytes that are read to a slice of bytes of the call's own, whatever the guard. -/
theorem wpList_appendB {B : Nat} {w : World} {ops : Array Oper} {rest : List Oper} {o : Oper} {a : Act} {Q : Exit → Act → World → Prop} (hw : Region.wanted o (yielded ops a.tmps) = true) (s x : Operand)
    (ho : o.op = .call { callee := .builtin .append, args := #[s, x], argTypes := #[27, 27] }) (v v2 : Value) (hs : a.eval s = v) (hx : a.eval x = v2) {l m : List UInt8} (hown : OwnB B w v l) (hr : ReadsD w v2 m)
    (hn : l.length + m.length ≤ 1000000000) (hB : B ≤ w.heap.size) (h : ∀ v' w', OwnB B w' v' (l ++ m) → w.grownBy w' v.ownBlock → wpList Tryd.prog ops Q rest (a.put o.dst v') w') :
    wpList Tryd.prog ops Q (o :: rest) a w := by
  obtain ⟨i0, hi, hz0, hz1, hz2⟩ := info_parts Tryd.infoB
  refine BigFrame.wpList_want hw fun K hK => ?_
  obtain ⟨ao, cap, rfl, hc⟩ := id hr
  cases ao with
  | none =>
    obtain ⟨rfl, _, rfl⟩ := readsB_none hr
    have hrun := run_append_owned_none (P := Tryd.prog) (w := w) B 27 o.type 5 i0 1 Tryd.underlying27 hi v l.length (Lib.byteCells l) hown
    unfold Oper.wp
    simp [execOp, ho, resolve, invoke, builtin, hs, hx, hrun, Result.andThen]
    exact hK _ _ (h v w (by rw [List.append_nil]; exact hown) ⟨rfl, rfl, rfl, Nat.le_refl _, fun _ _ _ => rfl⟩)
  | some ad =>
    obtain ⟨_, hs'⟩ := readsB_src hr
    exact wp_append_own w s x 27 ho B 5 i0 _ 1 1 Tryd.underlying27 hi hz0 hz1 hz2 rfl (by decide) v l.length (Lib.byteCells l) hs hown ad m.length cap (Lib.byteCells m) hx (by rw [Lib.byteCells_length]; omega) hs' (oneB m) (by unfold maxLen; omega) (by omega) hB
      fun v' w' h1 h2 _ => hK _ _ (h v' w' (own_appB h1) h2)
/-- A part of a slice of bytes that is read. -/
theorem reads_cutB {w : World} {g off len cap : Nat} {l : List UInt8} (h : ReadsD w (.slice (some ⟨g, off, none⟩) len cap) l) (i n c2 : Nat) (hn : i + n ≤ l.length) (hc : n ≤ c2) (hc2 : c2 ≤ maxLen) :
    ReadsD w (.slice (some ⟨g, off + i, none⟩) n c2) ((l.drop i).take n) := by
  obtain ⟨ao, c, hv, _, _, _, hc'⟩ := h
  simp only [Value.slice.injEq] at hv
  obtain ⟨rfl, rfl, rfl⟩ := hv
  have hl : ((l.drop i).take n).length = n := by simp; omega
  refine ⟨_, c2, by rw [hl], by rw [hl]; exact hc, hc2, fun h => (by cases h), fun j b hj => ?_⟩
  have hjn : j < n := by have := (List.getElem?_eq_some_iff.mp hj).1; omega
  rw [List.getElem?_take_of_lt hjn, List.getElem?_drop] at hj
  obtain ⟨g', off', ha, h1, h2⟩ := hc' (i + j) b hj
  simp only [Option.some.injEq, Addr.mk.injEq, and_true] at ha
  obtain ⟨rfl, rfl⟩ := ha
  exact ⟨g, off + i, rfl, h1, by rw [Nat.add_assoc]; exact h2⟩
/-- The conversion of bytes that are read to a string. -/
theorem convB {w : World} {v : Value} {l : List UInt8} (h : ReadsD w v l) : (convert 27 9 v).run Tryd.prog w = .ok (.string (strB l)) w := by
  obtain ⟨ao, cap, rfl, h1, h2, h3, hc⟩ := h
  cases ao with
  | none =>
    cases l with
    | cons p r => obtain ⟨g, off, ha, _⟩ := hc 0 p rfl; cases ha
    | nil =>
      rw [List.length_nil, run_convert_bytes_string w 27 9 5 none 0 cap Tryd.underlying27 Tryd.underlying5 Tryd.underlying9]
      simp [Conv.bytesToString]
      rfl
  | some ad =>
    exact run_convert_bytes_back w 27 9 5 ad cap l Tryd.underlying27 Tryd.underlying5 Tryd.underlying9 (fun j hj => by
      obtain ⟨g, off, ha, _, h1⟩ := hc j l[j] (by simp [hj])
      obtain rfl : ad = ⟨g, off, none⟩ := Option.some.inj ha
      rw [Addr.add_lit]; exact h1)
end Go.Proofs.YthlfhbhjiofneaaDoor
