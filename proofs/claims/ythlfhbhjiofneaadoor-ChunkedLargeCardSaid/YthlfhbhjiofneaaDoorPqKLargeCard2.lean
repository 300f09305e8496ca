import Derived.Lib.FrozenHead
import Derived.Lib.AppendStr
import Derived.Below
import Derived.WalkKit
import Derived.Test.YthlfhbhjiofneaaDoorKBytes
import Derived.Test.YthlfhbhjiofneaaDoorFAll
import Derived.Test.YthlfhbhjiofneaaDoorKLine
import Derived.Test.YthlfhbhjiofneaaDoorPqKLargeCard0
import Derived.Test.YthlfhbhjiofneaaDoorPqKLargeCard1
/- Appending to a row of bytes that a conversion of a string has made: such a row's mark lies behind its last cell, so nothing of it is frozen. A row of cells of one kind ('ownsM') is as 'ownsRow' with elements of one cell, but its mark is whatever, so it leaves what lies behind the elements alone. -/
namespace Go
open Go.RowKit

def World.ownsM (w : World) (base : Nat) (e : TypeId) (v : Value) (n : Nat) (xs : List Value) : Prop :=
  xs.length = n ∧
  ((v = .slice none 0 0 ∧ n = 0) ∨
   ∃ g cap cur fz, v = .slice (some ⟨g, 0, none⟩) n cap ∧ base ≤ g ∧ w.heap[g]? = some (.cells cur e fz) ∧ (fz.2 ≤ n ∨ cap ≤ fz.1) ∧ n ≤ cap ∧ cap ≤ maxLen ∧ cur.size = cap ∧ cur.toList.take n = xs)

section
variable {w : World} {base : Nat} {e : TypeId} {v : Value} {n : Nat} {xs : List Value}
theorem World.ownsM_of (h : w.ownsRow base e 1 v n xs) : w.ownsM base e v n xs := by
  refine ⟨by simpa using h.1, ?_⟩
  rcases h.2 with hn | ⟨g, cap, cur, hv, hb, hg, hnc, hcm, hcs, ht⟩
  · exact .inl hn
  · exact .inr ⟨g, cap, cur, (0, 0), hv, hb, hg, .inl (Nat.zero_le _), hnc, hcm, by simpa using hcs, by simpa using ht⟩
theorem World.ownsM.lt (h : w.ownsM base e v n xs) : ∀ k, v.ownBlock = some k → base ≤ k ∧ k < w.heap.size := by
  intro k hk
  rcases h.2 with ⟨rfl, _⟩ | ⟨g, cap, cur, fz, rfl, hb, hg, _⟩
  · simp [Value.ownBlock] at hk
  · simp [Value.ownBlock] at hk
    subst hk
    exact ⟨hb, (Array.getElem?_eq_some_iff.1 hg).1⟩
theorem World.ownsM.kept {w' : World} {row : Option Nat} (h : w.ownsM base e v n xs) (hg : w.grownBy w' row) (hne : v.ownBlock = none ∨ v.ownBlock ≠ row) : w'.ownsM base e v n xs := by
  refine ⟨h.1, ?_⟩
  rcases h.2 with hn | ⟨g, cap, cur, fz, rfl, hb, hgg, rest⟩
  · exact .inl hn
  · refine .inr ⟨g, cap, cur, fz, rfl, hb, ?_, rest⟩
    rw [hg.block g (Array.getElem?_eq_some_iff.1 hgg).1 (by simpa [Value.ownBlock] using hne)]
    exact hgg
theorem World.ownsM.below {w' : World} (h : w.ownsM base e v n xs) (hb : Below w.heap.size w w') : w'.ownsM base e v n xs :=
  h.kept (row := none) ⟨hb.os, hb.tape, hb.output, hb.size, fun i hi _ => hb.block i hi⟩ (by cases hv : v.ownBlock <;> simp)
theorem World.ownsM.mono {base' : Nat} (h : w.ownsM base e v n xs) (hb : base' ≤ base) : w.ownsM base' e v n xs :=
  ⟨h.1, h.2.elim .inl fun ⟨g, cap, cur, fz, hv, hg, r⟩ => .inr ⟨g, cap, cur, fz, hv, Nat.le_trans hb hg, r⟩⟩
theorem World.ownsM.cells (h : w.ownsM base e v n xs) {g : Nat} (hg : v.ownBlock = some g) : ∀ j u, xs[j]? = some u → w.cell? ((⟨g, 0, none⟩ : Addr).add j) = some u := by
  intro j u hu
  rcases h.2 with ⟨rfl, _⟩ | ⟨g', cap, cur, fz, rfl, _, hgg, _, _, _, _, htake⟩
  · simp [Value.ownBlock] at hg
  · simp [Value.ownBlock] at hg
    subst hg
    have hadd : (⟨g', 0, none⟩ : Addr).add j = ⟨g', j, none⟩ := by unfold Addr.add; split <;> simp_all
    rw [hadd, cell_of_row w g' j cur e fz hgg]
    rw [← htake, List.getElem?_take] at hu
    split at hu
    · simpa using hu
    · cases hu
end
theorem run_storeCells_atM (P : Program) (g o : Nat) (t : TypeId) (fz : Nat × Nat) : ∀ (vs : List Value) (i : Nat) (cur : Array Value) (w : World), w.heap[g]? = some (.cells cur t fz) → (fz.2 ≤ o + i ∨ cur.size ≤ fz.1) → o + i + vs.length ≤ cur.size → (∀ v ∈ vs, v.oneCell' = true) →
    (storeCells ⟨g, o, none⟩ vs i).run P w = .ok () (w.setRow g (cur.toList.take (o + i) ++ vs ++ cur.toList.drop (o + i + vs.length)).toArray)
  | [], i, cur, w, hg, _, _, _ => by
    simp only [storeCells, List.append_nil, List.length_nil, Nat.add_zero, List.take_append_drop, Array.toArray_toList]
    rw [setRow_self w g cur t fz hg]
    rfl
  | v :: rest, i, cur, w, hg, hfz, hl, h1 => by
    have hi : o + i < cur.size := by simp at hl; omega
    have hadd : (⟨g, o, none⟩ : Addr).add i = ⟨g, o + i, none⟩ := by unfold Addr.add; split <;> simp_all
    have hcell : w.cell? ⟨g, o + i, none⟩ = some cur[o + i] := by simp [World.cell?, hg, hi]
    have hfro : w.frozen? ⟨g, o + i, none⟩ = false := by
      obtain ⟨lo, hi'⟩ := fz
      simp only [World.frozen?, hg, Bool.and_eq_false_iff, decide_eq_false_iff_not]
      simp only at hfz
      rcases hfz with h | h
      · right; omega
      · left; omega
    have hst : (store ((⟨g, o, none⟩ : Addr).add i) v).run P w = .ok () (w.setRow g (cur.setIfInBounds (o + i) v)) := by
      rw [hadd, run_store P w _ v _ (h1 v (by simp)), hcell]
      simp [hfro, setCell_eq_setRow w g (o + i) cur t fz v hg]
    have ih := run_storeCells_atM P g o t fz rest (i + 1) (cur.setIfInBounds (o + i) v) (w.setRow g (cur.setIfInBounds (o + i) v)) (setRow_heap w g cur _ t _ hg) (by simp; omega) (by simp at hl ⊢; omega) (fun x hx => h1 x (by simp [hx]))
    simp only [storeCells, Sem.run_bind, hst, Result.andThen_ok, ih, setRow_setRow]
    congr 3
    have e := list_seg_step cur.toList (o + i) v rest (by simp at hl ⊢; omega)
    simpa [Array.toList_setIfInBounds, Nat.add_assoc] using e
namespace Lib
section
variable {P : Program} (w : World)
theorem run_append_room_stringM (t u ty e : TypeId) (i : TypeInfo) (ht : P.underlying t = some (.slice e)) (hu : P.underlying u = some .string) (hi : P.info? e = some i) (hs1 : i.size = 1)
    (g sLen sCap : Nat) (cur : Array Value) (fz : Nat × Nat) (hg : w.heap[g]? = some (.cells cur e fz)) (hfz : fz.2 ≤ sLen ∨ cur.size ≤ fz.1) (s : ByteArray)
    (hroom : sLen + s.size ≤ sCap) (hfit : sLen + s.size ≤ cur.size) :
    (Builtin.append_ #[t, u] ty #[.slice (some ⟨g, 0, none⟩) sLen sCap, .string s]).run P w =
      .ok (.slice (some ⟨g, 0, none⟩) (sLen + s.size) sCap) (w.setRow g (cur.toList.take sLen ++ strCells s ++ cur.toList.drop (sLen + s.size)).toArray) := by
  have hf := run_firstCells_string (P := P) w 1 s
  have hst := run_storeCells_atM P g sLen e fz (strCells s) 0 cur w hg (by simpa using hfz) (by simpa [strCells_length] using hfit) (strCells_oneCell s)
  simp only [Nat.add_zero, strCells_length] at hst
  simp [Builtin.append_, run_underlying ht, run_underlying hu, sizeOf, typeInfo, hi, hs1, Builtin.lenOf, hroom, hf, Addr.add_lit, hst]
theorem run_append_own_stringM (base : Nat) (t u ty e : TypeId) (i : TypeInfo) (ht : P.underlying t = some (.slice e)) (hu : P.underlying u = some .string) (hi : P.info? e = some i) (hz : i.zero = some (.int .u8 0))
    (hsize : i.size = 1) (hby : i.bytes = 1)
    (v : Value) (n : Nat) (xs : List Value) (hown : w.ownsM base e v n xs) (s : ByteArray)
    (h63 : n + s.size ≤ maxLen) (hbytes : n + s.size ≤ 140737488355328) (hbase : base ≤ w.heap.size) :
    ∃ v' w', (Builtin.append_ #[t, u] ty #[v, .string s]).run P w = .ok v' w' ∧ w'.ownsM base e v' (n + s.size) (xs ++ strCells s) ∧ w.grownBy w' v.ownBlock ∧
      (v' = .slice none 0 0 ↔ v = .slice none 0 0 ∧ s.size = 0) := by
  rcases hown.2 with ⟨rfl, rfl⟩ | ⟨g, cap, cur, fz, rfl, hbg, hg, hfz, hnc, hcm, hcs, htake⟩
  · obtain ⟨v', w', h1, h2, h3, h4⟩ := run_append_own_string (P := P) w base t u ty e i ht hu hi hz hsize hby (.slice none 0 0) 0 xs ⟨by simpa using hown.1, .inl ⟨rfl, rfl⟩⟩ s h63 hbytes hbase
    exact ⟨v', w', h1, World.ownsM_of h2, h3, h4⟩
  · have hsmall : n + s.size ≤ 9223372036854775807 := by simp only [maxLen] at h63; omega
    have hxl : xs.length = n := hown.1
    have hlen : (xs ++ strCells s).length = n + s.size := by rw [List.length_append, hxl, strCells_length]
    by_cases hroom : n + s.size ≤ cap
    · have hr := run_append_room_stringM (P := P) w t u ty e i ht hu hi hsize g n cap cur fz hg (by rw [hcs]; exact hfz) s hroom (by omega)
      refine ⟨_, _, hr, ⟨hlen, .inr ⟨g, cap, _, fz, rfl, hbg, setRow_heap w g cur _ e _ hg, by omega, hroom, hcm, ?_, ?_⟩⟩, ⟨rfl, rfl, rfl, by simp, fun k _ hk => setRow_other w g k _ (fun e => hk (by simp [Value.ownBlock, e]))⟩, by simp⟩
      · simp only [List.size_toArray, List.length_append, List.length_take, List.length_drop, Array.length_toList, strCells_length]
        omega
      · rw [htake, ← hlen]
        exact List.take_left
    · have holds : ∀ j u, xs[j]? = some u → w.cell? ((⟨g, 0, none⟩ : Addr).add j) = some u := hown.cells (g := g) rfl
      have hr := run_append_grow_string (P := P) w t u ty e i (.int .u8 0) ht hu hi hz ⟨g, 0, none⟩ n cap xs (by rw [hsize]; simpa using hxl) holds s (by omega) (by omega) (by rw [hby]; exact growslice_fits (by omega) (by omega))
      have hge := grownCap_ge w (n + s.size) cap e
      have hcm2 : grownCap w (n + s.size) cap e ≤ maxLen := grownCap_le_maxLen w (n + s.size) cap e h63
      refine ⟨_, _, hr, ⟨hlen, .inr ⟨w.heap.size, _, _, (0, 0), rfl, hbase, heap_alloc_new w.drew _, .inl (Nat.zero_le _), hge, hcm2, ?_, ?_⟩⟩, ⟨rfl, rfl, rfl, by simp, fun k hk _ => heap_alloc_old w.drew _ hk⟩, by simp⟩
      · have hz1 : (Value.int IntKind.u8 0).cells.size = 1 := rfl
        simp only [Array.size_append, List.size_toArray, size_zeroCells, hz1, hxl, strCells_length]
        omega
      · simp only [Array.toList_append, List.append_assoc]
        rw [← List.append_assoc, ← hlen]
        exact List.take_left
theorem wpList_append_own_stringM {ops : Array Oper} {rest : List Oper} {o : Oper} {a : Act} {Q : Exit → Act → World → Prop} (hgd : o.guard = none) (sl x : Operand) (t u : TypeId)
    (ho : o.op = .call { callee := .builtin .append, args := #[sl, x], argTypes := #[t, u] })
    (base : Nat) (e : TypeId) (i : TypeInfo) (ht : P.underlying t = some (.slice e)) (hu : P.underlying u = some .string) (hi : P.info? e = some i) (hz : i.zero = some (.int .u8 0))
    (hsize : i.size = 1) (hby : i.bytes = 1)
    (v : Value) (n : Nat) (xs : List Value) (hs : a.eval sl = v) (hown : w.ownsM base e v n xs) (s : ByteArray) (hx : a.eval x = .string s)
    (h63 : n + s.size ≤ maxLen) (hbytes : n + s.size ≤ 140737488355328) (hbase : base ≤ w.heap.size)
    (h : ∀ v' w', w'.ownsM base e v' (n + s.size) (xs ++ strCells s) → w.grownBy w' v.ownBlock → (v' = .slice none 0 0 ↔ v = .slice none 0 0 ∧ s.size = 0) → wpList P ops Q rest (a.put o.dst v') w') : wpList P ops Q (o :: rest) a w := by
  refine wpList_plain hgd fun K hK => ?_
  obtain ⟨v', w', hr, h2, h3, h4⟩ := run_append_own_stringM (P := P) w base t u o.type e i ht hu hi hz hsize hby v n xs hown s h63 hbytes hbase
  unfold Oper.wp execOp
  simp only [ho, resolve, invoke, builtin, Sem.run_bind, Sem.run_pure, Result.andThen_ok, List.map_toArray, List.map_cons, List.map_nil, hs, hx, hr]
  exact hK _ _ (h v' w' h2 h3 h4)
/- A slice behind. -/
theorem run_append_roomM (t ty e : TypeId) (i : TypeInfo) (ht : P.underlying t = some (.slice e)) (hi : P.info? e = some i) (hs1 : i.size = 1)
    (g sLen sCap : Nat) (cur : Array Value) (fz : Nat × Nat) (hg : w.heap[g]? = some (.cells cur e fz)) (hfz : fz.2 ≤ sLen ∨ cur.size ≤ fz.1)
    (a : Addr) (m c : Nat) (news : List Value) (hl : news.length = m) (hnews : ∀ j u, news[j]? = some u → w.cell? (a.add j) = some u) (h1 : ∀ u ∈ news, u.oneCell' = true)
    (hroom : sLen + m ≤ sCap) (hfit : sLen + news.length ≤ cur.size) :
    (Builtin.append_ #[t, t] ty #[.slice (some ⟨g, 0, none⟩) sLen sCap, .slice (some a) m c]).run P w =
      .ok (.slice (some ⟨g, 0, none⟩) (sLen + m) sCap) (w.setRow g (cur.toList.take sLen ++ news ++ cur.toList.drop (sLen + news.length)).toArray) := by
  have hf := run_firstCells_some (P := P) w 1 m a m c news (by simpa using hl) hnews
  have hst := run_storeCells_atM P g sLen e fz news 0 cur w hg (by simpa using hfz) (by simpa using hfit) h1
  simp only [Nat.add_zero] at hst
  simp [Builtin.append_, run_underlying ht, sizeOf, typeInfo, hi, hs1, Builtin.lenOf, hroom, hf, Addr.add_lit, hst]
theorem run_append_ownM (base : Nat) (t ty e : TypeId) (i : TypeInfo) (z : Value) (ht : P.underlying t = some (.slice e)) (hi : P.info? e = some i) (hz : i.zero = some z)
    (hsize : i.size = 1) (hby : i.bytes = 1) (hzs : z.cells.size = 1)
    (v : Value) (n : Nat) (xs : List Value) (hown : w.ownsM base e v n xs)
    (a : Addr) (m c : Nat) (news : List Value) (hl : news.length = m) (hnews : ∀ j u, news[j]? = some u → w.cell? (a.add j) = some u) (h1 : ∀ u ∈ news, u.oneCell' = true)
    (h63 : n + m ≤ maxLen) (hbytes : n + m ≤ 140737488355328) (hbase : base ≤ w.heap.size) :
    ∃ v' w', (Builtin.append_ #[t, t] ty #[v, .slice (some a) m c]).run P w = .ok v' w' ∧ w'.ownsM base e v' (n + m) (xs ++ news) ∧ w.grownBy w' v.ownBlock ∧
      (v' = .slice none 0 0 ↔ v = .slice none 0 0 ∧ m = 0) := by
  rcases hown.2 with ⟨rfl, rfl⟩ | ⟨g, cap, cur, fz, rfl, hbg, hg, hfz, hnc, hcm, hcs, htake⟩
  · obtain ⟨v', w', h1', h2, h3, h4⟩ := run_append_own (P := P) w base t ty e i z 1 1 ht hi hz hsize hby hzs (by decide) (.slice none 0 0) 0 xs ⟨by simpa using hown.1, .inl ⟨rfl, rfl⟩⟩ a m c news (by simpa using hl) hnews h1 h63 (by simpa using hbytes) hbase
    exact ⟨v', w', h1', World.ownsM_of h2, h3, h4⟩
  · have hsmall : n + m ≤ 9223372036854775807 := by simp only [maxLen] at h63; omega
    have hxl : xs.length = n := hown.1
    have hlen : (xs ++ news).length = n + m := by rw [List.length_append, hxl, hl]
    by_cases hroom : n + m ≤ cap
    · have hr := run_append_roomM (P := P) w t ty e i ht hi hsize g n cap cur fz hg (by rw [hcs]; exact hfz) a m c news hl hnews h1 hroom (by omega)
      refine ⟨_, _, hr, ⟨hlen, .inr ⟨g, cap, _, fz, rfl, hbg, setRow_heap w g cur _ e _ hg, by omega, hroom, hcm, ?_, ?_⟩⟩, ⟨rfl, rfl, rfl, by simp, fun k _ hk => setRow_other w g k _ (fun e => hk (by simp [Value.ownBlock, e]))⟩, by simp⟩
      · simp only [List.size_toArray, List.length_append, List.length_take, List.length_drop, Array.length_toList]
        omega
      · rw [htake, ← hlen]
        exact List.take_left
    · have holds : ∀ j u, xs[j]? = some u → w.cell? ((⟨g, 0, none⟩ : Addr).add j) = some u := hown.cells (g := g) rfl
      have hr := run_append_grow (P := P) w t ty e i z ht hi hz ⟨g, 0, none⟩ n cap xs (by rw [hsize]; simpa using hxl) holds a m c news (by rw [hsize]; simpa using hl) hnews (by omega) (by omega) (by rw [hby]; exact growslice_fits (by omega) (by omega))
      have hge := grownCap_ge w (n + m) cap e
      have hcm2 : grownCap w (n + m) cap e ≤ maxLen := grownCap_le_maxLen w (n + m) cap e h63
      refine ⟨_, _, hr, ⟨hlen, .inr ⟨w.heap.size, _, _, (0, 0), rfl, hbase, heap_alloc_new w.drew _, .inl (Nat.zero_le _), hge, hcm2, ?_, ?_⟩⟩, ⟨rfl, rfl, rfl, by simp, fun k hk _ => heap_alloc_old w.drew _ hk⟩, by simp⟩
      · simp only [Array.size_append, List.size_toArray, size_zeroCells, hzs, hxl, hl]
        omega
      · simp only [Array.toList_append, List.append_assoc]
        rw [← List.append_assoc, ← hlen]
        exact List.take_left
theorem wpList_append_ownM {ops : Array Oper} {rest : List Oper} {o : Oper} {a : Act} {Q : Exit → Act → World → Prop} (hgd : o.guard = none) (s x : Operand) (t : TypeId)
    (ho : o.op = .call { callee := .builtin .append, args := #[s, x], argTypes := #[t, t] })
    (base : Nat) (e : TypeId) (i : TypeInfo) (z : Value) (ht : P.underlying t = some (.slice e)) (hi : P.info? e = some i) (hz : i.zero = some z)
    (hsize : i.size = 1) (hby : i.bytes = 1) (hzs : z.cells.size = 1)
    (v : Value) (n : Nat) (xs : List Value) (hs : a.eval s = v) (hown : w.ownsM base e v n xs)
    (ad : Addr) (m c : Nat) (news : List Value) (hx : a.eval x = .slice (some ad) m c) (hl : news.length = m) (hnews : ∀ j u, news[j]? = some u → w.cell? (ad.add j) = some u) (h1 : ∀ u ∈ news, u.oneCell' = true)
    (h63 : n + m ≤ maxLen) (hbytes : n + m ≤ 140737488355328) (hbase : base ≤ w.heap.size)
    (h : ∀ v' w', w'.ownsM base e v' (n + m) (xs ++ news) → w.grownBy w' v.ownBlock → (v' = .slice none 0 0 ↔ v = .slice none 0 0 ∧ m = 0) → wpList P ops Q rest (a.put o.dst v') w') : wpList P ops Q (o :: rest) a w := by
  refine wpList_plain hgd fun K hK => ?_
  obtain ⟨v', w', hr, h2, h3, h4⟩ := run_append_ownM (P := P) w base t o.type e i z ht hi hz hsize hby hzs v n xs hown ad m c news hl hnews h1 h63 hbytes hbase
  unfold Oper.wp execOp
  simp only [ho, resolve, invoke, builtin, Sem.run_bind, Sem.run_pure, Result.andThen_ok, List.map_toArray, List.map_cons, List.map_nil, hs, hx, hr]
  exact hK _ _ (h v' w' h2 h3 h4)
end
end Lib
end Go

/- A row of bytes that a conversion of a string has made, as a list of bytes; appending to it. -/
namespace Go.Proofs.YthlfhbhjiofneaaDoor
open Go.RowKit

def OwnM (B : Nat) (w : World) (v : Value) (l : List UInt8) : Prop := w.ownsM B 5 v l.length (Lib.byteCells l)
theorem OwnM.of {B : Nat} {w : World} {v : Value} {l : List UInt8} (h : OwnB B w v l) : OwnM B w v l := World.ownsM_of h
theorem OwnM.below {B : Nat} {w w' : World} {v : Value} {l : List UInt8} (h : OwnM B w v l) (hb : Below w.heap.size w w') : OwnM B w' v l := World.ownsM.below h hb
theorem OwnM.mono {B C : Nat} {w : World} {v : Value} {l : List UInt8} (hBC : B ≤ C) (h : OwnM C w v l) : OwnM B w v l := World.ownsM.mono h hBC
theorem OwnM.reads {B : Nat} {w : World} {v : Value} {l : List UInt8} (h : OwnM B w v l) : ReadsD w v l := by
  have hc := fun g hg => World.ownsM.cells h (g := g) hg
  rcases h.2 with ⟨rfl, hn⟩ | ⟨g, cap, cur, fz, rfl, hb, hg, _, hnc, hcm, _, _⟩
  · have : l = [] := List.eq_nil_of_length_eq_zero hn
    subst this
    exact readsB_nil w
  · refine ⟨_, _, rfl, hnc, hcm, fun h => (by cases h), fun j c hj => ⟨g, 0, rfl, (Array.getElem?_eq_some_iff.1 hg).1, ?_⟩⟩
    have := hc g rfl j _ (cellB_get hj)
    rw [Addr.add_lit] at this
    exact this
theorem OwnM.isSlice {B : Nat} {w : World} {v : Value} {l : List UInt8} (h : OwnM B w v l) : ∃ a c, v = .slice a l.length c := by
  obtain ⟨a, c, hv, _⟩ := h.reads
  exact ⟨a, c, hv⟩
theorem own_appM {B : Nat} {w : World} {v : Value} {l m : List UInt8} (h : w.ownsM B 5 v (l.length + m.length) (Lib.byteCells l ++ Lib.byteCells m)) : OwnM B w v (l ++ m) := by
  unfold OwnM; rw [List.length_append, ← cellB_app]; exact h
theorem below_appM {B : Nat} {a w w2 : World} {v : Value} {l : List UInt8} (hB : Below B a w) (hBs : B ≤ w.heap.size) (hown : OwnM B w v l) (hgrow : w.grownBy w2 v.ownBlock) : Below B a w2 :=
  hB.grown hgrow hBs (fun q hq => (World.ownsM.lt hown q hq).1)
/-- An append of bytes that are read. -/
theorem wpList_appendM {B : Nat} {w : World} {ops : Array Oper} {rest : List Oper} {o : Oper} {a : Act} {Q : Exit → Act → World → Prop} (hgd : o.guard = none) (s x : Operand)
    (ho : o.op = .call { callee := .builtin .append, args := #[s, x], argTypes := #[27, 27] }) (v v2 : Value) (hs : a.eval s = v) (hx : a.eval x = v2) {l m : List UInt8} (hown : OwnM B w v l) (hr : ReadsD w v2 m)
    (hne : m ≠ []) (hn : l.length + m.length ≤ 1000000000) (hB : B ≤ w.heap.size) (h : ∀ v' w', OwnM B w' v' (l ++ m) → w.grownBy w' v.ownBlock → wpList Tryd.prog ops Q rest (a.put o.dst v') w') :
    wpList Tryd.prog ops Q (o :: rest) a w := by
  obtain ⟨i0, hi, hz0, hz1, hz2⟩ := info_parts Tryd.infoB
  obtain ⟨ao, cap, rfl, hc⟩ := id hr
  cases ao with
  | none =>
    obtain ⟨rfl, _, rfl⟩ := readsB_none hr
    exact absurd rfl hne
  | some ad =>
    obtain ⟨_, hs'⟩ := readsB_src hr
    exact Lib.wpList_append_ownM w hgd s x 27 ho B 5 i0 _ Tryd.underlying27 hi hz0 hz1 hz2 rfl v l.length (Lib.byteCells l) hs hown ad m.length cap (Lib.byteCells m) hx (by rw [Lib.byteCells_length]) hs' (oneB m) (by unfold maxLen; omega) (by omega) hB
      fun v' w' h1 h2 _ => h v' w' (own_appM h1) h2
/-- An append of a string. -/
theorem wpList_appendMS {B : Nat} {w : World} {ops : Array Oper} {rest : List Oper} {o : Oper} {a : Act} {Q : Exit → Act → World → Prop} (hgd : o.guard = none) (s x : Operand)
    (ho : o.op = .call { callee := .builtin .append, args := #[s, x], argTypes := #[27, 9] }) (v : Value) (t : ByteArray) (hs : a.eval s = v) (hx : a.eval x = .string t) {l : List UInt8} (hown : OwnM B w v l)
    (hn : l.length + t.size ≤ 1000000000) (hB : B ≤ w.heap.size) (h : ∀ v' w', OwnM B w' v' (l ++ t.data.toList) → w.grownBy w' v.ownBlock → wpList Tryd.prog ops Q rest (a.put o.dst v') w') :
    wpList Tryd.prog ops Q (o :: rest) a w := by
  obtain ⟨i0, hi, hz0, hz1, hz2⟩ := info_parts Tryd.infoB
  refine Lib.wpList_append_own_stringM w hgd s x 27 9 ho B 5 i0 Tryd.underlying27 Tryd.underlying9 hi hz0 hz1 hz2 v l.length (Lib.byteCells l) hs hown t hx (by unfold maxLen; omega) (by omega) hB
      fun v' w' h1 h2 _ => h v' w' (own_appM ?_) h2
  have e : Lib.strCells t = Lib.byteCells t.data.toList := rfl
  have e2 : t.data.toList.length = t.size := by rw [Array.length_toList]; rfl
  rw [e2, ← e]
  exact h1
end Go.Proofs.YthlfhbhjiofneaaDoor

/- What the code's Size returns, for every list of fields. -/
namespace Go.Proofs.YthlfhbhjiofneaaDoor
open Go.RowKit

set_option maxHeartbeats 1000000 in
set_option maxRecDepth 100000 in
theorem size_any (fv : Value) (ps : Flds) (w : World) (hr : ReadsQ w fv ps) (hl : ps.length ≤ 1000) (hb : ∀ p ∈ ps, p.1.length + p.2.length ≤ 1000000) :
    Calls Tryd.prog 28 #[fv] w fun e w' => e = .returned (.int .i64 (sizL ps)) ∧ Below w.heap.size w w' := by
  obtain ⟨ao, cap, rfl, hc⟩ := hr
  have hs : ∀ k, sizL (ps.take k) ≤ k * 1000004 := by
    intro k
    induction k with
    | zero => simp [sizL]
    | succ k ih =>
      cases hp : ps[k]? with
      | none =>
        have e : ps.take (k + 1) = ps.take k := by rw [List.take_add_one, hp]; simp
        rw [e]; exact Nat.le_trans ih (Nat.mul_le_mul_right _ (Nat.le_succ k))
      | some p =>
        rw [siz_more hp]
        have := hb p (List.mem_of_getElem? hp)
        omega
  have HC := Lib.hid hc
  have HBig := Lib.hid hb
  have HS := Lib.hid hs
  clear hc hb hs
  go_enter Tryd.func28, Tryd.ntmps28
  go_wp2_with fail
  go_loopw [3, 8] (fun v i wr => ∃ k : Nat, i = .int .i64 k ∧ k ≤ ps.length ∧ v = .int .i64 (sizL (ps.take k)) ∧ Below w.heap.size w wr) (fun _ i _ => ps.length - (intOf i).toNat)
  case atStart => exact ⟨0, rfl, Nat.zero_le _, rfl, Below.refl _ _⟩
  case round =>
    obtain ⟨k, rfl, hk, rfl, hBr⟩ := hrel
    have hbr := hBr.size
    have hsk := HS.out k
    by_cases hlt : k < ps.length
    · obtain ⟨p, hp⟩ : ∃ p, ps[k]? = some p := ⟨ps[k], by simp [hlt]⟩
      obtain ⟨g, off, rfl, hg1, h1, h2⟩ := HC.out k p hp
      have hc1 : wr.cell? ⟨g, off + k * 2, none⟩ = some (.string (strB p.1)) := (hBr.cell (p := ⟨g, off + k * 2, none⟩) hg1).trans h1
      have hc2 : wr.cell? ⟨g, off + k * 2 + 1, none⟩ = some (.string (strB p.2)) := (hBr.cell (p := ⟨g, off + k * 2 + 1, none⟩) hg1).trans h2
      have hpl := HBig.out p (List.mem_of_getElem? hp)
      have e1 : (strB p.1).size = p.1.length := strB_size _
      have e2 : (strB p.2).size = p.2.length := strB_size _
      have hm := siz_more hp
      have HM := Lib.hid hm
      clear hp h1 h2 hm
      go_wp2
      go_roundw
      case rel => exact ⟨k + 1, by go_num, by omega, by rw [HM.out]; congr 1, hBr.alloc hbr _⟩
      case measure => simp [intOf]; omega
    · have htk : ps.take k = ps := List.take_of_length_le (by omega)
      rw [htk]
      go_wp2_with fail
      go_ret
      exact ⟨rfl, hBr⟩

end Go.Proofs.YthlfhbhjiofneaaDoor

/- What the program's Last returns. -/
namespace Go.Proofs.YthlfhbhjiofneaaDoor
open Go.RowKit

theorem siz_mem {ps : Flds} {p : List UInt8 × List UInt8} (h : p ∈ ps) : p.1.length + p.2.length + 4 ≤ sizL ps := by
  induction ps with
  | nil => cases h
  | cons q r ih =>
    simp only [sizL, List.foldr_cons]
    rcases List.mem_cons.1 h with rfl | h
    · omega
    · have := ih h; unfold sizL at this; omega
theorem siz_le (ps : Flds) (hb : ∀ p ∈ ps, p.1.length + p.2.length ≤ 1000000) : sizL ps ≤ ps.length * 1000004 := by
  induction ps with
  | nil => simp [sizL]
  | cons q r ih =>
    have h1 := hb q (List.mem_cons_self ..)
    have h2 := ih (fun p hp => hb p (List.mem_cons_of_mem _ hp))
    simp only [sizL, List.foldr_cons, List.length_cons] at h2 ⊢
    omega
theorem siz_lines (ps : Flds) : sizL ps = (linesT ps).length := by
  induction ps with
  | nil => rfl
  | cons q r ih =>
    rw [linesT_cons]
    simp only [sizL, List.foldr_cons] at ih ⊢
    rw [ih]
    simp [trLine, lowS]
    omega
def okLast (ts : Flds) : Bool := decide (ts.length ≤ 64) && (decide (sizL ts + 2 ≤ 8192) && ts.all goodTr)
theorem okLast_no1 {ts : Flds} (h : 64 < ts.length) : okLast ts = false := by unfold okLast; rw [decide_eq_false (by omega)]; rfl
theorem okLast_no2 {ts : Flds} (h : 8192 < sizL ts + 2) : okLast ts = false := by unfold okLast; rw [decide_eq_false (p := sizL ts + 2 ≤ 8192) (by omega)]; simp
theorem okLast_no3 {ts : Flds} {p : List UInt8 × List UInt8} (hp : p ∈ ts) (h : goodTr p = false) : okLast ts = false := by
  unfold okLast
  have : ts.all goodTr = false := by
    rw [Bool.eq_false_iff]
    intro ha
    rw [List.all_eq_true] at ha
    rw [ha p hp] at h; cases h
  rw [this]; simp
theorem okLast_yes {ts : Flds} (h1 : ts.length ≤ 64) (h2 : sizL ts + 2 ≤ 8192) (h : ∀ p ∈ ts, goodTr p = true) : okLast ts = true := by
  unfold okLast
  rw [decide_eq_true h1, decide_eq_true h2, List.all_eq_true.2 h]; rfl
theorem good_iff (p : List UInt8 × List UInt8) : goodTr p = (trB p.1 p.2 && decide (valueR p.2 = p.2)) := by
  unfold goodTr trB
  by_cases h1 : nameC p.1 = 0
  · by_cases h2 : valueC p.2 = 0
    · have e1 : nameR p.1 = lowS p.1 := by unfold nameR; rw [if_pos h1]
      have e2 : valueR p.2 = trimB p.2 := by unfold valueR; rw [if_pos h2]
      rw [e1, e2, h1, h2]
      cases forbB (lowS p.1) <;> simp
    · rw [decide_eq_false h2]; simp
  · rw [decide_eq_false h1]; simp
def LastPost (ts : Flds) (w : World) (e : Ending) (w' : World) : Prop :=
  ((okLast ts = true ∧ ∃ v, e = .returned (.tuple #[v, .nilIface]) ∧ OwnM w.heap.size w' v (lastL ts)) ∨ (okLast ts = false ∧ e = .returned (.tuple #[.slice none 0 0, .iface 41 (.int .i64 34)]))) ∧ Below w.heap.size w w'
theorem lines_more {ts : Flds} {k : Nat} {p : List UInt8 × List UInt8} (h : ts[k]? = some p) : linesT (ts.take (k + 1)) = linesT (ts.take k) ++ (trLine p ++ [13, 10]) := by
  rw [take_more h]; unfold linesT; simp
theorem conv_mark (W : World) (C : Array Value) (n c : Nat) : (convert 27 27 (.slice (some ⟨W.heap.size, 0, none⟩) n c)).run Tryd.prog (W.alloc (.cells C 5)) = .ok (.slice (some ⟨W.heap.size, 0, none⟩) n c) (W.alloc (.cells C 5 (C.size, C.size + 1))) :=
  Lib.run_convert_bytes_const (P := Tryd.prog) W 27 5 C n c Tryd.underlying27 Tryd.underlying5
theorem ownM_lit (w : World) (l : List UInt8) (hl : l.length ≤ 1000) : OwnM w.heap.size (w.alloc (.cells (Lib.byteCells l).toArray 5 (l.length, l.length + 1))) (.slice (some ⟨w.heap.size, 0, none⟩) l.length l.length) l := by
  refine ⟨Lib.byteCells_length l, .inr ⟨w.heap.size, l.length, _, _, rfl, Nat.le_refl _, heap_alloc_new w _, .inr (Nat.le_refl _), Nat.le_refl _, by unfold maxLen; omega, by simp [Lib.byteCells_length], ?_⟩⟩
  rw [List.take_of_length_le (by simp [Lib.byteCells_length])]
set_option maxHeartbeats 8000000 in
set_option maxRecDepth 100000 in
theorem lastP_any (fv : Value) (ts : Flds) (w : World) (hr : ReadsQ w fv ts) (hl : ts.length ≤ 1000) (hb : ∀ p ∈ ts, p.1.length + p.2.length ≤ 1000000) :
    Calls Tryd.prog 13 #[fv] w (LastPost ts w) := by
  have S := Lib.hid (size_any fv ts w hr hl hb)
  obtain ⟨ao, cap, rfl, hc⟩ := hr
  have HC := Lib.hid hc
  have HBig := Lib.hid hb
  clear hc hb
  by_cases h64 : 64 < ts.length
  · have HN := Lib.hid (okLast_no1 h64)
    go_enter Tryd.func13, Tryd.ntmps13
    go_wp2_with fail
    go_ret2
    exact ⟨.inr ⟨HN.out, rfl⟩, Below.refl _ _⟩
  · by_cases h92 : 8192 < sizL ts + 2
    · have HN := Lib.hid (okLast_no2 h92)
      have hs63 := siz_le ts HBig.out
      have hs64 : ts.length * 1000004 ≤ 1000 * 1000004 := Nat.mul_le_mul_right _ hl
      have hs9 : sizL ts ≤ 2000000000 := by omega
      clear hs63 hs64
      go_enter Tryd.func13, Tryd.ntmps13
      go_wp2_with fail
      refine S.out.mono ?_
      rintro e w1 ⟨rfl, hB⟩
      go_wp2_with fail
      go_ret2
      exact ⟨.inr ⟨HN.out, rfl⟩, hB⟩
    · have hsz : sizL ts ≤ 8190 := by omega
      go_enter Tryd.func13, Tryd.ntmps13
      go_wp2_with fail
      refine S.out.mono ?_
      rintro e w1 ⟨rfl, hB⟩
      have hcs := conv_mark w1 #[.int .u8 48, .int .u8 13, .int .u8 10] 3 3
      go_wp2_with fail
      have HA := Lib.hid (hB.trans ((below_new w1 (.cells #[.int .u8 48, .int .u8 13, .int .u8 10] 5 (3, 4))).mono hB.size))
      have HO := Lib.hid ((ownM_lit w1 [48, 13, 10] (by decide)).mono hB.size)
      change Code.wp _ _ _ _ (w1.alloc (.cells #[.int .u8 48, .int .u8 13, .int .u8 10] 5 (3, 4)))
      have hzz : (w1.alloc (.cells #[.int .u8 48, .int .u8 13, .int .u8 10] 5 (3, 4))).heap.size = w1.heap.size + 1 := by simp
      have hO1 : OwnM w.heap.size (w1.alloc (.cells #[.int .u8 48, .int .u8 13, .int .u8 10] 5 (3, 4))) (.slice (some ⟨w1.heap.size, 0, none⟩) 3 3) [48, 13, 10] := HO.out
      clear hcs HO S
      generalize w1.alloc (.cells #[.int .u8 48, .int .u8 13, .int .u8 10] 5 (3, 4)) = w2 at *
      go_loopw [4, 23] (fun b i wr => ∃ k : Nat, i = .int .i64 k ∧ k ≤ ts.length ∧ OwnM w.heap.size wr b (48 :: 13 :: 10 :: linesT (ts.take k)) ∧ (∀ p ∈ ts.take k, goodTr p = true) ∧ Below w.heap.size w wr) (fun _ i _ => ts.length - (intOf i).toNat)
      case atStart => exact ⟨0, rfl, Nat.zero_le _, hO1, fun p hp => by simp at hp, HA.out⟩
      case round =>
        obtain ⟨k, rfl, hk, hO, hg, hBr⟩ := hrel
        have HBR := Lib.hid hBr
        have HG := Lib.hid hg
        have HO := Lib.hid hO
        clear hBr hg hO hO1 hzz HA
        have hlk : (linesT (ts.take k)).length ≤ sizL ts := by
          rw [← siz_lines]
          have := siz_app (ts.take k) (ts.drop k)
          rw [List.take_append_drop] at this
          omega
        by_cases hlt : k < ts.length
        · obtain ⟨p, hp⟩ : ∃ p, ts[k]? = some p := ⟨ts[k], by simp [hlt]⟩
          obtain ⟨g, off, rfl, hg1, h1, h2⟩ := HC.out k p hp
          have hc1 : wr.cell? ⟨g, off + k * 2, none⟩ = some (.string (strB p.1)) := (HBR.out.cell (p := ⟨g, off + k * 2, none⟩) hg1).trans h1
          have hc2 : wr.cell? ⟨g, off + k * 2 + 1, none⟩ = some (.string (strB p.2)) := (HBR.out.cell (p := ⟨g, off + k * 2 + 1, none⟩) hg1).trans h2
          have hpl := siz_mem (List.mem_of_getElem? hp)
          have T := Lib.hid (fun W => trailer_any p.1 p.2 W (by omega) (by omega))
          have HP := Lib.hid hp
          clear hp h1 h2
          obtain ⟨x, y⟩ := p
          simp only at hc1 hc2 hpl T
          cases ht : trB x y with
          | false =>
            have HN := Lib.hid (okLast_no3 (List.mem_of_getElem? HP.out) (by rw [good_iff]; show (trB x y && _) = false; rw [ht]; rfl))
            have et : trV x y = .tuple #[.agg #[.string (strB []), .string (strB [])], .iface 41 (.int .i64 34)] := by unfold trV; rw [if_neg (by rw [ht]; simp)]
            rw [et] at T
            clear et ht
            go_wp2_with fail
            have HB3 := Lib.hid (HBR.out.alloc HBR.out.size (.cells #[.string (strB x), .string (strB y)] 52))
            refine (T.out _).mono ?_
            rintro e w3 ⟨rfl, hB3⟩
            have HB4 := Lib.hid (HB3.out.trans (hB3.mono HB3.out.size))
            clear hB3
            go_wp2_with fail
            go_ret2
            exact ⟨.inr ⟨HN.out, rfl⟩, HB4.out.alloc HB4.out.size _⟩
          | true =>
            have et : trV x y = .tuple #[.agg #[.string (strB (nameR x)), .string (strB (valueR y))], .nilIface] := by unfold trV; rw [if_pos ht]
            rw [et] at T
            have zx : (nameR x).length ≤ 64 := nameR_len x
            have zy : (valueR y).length ≤ 2048 := valueR_len y
            have sx : (strB (nameR x)).size = (nameR x).length := strB_size _
            have sy : (strB (valueR y)).size = (valueR y).length := strB_size _
            have HT := Lib.hid ht
            clear et ht
            by_cases hv : valueR y = y
            · have heq : ((strB (valueR y)).toList == (strB y).toList) = true := by rw [hv]; exact beq_self_eq_true _
              have hgp : goodTr (x, y) = true := by rw [good_iff]; show (trB x y && decide (valueR y = y)) = true; rw [HT.out, decide_eq_true hv]; rfl
              have HL := Lib.hid (lines_more HP.out)
              have HTR := Lib.hid (show (strB (nameR x) ++ (⟨#[58, 32]⟩ : ByteArray) ++ strB (valueR y) ++ (⟨#[13, 10]⟩ : ByteArray)).data.toList = trLine (x, y) ++ [13, 10] by
                have hn : nameR x = lowS x := by
                  have := HT.out
                  unfold trB at this
                  simp only [Bool.and_eq_true, decide_eq_true_eq] at this
                  unfold nameR; rw [if_pos this.1.1]
                rw [hv, hn]
                simp [strB, trLine])
              have HGP := Lib.hid hgp
              clear hv hgp
              go_wp2_with fail
              have HB3 := Lib.hid (HBR.out.alloc HBR.out.size (.cells #[.string (strB x), .string (strB y)] 52))
              have q1 : (wr.alloc (.cells #[.string (strB x), .string (strB y)] 52)).cell? ⟨wr.heap.size, 1, none⟩ = some (.string (strB y)) := by rw [World.cell?_alloc_at _ _ _ _ rfl]; rfl
              have hz : wr.heap.size < (wr.alloc (.cells #[.string (strB x), .string (strB y)] 52)).heap.size := by simp
              have HO3 := Lib.hid (HO.out.below (below_new wr (.cells #[.string (strB x), .string (strB y)] 52)))
              refine (T.out _).mono ?_
              rintro e w3 ⟨rfl, hB3⟩
              have HB4 := Lib.hid (HB3.out.trans (hB3.mono HB3.out.size))
              have q3 := (hB3.cell (p := ⟨wr.heap.size, 1, none⟩) hz).trans q1
              have hz3 := Nat.lt_of_lt_of_le hz hB3.size
              have HO4 := Lib.hid ((HO3.out.below hB3).below (below_new w3 (.cells #[.string (strB (nameR x)), .string (strB (valueR y))] 52)))
              have q4 := ((below_new w3 (.cells #[.string (strB (nameR x)), .string (strB (valueR y))] 52)).cell (p := ⟨wr.heap.size, 1, none⟩) hz3).trans q3
              have r0 : (w3.alloc (.cells #[.string (strB (nameR x)), .string (strB (valueR y))] 52)).cell? ⟨w3.heap.size, 0, none⟩ = some (.string (strB (nameR x))) := by rw [World.cell?_alloc_at _ _ _ _ rfl]; rfl
              have r1 : (w3.alloc (.cells #[.string (strB (nameR x)), .string (strB (valueR y))] 52)).cell? ⟨w3.heap.size, 1, none⟩ = some (.string (strB (valueR y))) := by rw [World.cell?_alloc_at _ _ _ _ rfl]; rfl
              have HB5 := Lib.hid (HB4.out.alloc HB4.out.size (.cells #[.string (strB (nameR x)), .string (strB (valueR y))] 52))
              clear hB3 q1 hz q3 HO3 HB3 hc1 hc2
              have z58 : (⟨#[58, 32]⟩ : ByteArray).size = 2 := rfl
              have z13 : (⟨#[13, 10]⟩ : ByteArray).size = 2 := rfl
              have HSZ := Lib.hid (show (48 :: 13 :: 10 :: linesT (ts.take k)).length + (strB (nameR x) ++ (⟨#[58, 32]⟩ : ByteArray) ++ strB (valueR y) ++ (⟨#[13, 10]⟩ : ByteArray)).size ≤ 1000000000 by simp only [ByteArray.size_append, sx, sy, z58, z13, List.length_cons]; omega)
              go_wp2_with (at_builtin; refine wpList_appendMS rfl _ _ rfl _ _ rfl rfl HO4.out HSZ.out HB5.out.size ?_; intro v' w6 hO6 hgr)
              rw [HTR.out] at hO6
              go_roundw
              case rel =>
                refine ⟨k + 1, by go_num, by omega, ?_, fun p hp => ?_, below_appM HB5.out HB5.out.size HO4.out hgr⟩
                · rw [HL.out]
                  exact hO6
                · rw [take_more HP.out] at hp
                  rcases List.mem_append.1 hp with h | h
                  · exact HG.out p h
                  · rw [List.mem_singleton.1 h]; exact HGP.out
              case measure => simp [intOf]; omega
            · have heq : ((strB (valueR y)).toList == (strB y).toList) = false := by
                rw [beq_eq_false_iff_ne]
                intro h
                rw [ByteArray.toList_eq, ByteArray.toList_eq, strB_list, strB_list] at h
                exact hv h
              have HN := Lib.hid (okLast_no3 (List.mem_of_getElem? HP.out) (by rw [good_iff]; show (trB x y && decide (valueR y = y)) = false; rw [decide_eq_false hv, Bool.and_false]))
              clear hv
              go_wp2_with fail
              have HB3 := Lib.hid (HBR.out.alloc HBR.out.size (.cells #[.string (strB x), .string (strB y)] 52))
              have q1 : (wr.alloc (.cells #[.string (strB x), .string (strB y)] 52)).cell? ⟨wr.heap.size, 1, none⟩ = some (.string (strB y)) := by rw [World.cell?_alloc_at _ _ _ _ rfl]; rfl
              have hz : wr.heap.size < (wr.alloc (.cells #[.string (strB x), .string (strB y)] 52)).heap.size := by simp
              refine (T.out _).mono ?_
              rintro e w3 ⟨rfl, hB3⟩
              have HB4 := Lib.hid (HB3.out.trans (hB3.mono HB3.out.size))
              have q3 := (hB3.cell (p := ⟨wr.heap.size, 1, none⟩) hz).trans q1
              have hz3 := Nat.lt_of_lt_of_le hz hB3.size
              have q4 := ((below_new w3 (.cells #[.string (strB (nameR x)), .string (strB (valueR y))] 52)).cell (p := ⟨wr.heap.size, 1, none⟩) hz3).trans q3
              have r1 : (w3.alloc (.cells #[.string (strB (nameR x)), .string (strB (valueR y))] 52)).cell? ⟨w3.heap.size, 1, none⟩ = some (.string (strB (valueR y))) := by rw [World.cell?_alloc_at _ _ _ _ rfl]; rfl
              have HB5 := Lib.hid (HB4.out.alloc HB4.out.size (.cells #[.string (strB (nameR x)), .string (strB (valueR y))] 52))
              clear hB3 q1 hz q3 HB3 hc1 hc2
              go_wp2_with fail
              go_ret2
              exact ⟨.inr ⟨HN.out, rfl⟩, HB5.out⟩
        · have htk : ts.take k = ts := List.take_of_length_le (by omega)
          rw [htk] at HO HG hlk
          have HN := Lib.hid (okLast_yes (by omega) (by omega) HG.out)
          have HSZ := Lib.hid (show (48 :: 13 :: 10 :: linesT ts).length + (⟨#[13, 10]⟩ : ByteArray).size ≤ 1000000000 by show _ + 2 ≤ _; simp only [List.length_cons]; omega)
          go_wp2_with (at_builtin; refine wpList_appendMS rfl _ _ rfl _ _ rfl rfl HO.out HSZ.out HBR.out.size ?_; intro v' w6 hO6 hgr)
          go_ret2
          exact ⟨.inl ⟨HN.out, _, rfl, hO6⟩, below_appM HBR.out HBR.out.size HO.out hgr⟩
end Go.Proofs.YthlfhbhjiofneaaDoor

/- What the program's Encode returns. -/
namespace Go.Proofs.YthlfhbhjiofneaaDoor
open Go.RowKit

theorem chunk_len {b : List UInt8} (h : b.length ≤ 65536) : (chunkL b).length ≤ b.length + 11 := by
  unfold chunkL
  split
  · simp
  · have := (hexT_len 6 b.length (by omega)).2
    simp
    omega
theorem chunks_more {ls : List (List UInt8)} {k : Nat} {l : List UInt8} (h : ls[k]? = some l) : chunksL (ls.take (k + 1)) = chunksL (ls.take k) ++ chunkL l := by
  rw [moreK_at h]; unfold chunksL; simp
theorem chunks_len {ls : List (List UInt8)} {k : Nat} (hk : k ≤ ls.length) (h : sumL (ls.take k) ≤ 65536) : (chunksL (ls.take k)).length ≤ sumL (ls.take k) + 11 * k := by
  induction k with
  | zero => simp [chunksL, sumL]
  | succ k ih =>
    obtain ⟨l, hl⟩ : ∃ l, ls[k]? = some l := ⟨ls[k], by simp⟩
    rw [sumL_more hl] at h
    have h1 := ih (by omega) (by omega)
    have h2 := chunk_len (b := l) (by omega)
    rw [chunks_more hl, sumL_more hl, List.length_append]
    omega
theorem sum_over {ls : List (List UInt8)} {k : Nat} {l : List UInt8} (h : ls[k]? = some l) (ho : 65536 < sumL (ls.take k) + l.length) : 65536 < sumL ls := by
  have h1 := sumL_more h
  have h2 := sumL_take_le ls (k + 1)
  omega
def EncPost (ls : List (List UInt8)) (ts : Flds) (w : World) (e : Ending) (w' : World) : Prop :=
  ((65536 < sumL ls ∧ e = .returned (.tuple #[.slice none 0 0, .iface 41 (.int .i64 5)])) ∨
   (sumL ls ≤ 65536 ∧ okLast ts = false ∧ e = .returned (.tuple #[.slice none 0 0, .iface 41 (.int .i64 34)])) ∨
   (sumL ls ≤ 65536 ∧ okLast ts = true ∧ ∃ v, e = .returned (.tuple #[v, .nilIface]) ∧ OwnB w.heap.size w' v (encL ls ts))) ∧ Below w.heap.size w w'
theorem below_appB {B : Nat} {a w w2 : World} {v : Value} {l : List UInt8} (hB : Below B a w) (hBs : B ≤ w.heap.size) (hown : OwnB B w v l) (hgrow : w.grownBy w2 v.ownBlock) : Below B a w2 :=
  hB.grown hgrow hBs (fun q hq => (World.ownsRow.lt hown q hq).1)
theorem okLast_siz {ts : Flds} (h : okLast ts = true) : sizL ts + 2 ≤ 8192 := by
  unfold okLast at h
  simp only [Bool.and_eq_true, decide_eq_true_eq] at h
  exact h.2.1
theorem last_len (ts : Flds) : (lastL ts).length = sizL ts + 5 := by rw [siz_lines]; simp [lastL]
set_option maxHeartbeats 8000000 in
set_option maxRecDepth 100000 in
theorem encode_any (pv fv : Value) (ls : List (List UInt8)) (ts : Flds) (w : World) (hd : HasDb w) (hp : ReadsL w pv ls) (hr : ReadsQ w fv ts) (hpl : ls.length ≤ 1000) (hl : ts.length ≤ 1000) (hb : ∀ p ∈ ts, p.1.length + p.2.length ≤ 1000000) (hl9 : ∀ l ∈ ls, l.length ≤ 140737488355328) :
    Calls Tryd.prog 15 #[pv, fv] w (EncPost ls ts w) := by
  have HL := Lib.hid (fun (W : World) (hB : Below w.heap.size w W) => lastP_any fv ts W (hr.below hB) hl hb)
  obtain ⟨ao, cap, rfl, hc⟩ := hp
  have HC := Lib.hid hc
  have HD := Lib.hid hd
  have H9 := Lib.hid hl9
  clear hc hd hr hl hb hl9
  go_enter Tryd.func15, Tryd.ntmps15
  go_wp2_with fail
  go_loopw [6, 7, 14] (fun b r i wr => ∃ k : Nat, i = .int .i64 k ∧ k ≤ ls.length ∧ r = .int .i64 (65536 - (sumL (ls.take k) : Int)) ∧ sumL (ls.take k) ≤ 65536 ∧ OwnB w.heap.size wr b (chunksL (ls.take k)) ∧ Below w.heap.size w wr) (fun _ _ i _ => ls.length - (intOf i).toNat)
  case atStart => exact ⟨0, rfl, Nat.zero_le _, rfl, by simp [sumL], OwnB.nil _ _, Below.refl _ _⟩
  case round =>
    obtain ⟨k, rfl, hk, rfl, hs, hO, hBr⟩ := hrel
    have HBR := Lib.hid hBr
    have HO := Lib.hid hO
    have hcl := chunks_len hk hs
    clear hBr hO
    by_cases hlt : k < ls.length
    · obtain ⟨l, hl⟩ : ∃ l, ls[k]? = some l := ⟨ls[k], by simp [hlt]⟩
      obtain ⟨g, off, x, rfl, hg, hcell, hx⟩ := HC.out k l hl
      have hc1 : wr.cell? ⟨g, off + k, none⟩ = some x := (HBR.out.cell (p := ⟨g, off + k, none⟩) hg).trans hcell
      have hx2 := Lib.hid (hx.below HBR.out)
      have h9 := H9.out l (List.mem_of_getElem? hl)
      obtain ⟨xa, xc, rfl, _⟩ := id hx
      by_cases ho : 65536 < sumL (ls.take k) + l.length
      · have HS := Lib.hid (sum_over hl ho)
        clear hl hcell hx
        have hcond : (65536 : Int) - (sumL (ls.take k) : Int) < (l.length : Int) := by omega
        go_wp2_with fail
        go_ret2
        exact ⟨.inl ⟨HS.out, rfl⟩, HBR.out⟩
      · have HM := Lib.hid (sumL_more hl)
        have HK := Lib.hid (chunks_more hl)
        have hcl2 := chunk_len (b := l) (by omega)
        have CH := Lib.hid (chunk_any (.slice xa l.length xc) l wr hx2.out (by omega) (HD.out.below HBR.out))
        have hw1 : ¬ (65536 : Int) - (sumL (ls.take k) : Int) < (l.length : Int) := by omega
        clear hl hcell hx
        go_wp2_with fail
        refine CH.out.mono ?_
        rintro e w3 ⟨v3, rfl, hO3, hB3⟩
        have HO4 := Lib.hid (HO.out.below hB3)
        have HR3 := Lib.hid hO3.reads
        have HB4 := Lib.hid (HBR.out.trans (hB3.mono HBR.out.size))
        clear hO3 hB3
        go_wp2_with (at_builtin; refine wpList_appendB (by rfl) _ _ (by rfl) _ _ (by rfl) (by rfl) HO4.out HR3.out (by omega) HB4.out.size ?_; intro v' w6 hO6 hgr)
        go_roundw
        case rel => exact ⟨k + 1, by go_num, by omega, by rw [HM.out]; go_num, by rw [HM.out]; omega, by rw [HK.out]; exact hO6, below_appB HB4.out HB4.out.size HO4.out hgr⟩
        case measure => simp [intOf]; omega
    · have htk : ls.take k = ls := List.take_of_length_le (by omega)
      rw [htk] at HO hs hcl ⊢
      go_wp2_with fail
      refine (HL.out wr HBR.out).mono ?_
      rintro e w3 ⟨hcase, hB3⟩
      have HB4 := Lib.hid (HBR.out.trans (hB3.mono HBR.out.size))
      have HO4 := Lib.hid (HO.out.below hB3)
      clear hB3
      rcases hcase with ⟨hok, v3, rfl, hO3⟩ | ⟨hok, rfl⟩
      · have HOK := Lib.hid hok
        have HR3 := Lib.hid hO3.reads
        have hll := last_len ts
        have hsz := okLast_siz hok
        clear hok hO3
        go_wp2_with (at_builtin; refine wpList_appendB (by rfl) _ _ (by rfl) _ _ (by rfl) (by rfl) HO4.out HR3.out (by omega) HB4.out.size ?_; intro v' w6 hO6 hgr)
        go_ret2
        exact ⟨.inr (.inr ⟨hs, HOK.out, _, rfl, hO6⟩), below_appB HB4.out HB4.out.size HO4.out hgr⟩
      · have HOK := Lib.hid hok
        clear hok
        go_wp2_with fail
        go_ret2
        exact ⟨.inr (.inl ⟨hs, HOK.out, rfl⟩), HB4.out⟩
end Go.Proofs.YthlfhbhjiofneaaDoor
