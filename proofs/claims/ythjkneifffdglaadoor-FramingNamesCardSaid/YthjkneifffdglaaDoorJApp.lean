/- Appends of strings that are read to a slice of strings that the call made. -/
import Derived.Test.YthjkneifffdglaaDoorFOwn
import Derived.BigFrame
import Derived.Deep.RegionLaw
import Derived.Deep.AppendLies
namespace Go.Proofs.YthjkneifffdglaaDoor
open Go.RowKit

theorem saneS {B : Nat} {w : World} {v : Value} {ls : List (List UInt8)} (h : OwnsS B w v ls) : Sane v := by
  rcases h with ⟨hl, ⟨hv, hn⟩ | ⟨g, cap, cur, hv, hb, hg, hn, _⟩⟩
  · intro a n c e; rw [hv] at e; cases e; exact ⟨Nat.le_refl _, fun _ => rfl⟩
  · intro a n c e; rw [hv] at e; cases e; exact ⟨hn, fun h => by cases h⟩
theorem own_appS {B : Nat} {w : World} {v : Value} {ls ms : List (List UInt8)} (h : w.ownsRow B 9 1 v (ls.length + ms.length) (ls.map strV ++ ms.map strV)) : OwnsS B w v (ls ++ ms) := by
  unfold OwnsS; rw [List.length_append, List.map_append]; exact h
/-- An append of strings that are read to a slice that the call made, whatever the guard. -/
theorem wpList_appendS {B : Nat} {w : World} {ops : Array Oper} {rest : List Oper} {o : Oper} {a : Act} {Q : Exit → Act → World → Prop} (hw : Region.wanted o (yielded ops a.tmps) = true) (s x : Operand)
    (ho : o.op = .call { callee := .builtin .append, args := #[s, x], argTypes := #[73, 73] }) (v v2 : Value) (hs : a.eval s = v) (hx : a.eval x = v2) {ls ms : List (List UInt8)} (hown : OwnsS B w v ls) (hr : ReadsS w v2 ms) (hp : Sane v2)
    (hn : ls.length + ms.length ≤ 100000) (hB : B ≤ w.heap.size) (h : ∀ v' w', OwnsS B w' v' (ls ++ ms) → w.grownBy w' v.ownBlock → wpList Tryd.prog ops Q rest (a.put o.dst v') w') :
    wpList Tryd.prog ops Q (o :: rest) a w := by
  obtain ⟨i0, hi, hz0, hz1, hz2⟩ := info_parts Tryd.infoS
  refine BigFrame.wpList_want hw fun K hK => ?_
  obtain ⟨ao, cap, rfl, hc⟩ := hr
  cases ao with
  | none =>
    have hm : ms = [] := by
      cases ms with
      | nil => rfl
      | cons m r => obtain ⟨g, off, ha, _⟩ := hc 0 m rfl; cases ha
    subst hm
    obtain rfl := (hp _ _ _ rfl).2 rfl
    have hrun := run_append_owned_none (P := Tryd.prog) (w := w) B 73 o.type 9 i0 1 Tryd.underlying73 hi v ls.length (ls.map strV) hown
    unfold Oper.wp
    simp [execOp, ho, resolve, invoke, builtin, hs, hx, hrun, Result.andThen]
    exact hK _ _ (h v w (by rw [List.append_nil]; exact hown) ⟨rfl, rfl, rfl, Nat.le_refl _, fun _ _ _ => rfl⟩)
  | some ad =>
    refine wp_append_own w s x 73 ho B 9 i0 _ 1 16 Tryd.underlying73 hi hz0 hz1 hz2 rfl (by decide) v ls.length (ls.map strV) hs hown ad ms.length cap (ms.map strV) hx (by simp) (fun j u hj => ?_) (fun u hu => ?_) (by unfold maxLen; omega) (by omega) hB
      fun v' w' h1 h2 _ => hK _ _ (h v' w' (own_appS h1) h2)
    · rw [List.getElem?_map] at hj
      cases hm : ms[j]? with
      | none => rw [hm] at hj; cases hj
      | some m =>
        rw [hm] at hj
        simp only [Option.map_some, Option.some.injEq] at hj
        obtain ⟨g, off, ha, _, h1⟩ := hc j m hm
        obtain rfl : ad = ⟨g, off, none⟩ := Option.some.inj ha
        rw [Addr.add_lit, ← hj]; exact h1
    · obtain ⟨m, _, rfl⟩ := List.mem_map.mp hu; rfl
/-- What was there is as it was, behind an append that makes no new variable. -/
theorem below_appendS {B : Nat} {a w w2 : World} {v : Value} {ls : List (List UInt8)} (hB : Below B a w) (hBs : B ≤ w.heap.size) (hown : OwnsS B w v ls) (hgrow : w.grownBy w2 v.ownBlock) : Below B a w2 :=
  hB.grown hgrow hBs (fun q hq => (World.ownsRow.lt hown q hq).1)
/-- The end of a slice of strings. -/
theorem OwnsS.isSlice {B : Nat} {w : World} {v : Value} {ls : List (List UInt8)} (h : OwnsS B w v ls) : ∃ a c, v = .slice a ls.length c := by
  obtain ⟨ao, cap, rfl, _⟩ := h.reads; exact ⟨ao, cap, rfl⟩
end Go.Proofs.YthjkneifffdglaaDoor
