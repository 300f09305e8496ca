/- The statements' Ref: the reference's fields of the program's; an append of bytes that says where the new slice lies. -/
import Derived.Test.YtikkaakgehaenaaDoorKParts
import Derived.Test.YtikkaakgehaenaaDoorFOwn
import Derived.Maps.AppendAt
namespace Go.Proofs.YtikkaakgehaenaaDoor
open Go.RowKit

theorem Tryd.infoGK : (Tryd.prog.info? 67).map (fun i => (i.zero, i.size, i.bytes)) = some (some (.agg #[.string ByteArray.empty, .string ByteArray.empty]), 2, 32) := by kernel_rfl
/-- An append of bytes that are read to a slice of bytes of the call's own, whatever the guard; where the new slice lies. -/
theorem wpList_appendA {B : Nat} {w : World} {ops : Array Oper} {rest : List Oper} {o : Oper} {a : Act} {Q : Exit → Act → World → Prop} (hw : Region.wanted o (yielded ops a.tmps) = true) (s x : Operand)
    (ho : o.op = .call { callee := .builtin .append, args := #[s, x], argTypes := #[27, 27] }) (v v2 : Value) (hs : a.eval s = v) (hx : a.eval x = v2) {l m : List UInt8} (hown : OwnB B w v l) (hr : ReadsD w v2 m)
    (hn : l.length + m.length ≤ 1000000000) (hB : B ≤ w.heap.size) (h : ∀ v' w', OwnB B w' v' (l ++ m) → w.grownBy w' v.ownBlock → (v'.ownBlock = v.ownBlock ∨ v'.ownBlock = some w.heap.size) → wpList Tryd.prog ops Q rest (a.put o.dst v') w') :
    wpList Tryd.prog ops Q (o :: rest) a w := by
  obtain ⟨i0, hi, hz0, hz1, hz2⟩ := info_parts Tryd.infoB
  refine BigFrame.wpList_want hw fun K hK => ?_
  obtain ⟨ao, cap, rfl, hc⟩ := id hr
  cases ao with
  | none =>
    obtain ⟨rfl, _, rfl⟩ := readsB_none hr
    have hrun := run_append_owned_none (P := Tryd.prog) (w := w) B 27 o.type 5 i0 1 Tryd.underlying27 hi v l.length (Lib.byteCells l) hown
    unfold Oper.wp
    simp [execOp, ho, resolve, invoke, builtin, hs, hx, hrun, Result.andThen]
    exact hK _ _ (h v w (by rw [List.append_nil]; exact hown) ⟨rfl, rfl, rfl, Nat.le_refl _, fun _ _ _ => rfl⟩ (.inl rfl))
  | some ad =>
    obtain ⟨_, hs'⟩ := readsB_src hr
    obtain ⟨v', w', hr', h2, h3, h4, h5⟩ := run_append_own_at (P := Tryd.prog) w B 27 o.type 5 i0 _ 1 1 Tryd.underlying27 hi hz0 hz1 hz2 rfl (by decide) v l.length (Lib.byteCells l) hown ad m.length cap (Lib.byteCells m) (by rw [Lib.byteCells_length]; omega) hs' (oneB m) (by unfold maxLen; omega) (by omega) hB
    unfold Oper.wp execOp
    simp only [ho, resolve, invoke, builtin, Sem.run_bind, Sem.run_pure, Result.andThen_ok, List.map_toArray, List.map_cons, List.map_nil, hs, hx, hr']
    exact hK _ _ (h v' w' (own_appB h2) h3 h5)
end Go.Proofs.YtikkaakgehaenaaDoor
