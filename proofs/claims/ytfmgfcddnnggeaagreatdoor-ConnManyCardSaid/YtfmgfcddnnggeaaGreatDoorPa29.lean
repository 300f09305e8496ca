import Derived.Test.YtfmgfcddnnggeaaGreatDoorPa26
import Derived.Test.YtfmgfcddnnggeaaGreatDoorPa9
import Derived.Maps.AppendAt
import Derived.Lib.AppendZeros
import Derived.IntWalk
import Derived.Test.YtfmgfcddnnggeaaGreatDoorPa27
import Derived.Test.YtfmgfcddnnggeaaGreatDoorPa6
import Derived.Lib.TrailingZeros
/- The statements' Ref: the reference's fields of the program's; an append of bytes that says where the new slice lies. -/
namespace Go.Proofs.YtfmgfcddnnggeaaGreatDoor
open Go.RowKit

/-- An append of bytes that are read to a slice of bytes of the call's own, whatever the guard; where the new slice lies. -/
theorem wpList_appendA {B : Nat} {w : World} {ops : Array Oper} {rest : List Oper} {o : Oper} {a : Act} {Q : Exit → Act → World → Prop} (hw : Region.wanted o (yielded ops a.tmps) = true) (s x : Operand)
    (ho : o.op = .call { callee := .builtin .append, args := #[s, x], argTypes := #[30, 30] }) (v v2 : Value) (hs : a.eval s = v) (hx : a.eval x = v2) {l m : List UInt8} (hown : OwnB B w v l) (hr : ReadsD w v2 m)
    (hn : l.length + m.length ≤ 1000000000) (hB : B ≤ w.heap.size) (h : ∀ v' w', OwnB B w' v' (l ++ m) → w.grownBy w' v.ownBlock → (v'.ownBlock = v.ownBlock ∨ v'.ownBlock = some w.heap.size) → wpList Tryz.prog ops Q rest (a.put o.dst v') w') :
    wpList Tryz.prog ops Q (o :: rest) a w := by
  obtain ⟨i0, hi, hz0, hz1, hz2⟩ := info_parts Tryz.infoB
  refine BigFrame.wpList_want hw fun K hK => ?_
  obtain ⟨ao, cap, rfl, hc⟩ := id hr
  cases ao with
  | none =>
    obtain ⟨rfl, _, rfl⟩ := readsB_none hr
    have hrun := run_append_owned_none (P := Tryz.prog) (w := w) B 30 o.type 5 i0 1 Tryz.underlying30 hi v l.length (Lib.byteCells l) hown
    unfold Oper.wp
    simp [execOp, ho, resolve, invoke, builtin, hs, hx, hrun, Result.andThen]
    exact hK _ _ (h v w (by rw [List.append_nil]; exact hown) ⟨rfl, rfl, rfl, Nat.le_refl _, fun _ _ _ => rfl⟩ (.inl rfl))
  | some ad =>
    obtain ⟨_, hs'⟩ := readsB_src hr
    obtain ⟨v', w', hr', h2, h3, h4, h5⟩ := run_append_own_at (P := Tryz.prog) w B 30 o.type 5 i0 _ 1 1 Tryz.underlying30 hi hz0 hz1 hz2 rfl (by decide) v l.length (Lib.byteCells l) hown ad m.length cap (Lib.byteCells m) (by rw [Lib.byteCells_length]; omega) hs' (oneB m) (by unfold maxLen; omega) (by omega) hB
    unfold Oper.wp execOp
    simp only [ho, resolve, invoke, builtin, Sem.run_bind, Sem.run_pure, Result.andThen_ok, List.map_toArray, List.map_cons, List.map_nil, hs, hx, hr']
    exact hK _ _ (h v' w' (own_appB h2) h3 h5)
end Go.Proofs.YtfmgfcddnnggeaaGreatDoor

/- What slices.Grow and slices.Concat return for slices of bytes. -/
namespace Go.Proofs.YtfmgfcddnnggeaaGreatDoor
open Go.RowKit

/-- The flat bytes of the first k. -/
theorem flat_more {ls : List (List UInt8)} {k : Nat} {l : List UInt8} (h : ls[k]? = some l) : (ls.take (k + 1)).flatten = (ls.take k).flatten ++ l := by
  rw [List.take_add_one, h]; simp
theorem sumL_take (ls : List (List UInt8)) (k : Nat) : sumL (ls.take k) ≤ sumL ls := by
  have := sumL_app (ls.take k) (ls.drop k)
  rw [List.take_append_drop] at this
  omega
end Go.Proofs.YtfmgfcddnnggeaaGreatDoor

/- What strconv.FormatInt returns in base 16. -/
namespace Go.Proofs.YtfmgfcddnnggeaaGreatDoor
open Go.RowKit

end Go.Proofs.YtfmgfcddnnggeaaGreatDoor
