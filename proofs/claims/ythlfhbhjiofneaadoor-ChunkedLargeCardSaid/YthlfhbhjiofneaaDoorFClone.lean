/- What slices.Clone returns of a list of fields. -/
import Derived.Test.YthlfhbhjiofneaaDoorJAppF
import Derived.Lib.SliceRun
namespace Go.Proofs.YthlfhbhjiofneaaDoor
open Go.RowKit

theorem own_madeC (w : World) : (w.alloc (.cells #[] 52)).ownsRow w.heap.size 52 2 (.slice (some ⟨w.heap.size, 0, none⟩) 0 0) 0 [] :=
  World.ownsRow_made w #[] 0 (Nat.le_refl _) (Nat.zero_le _) (by simp)
set_option maxHeartbeats 1000000 in
set_option maxRecDepth 100000 in
theorem clone_any (fv : Value) (ps : Flds) (w : World) (hr : ReadsQ w fv ps) (hp : Sane fv) (hl : ps.length ≤ 1000) :
    Calls Tryd.prog 31 #[fv] w fun e w' => ∃ v, e = .returned v ∧ OwnsP 52 w.heap.size w' v ps ∧ Below w.heap.size w w' := by
  obtain ⟨i0, hi, hz0, hz1, hz2⟩ := info_parts Tryd.infoF
  have q22 : ∀ (w : World) (a : Option Addr) (n c n' c' : Nat), (binOp .eql 37 (.slice a n c) (.slice none n' c')).run Tryd.prog w = .ok (.bool a.isNone) w := fun w a n c n' c' => Lib.run_eql_slice_nil w _ _ a n c n' c' Tryd.underlying37
  obtain ⟨ao, cap, rfl, hc⟩ := id hr
  clear hc
  cases ao with
  | none =>
    obtain ⟨rfl, _⟩ := readsF_none hr
    obtain rfl := (hp _ _ _ rfl).2 rfl
    clear hr
    go_enter Tryd.func31, Tryd.ntmps31
    go_wp2
    go_ret
    exact ⟨_, rfl, OwnsP.nil _ _ _, Below.refl _ _⟩
  | some ad =>
    have hs := (readsF_src hr).2
    have HS := Lib.hid hs
    clear hr hs
    go_enter Tryd.func31, Tryd.ntmps31
    go_wp2_with (at_builtin; refine wpList_append_own _ rfl _ _ 37 rfl w.heap.size 52 i0 (.agg #[.string ByteArray.empty, .string ByteArray.empty]) 2 32 Tryd.underlying37 hi hz0 hz1 hz2 rfl (by decide) _ _ _ rfl (own_madeC w) ad ps.length cap (flatP ps) rfl (flatP_len ps) (fun j u hj => Lib.cell?_alloc_some _ (HS.out j u hj)) (flatF_one ps) (by unfold maxLen; simp; omega) (by simp; omega) (by simp) ?_; intro v' w1 hown hgrow _)
    go_wp2
    go_ret
    refine ⟨v', rfl, ?_, ?_⟩
    · have h : w1.ownsRow w.heap.size 52 2 v' (([] : Flds).length + ps.length) (flatP [] ++ flatP ps) := by simpa [flatP] using hown
      have := own_appF (ps := []) h
      simpa using this
    · exact ((Below.refl _ w).alloc (Nat.le_refl _) _).grown hgrow (by simp) (fun k hk => (World.ownsRow.lt (own_madeC w) k hk).1)
end Go.Proofs.YthlfhbhjiofneaaDoor
