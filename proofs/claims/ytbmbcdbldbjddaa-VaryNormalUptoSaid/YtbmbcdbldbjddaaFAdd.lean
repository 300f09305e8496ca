/- What the code's Add and the reference's Add return. -/
import Derived.Test.YtbmbcdbldbjddaaFAre
import Derived.Test.YtbmbcdbldbjddaaFSet
import Derived.Lib.SliceRun
import Derived.Test.YtbmbcdbldbjddaaRefLower
namespace Go.Proofs.Ytbmbcdbldbjddaa
open Go.RowKit

set_option maxHeartbeats 1000000 in
set_option maxRecDepth 100000 in
theorem clone_any (fv : Value) (ps : Flds) (w : World) (hr : ReadsQ w fv ps) (hl : ps.length ≤ 10000) :
    Calls Try.prog 34 #[fv] w fun e w' => ∃ v, e = .returned v ∧ OwnsP 65 w.heap.size w' v ps ∧ Below w.heap.size w w' := by
  obtain ⟨i0, hi, hz0, hz1, hz2⟩ := info_parts Try.infoF
  have q22 : ∀ (w : World) (a : Option Addr) (n c n' c' : Nat), (binOp .eql 29 (.slice a n c) (.slice none n' c')).run Try.prog w = .ok (.bool a.isNone) w := fun w a n c n' c' => Lib.run_eql_slice_nil w _ _ a n c n' c' Try.underlying29
  obtain ⟨ao, cap, rfl, hc⟩ := id hr
  clear hc
  cases ao with
  | none =>
    obtain ⟨rfl, _⟩ := hr.none
    clear hr
    go_enter Try.func34, Try.ntmps34
    go_wp2
    go_ret
    exact ⟨_, rfl, OwnsP.nil _ _ _, Below.refl _ _⟩
  | some ad =>
    have hs := hr.src.2
    have HS := Lib.hid hs
    clear hr hs
    go_enter Try.func34, Try.ntmps34
    go_wp2_with (at_builtin; refine wpList_append_own _ rfl _ _ 29 rfl w.heap.size 65 i0 (.agg #[.string ByteArray.empty, .string ByteArray.empty]) 2 32 Try.underlying29 hi hz0 hz1 hz2 rfl (by decide) _ _ _ rfl (own_made w _) ad ps.length cap (flatP ps) rfl (flatP_len ps) (fun j u hj => Lib.cell?_alloc_some _ (HS.out j u hj)) (flatP_one ps) (by unfold maxLen; simp; omega) (by simp; omega) (by simp) ?_; intro v' w1 hown hgrow _)
    go_wp2
    go_ret
    refine ⟨v', rfl, own_app (ps := []) (by simpa [flatP] using hown) (by simp), ?_⟩
    exact ((Below.refl _ w).alloc (Nat.le_refl _) _).grown hgrow (by simp) (fun k hk => (World.ownsRow.lt (own_made w 65) k hk).1)

set_option maxHeartbeats 1000000 in
set_option maxRecDepth 100000 in
theorem add_any (fv : Value) (ps : Flds) (n val : List UInt8) (w : World) (hr : ReadsQ w fv ps) (hn : n.length ≤ 1000000000) (_ : val.length ≤ 1000000000) (hl : ps.length ≤ 10000) :
    Calls Try.prog 16 #[fv, .string (strB n), .string (strB val)] w fun e w' => ∃ v, e = .returned v ∧ OwnsP 65 w.heap.size w' v (addL ps n val) ∧ Below w.heap.size w w' := by
  obtain ⟨i0, hi, hz0, hz1, hz2⟩ := info_parts Try.infoF
  have zn : (strB n).size ≤ 1000000000 := by rw [strB_size]; exact hn
  have HCl := clone_any fv ps w hr hl
  obtain ⟨ao, cap, rfl, hc⟩ := hr
  clear hc
  go_enter Try.func16, Try.ntmps16
  go_wp2_with fail
  refine HCl.mono ?_
  rintro e w1 ⟨v, rfl, hO, hB⟩
  have hs1 := hB.size
  go_wp2_with fail
  refine (lower_any (strB n) _ zn).mono ?_
  rintro e w2 ⟨rfl, hB2⟩
  rw [strB_list]
  have hs2 := hB2.size
  have hO2 := OwnsP.below hO hB2
  go_wp2_with (at_builtin; refine wpList_append_own _ rfl _ _ 29 rfl w.heap.size 65 i0 (.agg #[.string ByteArray.empty, .string ByteArray.empty]) 2 32 Try.underlying29 hi hz0 hz1 hz2 rfl (by decide) _ _ _ rfl (World.ownsRow.alloc hO2 _) ⟨w2.heap.size, 0, none⟩ 1 1 [strV (lowS n), strV val] rfl rfl (two_new w2 (lowS n) val _) (fun u hu => by simp at hu; rcases hu with rfl | rfl <;> rfl) (by unfold maxLen; omega) (by omega) (by simp; omega) ?_; intro v' w4 hown' hgrow _)
  go_ret
  exact ⟨v', rfl, OwnsP.snoc (p := (lowS n, val)) hown', below_appendP hB hs1 hB2 hO hgrow⟩

end Go.Proofs.Ytbmbcdbldbjddaa
