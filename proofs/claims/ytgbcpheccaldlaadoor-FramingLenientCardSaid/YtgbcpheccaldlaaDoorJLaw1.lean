/- FramingRequests and FramingResponses: the statements' functions return true: the walks; what awake and is return. -/
import Derived.Test.YtgbcpheccaldlaaDoorJRefOf
import Derived.Test.YtgbcpheccaldlaaDoorNum
import Derived.Test.YtgbcpheccaldlaaDoorTwo
namespace Go.Proofs.YtgbcpheccaldlaaDoor
open Go.RowKit

/-- A new variable of three cells is as it was behind a call that leaves what was there. -/
theorem trio_kept (w : World) {a b c : Value} {t : TypeId} {w' : World} (h : Below (w.alloc (.cells #[a, b, c] t)).heap.size (w.alloc (.cells #[a, b, c] t)) w') :
    w'.cell? ⟨w.heap.size, 0, none⟩ = some a ∧ w'.cell? ⟨w.heap.size, 1, none⟩ = some b ∧ w'.cell? ⟨w.heap.size, 2, none⟩ = some c ∧ w.heap.size < w'.heap.size := by
  have hs : w.heap.size < (w.alloc (.cells #[a, b, c] t)).heap.size := by simp
  have hc : ∀ j, (w.alloc (.cells #[a, b, c] t)).cell? ⟨w.heap.size, j, none⟩ = (#[a, b, c] : Array Value)[j]? := fun j => by rw [World.cell?_alloc_at _ _ _ _ rfl]
  exact ⟨(h.cell (p := ⟨w.heap.size, 0, none⟩) hs).trans (hc 0), (h.cell (p := ⟨w.heap.size, 1, none⟩) hs).trans (hc 1), (h.cell (p := ⟨w.heap.size, 2, none⟩) hs).trans (hc 2), Nat.lt_of_lt_of_le hs h.size⟩
theorem num6_any (c : Nat) (w : World) : Calls Tryd.prog 17 #[errV c] w fun e w' => e = .returned (.int .i64 (c : Int)) ∧ w = w' := by
  unfold errV
  by_cases h : c = 0
  · rw [if_pos h, h]; exact num_nil w
  · rw [if_neg h]; exact num_errno _ w
theorem reads_new1 (w : World) (a b : List UInt8) (T : TypeId) : ReadsQ (w.alloc (.cells #[.string (strB a), .string (strB b)] T)) (.slice (some ⟨w.heap.size, 0, none⟩) 1 1) [(a, b)] := by
  refine ⟨_, 1, rfl, fun j p hj => ⟨w.heap.size, 0, rfl, by simp, ?_⟩⟩
  match j, hj with
  | 0, hj =>
    simp at hj; subst hj
    have h0 := two_new w a b T 0 _ rfl
    have h1 := two_new w a b T 1 _ rfl
    exact ⟨h0, h1⟩
  | j + 1, hj => simp at hj
theorem ex_of : ofO 1 (lsF [(clN, [53])]) (csF [(clN, [53])]) = (0, 2, 5) := by decide +kernel
set_option maxHeartbeats 4000000 in
set_option maxRecDepth 100000 in
theorem awake6_any (w : World) : Calls Tryd.prog 20 #[] w fun e w' => e = .returned (.bool true) ∧ Below w.heap.size w w' := by
  have hB0 : Below w.heap.size w (w.alloc (.cells #[.string ⟨#[99, 111, 110, 116, 101, 110, 116, 45, 108, 101, 110, 103, 116, 104]⟩, .string ⟨#[53]⟩] 82)) := below_new _ _
  have hr : ReadsQ (w.alloc (.cells #[.string ⟨#[99, 111, 110, 116, 101, 110, 116, 45, 108, 101, 110, 103, 116, 104]⟩, .string ⟨#[53]⟩] 82)) (.slice (some ⟨w.heap.size, 0, none⟩) 1 1) [(clN, [53])] := reads_new1 w clN [53] 82
  have R := ofRequest_any [] [] _ _ _ hr (by unfold Fits totL; decide)
  rw [ex_of] at R
  have R : Calls Tryd.prog 55 #[.agg #[.string ⟨#[]⟩, .string ⟨#[]⟩, .slice (some ⟨w.heap.size, 0, none⟩) 1 1]] (w.alloc (.cells #[.string ⟨#[99, 111, 110, 116, 101, 110, 116, 45, 108, 101, 110, 103, 116, 104]⟩, .string ⟨#[53]⟩] 82)) (fun e w' => e = .returned (.tuple #[.agg #[.int .i64 2, .int .i64 5], .nilIface]) ∧ Below (w.alloc (.cells #[.string ⟨#[99, 111, 110, 116, 101, 110, 116, 45, 108, 101, 110, 103, 116, 104]⟩, .string ⟨#[53]⟩] 82)).heap.size (w.alloc (.cells #[.string ⟨#[99, 111, 110, 116, 101, 110, 116, 45, 108, 101, 110, 103, 116, 104]⟩, .string ⟨#[53]⟩] 82)) w') := R
  clear hr
  go_enter Tryd.func20, Tryd.ntmps20
  go_wp2_with fail
  refine R.mono ?_
  rintro e w1 ⟨rfl, hB1⟩
  go_wp2_with fail
  go_ret
  exact ⟨rfl, (hB0.trans (hB1.mono hB0.size)).alloc (hB0.trans (hB1.mono hB0.size)).size _⟩
set_option maxHeartbeats 1000000 in
set_option maxRecDepth 100000 in
theorem is_same (k n : Nat) (w : World) : Calls Tryd.prog 24 #[frV k n, frV k n] w fun e w' => e = .returned (.bool true) ∧ Below w.heap.size w w' := by
  have hB0 : Below w.heap.size w (w.alloc (.cells #[.int .i64 (k : Int), .int .i64 (n : Int)] 51)) := below_new _ _
  go_enter Tryd.func24, Tryd.ntmps24
  go_wp2_with fail
  go_ret
  exact ⟨rfl, hB0.alloc hB0.size _⟩
theorem fits6_Fits {ps : Flds} (h : fits6B ps = true) : Fits ps := by
  obtain ⟨h1, h2⟩ := fits6_yes h
  exact ⟨by omega, by omega⟩
end Go.Proofs.YtgbcpheccaldlaaDoor
