/- FramingRequests and FramingResponses: the statements' functions return true: the walks; what awake and is return. -/
import Derived.Test.YthjkneifffdglaaDoorJRefOf
import Derived.Test.YthjkneifffdglaaDoorNum
import Derived.Test.YthjkneifffdglaaDoorTwo
namespace Go.Proofs.YthjkneifffdglaaDoor
open Go.RowKit

/-- A new variable of three cells is as it was behind a call that leaves what was there. -/
theorem trio_kept (w : World) {a b c : Value} {t : TypeId} {w' : World} (h : Below (w.alloc (.cells #[a, b, c] t)).heap.size (w.alloc (.cells #[a, b, c] t)) w') :
    w'.cell? ⟨w.heap.size, 0, none⟩ = some a ∧ w'.cell? ⟨w.heap.size, 1, none⟩ = some b ∧ w'.cell? ⟨w.heap.size, 2, none⟩ = some c ∧ w.heap.size < w'.heap.size := by
  have hs : w.heap.size < (w.alloc (.cells #[a, b, c] t)).heap.size := by simp
  have hc : ∀ j, (w.alloc (.cells #[a, b, c] t)).cell? ⟨w.heap.size, j, none⟩ = (#[a, b, c] : Array Value)[j]? := fun j => by rw [World.cell?_alloc_at _ _ _ _ rfl]
  exact ⟨(h.cell (p := ⟨w.heap.size, 0, none⟩) hs).trans (hc 0), (h.cell (p := ⟨w.heap.size, 1, none⟩) hs).trans (hc 1), (h.cell (p := ⟨w.heap.size, 2, none⟩) hs).trans (hc 2), Nat.lt_of_lt_of_le hs h.size⟩
theorem num6_any (c : Nat) (w : World) : Calls Tryd.prog 15 #[errV c] w fun e w' => e = .returned (.int .i64 (c : Int)) ∧ w = w' := by
  unfold errV
  by_cases h : c = 0
  · rw [if_pos h, h]; exact num_nil w
  · rw [if_neg h]; exact num_errno _ w
theorem reads_new1 (w : World) (a b : List UInt8) (T : TypeId) : ReadsQ (w.alloc (.cells #[.string (strB a), .string (strB b)] T)) (.slice (some ⟨w.heap.size, 0, none⟩) 1 1) [(a, b)] := by
  refine ⟨_, 1, rfl, fun j p hj => ⟨w.heap.size, 0, rfl, by simp, ?_⟩⟩
  match j, hj with
  | 0, hj =>
    simp at hj; subst hj
    have h0 := two_new w a b T 0 _ rfl
    have h1 := two_new w a b T 1 _ rfl
    exact ⟨h0, h1⟩
  | j + 1, hj => simp at hj
theorem ex_of : ofO 1 (lsF [(clN, [53])]) (csF [(clN, [53])]) = (0, 2, 5) := by decide +kernel
set_option maxHeartbeats 4000000 in
set_option maxRecDepth 100000 in
theorem awake6_any (w : World) : Calls Tryd.prog 10 #[] w fun e w' => e = .returned (.bool true) ∧ Below w.heap.size w w' := by
  have hB0 : Below w.heap.size w (w.alloc (.cells #[.string ⟨#[99, 111, 110, 116, 101, 110, 116, 45, 108, 101, 110, 103, 116, 104]⟩, .string ⟨#[53]⟩] 57)) := below_new _ _
  have hr : ReadsQ (w.alloc (.cells #[.string ⟨#[99, 111, 110, 116, 101, 110, 116, 45, 108, 101, 110, 103, 116, 104]⟩, .string ⟨#[53]⟩] 57)) (.slice (some ⟨w.heap.size, 0, none⟩) 1 1) [(clN, [53])] := reads_new1 w clN [53] 57
  have R := ofRequest_any [] [] _ _ _ hr (by unfold Fits totL; decide)
  rw [ex_of] at R
  have R : Calls Tryd.prog 12 #[.agg #[.string ⟨#[]⟩, .string ⟨#[]⟩, .slice (some ⟨w.heap.size, 0, none⟩) 1 1]] (w.alloc (.cells #[.string ⟨#[99, 111, 110, 116, 101, 110, 116, 45, 108, 101, 110, 103, 116, 104]⟩, .string ⟨#[53]⟩] 57)) (fun e w' => e = .returned (.tuple #[.agg #[.int .i64 2, .int .i64 5], .nilIface]) ∧ Below (w.alloc (.cells #[.string ⟨#[99, 111, 110, 116, 101, 110, 116, 45, 108, 101, 110, 103, 116, 104]⟩, .string ⟨#[53]⟩] 57)).heap.size (w.alloc (.cells #[.string ⟨#[99, 111, 110, 116, 101, 110, 116, 45, 108, 101, 110, 103, 116, 104]⟩, .string ⟨#[53]⟩] 57)) w') := R
  clear hr
  go_enter Tryd.func10, Tryd.ntmps10
  go_wp2_with fail
  refine R.mono ?_
  rintro e w1 ⟨rfl, hB1⟩
  go_wp2_with fail
  go_ret
  exact ⟨rfl, (hB0.trans (hB1.mono hB0.size)).alloc (hB0.trans (hB1.mono hB0.size)).size _⟩
set_option maxHeartbeats 1000000 in
set_option maxRecDepth 100000 in
theorem is_same (k n : Nat) (w : World) : Calls Tryd.prog 16 #[frV k n, frV k n] w fun e w' => e = .returned (.bool true) ∧ Below w.heap.size w w' := by
  have hB0 : Below w.heap.size w (w.alloc (.cells #[.int .i64 (k : Int), .int .i64 (n : Int)] 28)) := below_new _ _
  go_enter Tryd.func16, Tryd.ntmps16
  go_wp2_with fail
  go_ret
  exact ⟨rfl, hB0.alloc hB0.size _⟩
theorem fits6_Fits {ps : Flds} (h : fits6B ps = true) : Fits ps := by
  obtain ⟨h1, h2⟩ := fits6_yes h
  exact ⟨by omega, by omega⟩
set_option maxHeartbeats 8000000 in
set_option maxRecDepth 100000 in
theorem fr_requests_walk (m t : List UInt8) (v : Value) (ps : List (List UInt8 × List UInt8)) (w : World)
    (hg : m.length ≤ 140737488355328 ∧ t.length ≤ 140737488355328 ∧ ReadsQ w v ps ∧ ps.length ≤ maxLen ∧ (∀ q ∈ ps, q.1.length ≤ 140737488355328 ∧ q.2.length ≤ 140737488355328)) :
    Calls Tryd.prog 3 #[.agg #[.string (strB m), .string (strB t), v]] w fun e w' => e = .returned (.bool true) ∧ Below w.heap.size w w' := by
  obtain ⟨hm, ht, hr, hpl, hpb⟩ := hg
  have HR := Lib.hid hr
  have F := Lib.hid (fun W (hr : ReadsQ W v ps) => fits6_any v ps W hr (by unfold maxLen at hpl; omega) hpb)
  obtain ⟨ao, cap, rfl, hc⟩ := hr
  have hB0 : Below w.heap.size w (w.alloc (.cells #[.string (strB m), .string (strB t), .slice ao ps.length cap] 24)) := below_new _ _
  clear hc hpl hpb
  go_enter Tryd.func3, Tryd.ntmps3
  go_wp2_with fail
  refine (awake6_any _).mono ?_
  rintro e w1 ⟨rfl, hB1⟩
  obtain ⟨b0, b1, b2, bz⟩ := trio_kept w hB1
  have hBx := hB0.trans (hB1.mono hB0.size)
  go_wp2_with fail
  refine (F.out _ (HR.out.below hBx)).mono ?_
  rintro e w2 ⟨rfl, hB2⟩
  have hB12 := hB1.trans (hB2.mono hB1.size)
  have hBy := hB0.trans (hB12.mono hB0.size)
  clear b0 b1 b2 bz hB1 hB2 hBx
  obtain ⟨b0, b1, b2, bz⟩ := trio_kept w hB12
  cases hfit : fits6B ps with
  | false =>
    go_wp2_with fail
    refine (awake6_any _).mono ?_
    rintro e w3 ⟨rfl, hB3⟩
    go_wp2_with fail
    go_ret
    exact ⟨rfl, hBy.trans (hB3.mono hBy.size)⟩
  | true =>
    have hf := fits6_Fits hfit
    have hfe := hf.each
    have hf1 := hf.1
    have Q := Lib.hid (fun W (hr : ReadsQ W (.slice ao ps.length cap) ps) => request_any m t (.slice ao ps.length cap) ps W hr (by omega) hfe)
    have P := Lib.hid (fun v W (hr : ReadsQ W v ps) => ofRequest_any m t v ps W hr hf)
    have R := Lib.hid (fun W (hr : ReadsQ W (.slice ao ps.length cap) ps) => refOfRequest_any m t (.slice ao ps.length cap) ps W hr hf)
    unfold OfRes at P
    unfold RefOfRes at R
    generalize ofO 1 (lsF ps) (csF ps) = r at *
    obtain ⟨c, k, n⟩ := r
    clear hf hfe hf1 hfit
    go_wp2_with fail
    refine (Q.out _ (HR.out.below hBy)).mono ?_
    rintro e w3 ⟨a3, n3, c3, rfl, hO3, hB3⟩
    have P := P.out _ _ hO3.q
    have hB13 := hB12.trans (hB3.mono hB12.size)
    have hBz := hB0.trans (hB13.mono hB0.size)
    clear b0 b1 b2 bz hB12 hB3 hBy hO3
    go_wp2_with fail
    refine P.mono ?_
    rintro e w4 ⟨rfl, hB4⟩
    have hB14 := hB13.trans (hB4.mono hB13.size)
    have hBw := hB0.trans (hB14.mono hB0.size)
    clear P hB13 hB4 hBz
    have hB14 := hB14.alloc hB14.size (.cells #[.int .i64 (k : Int), .int .i64 (n : Int)] 28)
    have hBw := hBw.alloc hBw.size (.cells #[.int .i64 (k : Int), .int .i64 (n : Int)] 28)
    obtain ⟨b0, b1, b2, bz⟩ := trio_kept w hB14
    have hx4 := frame_new w4 28 (k : Int) (n : Int)
    obtain ⟨x0, x1, _⟩ := hx4
    have R := R.out _ (HR.out.below hBw)
    go_wp2_with fail
    refine R.mono ?_
    rintro e w5 ⟨rfl, hB5⟩
    have y0 := (hB5.cell (p := ⟨w4.heap.size, 0, none⟩) (by simp)).trans x0
    have y1 := (hB5.cell (p := ⟨w4.heap.size, 1, none⟩) (by simp)).trans x1
    have yz : w4.heap.size < w5.heap.size := Nat.lt_of_lt_of_le (by simp) hB5.size
    have hBv := hBw.trans (hB5.mono hBw.size)
    clear R hB14 hBw b0 b1 b2 bz x0 x1 hB5
    go_wp2_with fail
    refine (num6_any c _).mono ?_
    rintro e w' ⟨rfl, rfl⟩
    go_wp2_with fail
    refine (is_same k n _).mono ?_
    rintro e w6 ⟨rfl, hB6⟩
    go_wp2_with fail
    go_ret
    exact ⟨rfl, (hBv.alloc hBv.size _).trans (hB6.mono (hBv.alloc hBv.size _).size)⟩
end Go.Proofs.YthjkneifffdglaaDoor
