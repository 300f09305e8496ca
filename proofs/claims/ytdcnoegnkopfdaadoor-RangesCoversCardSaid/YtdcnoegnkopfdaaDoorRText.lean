/- What the reference's Text returns: the decimal digits. -/
import Derived.Test.YtdcnoegnkopfdaaDoorRSpec
import Derived.Test.YtdcnoegnkopfdaaDoorRMem
import Derived.Laws.IdiomStrings
namespace Go.Proofs.YtdcnoegnkopfdaaDoor
open Go.RowKit

theorem conv9 (z : Int) (c : UInt8) (hz : z = (c.toNat : Int)) (W : World) :
    (convert 100 9 (.slice (some ⟨W.heap.size, 0, none⟩) 1 1)).run Tryd.prog (W.alloc (.cells #[.int .u8 z] 5)) = .ok (.string ⟨#[c]⟩) (W.alloc (.cells #[.int .u8 z] 5)) :=
  run_convert_bytes_back _ _ _ 5 ⟨W.heap.size, 0, none⟩ 1 [c] Tryd.underlying100 Tryd.underlying5 Tryd.underlying9 (fun j hj => by
    have : j = 0 := by simp at hj; omega
    subst this
    subst hz
    simp [Addr.add])
theorem dec_size (n : Nat) (h : n ≤ 9223372036854775807) : (Lib.decDigits n).length ≤ 20 := by
  rw [Lib.decDigits_length]
  rcases Nat.lt_or_ge 20 (Lib.nDigits n) with h1 | h1
  · exfalso
    have h2 : ∀ (k m : Nat), k < Lib.nDigits m → 10 ^ k ≤ m ∨ k = 0 := by
      intro k
      induction k with
      | zero => intro m _; exact .inr rfl
      | succ k ih =>
        intro m hm
        by_cases h10 : m < 10
        · rw [Lib.nDigits_small h10] at hm; omega
        · rw [Lib.nDigits_big h10] at hm
          rcases ih (m / 10) (by omega) with h3 | rfl
          · refine .inl ?_
            rw [Nat.pow_succ]; omega
          · refine .inl ?_
            show 10 ^ 1 ≤ m
            omega
    rcases h2 20 n h1 with h3 | h3
    · have : (10 : Nat) ^ 20 = 100000000000000000000 := by decide
      omega
    · omega
  · exact h1
set_option maxHeartbeats 2000000 in
set_option maxRecDepth 100000 in
theorem refText_any : ∀ (b n : Nat), n ≤ b → n ≤ 9223372036854775807 → ∀ w : World,
    Calls Tryd.prog 33 #[.int .i64 (n : Int)] w fun e w' => e = .returned (.string (strB (Lib.decDigits n))) ∧ Below w.heap.size w w' := by
  intro b
  induction b with
  | zero =>
    intro n h0 hn w
    obtain rfl : n = 0 := by omega
    have hcv := fun W => conv9 48 48 (by decide) W
    go_enter Tryd.func33, Tryd.ntmps33
    go_wp2
    go_ret
    exact ⟨by rw [Lib.decDigits_one (by omega)]; rfl, below_new _ _⟩
  | succ b ih =>
    intro n h0 hn w
    obtain ⟨c, hc⟩ : ∃ c, c = UInt8.ofNat (48 + n % 10) := ⟨_, rfl⟩
    have hcn : c.toNat = 48 + n % 10 := by rw [hc]; simp; omega
    have hcv := fun W => conv9 (48 + (n : Int) % 10) c (by rw [hcn]; omega) W
    have HC := Lib.hid hc
    clear hc
    by_cases h10 : n < 10
    · have HR := Lib.hid (show Lib.decDigits n = [c] by rw [HC.out, Nat.mod_eq_of_lt h10]; exact Lib.decDigits_one h10)
      clear hcn ih
      go_enter Tryd.func33, Tryd.ntmps33
      go_wp2
      go_ret
      exact ⟨by rw [HR.out]; rfl, below_new _ _⟩
    · have HI := Lib.hid (fun w => (show Calls Tryd.prog 33 #[.int .i64 ((n : Int) / 10)] w fun e w' => e = .returned (.string (strB (Lib.decDigits (n / 10)))) ∧ Below w.heap.size w w' from ih (n / 10) (by omega) (by omega) w))
      have HR := Lib.hid (show Lib.decDigits n = Lib.decDigits (n / 10) ++ [c] by rw [HC.out, Lib.decDigits, dif_neg h10])
      have hsz : (strB (Lib.decDigits (n / 10))).size ≤ 20 := by rw [strB_size]; exact dec_size _ (by omega)
      clear hcn ih
      go_enter Tryd.func33, Tryd.ntmps33
      go_wp2_with (go_at_call 33; refine (HI.out _).mono ?_; rintro e w1 ⟨rfl, hB⟩)
      go_ret
      exact ⟨by rw [HR.out, ← strB_snoc]; rfl, ((below_new w _).trans (hB.mono (by simp)))⟩
theorem refText9 (n : Int) (h0 : 0 ≤ n) (hn : n ≤ 9223372036854775807) (w : World) :
    Calls Tryd.prog 33 #[.int .i64 n] w fun e w' => e = .returned (.string (strB (decT n))) ∧ Below w.heap.size w w' := by
  obtain ⟨m, rfl⟩ : ∃ m : Nat, n = m := ⟨n.toNat, by omega⟩
  exact refText_any m m (Nat.le_refl _) (by omega) w
end Go.Proofs.YtdcnoegnkopfdaaDoor
