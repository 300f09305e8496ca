/- What isText, cutTag, ReadTag, WriteTag, Strong and Weak return. -/
import Derived.Test.YtkpeaghbacoehaaGreatDoorYMem
import Derived.Test.YtkpeaghbacoehaaGreatDoorYEval
import Derived.Test.YtkpeaghbacoehaaGreatDoorRCut
import Derived.Test.YtkpeaghbacoehaaGreatDoorFName
import Derived.Deep.QuietTactic
import Derived.BigQuiet
namespace Go.Proofs.YtkpeaghbacoehaaGreatDoor
open Go.RowKit

theorem txtC_iff (c : UInt8) : txtC c = false ↔ c.toNat ≤ 32 ∨ c.toNat = 34 ∨ c.toNat = 127 := by
  have h34 : (c != 34) = !decide (c.toNat = 34) := by
    by_cases h : c = 34
    · subst h; rfl
    · have : c.toNat ≠ 34 := fun e => h (UInt8.toNat_inj.mp e)
      rw [decide_eq_false this]; simpa using h
  have h127 : (c != 127) = !decide (c.toNat = 127) := by
    by_cases h : c = 127
    · subst h; rfl
    · have : c.toNat ≠ 127 := fun e => h (UInt8.toNat_inj.mp e)
      rw [decide_eq_false this]; simpa using h
  unfold txtC
  rw [h34, h127]
  by_cases a : 32 < c.toNat <;> by_cases b : c.toNat = 34 <;> by_cases d : c.toNat = 127 <;> simp [a, b, d] <;> omega
theorem txt_step {s : ByteArray} {k : Nat} (hk : k < s.size) (h : txtB (s.data.toList.take k) = true) (hc : txtC s[k] = true) : txtB (s.data.toList.take (k + 1)) = true := by
  unfold txtB at *
  rw [take_snoc s k hk, List.all_append, h]; simp [hc]
theorem txt_bad {s : ByteArray} {k : Nat} (hk : k < s.size) (hc : txtC s[k] = false) : txtB s.data.toList = false := by
  unfold txtB
  rw [List.all_eq_false]
  exact ⟨s[k], get_mem s k hk, by rw [hc]; decide⟩
theorem txt_all {s : ByteArray} {k : Nat} (hk : s.size ≤ k) (h : txtB (s.data.toList.take k) = true) : txtB s.data.toList = true := by
  rw [take_all s k hk] at h; exact h
set_option maxHeartbeats 2000000 in
set_option maxRecDepth 100000 in
theorem isText_any (s : ByteArray) (w : World) (hs : s.size ≤ 4611686018427387904) :
    Calls Tryz.prog 34 #[.string s] w fun e w' => e = .returned (.bool (txtB s.data.toList)) ∧ w = w' := by
  go_enter Tryz.func34, Tryz.ntmps34
  go_wp2
  go_loop [3] (fun i => ∃ k : Nat, k ≤ s.size ∧ i = .int .i64 k ∧ txtB (s.data.toList.take k) = true) (fun i => s.size - (intOf i).toNat)
  case atStart => exact ⟨0, by omega, rfl, by simp [txtB]⟩
  case round =>
    obtain ⟨k, hk, rfl, hn⟩ := hrel
    have HN := Lib.hid hn
    clear hn
    by_cases hlt : k < s.size
    · by_cases c1 : s[k].toNat ≤ 32
      · have HR := Lib.hid (txt_bad hlt ((txtC_iff _).mpr (.inl c1)))
        have hc1 : (s[k].toNat : Int) ≤ 32 := by omega
        go_wp2
        go_ret
        exact ⟨by first | (rw [HR.out]; rfl) | rw [HR.out], rfl⟩
      · have hc1 : ¬ (s[k].toNat : Int) ≤ 32 := by omega
        by_cases c2 : s[k].toNat = 34
        · have HR := Lib.hid (txt_bad hlt ((txtC_iff _).mpr (.inr (.inl c2))))
          have hc2 : ((s[k].toNat : Int) == 34) = true := by simp; omega
          go_wp2
          go_ret
          exact ⟨by first | (rw [HR.out]; rfl) | rw [HR.out], rfl⟩
        · have hc2 : ((s[k].toNat : Int) == 34) = false := by simp; omega
          by_cases c3 : s[k].toNat = 127
          · have HR := Lib.hid (txt_bad hlt ((txtC_iff _).mpr (.inr (.inr c3))))
            have hc3 : ((s[k].toNat : Int) == 127) = true := by simp; omega
            go_wp2
            go_ret
            exact ⟨by first | (rw [HR.out]; rfl) | rw [HR.out], rfl⟩
          · have hc3 : ((s[k].toNat : Int) == 127) = false := by simp; omega
            have HT := Lib.hid (txt_step hlt HN.out (by
              cases hx : txtC s[k] with
              | true => rfl
              | false => rcases (txtC_iff _).mp hx with h | h | h <;> omega))
            go_wp2
            go_round
            case rel => exact ⟨k + 1, by omega, by go_num, HT.out⟩
            case measure => simp [intOf]; omega
    · have HR := Lib.hid (txt_all (by omega) HN.out)
      go_wp2
      go_ret
      exact ⟨by first | (rw [HR.out]; rfl) | rw [HR.out], rfl⟩

/-- A block of a tag's two cells. -/
def TwoT (N : Nat) (w : World) (x : Bool) (y : List UInt8) : Prop :=
  w.cell? ⟨N, 0, none⟩ = some (.bool x) ∧ w.cell? ⟨N, 1, none⟩ = some (.string (strB y)) ∧ w.frozen? ⟨N, 0, none⟩ = false ∧ w.frozen? ⟨N, 1, none⟩ = false ∧ N < w.heap.size
theorem TwoT.below {N : Nat} {w w' : World} {x : Bool} {y : List UInt8} (h : TwoT N w x y) (hb : Below w.heap.size w w') : TwoT N w' x y := by
  obtain ⟨h1, h2, h3, h4, h5⟩ := h
  exact ⟨(hb.cell (p := ⟨N, 0, none⟩) h5).trans h1, (hb.cell (p := ⟨N, 1, none⟩) h5).trans h2, (hb.frozen (p := ⟨N, 0, none⟩) h5).trans h3, (hb.frozen (p := ⟨N, 1, none⟩) h5).trans h4, Nat.lt_of_lt_of_le h5 hb.size⟩
theorem twoT_new (w : World) (x : Bool) (y : List UInt8) (T : TypeId) : TwoT w.heap.size (w.alloc (.cells #[.bool x, .string (strB y)] T)) x y :=
  ⟨by rw [World.cell?_alloc_at _ _ _ _ rfl]; rfl, by rw [World.cell?_alloc_at _ _ _ _ rfl]; rfl, World.frozen?_alloc_new _ _ _ _, World.frozen?_alloc_new _ _ _ _, by simp⟩
theorem twoT_zero (w : World) (T : TypeId) : TwoT w.heap.size (w.alloc (.cells #[.bool false, .string ByteArray.empty] T)) false [] := twoT_new w false [] T
theorem TwoT.drewN {N : Nat} {w : World} {x : Bool} {y : List UInt8} (h : TwoT N w x y) (n : Nat) : TwoT N (w.drewN n) x y := h.below (below_drewN (Below.refl _ _) n)
theorem below_twoT {B N : Nat} {w w1 : World} (h : Below B w w1) (hN : B ≤ N) (x y : Value) : Below B w ((w1.setCell ⟨N, 0, none⟩ x).setCell ⟨N, 1, none⟩ y) :=
  (h.setCell (p := ⟨N, 0, none⟩) hN _).setCell (p := ⟨N, 1, none⟩) hN _
theorem TwoT.set {N : Nat} {w : World} {x : Bool} {y : List UInt8} (h : TwoT N w x y) (a : Bool) (b : List UInt8) : TwoT N ((w.setCell ⟨N, 0, none⟩ (.bool a)).setCell ⟨N, 1, none⟩ (.string (strB b))) a b := by
  obtain ⟨a0, a1, f0, f1, hB⟩ := h
  have ne : ∀ i j : Nat, i ≠ j → (⟨N, i, none⟩ : Addr) ≠ ⟨N, j, none⟩ := fun i j h e => h (by injection e)
  refine ⟨?_, ?_, by simpa using f0, by simpa using f1, by simpa using hB⟩
  all_goals simp [go_sem, a0, a1]
end Go.Proofs.YtkpeaghbacoehaaGreatDoor
