/- What the library's ParseUint says of two bytes at base 16 and 8 bits: their value, or an error. -/
import Derived.Test.YtfggckdakmnfbaaDoorAHost
import Derived.Lib.ConvBytes
import Derived.Lib.AtoiErrMem
namespace Go.Proofs.YtfggckdakmnfbaaDoor
open Go.RowKit

/-- A byte with the bit 32 set. -/
def lowI (c : UInt8) : Int := ((c ||| 32).toNat : Int)
theorem lowI_bits : ∀ n : Fin 256, bits .or .u8 (n.val : Int) 32 = lowI (UInt8.ofNat n.val) := by decide +kernel
theorem lowI_fin : ∀ n : Fin 256, 0 ≤ lowI (UInt8.ofNat n.val) ∧ lowI (UInt8.ofNat n.val) ≤ 255 ∧
    (48 ≤ n.val → n.val ≤ 57 → hexI (UInt8.ofNat n.val) = (n.val : Int) - 48) ∧
    (¬ (48 ≤ n.val ∧ n.val ≤ 57) → 97 ≤ lowI (UInt8.ofNat n.val) → lowI (UInt8.ofNat n.val) ≤ 102 → hexI (UInt8.ofNat n.val) = lowI (UInt8.ofNat n.val) - 87) ∧
    (¬ (48 ≤ n.val ∧ n.val ≤ 57) → ¬ (97 ≤ lowI (UInt8.ofNat n.val) ∧ lowI (UInt8.ofNat n.val) ≤ 102) → hexI (UInt8.ofNat n.val) = -1) := by decide +kernel
theorem lowI_facts (c : UInt8) : 0 ≤ lowI c ∧ lowI c ≤ 255 ∧ (48 ≤ c.toNat → c.toNat ≤ 57 → hexI c = (c.toNat : Int) - 48) ∧
    (¬ (48 ≤ c.toNat ∧ c.toNat ≤ 57) → 97 ≤ lowI c → lowI c ≤ 102 → hexI c = lowI c - 87) ∧
    (¬ (48 ≤ c.toNat ∧ c.toNat ≤ 57) → ¬ (97 ≤ lowI c ∧ lowI c ≤ 102) → hexI c = -1) := by
  have := lowI_fin ⟨c.toNat, UInt8.toNat_lt c⟩
  simpa only [UInt8.ofNat_toNat] using this
theorem lower_hex (c : UInt8) (w : World) : Calls Tryd.prog 110 #[.int .u8 (c.toNat : Int)] w fun e w' => e = .returned (.int .u8 (lowI c)) ∧ w = w' := by
  refine (Tryd.internal_strconv_lower (c.toNat : Int) w).mono ?_
  rintro e w' ⟨rfl, rfl⟩
  have := lowI_bits ⟨c.toNat, UInt8.toNat_lt c⟩
  simp only [UInt8.ofNat_toNat] at this
  exact ⟨by rw [this], rfl⟩
theorem lower_95 (w : World) : Calls Tryd.prog 110 #[.int .u8 95] w fun e w' => e = .returned (.int .u8 127) ∧ w = w' := by
  refine (Tryd.internal_strconv_lower 95 w).mono ?_
  rintro e w' ⟨rfl, rfl⟩
  exact ⟨by rw [show bits .or .u8 95 32 = 127 by decide], rfl⟩
/-- What ParseUint returns for two bytes. -/
def puV (a b : UInt8) : Value := if 0 ≤ hexI a ∧ 0 ≤ hexI b then .tuple #[.int .u64 (16 * hexI a + hexI b), .nilIface] else .tuple #[.int .u64 0, .iface 102 (.int .i64 2)]
theorem puV_bad {a b c : UInt8} (hc : c = a ∨ c = b) (h : hexI c < 0) : puV a b = .tuple #[.int .u64 0, .iface 102 (.int .i64 2)] := by
  unfold puV; rw [if_neg]; rintro ⟨h1, h2⟩
  rcases hc with rfl | rfl <;> omega
theorem puV_ok {a b : UInt8} (h1 : 0 ≤ hexI a) (h2 : 0 ≤ hexI b) : puV a b = .tuple #[.int .u64 (16 * hexI a + hexI b), .nilIface] := by unfold puV; rw [if_pos ⟨h1, h2⟩]
def HexTo (a b : UInt8) (k : Nat) (z : Int) : Prop := (k = 0 ∧ z = 0) ∨ (k = 1 ∧ z = hexI a ∧ 0 ≤ hexI a) ∨ (k = 2 ∧ z = 16 * hexI a + hexI b ∧ 0 ≤ hexI a ∧ 0 ≤ hexI b)
theorem hexTo_step {a b c : UInt8} {k : Nat} {z : Int} (h : HexTo a b k z) (hk : k < 2) (hc : c = if k = 0 then a else b) (h0 : 0 ≤ hexI c) : HexTo a b (k + 1) (z * 16 + hexI c) := by
  unfold HexTo at *
  rcases h with ⟨rfl, rfl⟩ | ⟨rfl, rfl, h1⟩ | ⟨rfl, _⟩
  · rw [if_pos rfl] at hc; subst hc; right; left; exact ⟨rfl, by omega, h0⟩
  · rw [if_neg (by omega)] at hc; subst hc; right; right; exact ⟨rfl, by omega, h1, h0⟩
  · omega
theorem hexTo_le {a b : UInt8} {k : Nat} {z : Int} (h : HexTo a b k z) (hk : k < 2) : 0 ≤ z ∧ z ≤ 15 := by
  have := hexI_le a
  rcases h with ⟨rfl, rfl⟩ | ⟨rfl, rfl, h1⟩ | ⟨rfl, _⟩ <;> omega
theorem pair_at (a b : UInt8) (k : Nat) (hk : k < 2) : ((strB [a, b]).data.toList.getD k 0) = if k = 0 then a else b := by
  rw [strB_list]
  match k, hk with
  | 0, _ => rfl
  | 1, _ => rfl

set_option maxHeartbeats 32000000 in
set_option maxRecDepth 100000 in
theorem inner_any (a b : UInt8) (w : World) :
    Calls Tryd.prog 91 #[.string (strB [a, b]), .int .i64 16, .int .i64 8] w fun e w' => e = .returned (puV a b) ∧ Below w.heap.size w w' := by
  have hsz : (strB [a, b]).size = 2 := rfl
  have hemp : (strB [a, b]).toList.isEmpty = false := by rw [ByteArray.toList_eq]; rfl
  have hcv := Lib.run_convert_string_bytes (P := Tryd.prog) w 9 48 5 (strB [a, b]) (u := .string) Tryd.underlying9 Tryd.underlying48 Tryd.underlying5
  have hB : ∀ j, j < 2 → (Lib.bytesWorld w 5 (strB [a, b])).cell? ⟨w.heap.size, j, none⟩ = some (.int .u8 ((if j = 0 then a else b) : UInt8).toNat) := fun j hj => by
    rw [Lib.bytesWorld_cell w 5 (strB [a, b]) j (by rw [hsz]; exact hj), pair_at a b j hj]
  have hbw := Lib.bytesWorld_below w 5 (strB [a, b])
  rw [hsz] at hcv
  generalize strB [a, b] = t at *
  obtain ⟨W1, hW1⟩ : ∃ W1, W1 = Lib.bytesWorld w 5 t := ⟨_, rfl⟩
  rw [← hW1] at hcv hB hbw
  clear hW1
  have HB := Lib.hid hB
  have HW := Lib.hid hbw
  clear hB hbw
  have hmv : IntKind.u64.wrap (IntKind.u64.wrap 256 - 1) = 255 := by
    rw [IntKind.wrap_u64, IntKind.wrap_u64]
    decide
  go_enter Tryd.func91, Tryd.ntmps91
  go_wp2
  go_loop [12, 13, 101] (fun vu vn vi => ∃ (k : Nat) (z : Int), vu = .bool false ∧ vn = .int .u64 z ∧ vi = .int .i64 k ∧ k ≤ 2 ∧ Hid (HexTo a b k z)) (fun _ _ vi => 2 - (intOf vi).toNat)
  case atStart => exact ⟨0, 0, rfl, rfl, rfl, by omega, Lib.hid (Or.inl ⟨rfl, rfl⟩)⟩
  case round =>
    obtain ⟨k, z, rfl, rfl, rfl, hk, HH⟩ := hrel
    by_cases hlt : k < 2
    · have hc := HB.out k hlt
      obtain ⟨c, hcc⟩ : ∃ c, c = if k = 0 then a else b := ⟨_, rfl⟩
      rw [← hcc] at hc
      have hcab : c = a ∨ c = b := by
        rw [hcc]; split
        · exact Or.inl rfl
        · exact Or.inr rfl
      obtain ⟨z0, z1⟩ := hexTo_le HH.out hlt
      obtain ⟨l0, l1, l2, l3, l4⟩ := lowI_facts c
      have HC := Lib.hid hcc
      clear hcc
      by_cases hdig : 48 ≤ c.toNat ∧ c.toNat ≤ 57
      · have hx := l2 hdig.1 hdig.2
        have HN : Hid (HexTo a b (k + 1) (z * 16 + ((c.toNat : Int) - 48))) := by rw [← hx]; exact Lib.hid (hexTo_step HH.out hlt HC.out (by omega))
        obtain ⟨hd0, hd1⟩ := hdig
        clear hx l2 l3 l4
        go_wp2
        refine ⟨⟨k + 1, z * 16 + ((c.toNat : Int) - 48), rfl, rfl, (by first | rfl | (congr 1; omega)), by omega, HN⟩, by simp [intOf]; omega⟩
      · by_cases hlet : 97 ≤ lowI c ∧ lowI c ≤ 102
        · have hx := l3 hdig hlet.1 hlet.2
          have HN : Hid (HexTo a b (k + 1) (z * 16 + (lowI c - 97 + 10))) := by
            rw [show lowI c - 97 + 10 = hexI c by omega]; exact Lib.hid (hexTo_step HH.out hlt HC.out (by omega))
          have h95 : ((c.toNat : Int) == 95) = false := by
            have : ¬ c.toNat = 95 := by
              intro e
              have : c = 95 := nat_of_u8 (by rw [e]; rfl)
              subst this; exact absurd hlet.2 (by decide)
            simp; omega
          obtain ⟨hd0, hd1⟩ := hlet
          clear hx l2 l3 l4
          go_wp2_with (go_at_call 110; refine (lower_hex _ _).mono ?_; rintro e w' ⟨rfl, rfl⟩)
          all_goals (refine ⟨⟨k + 1, z * 16 + (lowI c - 97 + 10), rfl, rfl, (by first | rfl | (congr 1; omega)), by omega, HN⟩, by simp [intOf]; omega⟩)
        · have hx := l4 hdig hlet
          have HR := Lib.hid (puV_bad (a := a) (b := b) hcab (by omega))
          clear hx l2 l3 l4
          by_cases h95 : c.toNat = 95
          · have h95' : ((c.toNat : Int) == 95) = true := by rw [h95]; rfl
            clear h95
            go_wp2_with (go_at_call 110; (first | (with_reducible refine (lower_95 _).mono ?_) | (with_reducible refine (lower_hex _ _).mono ?_)); rintro e w' ⟨rfl, rfl⟩)
            all_goals
              go_ret2
              exact ⟨by rw [HR.out]; rfl, HW.out⟩
          · have h95' : ((c.toNat : Int) == 95) = false := by simp; omega
            clear h95
            go_wp2_with (go_at_call 110; refine (lower_hex _ _).mono ?_; rintro e w' ⟨rfl, rfl⟩)
            all_goals
              go_ret2
              exact ⟨by rw [HR.out]; rfl, HW.out⟩
    · obtain rfl : k = 2 := by omega
      have hh := HH.out
      clear HH
      rcases hh with ⟨h, _⟩ | ⟨h, _⟩ | ⟨_, rfl, h1, h2⟩
      · omega
      · omega
      have HR := Lib.hid (puV_ok h1 h2)
      go_wp2
      go_ret2
      exact ⟨by rw [HR.out]; rfl, HW.out⟩
end Go.Proofs.YtfggckdakmnfbaaDoor
