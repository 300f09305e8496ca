/- What the reference's Lower returns. -/
import Derived.Test.YthjkneifffdglaaDoorLower
namespace Go.Proofs.YthjkneifffdglaaDoor
open Go.RowKit

def LowRel (s : ByteArray) (w : World) (o i : Value) (wr : World) : Prop :=
  ∃ k : Nat, i = .int .i64 k ∧ k ≤ s.size ∧ o = .string (strB (lowS (s.data.toList.take k))) ∧ Below w.heap.size w wr
set_option maxHeartbeats 2000000 in
set_option maxRecDepth 100000 in
theorem refLower_any (s : ByteArray) (w : World) (hs : s.size ≤ 1000000000) :
    Calls Tryd.prog 37 #[.string s] w fun e w' => e = .returned (.string (strB (lowS s.data.toList))) ∧ Below w.heap.size w w' := by
  go_enter Tryd.func37, Tryd.ntmps37
  go_wp2
  go_loopw [3, 8] (fun o i wr => LowRel s w o i wr) (fun _ i _ => s.size - (intOf i).toNat)
  case atStart => exact ⟨0, rfl, by omega, rfl, Below.refl _ _⟩
  case round =>
    obtain ⟨k, rfl, hk, rfl, hB⟩ := hrel
    have hsz := hB.size
    have hz : (strB (lowS (s.data.toList.take k))).size ≤ k := by rw [strB_size, lowS_len]; exact List.length_take_le _ _
    by_cases hlt : k < s.size
    · have hstep := lowS_take s k hlt
      have HS := Lib.hid hstep
      clear hstep
      by_cases h1 : 65 ≤ s[k].toNat
      · by_cases h2 : s[k].toNat ≤ 90
        · have hl := lowB_up h1 h2
          have hcv := fun W => conv_one ((s[k].toNat : Int) + 32) (lowB s[k]) (by rw [hl]; omega) W
          clear hl
          go_wp2
          go_roundw
          case rel => exact ⟨k + 1, by go_num, by omega, by rw [HS.out, strB_snoc], hB.alloc hsz _⟩
          case measure => simp [intOf]; omega
        · have hl : lowB s[k] = s[k] := lowB_not (by omega)
          have HLo := Lib.hid hl
          have hcv := fun W => conv_one (s[k].toNat : Int) s[k] rfl W
          clear hl
          go_wp2
          go_roundw
          case rel => exact ⟨k + 1, by go_num, by omega, by rw [HS.out, HLo.out, strB_snoc], hB.alloc hsz _⟩
          case measure => simp [intOf]; omega
      · have hl : lowB s[k] = s[k] := lowB_not (by omega)
        have HLo := Lib.hid hl
        have hcv := fun W => conv_one (s[k].toNat : Int) s[k] rfl W
        clear hl
        go_wp2
        go_roundw
        case rel => exact ⟨k + 1, by go_num, by omega, by rw [HS.out, HLo.out, strB_snoc], hB.alloc hsz _⟩
        case measure => simp [intOf]; omega
    · go_wp2
      go_ret
      exact ⟨by rw [take_all s k (by omega)]; rfl, hB⟩
end Go.Proofs.YthjkneifffdglaaDoor
