/- What the reference's Quote returns, for every string up to a bound. -/
import Derived.Test.YtjcekkgoohkomaaDoorQuote
namespace Go.Proofs.YtjcekkgoohkomaaDoor
open Go.RowKit

theorem conv92 (W : World) :
    (convert 56 9 (.slice (some ⟨W.heap.size, 0, none⟩) 1 1)).run Tryd.prog (W.alloc (.cells #[.int .u8 92] 5)) = .ok (.string ⟨#[92]⟩) (W.alloc (.cells #[.int .u8 92] 5)) :=
  run_convert_bytes_back _ _ _ 5 ⟨W.heap.size, 0, none⟩ 1 [92] Tryd.underlying56 Tryd.underlying5 Tryd.underlying9 (fun j hj => by
    have : j = 0 := by simp at hj; omega
    subst this
    simp [Addr.add])
def RQuoRel (s : ByteArray) (w : World) (o i : Value) (wr : World) : Prop :=
  ∃ k : Nat, i = .int .i64 k ∧ k ≤ s.size ∧ o = .string (strB (34 :: escS (s.data.toList.take k))) ∧ Below w.heap.size w wr
set_option maxHeartbeats 2000000 in
set_option maxRecDepth 100000 in
theorem refQuote_any (s : ByteArray) (w : World) (hs : s.size ≤ 1000000000) :
    Calls Tryd.prog 23 #[.string s] w fun e w' => e = .returned (.tuple #[.string (strB (quoS s.data.toList)), .bool (!ctlS s.data.toList)]) ∧ Below w.heap.size w w' := by
  have hcv := conv92
  go_enter Tryd.func23, Tryd.ntmps23
  go_wp2
  go_loopw [4, 8] (fun o i wr => RQuoRel s w o i wr) (fun _ i _ => s.size - (intOf i).toNat)
  case atStart => exact ⟨0, rfl, by omega, rfl, Below.refl _ _⟩
  case round =>
    obtain ⟨k, rfl, hk, rfl, hB⟩ := hrel
    have hle := escS_le_take s k
    have hsz := hB.size
    have hz := strB_size (34 :: escS (s.data.toList.take k))
    have hz2 : (strB (34 :: escS (s.data.toList.take k))).size ≤ 2000000001 := by rw [hz]; simp; omega
    clear hz
    by_cases hlt : k < s.size
    · have hstep := escS_take s k hlt
      have HS := Lib.hid hstep
      clear hstep
      have h1 := one_byte s k hlt
      have H1 := Lib.hid h1
      clear h1
      by_cases hq : s[k] = 34 ∨ s[k] = 92
      · have he : esc s[k] = [92, s[k]] := by unfold esc; rw [if_pos hq]
        have HE := Lib.hid he
        have hq' : ((s[k].toNat : Int) == 34) = true ∨ (((s[k].toNat : Int) == 34) = false ∧ ((s[k].toNat : Int) == 92) = true) := by
          rcases hq with h | h <;> rw [h] <;> simp
        clear hq he
        rcases hq' with ht | ⟨ht, ht2⟩
        all_goals
          go_wp2
          go_roundw
          case rel => exact ⟨k + 1, by go_num, by omega, by rw [HS.out, HE.out, strB_snoc, strB_app, H1.out]; simp, hB.alloc hsz _⟩
          case measure => simp [intOf]; omega
      · have he : esc s[k] = [s[k]] := by unfold esc; rw [if_neg hq]
        have HE := Lib.hid he
        have ht : ((s[k].toNat : Int) == 34) = false := by
          simp; intro h; exact hq (.inl (UInt8.toNat_inj.mp (by show s[k].toNat = 34; omega)))
        have ht2 : ((s[k].toNat : Int) == 92) = false := by
          simp; intro h; exact hq (.inr (UInt8.toNat_inj.mp (by show s[k].toNat = 92; omega)))
        clear hq he
        go_wp2
        go_roundw
        case rel => exact ⟨k + 1, by go_num, by omega, by rw [HS.out, HE.out, strB_app, H1.out]; simp, hB⟩
        case measure => simp [intOf]; omega
    · have hfin : strB (34 :: escS (s.data.toList.take k)) ++ ⟨#[34]⟩ = strB (quoS s.data.toList) := by rw [take_all s k (by omega), strB_snoc]; rfl
      have HF := Lib.hid hfin
      clear hfin
      go_wp2_with (go_at_call 50; refine (refControl_any _ _ (by unfold maxLen; omega)).mono ?_; rintro e w' ⟨rfl, rfl⟩)
      go_ret2
      exact ⟨by rw [← HF.out]; rfl, hB⟩
end Go.Proofs.YtjcekkgoohkomaaDoor
