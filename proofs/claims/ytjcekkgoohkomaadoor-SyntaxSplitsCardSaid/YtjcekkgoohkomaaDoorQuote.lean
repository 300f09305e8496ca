/- What the code's Quote and the reference's Quote return, for every string up to a bound. -/
import Derived.Test.YtjcekkgoohkomaaDoorQuoSpec
import Derived.Test.YtjcekkgoohkomaaDoorBuild
import Derived.Test.YtjcekkgoohkomaaDoorTrim
import Derived.Test.YtjcekkgoohkomaaDoorDiv
import Derived.Laws.IdiomStrings
namespace Go.Proofs.YtjcekkgoohkomaaDoor
open Go.RowKit

set_option maxHeartbeats 1000000 in
set_option maxRecDepth 100000 in
theorem quote_bad (s : ByteArray) (w : World) (hs : s.size ≤ 9223372036854775807) (hc : ctlS s.data.toList = true) :
    Calls Tryd.prog 22 #[.string s] w fun e w' => e = .returned (.tuple #[.string ⟨#[]⟩, errForm]) ∧ w = w' := by
  go_enter Tryd.func22, Tryd.ntmps22
  go_wp2_with (go_at_call 48; refine (hasControl_any _ _ (by unfold maxLen; omega)).mono ?_; rintro e w' ⟨rfl, rfl⟩)
  go_ret2
  exact ⟨rfl, rfl⟩
def QuoRel (s : ByteArray) (w : World) (i : Value) (wr : World) : Prop :=
  ∃ k : Nat, i = .int .i64 k ∧ k ≤ s.size ∧ Bld w.heap.size w.heap.size (34 :: escS (s.data.toList.take k)) wr ∧ Below w.heap.size w wr
set_option maxHeartbeats 400000 in
set_option maxRecDepth 100000 in
theorem quote_good (s : ByteArray) (w : World) (hs : s.size ≤ 1000000000) (hc : ctlS s.data.toList = false) :
    Calls Tryd.prog 22 #[.string s] w fun e w' => e = .returned (.tuple #[.string (strB (quoS s.data.toList)), .nilIface]) ∧ Below w.heap.size w w' := by
  go_enter Tryd.func22, Tryd.ntmps22
  go_wp2_with (go_at_call 48; refine (hasControl_any _ _ (by unfold maxLen; omega)).mono ?_; rintro e w' ⟨rfl, rfl⟩)
  have hB0 : Below w.heap.size w (w.alloc (.cells #[.pointer none, .slice none 0 0] 78)) := (Below.refl _ _).alloc (Nat.le_refl _) _
  refine (writeByte_any w.heap.size w.heap.size [] 34 _ (bld_new w) (by simp) (by simp)).mono ?_
  rintro e w1 ⟨rfl, hb1, hBB⟩
  have hB1 := hB0.trans hBB
  clear hB0 hBB
  go_wp2_with fail
  go_loopw [5] (fun i wr => QuoRel s w i wr) (fun i _ => s.size - (intOf i).toNat)
  case atStart => exact ⟨0, rfl, by omega, hb1, hB1⟩
  case round =>
    obtain ⟨k, rfl, hk, hb, hB⟩ := hrel
    have hle := escS_le_take s k
    have hsz := hB.size
    by_cases hlt : k < s.size
    · have hstep := escS_take s k hlt
      have HS := Lib.hid hstep
      clear hstep
      by_cases h34 : s[k].toNat = 34
      · have he : esc s[k] = [92, s[k]] := by
          have : s[k] = 34 := UInt8.toNat_inj.mp h34
          unfold esc; rw [if_pos (.inl this)]
        have HE := Lib.hid he
        have ht : ((s[k].toNat : Int) == 34) = true := by simp; omega
        clear h34 he
        go_wp2_with fail
        refine (writeByte_any _ _ _ 92 _ hb (by simp; omega) hsz).mono ?_
        rintro e w2 ⟨rfl, hb2, hBB⟩
        have hsz2 := hBB.size
        go_wp2_with fail
        refine (writeByte_any _ _ _ s[k] _ hb2 (by simp; omega) (by omega)).mono ?_
        rintro e w3 ⟨rfl, hb3, hBB3⟩
        go_wp2_with fail
        go_roundw
        case rel => exact ⟨k + 1, by go_num, by omega, by rw [HS.out, HE.out]; simpa using hb3, (hB.trans hBB).trans hBB3⟩
        case measure => simp [intOf]; omega
      · by_cases h92 : s[k].toNat = 92
        · have he : esc s[k] = [92, s[k]] := by
            have : s[k] = 92 := UInt8.toNat_inj.mp h92
            unfold esc; rw [if_pos (.inr this)]
          have HE := Lib.hid he
          have ht : ((s[k].toNat : Int) == 92) = true := by simp; omega
          have ht2 : ((s[k].toNat : Int) == 34) = false := by simp; omega
          clear h92 he
          go_wp2_with fail
          refine (writeByte_any _ _ _ 92 _ hb (by simp; omega) hsz).mono ?_
          rintro e w2 ⟨rfl, hb2, hBB⟩
          have hsz2 := hBB.size
          go_wp2_with fail
          refine (writeByte_any _ _ _ s[k] _ hb2 (by simp; omega) (by omega)).mono ?_
          rintro e w3 ⟨rfl, hb3, hBB3⟩
          go_wp2_with fail
          go_roundw
          case rel => exact ⟨k + 1, by go_num, by omega, by rw [HS.out, HE.out]; simpa using hb3, (hB.trans hBB).trans hBB3⟩
          case measure => simp [intOf]; omega
        · have he : esc s[k] = [s[k]] := by
            unfold esc; rw [if_neg]
            rintro (h | h)
            · exact h34 (congrArg UInt8.toNat h)
            · exact h92 (congrArg UInt8.toNat h)
          have HE := Lib.hid he
          have ht : ((s[k].toNat : Int) == 92) = false := by simp; omega
          have ht2 : ((s[k].toNat : Int) == 34) = false := by simp; omega
          clear h34 h92 he
          go_wp2_with fail
          refine (writeByte_any _ _ _ s[k] _ hb (by simp; omega) hsz).mono ?_
          rintro e w2 ⟨rfl, hb2, hBB⟩
          go_wp2_with fail
          go_roundw
          case rel => exact ⟨k + 1, by go_num, by omega, by rw [HS.out, HE.out]; simpa using hb2, hB.trans hBB⟩
          case measure => simp [intOf]; omega
    · have hfin : 34 :: escS (s.data.toList.take k) ++ [34] = quoS s.data.toList := by rw [take_all s k (by omega)]; rfl
      have HF := Lib.hid hfin
      clear hfin
      go_wp2_with fail
      refine (writeByte_any _ _ _ 34 _ hb (by simp; omega) hsz).mono ?_
      rintro e w2 ⟨rfl, hb2, hBB⟩
      have hsz2 := hBB.size
      go_wp2_with fail
      refine (builder_string _ _ _ _ hb2 (by omega)).mono ?_
      rintro e w3 ⟨rfl, hBB3⟩
      rw [HF.out]
      go_wp2_with fail
      go_ret2
      exact ⟨rfl, (hB.trans hBB).trans hBB3⟩
end Go.Proofs.YtjcekkgoohkomaaDoor
