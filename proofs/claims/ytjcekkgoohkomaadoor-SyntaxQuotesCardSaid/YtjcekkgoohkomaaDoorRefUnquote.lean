/- What the reference's Unquote returns, for every string up to a bound. -/
import Derived.Test.YtjcekkgoohkomaaDoorUnquote
namespace Go.Proofs.YtjcekkgoohkomaaDoor
open Go.RowKit

def RUnqPost (s : ByteArray) (w : World) (e : Ending) (w' : World) : Prop :=
  w = w' ∧
  match unqO s.data.toList with
  | none => e = .returned (.tuple #[.string ⟨#[]⟩, .bool false])
  | some l => e = .returned (.tuple #[.string (strB l), .bool true])
theorem RUnqPost.none {s : ByteArray} {w : World} (h : unqO s.data.toList = none) : RUnqPost s w (.returned (.tuple #[.string ⟨#[]⟩, .bool false])) w :=
  ⟨rfl, by rw [h]⟩
def RUnqRel (s : ByteArray) (o i : Value) : Prop :=
  ∃ (k : Nat) (out : List UInt8), i = .int .i64 k ∧ o = .string (strB out) ∧ RInv s.data.toList out k

set_option maxHeartbeats 2000000 in
set_option maxRecDepth 100000 in
theorem refUnquote_any (s : ByteArray) (w : World) (hs : s.size ≤ 1000000000) :
    Calls Tryd.prog 26 #[.string s] w fun e w' => RUnqPost s w e w' := by
  by_cases hc : ctlS s.data.toList = true
  · go_enter Tryd.func26, Tryd.ntmps26
    go_wp2_with (go_at_call 50; refine (refControl_any _ _ (by unfold maxLen; omega)).mono ?_; rintro e w' ⟨rfl, rfl⟩)
    go_ret2
    exact RUnqPost.none (unq_ctl hc)
  · have hc' : ctlS s.data.toList = false := by simpa using hc
    clear hc
    by_cases h2 : s.size < 2
    · go_enter Tryd.func26, Tryd.ntmps26
      go_wp2_with (go_at_call 50; refine (refControl_any _ _ (by unfold maxLen; omega)).mono ?_; rintro e w' ⟨rfl, rfl⟩)
      go_ret2
      exact RUnqPost.none (unq_short h2)
    · by_cases h0 : s[0] = 34
      · have t0 : ((s[0].toNat : Int) != 34) = false := by rw [h0]; rfl
        have hu := unq_go (by omega) hc' h0
        have HU := Lib.hid hu
        clear h0 hu
        go_enter Tryd.func26, Tryd.ntmps26
        go_wp2_with (go_at_call 50; refine (refControl_any _ _ (by unfold maxLen; omega)).mono ?_; rintro e w' ⟨rfl, rfl⟩)
        go_loop [4, 5] (fun o i => RUnqRel s o i) (fun _ i => s.size - (intOf i).toNat)
        case atStart => exact ⟨1, [], rfl, rfl, RInv0 _ (by simp; omega)⟩
        case round =>
          obtain ⟨k, out, rfl, rfl, hI⟩ := hrel
          have hL : s.data.toList.length = s.size := by simp
          have HI := Lib.hid hI
          have HLen := Lib.hid hL
          have hk1 : 1 ≤ k := hI.1
          have ho : out.length ≤ k := hI.2.1
          have hke : k ≤ s.size + 1 := by rcases hI.2.2 with h | h <;> omega
          have hz := strB_size out
          have hz2 : (strB out).size ≤ k := by omega
          clear hI hL hz
          by_cases hlt : k < s.size
          · by_cases h34 : s[k] = 34
            · have t34 : ((s[k].toNat : Int) != 34) = false := by rw [h34]; rfl
              have hst := HI.out.stop (by rw [HLen.out]; exact hlt) h34
              rw [HLen.out] at hst
              have HST := Lib.hid hst
              clear h34 hst
              by_cases hend : k + 1 = s.size
              · have te : ((k : Int) != (s.size : Int) - 1) = false := by simp; omega
                have HE := Lib.hid hend
                clear hend
                go_wp2
                go_ret2
                refine ⟨rfl, ?_⟩
                rw [HU.out, HST.out, if_pos HE.out]
                rfl
              · have te : ((k : Int) != (s.size : Int) - 1) = true := by simp; omega
                have HE := Lib.hid hend
                clear hend
                go_wp2
                go_ret2
                exact RUnqPost.none (by rw [HU.out, HST.out, if_neg HE.out])
            · have t34 : ((s[k].toNat : Int) != 34) = true := by
                simp; intro h; exact h34 (UInt8.toNat_inj.mp (by show s[k].toNat = 34; omega))
              have H34 := Lib.hid h34
              clear h34
              by_cases h92 : s[k] = 92
              · have t92 : ((s[k].toNat : Int) == 92) = true := by rw [h92]; rfl
                have H92 := Lib.hid h92
                clear h92
                by_cases hend : k + 1 < s.size
                · have h1 := one_byte s (k + 1) hend
                  have H1 := Lib.hid h1
                  clear h1
                  go_wp2
                  go_round
                  case rel => exact ⟨k + 2, out ++ [s[k + 1]], by go_num, by rw [strB_app, H1.out], HI.out.two (by rw [HLen.out]; exact hend) H92.out⟩
                  case measure => simp [intOf]; omega
                · go_wp2
                  go_round
                  case rel => exact ⟨k + 2, out, by go_num, rfl, HI.out.last (by rw [HLen.out]; exact hlt) H92.out (by rw [HLen.out]; omega)⟩
                  case measure => simp [intOf]; omega
              · have t92 : ((s[k].toNat : Int) == 92) = false := by
                  simp; intro h; exact h92 (UInt8.toNat_inj.mp (by show s[k].toNat = 92; omega))
                have H92 := Lib.hid h92
                clear h92
                have h1 := one_byte s k hlt
                have H1 := Lib.hid h1
                clear h1
                go_wp2
                go_round
                case rel => exact ⟨k + 1, out ++ [s[k]], by go_num, by rw [strB_app, H1.out], HI.out.step (by rw [HLen.out]; exact hlt) H34.out H92.out⟩
                case measure => simp [intOf]; omega
          · have te : ((k : Int) != (s.size : Int) - 1) = true := by simp; omega
            have hp := HI.out.past (by rw [HLen.out]; omega)
            have HP := Lib.hid hp
            clear hp
            go_wp2
            go_ret2
            exact RUnqPost.none (by rw [HU.out]; exact HP.out)
      · have t0 : ((s[0].toNat : Int) != 34) = true := by
          simp; intro h; exact h0 (UInt8.toNat_inj.mp (by show s[0].toNat = 34; omega))
        have H0 := Lib.hid h0
        clear h0
        go_enter Tryd.func26, Tryd.ntmps26
        go_wp2_with (go_at_call 50; refine (refControl_any _ _ (by unfold maxLen; omega)).mono ?_; rintro e w' ⟨rfl, rfl⟩)
        go_ret2
        exact RUnqPost.none (unq_head (by omega) H0.out)
end Go.Proofs.YtjcekkgoohkomaaDoor
