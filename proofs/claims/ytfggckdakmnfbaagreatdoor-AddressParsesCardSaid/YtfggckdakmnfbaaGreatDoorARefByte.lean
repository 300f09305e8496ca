/- What the reference's in, hex and unreserved return. -/
import Derived.Test.YtfggckdakmnfbaaGreatDoorACanon
import Derived.Test.YtfggckdakmnfbaaGreatDoorARefCut
namespace Go.Proofs.YtfggckdakmnfbaaGreatDoor
open Go.RowKit

theorem has_at {s : ByteArray} {k : Nat} {c : UInt8} (h : k < s.size) (hc : s[k].toNat = c.toNat) : s.data.toList.contains c = true := by
  have e : s[k] = c := nat_of_u8 hc
  have := get_mem s k h
  rw [e] at this
  exact List.elem_eq_true_of_mem this
theorem has_no {s : ByteArray} {k : Nat} {c : UInt8} (h : okTo (fun x => x != c) s k) (hk : s.size ≤ k) : s.data.toList.contains c = false := by
  have ha := okTo_end hk h
  rw [Bool.eq_false_iff]
  intro hc
  have hm : c ∈ s.data.toList := List.mem_of_elem_eq_true hc
  have := List.all_eq_true.mp ha c hm
  simp at this
set_option maxHeartbeats 1000000 in
set_option maxRecDepth 100000 in
theorem refIn_any (s : ByteArray) (c : UInt8) (b : Bool) (w : World) (hs : s.size ≤ 1000) (hb : s.data.toList.contains c = b) :
    Calls Tryz.prog 36 #[.string s, .int .u8 (c.toNat : Int)] w fun e w' => e = .returned (.bool b) ∧ w = w' := by
  have HB := Lib.hid hb
  clear hb
  go_enter Tryz.func36, Tryz.ntmps36
  go_wp2
  go_loop [8] (fun i => ∃ k : Nat, k ≤ s.size ∧ i = .int .i64 k ∧ okTo (fun x => x != c) s k) (fun i => s.size - (intOf i).toNat)
  case atStart => exact ⟨0, by omega, rfl, okTo0 _ s⟩
  case round =>
    obtain ⟨k, hk, rfl, hn⟩ := hrel
    by_cases hlt : k < s.size
    · by_cases hc : s[k].toNat = c.toNat
      · have hca : ((s[k].toNat : Int) == (c.toNat : Int)) = true := by rw [hc]; exact beq_self_eq_true _
        have HR := Lib.hid (show b = true from HB.out.symm.trans (has_at hlt hc))
        clear hc
        go_wp2
        go_ret
        exact ⟨by rw [HR.out]; rfl, rfl⟩
      · have hca : ((s[k].toNat : Int) == (c.toNat : Int)) = false := by simp; omega
        have HN := Lib.hid (okTo_step (p := fun x => x != c) hlt hn (by simp; intro e; exact hc (by rw [e])))
        clear hc
        go_wp2
        go_round
        case rel => exact ⟨k + 1, by omega, by go_num, HN.out⟩
        case measure => simp [intOf]; omega
    · have HR := Lib.hid (show b = false from HB.out.symm.trans (has_no hn (by omega)))
      go_wp2
      go_ret
      exact ⟨by rw [HR.out]; rfl, rfl⟩
theorem unr_has : ∀ n : Fin 256, ([45, 46, 95, 126] : List UInt8).contains (UInt8.ofNat n.val) = ([45, 46, 95, 126] : List Nat).contains (UInt8.ofNat n.val).toNat := by decide +kernel
theorem path_has : ∀ n : Fin 256, ([33, 36, 38, 39, 40, 41, 42, 43, 44, 59, 61, 58, 64, 47] : List UInt8).contains (UInt8.ofNat n.val) = ([33, 36, 38, 39, 40, 41, 42, 43, 44, 59, 61, 58, 64, 47] : List Nat).contains (UInt8.ofNat n.val).toNat := by decide +kernel
theorem unr_has' (c : UInt8) : ([45, 46, 95, 126] : List UInt8).contains c = ([45, 46, 95, 126] : List Nat).contains c.toNat := by
  have := unr_has ⟨c.toNat, UInt8.toNat_lt c⟩
  simpa only [UInt8.ofNat_toNat] using this
theorem path_has' (c : UInt8) : ([33, 36, 38, 39, 40, 41, 42, 43, 44, 59, 61, 58, 64, 47] : List UInt8).contains c = ([33, 36, 38, 39, 40, 41, 42, 43, 44, 59, 61, 58, 64, 47] : List Nat).contains c.toNat := by
  have := path_has ⟨c.toNat, UInt8.toNat_lt c⟩
  simpa only [UInt8.ofNat_toNat] using this
set_option maxHeartbeats 1000000 in
set_option maxRecDepth 100000 in
theorem refUnr_any (c : UInt8) (w : World) :
    Calls Tryz.prog 35 #[.int .u8 (c.toNat : Int)] w fun e w' => e = .returned (.bool (unrB c)) ∧ w = w' := by
  have HI := Lib.hid (fun w => refIn_any ⟨#[45, 46, 95, 126]⟩ c _ w (by decide) rfl)
  have HU := Lib.hid (show unrB c = (alnB c || ([45, 46, 95, 126] : List UInt8).contains c) by unfold unrB; rw [unr_has'])
  cases ha : alnB c with
  | true =>
    go_enter Tryz.func35, Tryz.ntmps35
    go_wp2_with (go_at_call 33; refine (refAlnum_any c _).mono ?_; rintro e w' ⟨rfl, rfl⟩; rw [ha])
    go_ret
    exact ⟨ret_bool (by rw [HU.out, ha]; rfl), rfl⟩
  | false =>
    go_enter Tryz.func35, Tryz.ntmps35
    go_wp2_with (first
      | (go_at_call 33; refine (refAlnum_any c _).mono ?_; rintro e w' ⟨rfl, rfl⟩; rw [ha])
      | (go_at_call 36; refine (HI.out _).mono ?_; rintro e w' ⟨rfl, rfl⟩))
    go_ret
    exact ⟨ret_bool (by rw [HU.out, ha]; simp), rfl⟩
theorem ret_int {a b : Int} (h : a = b) : Ending.returned (.int .i64 a) = .returned (.int .i64 b) := by rw [h]
set_option maxHeartbeats 1000000 in
set_option maxRecDepth 100000 in
theorem refHex_any (c : UInt8) (w : World) :
    Calls Tryz.prog 37 #[.int .u8 (c.toNat : Int)] w fun e w' => e = .returned (.int .i64 (hexI c)) ∧ w = w' := by
  have hlt := UInt8.toNat_lt c
  go_enter Tryz.func37, Tryz.ntmps37
  go_wp2
  all_goals
    go_ret
    refine ⟨ret_int ?_, rfl⟩
    unfold hexI
    try simp only [IntKind.wrap_i64, IntKind.wrap_u8] at *
    try simp only [decide_eq_true_eq, decide_eq_false_iff_not] at *
    (repeat' split) <;> omega
end Go.Proofs.YtfggckdakmnfbaaGreatDoor
