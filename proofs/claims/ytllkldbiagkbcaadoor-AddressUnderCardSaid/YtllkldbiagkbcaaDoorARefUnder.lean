/- What the reference's Under returns. -/
import Derived.Test.YtllkldbiagkbcaaDoorAUnder
namespace Go.Proofs.YtllkldbiagkbcaaDoor
open Go.RowKit

theorem pre_take {a p : List UInt8} : p.isPrefixOf a = true ↔ p.length ≤ a.length ∧ a.take p.length = p := by
  rw [List.isPrefixOf_iff_prefix]
  constructor
  · intro h; exact ⟨h.length_le, (List.prefix_iff_eq_take.mp h).symm⟩
  · rintro ⟨_, h⟩; rw [← h]; exact List.take_prefix _ _
theorem rest_last {y : ByteArray} (h : 0 < y.size) (hc : (y[y.size - 1]'(by omega)).toNat = 47) (r : List UInt8) : restB r y.data.toList = true := by
  unfold restB; rw [last_at y h, nat_of_u8 (a := y[y.size - 1]'(by omega)) (b := 47) hc]; simp
theorem last_not {y : ByteArray} (h : y.size = 0 ∨ ∃ h : 0 < y.size, (y[y.size - 1]'(by omega)).toNat ≠ 47) : (y.data.toList.getLast? == some 47) = false := by
  rcases h with h | ⟨h, hc⟩
  · rw [List.eq_nil_of_length_eq_zero (l := y.data.toList) (by rw [Array.length_toList]; exact h)]; rfl
  · rw [last_at y h]; simp; intro e; exact hc (by rw [e]; rfl)
theorem drop_nil {x : ByteArray} {n : Nat} (h : x.size ≤ n) : x.data.toList.drop n = [] := List.drop_eq_nil_of_le (by rw [Array.length_toList]; exact h)
theorem drop_cons {x : ByteArray} {n : Nat} (h : n < x.size) : x.data.toList.drop n = x[n] :: x.data.toList.drop (n + 1) := by
  rw [List.drop_eq_getElem_cons (by rw [Array.length_toList]; exact h)]; rfl
set_option maxHeartbeats 8000000 in
set_option maxRecDepth 100000 in
theorem refUnder_any (a b : Adr) (w : World) (ha : AdrLe 140737488355328 a) (hb : AdrLe 140737488355328 b) :
    Calls Tryd.prog 21 #[adrV a, adrV b] w fun e w' => e = .returned (.bool (underB a b)) ∧ Below w.heap.size w w' := by
  have hx := ha.2.1
  have hy := hb.2.1
  have HB := Lib.hid (show ∀ n, Below w.heap.size w (((w.alloc (.cells #[.string (strB a.h), .string (strB a.p), .string (strB a.q), .bool a.b] 36)).alloc (.cells #[.string (strB b.h), .string (strB b.p), .string (strB b.q), .bool b.b] 36)).drewN n) from
    fun n => below_drewN ((below_new _ _).alloc (by simp) _) n)
  clear ha hb
  obtain ⟨ah, ap, aq, ab⟩ := a
  obtain ⟨bh, bp, bq, bb⟩ := b
  obtain ⟨x, rfl⟩ : ∃ x : ByteArray, ap = x.data.toList := ⟨strB ap, (strB_list ap).symm⟩
  obtain ⟨y, rfl⟩ : ∃ y : ByteArray, bp = y.data.toList := ⟨strB bp, (strB_list bp).symm⟩
  simp only [adrV, strB_of] at *
  have HYL := Lib.hid (show y.data.toList.length = y.size by rw [Array.length_toList]; rfl)
  have HXL := Lib.hid (show x.data.toList.length = x.size by rw [Array.length_toList]; rfl)
  have HUP := Lib.hid (fun h => under_path (a := ⟨ah, x.data.toList, aq, ab⟩) (b := ⟨bh, y.data.toList, bq, bb⟩) h)
  have HUR := Lib.hid (fun h1 h2 => under_rest (a := ⟨ah, x.data.toList, aq, ab⟩) (b := ⟨bh, y.data.toList, bq, bb⟩) h1 h2)
  have HUH := Lib.hid (fun h => under_host (a := ⟨ah, x.data.toList, aq, ab⟩) (b := ⟨bh, y.data.toList, bq, bb⟩) h)
  by_cases hh : ah = bh
  · have hhe : ((strB ah).toList == (strB bh).toList) = true := by rw [hh]; exact beq_self_eq_true _
    have HH := Lib.hid hh
    clear hh
    by_cases hl : x.size < y.size
    · have HR := Lib.hid (HUP.out (by
        rw [Bool.eq_false_iff]; intro e
        have h := (pre_take.mp e).1
        rw [HYL.out, HXL.out] at h; omega))
      go_enter Tryd.func21, Tryd.ntmps21
      go_wp2
      go_quiet (fail)
      go_wp2
      go_ret
      exact ⟨ret_bool HR.out.symm, HB.out nq⟩
    · have hl' : y.size ≤ x.size := by omega
      have hseg : (x.extract 0 y.size).data.toList = x.data.toList.take y.size := by rw [seg_list, List.drop_zero, Nat.sub_zero]
      by_cases ht : x.data.toList.take y.size = y.data.toList
      · have he : ((x.extract 0 y.size).toList == y.toList) = true := by rw [ByteArray.toList_eq, ByteArray.toList_eq, hseg, ht]; exact beq_self_eq_true _
        have HU := Lib.hid ((HUR.out HH.out (pre_take.mpr ⟨by rw [HYL.out, HXL.out]; exact hl', by rw [HYL.out]; exact ht⟩)).trans (show restB (x.data.toList.drop y.data.toList.length) y.data.toList = restB (x.data.toList.drop y.size) y.data.toList by rw [HYL.out]))
        clear ht hseg
        by_cases hy0 : 0 < y.size
        · by_cases hc : (y[y.size - 1]'(by omega)).toNat = 47
          · have HR := Lib.hid (HU.out.trans (rest_last hy0 hc _))
            have hc' : (((y[y.size - 1]'(by omega)).toNat : Int) == 47) = true := by rw [hc]; rfl
            clear hc
            go_enter Tryd.func21, Tryd.ntmps21
            go_wp2
            go_quiet (fail)
            go_wp2
            go_ret
            exact ⟨ret_bool HR.out.symm, HB.out nq⟩
          · have hc' : (((y[y.size - 1]'(by omega)).toNat : Int) == 47) = false := by simp <;> omega
            have HL := Lib.hid (last_not (y := y) (Or.inr ⟨hy0, hc⟩))
            clear hc
            by_cases hxy : x.size = y.size
            · have HR := Lib.hid (HU.out.trans (c := true) (by rw [drop_nil (by omega)]; rfl))
              have hxy' : ((x.size : Int) == (y.size : Int)) = true := by rw [hxy]; exact beq_self_eq_true _
              clear hxy
              go_enter Tryd.func21, Tryd.ntmps21
              go_wp2
              go_quiet (fail)
              go_wp2
              go_ret
              exact ⟨ret_bool HR.out.symm, HB.out nq⟩
            · have hlt : y.size < x.size := by omega
              have hxy' : ((x.size : Int) == (y.size : Int)) = false := by simp <;> omega
              by_cases hd : x[y.size].toNat = 47
              · have HR := Lib.hid (HU.out.trans (c := true) (by rw [drop_cons hlt]; exact rest_slash hd _ _))
                have hd' : ((x[y.size].toNat : Int) == 47) = true := by rw [hd]; rfl
                clear hd
                go_enter Tryd.func21, Tryd.ntmps21
                go_wp2
                go_quiet (fail)
                go_wp2
                go_ret
                exact ⟨ret_bool HR.out.symm, HB.out nq⟩
              · have HR := Lib.hid (HU.out.trans (c := false) (by rw [drop_cons hlt]; exact (rest_other hd _ _).trans HL.out))
                have hd' : ((x[y.size].toNat : Int) == 47) = false := by simp <;> omega
                clear hd
                go_enter Tryd.func21, Tryd.ntmps21
                go_wp2
                go_quiet (fail)
                go_wp2
                go_ret
                exact ⟨ret_bool HR.out.symm, HB.out nq⟩
        · have hy1 : y.size = 0 := by omega
          have HL := Lib.hid (last_not (y := y) (Or.inl hy1))
          by_cases hxy : x.size = y.size
          · have HR := Lib.hid (HU.out.trans (c := true) (by rw [drop_nil (by omega)]; rfl))
            have hxy' : ((x.size : Int) == (y.size : Int)) = true := by rw [hxy]; exact beq_self_eq_true _
            clear hxy hy1
            go_enter Tryd.func21, Tryd.ntmps21
            go_wp2
            go_quiet (fail)
            go_wp2
            go_ret
            exact ⟨ret_bool HR.out.symm, HB.out nq⟩
          · have hlt : y.size < x.size := by omega
            have hxy' : ((x.size : Int) == (y.size : Int)) = false := by simp <;> omega
            clear hy1
            by_cases hd : x[y.size].toNat = 47
            · have HR := Lib.hid (HU.out.trans (c := true) (by rw [drop_cons hlt]; exact rest_slash hd _ _))
              have hd' : ((x[y.size].toNat : Int) == 47) = true := by rw [hd]; rfl
              clear hd
              go_enter Tryd.func21, Tryd.ntmps21
              go_wp2
              go_quiet (fail)
              go_wp2
              go_ret
              exact ⟨ret_bool HR.out.symm, HB.out nq⟩
            · have HR := Lib.hid (HU.out.trans (c := false) (by rw [drop_cons hlt]; exact (rest_other hd _ _).trans HL.out))
              have hd' : ((x[y.size].toNat : Int) == 47) = false := by simp <;> omega
              clear hd
              go_enter Tryd.func21, Tryd.ntmps21
              go_wp2
              go_quiet (fail)
              go_wp2
              go_ret
              exact ⟨ret_bool HR.out.symm, HB.out nq⟩
      · have he : ((x.extract 0 y.size).toList == y.toList) = false := by rw [ByteArray.toList_eq, ByteArray.toList_eq, hseg]; simpa using ht
        have HR := Lib.hid (HUP.out (by
          rw [Bool.eq_false_iff]; intro e
          have h := (pre_take.mp e).2
          rw [HYL.out] at h; exact ht h))
        clear ht hseg
        go_enter Tryd.func21, Tryd.ntmps21
        go_wp2
        go_quiet (fail)
        go_wp2
        go_ret
        exact ⟨ret_bool HR.out.symm, HB.out nq⟩
  · have hhe : ((strB ah).toList == (strB bh).toList) = false := by rw [ByteArray.toList_eq, ByteArray.toList_eq, strB_list, strB_list]; simpa using hh
    have HR := Lib.hid (HUH.out hh)
    clear hh
    go_enter Tryd.func21, Tryd.ntmps21
    go_wp2
    go_quiet (fail)
    go_wp2
    go_ret
    exact ⟨ret_bool HR.out.symm, HB.out nq⟩
end Go.Proofs.YtllkldbiagkbcaaDoor
