/- What the reference's Valid returns. -/
import Derived.Test.YtllkldbiagkbcaaGreatDoorARefParse
import Derived.Test.YtllkldbiagkbcaaGreatDoorARead
namespace Go.Proofs.YtllkldbiagkbcaaGreatDoor
open Go.RowKit

abbrev cellsRx (x : Adr) : Obj := .cells #[.string (strB x.h), .string (strB x.p), .string (strB x.q), .bool x.b] 29
theorem code_of (h t : List UInt8) : (parseA h t).1 = 0 ∨ (parseA h t).1 = 5 ∨ (parseA h t).1 = 8 ∨ (parseA h t).1 = 27 := by
  unfold parseA
  split
  · simp
  · split
    · split <;> simp
    · simp
set_option maxHeartbeats 4000000 in
set_option maxRecDepth 100000 in
theorem refValid_any (a : Adr) (w : World) (ha : AdrLe 10000 a) :
    Calls Tryz.prog 12 #[adrV a] w fun e w' => e = .returned (.bool (validA a)) ∧ Below w.heap.size w w' := by
  have hts := target_size ha
  obtain ⟨h1, h2, h3⟩ := ha
  obtain ⟨h, p, q, b⟩ := a
  simp only at h1 h2 h3
  cases b with
  | true =>
    have htt : strB (Adr.target ⟨h, p, q, true⟩) = strB p ++ ((⟨#[63]⟩ : ByteArray) ++ strB q) := by
      have e1 : (⟨#[63]⟩ : ByteArray) ++ strB q = strB (63 :: q) := strB_pre 63 q
      rw [e1, strB_app, strB_list]; simp [Adr.target]
    obtain ⟨n, x, hx⟩ : ∃ n x, parseA h (Adr.target ⟨h, p, q, true⟩) = (n, x) := ⟨_, _, rfl⟩
    obtain ⟨z, hz⟩ : ∃ z : Int, z = (n : Int) := ⟨_, rfl⟩
    have HRP := Lib.hid (fun (w' : World) => show Calls Tryz.prog 8 #[.string (strB h), .string (strB p ++ ((⟨#[63]⟩ : ByteArray) ++ strB q))] w' fun e w'' => e = .returned (.tuple #[adrV x, .int .i64 z]) ∧ Below w'.heap.size w' w'' by
      have := refParse_any (strB h) (strB (Adr.target ⟨h, p, q, true⟩)) w' (by omega) (by omega)
      rw [strB_list, strB_list, refParseV_of hx, ← hz, htt] at this; exact this)
    have HCODE := Lib.hid (show n = 0 ∨ n = 5 ∨ n = 8 ∨ n = 27 by have := code_of h (Adr.target ⟨h, p, q, true⟩); rw [hx] at this; exact this)
    have HZ := Lib.hid hz
    have HYES := Lib.hid (show n = 0 → x = ⟨h, p, q, true⟩ → validA ⟨h, p, q, true⟩ = true from fun hn hxa => by rw [valid_eq, decide_eq_true_iff]; show parseA h (Adr.target ⟨h, p, q, true⟩) = _; rw [hx, hn, hxa])
    have HNO := Lib.hid (show (n ≠ 0 ∨ x ≠ ⟨h, p, q, true⟩) → validA ⟨h, p, q, true⟩ = false from fun hor => by
      rw [valid_eq, decide_eq_false_iff_not]; intro e
      have e' : parseA h (Adr.target ⟨h, p, q, true⟩) = (0, ⟨h, p, q, true⟩) := e
      rw [hx] at e'
      injection e' with e1 e2
      rcases hor with ho | ho
      · exact ho e1
      · exact ho e2)
    clear hx hz
    clear htt hts
    go_enter Tryz.func12, Tryz.ntmps12
    go_wp2_with fail
    refine (HRP.out _).mono ?_
    rintro e w1 ⟨rfl, hB1⟩
    have HB1 := Lib.hid ((below_new w _).trans (hB1.mono (below_new w _).size))
    have F1 := Lib.hid ((four_new w (.string (strB h)) (.string (strB p)) (.string (strB q)) (.bool true) 29).below hB1)
    clear hB1
    go_upto_region 7 with fail
    have HB2 := Lib.hid (HB1.out.alloc HB1.out.size (cellsRx x))
    have F2 := Lib.hid (F1.out.below (below_new w1 (cellsRx x)))
    have G1 := Lib.hid (four_new w1 (.string (strB x.h)) (.string (strB x.p)) (.string (strB x.q)) (.bool x.b) 29)
    generalize w1.alloc (.cells #[.string (strB x.h), .string (strB x.p), .string (strB x.q), .bool x.b] 29) = w2 at *
    generalize w1.heap.size = N at *
    obtain ⟨c0, c1, c2, c3, _, _, _, _, _⟩ := F2.out
    obtain ⟨d0, d1, d2, d3, _, _, _, _, _⟩ := G1.out
    rcases HCODE.out with hn | hn | hn | hn
    · obtain rfl : z = 0 := by rw [HZ.out, hn]; rfl
      by_cases hxa : x = ⟨h, p, q, true⟩
      · have HR := Lib.hid (HYES.out hn hxa)
        subst hxa
        clear hn
        go_wp2_with fail
        go_ret
        exact ⟨ret_bool HR.out.symm, HB2.out⟩
      · have HR := Lib.hid (HNO.out (Or.inr hxa))
        have HNE := Lib.hid (show ¬ (h = x.h ∧ p = x.p ∧ q = x.q ∧ true = x.b) from fun ⟨e1, e2, e3, e4⟩ => hxa (by cases x; simp_all))
        clear hn hxa
        go_wp2_with fail
        all_goals first
          | (go_ret
             exact ⟨ret_bool HR.out.symm, HB2.out⟩)
          | (exact absurd ⟨strL_inj (by assumption), strL_inj (by assumption), strL_inj (by assumption), by simp_all⟩ HNE.out)
    · obtain rfl : z = 5 := by rw [HZ.out, hn]; rfl
      have HR := Lib.hid (HNO.out (Or.inl (by omega)))
      clear hn
      go_wp2_with fail
      go_ret
      exact ⟨ret_bool HR.out.symm, HB2.out⟩
    · obtain rfl : z = 8 := by rw [HZ.out, hn]; rfl
      have HR := Lib.hid (HNO.out (Or.inl (by omega)))
      clear hn
      go_wp2_with fail
      go_ret
      exact ⟨ret_bool HR.out.symm, HB2.out⟩
    · obtain rfl : z = 27 := by rw [HZ.out, hn]; rfl
      have HR := Lib.hid (HNO.out (Or.inl (by omega)))
      clear hn
      go_wp2_with fail
      go_ret
      exact ⟨ret_bool HR.out.symm, HB2.out⟩
  | false =>
    by_cases hq : q = []
    · subst hq
      have htt : strB (Adr.target ⟨h, p, [], false⟩) = strB p := by simp [Adr.target]
      obtain ⟨n, x, hx⟩ : ∃ n x, parseA h (Adr.target ⟨h, p, [], false⟩) = (n, x) := ⟨_, _, rfl⟩
      obtain ⟨z, hz⟩ : ∃ z : Int, z = (n : Int) := ⟨_, rfl⟩
      have HRP := Lib.hid (fun (w' : World) => show Calls Tryz.prog 8 #[.string (strB h), .string (strB p)] w' fun e w'' => e = .returned (.tuple #[adrV x, .int .i64 z]) ∧ Below w'.heap.size w' w'' by
        have := refParse_any (strB h) (strB (Adr.target ⟨h, p, [], false⟩)) w' (by omega) (by omega)
        rw [strB_list, strB_list, refParseV_of hx, ← hz, htt] at this; exact this)
      have HCODE := Lib.hid (show n = 0 ∨ n = 5 ∨ n = 8 ∨ n = 27 by have := code_of h (Adr.target ⟨h, p, [], false⟩); rw [hx] at this; exact this)
      have HZ := Lib.hid hz
      have HYES := Lib.hid (show n = 0 → x = ⟨h, p, [], false⟩ → validA ⟨h, p, [], false⟩ = true from fun hn hxa => by rw [valid_eq, decide_eq_true_iff]; show parseA h (Adr.target ⟨h, p, [], false⟩) = _; rw [hx, hn, hxa])
      have HNO := Lib.hid (show (n ≠ 0 ∨ x ≠ ⟨h, p, [], false⟩) → validA ⟨h, p, [], false⟩ = false from fun hor => by
        rw [valid_eq, decide_eq_false_iff_not]; intro e
        have e' : parseA h (Adr.target ⟨h, p, [], false⟩) = (0, ⟨h, p, [], false⟩) := e
        rw [hx] at e'
        injection e' with e1 e2
        rcases hor with ho | ho
        · exact ho e1
        · exact ho e2)
      clear hx hz
      clear htt hts
      have he2 : (strB []).toList.isEmpty = true := empty_yes rfl
      go_enter Tryz.func12, Tryz.ntmps12
      go_wp2_with fail
      refine (HRP.out _).mono ?_
      rintro e w1 ⟨rfl, hB1⟩
      have HB1 := Lib.hid ((below_new w _).trans (hB1.mono (below_new w _).size))
      have F1 := Lib.hid ((four_new w (.string (strB h)) (.string (strB p)) (.string (strB [])) (.bool false) 29).below hB1)
      clear hB1
      go_upto_region 7 with fail
      have HB2 := Lib.hid (HB1.out.alloc HB1.out.size (cellsRx x))
      have F2 := Lib.hid (F1.out.below (below_new w1 (cellsRx x)))
      have G1 := Lib.hid (four_new w1 (.string (strB x.h)) (.string (strB x.p)) (.string (strB x.q)) (.bool x.b) 29)
      generalize w1.alloc (.cells #[.string (strB x.h), .string (strB x.p), .string (strB x.q), .bool x.b] 29) = w2 at *
      generalize w1.heap.size = N at *
      obtain ⟨c0, c1, c2, c3, _, _, _, _, _⟩ := F2.out
      obtain ⟨d0, d1, d2, d3, _, _, _, _, _⟩ := G1.out
      rcases HCODE.out with hn | hn | hn | hn
      · obtain rfl : z = 0 := by rw [HZ.out, hn]; rfl
        by_cases hxa : x = ⟨h, p, [], false⟩
        · have HR := Lib.hid (HYES.out hn hxa)
          subst hxa
          clear hn
          go_wp2_with fail
          go_ret
          exact ⟨ret_bool HR.out.symm, HB2.out⟩
        · have HR := Lib.hid (HNO.out (Or.inr hxa))
          have HNE := Lib.hid (show ¬ (h = x.h ∧ p = x.p ∧ [] = x.q ∧ false = x.b) from fun ⟨e1, e2, e3, e4⟩ => hxa (by cases x; simp_all))
          clear hn hxa
          go_wp2_with fail
          all_goals first
            | (go_ret
               exact ⟨ret_bool HR.out.symm, HB2.out⟩)
            | (exact absurd ⟨strL_inj (by assumption), strL_inj (by assumption), strL_inj (by assumption), by simp_all⟩ HNE.out)
      · obtain rfl : z = 5 := by rw [HZ.out, hn]; rfl
        have HR := Lib.hid (HNO.out (Or.inl (by omega)))
        clear hn
        go_wp2_with fail
        go_ret
        exact ⟨ret_bool HR.out.symm, HB2.out⟩
      · obtain rfl : z = 8 := by rw [HZ.out, hn]; rfl
        have HR := Lib.hid (HNO.out (Or.inl (by omega)))
        clear hn
        go_wp2_with fail
        go_ret
        exact ⟨ret_bool HR.out.symm, HB2.out⟩
      · obtain rfl : z = 27 := by rw [HZ.out, hn]; rfl
        have HR := Lib.hid (HNO.out (Or.inl (by omega)))
        clear hn
        go_wp2_with fail
        go_ret
        exact ⟨ret_bool HR.out.symm, HB2.out⟩
    · have HR := Lib.hid (show validA ⟨h, p, q, false⟩ = false by unfold validA; simp [hq])
      have he2 : (strB q).toList.isEmpty = false := empty_no hq
      clear hq hts
      go_enter Tryz.func12, Tryz.ntmps12
      go_wp2_with fail
      go_ret
      exact ⟨ret_bool HR.out.symm, below_new _ _⟩
end Go.Proofs.YtllkldbiagkbcaaGreatDoor
