/- What the decoder does with trailer lines: isForbidden, trailer, endTrailer, takeTrailer. -/
import Derived.Test.YthlfhbhjiofneaaDoorKStep
import Derived.Test.YthlfhbhjiofneaaDoorKBytes
import Derived.Test.YthlfhbhjiofneaaDoorFName
import Derived.Test.YthlfhbhjiofneaaDoorAMax
import Derived.Test.YthlfhbhjiofneaaDoorTwo
import Derived.Deep.RegionLaw
import Derived.Deep.AppendLies
import Derived.Maps.AppendAt
namespace Go.Proofs.YthlfhbhjiofneaaDoor
open Go.RowKit

set_option maxHeartbeats 4000000 in
set_option maxRecDepth 100000 in
theorem isForbidden_any (n : List UInt8) (w : World) :
    Calls Tryd.prog 41 #[.string (strB n)] w fun e w' => e = .returned (.bool (forbB n)) ∧ w = w' := by
  have e0 : (strB n).toList = n := by rw [ByteArray.toList_eq, strB_list]
  have E0 := Lib.hid e0
  clear e0
  go_enter Tryd.func41, Tryd.ntmps41
  go_wp2_with fail
  all_goals
    go_ret
    refine ⟨ret_bool ?_, rfl⟩
    rw [E0.out] at *
    unfold forbB forbL
    simp_all
theorem lit_nil : (⟨#[]⟩ : ByteArray) = strB [] := rfl
/-- What trailer returns. -/
def trV (n v : List UInt8) : Value :=
  if trB n v = true then .tuple #[.agg #[.string (strB (nameR n)), .string (strB (valueR v))], .nilIface]
  else .tuple #[.agg #[.string (strB []), .string (strB [])], .iface 41 (.int .i64 34)]
set_option maxHeartbeats 4000000 in
set_option maxRecDepth 100000 in
theorem trailer_any (n v : List UInt8) (w : World) (hn : n.length ≤ 1000000) (hv : v.length ≤ 1000000) :
    Calls Tryd.prog 29 #[.string (strB n), .string (strB v)] w fun e w' => e = .returned (trV n v) ∧ Below w.heap.size w w' := by
  have N := Lib.hid (fun W => name_any (strB n) W (by rw [strB_size]; omega))
  have V := Lib.hid (fun W => value_any (strB v) W (by rw [strB_size]; omega))
  rw [strB_list] at N V
  clear hn hv
  by_cases h1 : nameC n = 0
  · cases h2 : forbB (nameR n) with
    | true =>
      have e1 : trV n v = .tuple #[.agg #[.string (strB []), .string (strB [])], .iface 41 (.int .i64 34)] := by unfold trV trB; rw [h2]; simp
      rw [e1, ← lit_nil]
      have HF := Lib.hid (show ∀ W, Calls Tryd.prog 41 #[.string (strB (nameR n))] W fun e w' => e = .returned (.bool true) ∧ W = w' by intro W; rw [← h2]; exact isForbidden_any _ W)
      have he : errV (nameC n) = .nilIface := by rw [h1]; rfl
      rw [he] at N
      clear e1 h1 h2 he V
      go_enter Tryd.func29, Tryd.ntmps29
      go_wp2_with fail
      refine (N.out _).mono ?_
      rintro e w1 ⟨rfl, hB⟩
      obtain ⟨c0, c1, f0, f1, hsz⟩ := two_kept w 0 hB
      go_wp2_with fail
      refine (HF.out _).mono ?_
      rintro e w' ⟨rfl, rfl⟩
      go_wp2_with fail
      refine bodyPost_ret (v := .tuple #[.agg #[.string ⟨#[]⟩, .string ⟨#[]⟩], .iface 41 (.int .i64 34)]) (by simp [results, Tryd.results29, go_sem, c0, c1]) rfl ?_
      exact ⟨rfl, below_two ((below_new w _).trans (hB.mono (by simp))) _ _⟩
    | false =>
      have HF := Lib.hid (show ∀ W, Calls Tryd.prog 41 #[.string (strB (nameR n))] W fun e w' => e = .returned (.bool false) ∧ W = w' by intro W; rw [← h2]; exact isForbidden_any _ W)
      have he : errV (nameC n) = .nilIface := by rw [h1]; rfl
      rw [he] at N
      by_cases h3 : valueC v = 0
      · have e1 : trV n v = .tuple #[.agg #[.string (strB (nameR n)), .string (strB (valueR v))], .nilIface] := by unfold trV trB; rw [h1, h2, h3]; simp
        rw [e1]
        have he2 : errV (valueC v) = .nilIface := by rw [h3]; rfl
        rw [he2] at V
        clear e1 h1 h2 h3 he he2
        go_enter Tryd.func29, Tryd.ntmps29
        go_wp2_with fail
        refine (N.out _).mono ?_
        rintro e w1 ⟨rfl, hB⟩
        go_wp2_with fail
        refine (HF.out _).mono ?_
        rintro e w' ⟨rfl, rfl⟩
        go_wp2_with fail
        refine (V.out _).mono ?_
        rintro e w2 ⟨rfl, hB2⟩
        have hB := hB.trans (hB2.mono hB.size)
        clear hB2
        obtain ⟨c0, c1, f0, f1, hsz⟩ := two_kept w 0 hB
        go_wp2_with fail
        refine bodyPost_ret (v := .tuple #[.agg #[.string (strB (nameR n)), .string (strB (valueR v))], .nilIface]) (by simp [results, Tryd.results29, go_sem, c0, c1]) rfl ?_
        exact ⟨rfl, below_two ((below_new w _).trans (hB.mono (by simp))) _ _⟩
      · have e1 : trV n v = .tuple #[.agg #[.string (strB []), .string (strB [])], .iface 41 (.int .i64 34)] := by unfold trV trB; rw [decide_eq_false h3]; simp
        rw [e1, ← lit_nil]
        rw [errV_yes h3] at V
        clear e1 h1 h2 h3 he
        go_enter Tryd.func29, Tryd.ntmps29
        go_wp2_with fail
        refine (N.out _).mono ?_
        rintro e w1 ⟨rfl, hB⟩
        go_wp2_with fail
        refine (HF.out _).mono ?_
        rintro e w' ⟨rfl, rfl⟩
        go_wp2_with fail
        refine (V.out _).mono ?_
        rintro e w2 ⟨rfl, hB2⟩
        have hB := hB.trans (hB2.mono hB.size)
        clear hB2
        obtain ⟨c0, c1, f0, f1, hsz⟩ := two_kept w 0 hB
        go_wp2_with fail
        refine bodyPost_ret (v := .tuple #[.agg #[.string ⟨#[]⟩, .string ⟨#[]⟩], .iface 41 (.int .i64 34)]) (by simp [results, Tryd.results29, go_sem, c0, c1]) rfl ?_
        exact ⟨rfl, below_two ((below_new w _).trans (hB.mono (by simp))) _ _⟩
  · have e1 : trV n v = .tuple #[.agg #[.string (strB []), .string (strB [])], .iface 41 (.int .i64 34)] := by unfold trV trB; rw [decide_eq_false h1]; simp
    rw [e1, ← lit_nil]
    rw [errV_yes h1] at N
    clear e1 h1 V
    go_enter Tryd.func29, Tryd.ntmps29
    go_wp2_with fail
    refine (N.out _).mono ?_
    rintro e w1 ⟨rfl, hB⟩
    obtain ⟨c0, c1, f0, f1, hsz⟩ := two_kept w 0 hB
    go_wp2_with fail
    refine bodyPost_ret (v := .tuple #[.agg #[.string ⟨#[]⟩, .string ⟨#[]⟩], .iface 41 (.int .i64 34)]) (by simp [results, Tryd.results29, go_sem, c0, c1]) rfl ?_
    exact ⟨rfl, below_two ((below_new w _).trans (hB.mono (by simp))) _ _⟩
end Go.Proofs.YthlfhbhjiofneaaDoor
