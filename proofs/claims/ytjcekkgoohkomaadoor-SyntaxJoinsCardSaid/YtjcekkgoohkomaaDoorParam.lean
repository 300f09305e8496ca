/- What the code's readParam returns. -/
import Derived.Test.YtjcekkgoohkomaaDoorCut
import Derived.Test.YtjcekkgoohkomaaDoorRefUnquote
import Derived.Test.YtjcekkgoohkomaaDoorTexts
import Derived.Test.YtjcekkgoohkomaaDoorTwo
namespace Go.Proofs.YtjcekkgoohkomaaDoor
open Go.RowKit

def paramV (n v : List UInt8) : Value := .agg #[.string (strB n), .string (strB v)]
def ParPost (s : ByteArray) (w : World) (e : Ending) (w' : World) : Prop :=
  Below w.heap.size w w' ∧
  match paramO s.data.toList with
  | none => e = .returned (.tuple #[.agg #[.string ⟨#[]⟩, .string ⟨#[]⟩], errForm])
  | some (n, v) => e = .returned (.tuple #[.agg #[.string (strB n), .string (strB v)], .nilIface])

theorem ParPost.none {s : ByteArray} {w w' : World} (h : paramO s.data.toList = none) (hb : Below w.heap.size w w') : ParPost s w (.returned (.tuple #[.agg #[.string ⟨#[]⟩, .string ⟨#[]⟩], errForm])) w' :=
  ⟨hb, by rw [h]⟩
theorem ParPost.some {s : ByteArray} {w w' : World} {n v : List UInt8} (h : paramO s.data.toList = some (n, v)) (hb : Below w.heap.size w w') : ParPost s w (.returned (.tuple #[.agg #[.string (strB n), .string (strB v)], .nilIface])) w' :=
  ⟨hb, by rw [h]⟩

set_option maxHeartbeats 2000000 in
set_option maxRecDepth 100000 in
theorem readParam_any (s : ByteArray) (m : Int) (w : World) (hs : s.size ≤ 100000) (hm : w.cell? ⟨0, 0, none⟩ = some (.int .i64 m)) :
    Calls Tryd.prog 59 #[.string s] w fun e w' => ParPost s w e w' := by
  have hg : (0 : Nat) < w.heap.size := World.block_lt_of_cell? w _ hm
  have hm2 : (w.alloc (.cells #[.string ⟨#[]⟩, .string ⟨#[]⟩] 51)).cell? ⟨0, 0, none⟩ = some (.int .i64 m) := by
    rw [World.cell?_alloc_past _ _ _ hg]; exact hm
  cases hc : cutE s.data.toList with
  | none =>
    have hp : paramO s.data.toList = none := by unfold paramO; rw [hc]
    have HP := Lib.hid hp
    have HC := Lib.hid hc
    clear hp hc
    go_enter Tryd.func59, Tryd.ntmps59
    go_wp2_with fail
    refine (cutNone_any s m _ (by omega) hm2 HC.out).mono ?_
    rintro e w1 ⟨rfl, n, rfl⟩
    go_wp2
    exact bodyPost_ret (v := .tuple #[.agg #[.string ⟨#[]⟩, .string ⟨#[]⟩], errForm]) (by simp [results, Tryd.results59, go_sem]) rfl (ParPost.none HP.out (below_two (below_draw (below_new w _) n) _ _))
  | some p =>
    obtain ⟨a, b⟩ := p
    have hlen := cutE_len hc
    have hsl : s.data.toList.length = s.size := by simp
    have hza : (strB a).size ≤ 100000 := by rw [strB_size]; omega
    have hzb : (strB b).size ≤ 100000 := by rw [strB_size]; omega
    have HC := Lib.hid hc
    clear hsl hlen
    cases ha : tokS a with
    | false =>
      have hp : paramO s.data.toList = none := by unfold paramO; rw [hc]; simp [ha]
      have HP := Lib.hid hp
      have HA := Lib.hid ha
      clear hp hc ha
      go_enter Tryd.func59, Tryd.ntmps59
      go_wp2_with fail
      refine (cutSome_any s m _ (by omega) hm2 HC.out).mono ?_
      rintro e w1 ⟨rfl, n, rfl⟩
      go_wp2_with fail
      refine (token_any (strB a) _ (by unfold maxLen; omega)).mono ?_
      rintro e w' ⟨rfl, rfl⟩
      rw [strB_list, HA.out]
      go_wp2
      exact bodyPost_ret (v := .tuple #[.agg #[.string ⟨#[]⟩, .string ⟨#[]⟩], errForm]) (by simp [results, Tryd.results59, go_sem]) rfl (ParPost.none HP.out (below_two (below_draw (below_new w _) n) _ _))
    | true =>
      have HA := Lib.hid ha
      clear ha
      cases hb : tokS b with
      | true =>
        have hp : paramO s.data.toList = some (lowS a, b) := by unfold paramO; rw [hc]; simp [HA.out, hb]
        have HP := Lib.hid hp
        have HB := Lib.hid hb
        clear hp hc hb
        go_enter Tryd.func59, Tryd.ntmps59
        go_wp2_with fail
        refine (cutSome_any s m _ (by omega) hm2 HC.out).mono ?_
        rintro e w1 ⟨rfl, n, rfl⟩
        go_wp2_with fail
        refine (token_any (strB a) _ (by unfold maxLen; omega)).mono ?_
        rintro e w' ⟨rfl, rfl⟩
        rw [strB_list, HA.out]
        go_wp2_with fail
        refine (token_any (strB b) _ (by unfold maxLen; omega)).mono ?_
        rintro e w' ⟨rfl, rfl⟩
        rw [strB_list, HB.out]
        go_wp2_with fail
        refine (lower_any (strB a) _ (by omega)).mono ?_
        rintro e w3 ⟨rfl, hB3⟩
        rw [strB_list]
        obtain ⟨c0, c1, f0, f1, hz⟩ := two_kept w n hB3
        go_wp2
        exact bodyPost_ret (v := .tuple #[.agg #[.string (strB (lowS a)), .string (strB b)], .nilIface]) (by simp [results, Tryd.results59, go_sem, c0, c1]) rfl (ParPost.some HP.out (below_two (below_over (below_draw (below_new w _) n) hB3) _ _))
      | false =>
        have HB := Lib.hid hb
        cases hu : unqO b with
        | none =>
          have hp : paramO s.data.toList = none := by unfold paramO; rw [hc]; simp [HA.out, hb, hu]
          have HP := Lib.hid hp
          have HU := Lib.hid hu
          clear hp hc hb hu
          go_enter Tryd.func59, Tryd.ntmps59
          go_wp2_with fail
          refine (cutSome_any s m _ (by omega) hm2 HC.out).mono ?_
          rintro e w1 ⟨rfl, n, rfl⟩
          go_wp2_with fail
          refine (token_any (strB a) _ (by unfold maxLen; omega)).mono ?_
          rintro e w' ⟨rfl, rfl⟩
          rw [strB_list, HA.out]
          go_wp2_with fail
          refine (token_any (strB b) _ (by unfold maxLen; omega)).mono ?_
          rintro e w' ⟨rfl, rfl⟩
          rw [strB_list, HB.out]
          go_wp2_with fail
          refine (unquote_any (strB b) _ (by omega)).mono ?_
          rintro e w3 ⟨hB3, he⟩
          rw [strB_list, HU.out] at he
          subst he
          obtain ⟨c0, c1, f0, f1, hz⟩ := two_kept w n hB3
          go_wp2
          exact bodyPost_ret (v := .tuple #[.agg #[.string ⟨#[]⟩, .string ⟨#[]⟩], errForm]) (by simp [results, Tryd.results59, go_sem, c0, c1]) rfl (ParPost.none HP.out (below_two (below_over (below_draw (below_new w _) n) hB3) _ _))
        | some t =>
          have hp : paramO s.data.toList = some (lowS a, t) := by unfold paramO; rw [hc]; simp [HA.out, hb, hu]
          have HP := Lib.hid hp
          have HU := Lib.hid hu
          clear hp hc hb hu
          go_enter Tryd.func59, Tryd.ntmps59
          go_wp2_with fail
          refine (cutSome_any s m _ (by omega) hm2 HC.out).mono ?_
          rintro e w1 ⟨rfl, n, rfl⟩
          go_wp2_with fail
          refine (token_any (strB a) _ (by unfold maxLen; omega)).mono ?_
          rintro e w' ⟨rfl, rfl⟩
          rw [strB_list, HA.out]
          go_wp2_with fail
          refine (token_any (strB b) _ (by unfold maxLen; omega)).mono ?_
          rintro e w' ⟨rfl, rfl⟩
          rw [strB_list, HB.out]
          go_wp2_with fail
          refine (unquote_any (strB b) _ (by omega)).mono ?_
          rintro e w3 ⟨hB3, he⟩
          rw [strB_list, HU.out] at he
          subst he
          go_wp2_with fail
          refine (lower_any (strB a) _ (by omega)).mono ?_
          rintro e w4 ⟨rfl, hB4⟩
          rw [strB_list]
          obtain ⟨c0, c1, f0, f1, hz⟩ := two_kept w n (below_over hB3 hB4)
          go_wp2
          exact bodyPost_ret (v := .tuple #[.agg #[.string (strB (lowS a)), .string (strB t)], .nilIface]) (by simp [results, Tryd.results59, go_sem, c0, c1]) rfl (ParPost.some HP.out (below_two (below_over (below_draw (below_new w _) n) (below_over hB3 hB4)) _ _))
end Go.Proofs.YtjcekkgoohkomaaDoor
