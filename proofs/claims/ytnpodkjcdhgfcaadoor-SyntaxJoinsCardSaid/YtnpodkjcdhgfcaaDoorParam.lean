/- What the code's readParam returns. -/
import Derived.Test.YtnpodkjcdhgfcaaDoorCut
import Derived.Test.YtnpodkjcdhgfcaaDoorRefUnquote
import Derived.Test.YtnpodkjcdhgfcaaDoorTexts
namespace Go.Proofs.YtnpodkjcdhgfcaaDoor
open Go.RowKit

theorem below_draw {B : Nat} {a w : World} (h : Below B a w) (n : Nat) : Below B a (w.drewN n) := ⟨h.os, h.tape, h.output, h.size, h.block⟩
def paramV (n v : List UInt8) : Value := .agg #[.string (strB n), .string (strB v)]
def ParPost (s : ByteArray) (w : World) (e : Ending) (w' : World) : Prop :=
  Below w.heap.size w w' ∧
  match paramO s.data.toList with
  | none => e = .returned (.tuple #[.agg #[.string ⟨#[]⟩, .string ⟨#[]⟩], errForm])
  | some (n, v) => e = .returned (.tuple #[.agg #[.string (strB n), .string (strB v)], .nilIface])

theorem ParPost.none {s : ByteArray} {w w' : World} (h : paramO s.data.toList = none) (hb : Below w.heap.size w w') : ParPost s w (.returned (.tuple #[.agg #[.string ⟨#[]⟩, .string ⟨#[]⟩], errForm])) w' :=
  ⟨hb, by rw [h]⟩
theorem ParPost.some {s : ByteArray} {w w' : World} {n v : List UInt8} (h : paramO s.data.toList = some (n, v)) (hb : Below w.heap.size w w') : ParPost s w (.returned (.tuple #[.agg #[.string (strB n), .string (strB v)], .nilIface])) w' :=
  ⟨hb, by rw [h]⟩
theorem below_two {w w' : World} (h : Below w.heap.size w w') (u v : Value) : Below w.heap.size w ((w'.setCell ⟨w.heap.size, 0, none⟩ u).setCell ⟨w.heap.size, 1, none⟩ v) :=
  (h.setCell (p := ⟨w.heap.size, 0, none⟩) (Nat.le_refl _) u).setCell (p := ⟨w.heap.size, 1, none⟩) (Nat.le_refl _) v
theorem below_over {a w w' : World} (h : Below a.heap.size a w) (hw : Below w.heap.size w w') : Below a.heap.size a w' := h.trans (hw.mono h.size)
/-- A new variable of two strings is as it was behind a call that leaves what was there. -/
theorem two_kept (w : World) (n : Nat) {t : TypeId} {w' : World} (h : Below ((w.alloc (.cells #[.string ⟨#[]⟩, .string ⟨#[]⟩] t)).drewN n).heap.size ((w.alloc (.cells #[.string ⟨#[]⟩, .string ⟨#[]⟩] t)).drewN n) w') :
    w'.cell? ⟨w.heap.size, 0, none⟩ = some (.string ⟨#[]⟩) ∧ w'.cell? ⟨w.heap.size, 1, none⟩ = some (.string ⟨#[]⟩) ∧ w'.frozen? ⟨w.heap.size, 0, none⟩ = false ∧ w'.frozen? ⟨w.heap.size, 1, none⟩ = false ∧ w.heap.size < w'.heap.size := by
  have hs : w.heap.size < ((w.alloc (.cells #[.string ⟨#[]⟩, .string ⟨#[]⟩] t)).drewN n).heap.size := by show w.heap.size < (w.heap.push _).size; simp
  have c : ∀ j, ((w.alloc (.cells #[.string ⟨#[]⟩, .string ⟨#[]⟩] t)).drewN n).cell? ⟨w.heap.size, j, none⟩ = (#[.string ⟨#[]⟩, .string ⟨#[]⟩] : Array Value)[j]? := fun j => by
    show (w.alloc _).cell? _ = _
    rw [World.cell?_alloc_at _ _ _ _ rfl]
  have f : ∀ j, ((w.alloc (.cells #[.string ⟨#[]⟩, .string ⟨#[]⟩] t)).drewN n).frozen? ⟨w.heap.size, j, none⟩ = false := fun j => by
    show (w.alloc _).frozen? _ = _
    exact World.frozen?_alloc_at _ _ _ _ rfl
  refine ⟨(h.cell (p := ⟨w.heap.size, 0, none⟩) hs).trans (c 0), (h.cell (p := ⟨w.heap.size, 1, none⟩) hs).trans (c 1), (h.frozen (p := ⟨w.heap.size, 0, none⟩) hs).trans (f 0), (h.frozen (p := ⟨w.heap.size, 1, none⟩) hs).trans (f 1), Nat.lt_of_lt_of_le hs h.size⟩

set_option maxHeartbeats 2000000 in
set_option maxRecDepth 100000 in
theorem readParam_any (s : ByteArray) (m : Int) (w : World) (hs : s.size ≤ 100000) (hm : w.cell? ⟨0, 0, none⟩ = some (.int .i64 m)) :
    Calls Tryd.prog 51 #[.string s] w fun e w' => ParPost s w e w' := by
  have hg : (0 : Nat) < w.heap.size := World.block_lt_of_cell? w _ hm
  have hm2 : (w.alloc (.cells #[.string ⟨#[]⟩, .string ⟨#[]⟩] 49)).cell? ⟨0, 0, none⟩ = some (.int .i64 m) := by
    rw [World.cell?_alloc_past _ _ _ hg]; exact hm
  cases hc : cutE s.data.toList with
  | none =>
    have hp : paramO s.data.toList = none := by unfold paramO; rw [hc]
    have HP := Lib.hid hp
    have HC := Lib.hid hc
    clear hp hc
    go_enter Tryd.func51, Tryd.ntmps51
    go_wp2_with fail
    refine (cutNone_any s m _ (by omega) hm2 HC.out).mono ?_
    rintro e w1 ⟨rfl, n, rfl⟩
    go_wp2
    exact bodyPost_ret (v := .tuple #[.agg #[.string ⟨#[]⟩, .string ⟨#[]⟩], errForm]) (by simp [results, Tryd.results51, go_sem]) rfl (ParPost.none HP.out (below_two (below_draw (below_new w _) n) _ _))
  | some p =>
    obtain ⟨a, b⟩ := p
    have hlen := cutE_len hc
    have hsl : s.data.toList.length = s.size := by simp
    have hza : (strB a).size ≤ 100000 := by rw [strB_size]; omega
    have hzb : (strB b).size ≤ 100000 := by rw [strB_size]; omega
    have HC := Lib.hid hc
    clear hsl hlen
    cases ha : tokS a with
    | false =>
      have hp : paramO s.data.toList = none := by unfold paramO; rw [hc]; simp [ha]
      have HP := Lib.hid hp
      have HA := Lib.hid ha
      clear hp hc ha
      go_enter Tryd.func51, Tryd.ntmps51
      go_wp2_with fail
      refine (cutSome_any s m _ (by omega) hm2 HC.out).mono ?_
      rintro e w1 ⟨rfl, n, rfl⟩
      go_wp2_with fail
      refine (token_any (strB a) _ (by unfold maxLen; omega)).mono ?_
      rintro e w' ⟨rfl, rfl⟩
      rw [strB_list, HA.out]
      go_wp2
      exact bodyPost_ret (v := .tuple #[.agg #[.string ⟨#[]⟩, .string ⟨#[]⟩], errForm]) (by simp [results, Tryd.results51, go_sem]) rfl (ParPost.none HP.out (below_two (below_draw (below_new w _) n) _ _))
    | true =>
      have HA := Lib.hid ha
      clear ha
      cases hb : tokS b with
      | true =>
        have hp : paramO s.data.toList = some (lowS a, b) := by unfold paramO; rw [hc]; simp [HA.out, hb]
        have HP := Lib.hid hp
        have HB := Lib.hid hb
        clear hp hc hb
        go_enter Tryd.func51, Tryd.ntmps51
        go_wp2_with fail
        refine (cutSome_any s m _ (by omega) hm2 HC.out).mono ?_
        rintro e w1 ⟨rfl, n, rfl⟩
        go_wp2_with fail
        refine (token_any (strB a) _ (by unfold maxLen; omega)).mono ?_
        rintro e w' ⟨rfl, rfl⟩
        rw [strB_list, HA.out]
        go_wp2_with fail
        refine (token_any (strB b) _ (by unfold maxLen; omega)).mono ?_
        rintro e w' ⟨rfl, rfl⟩
        rw [strB_list, HB.out]
        go_wp2_with fail
        refine (lower_any (strB a) _ (by omega)).mono ?_
        rintro e w3 ⟨rfl, hB3⟩
        rw [strB_list]
        obtain ⟨c0, c1, f0, f1, hz⟩ := two_kept w n hB3
        go_wp2
        exact bodyPost_ret (v := .tuple #[.agg #[.string (strB (lowS a)), .string (strB b)], .nilIface]) (by simp [results, Tryd.results51, go_sem, c0, c1]) rfl (ParPost.some HP.out (below_two (below_over (below_draw (below_new w _) n) hB3) _ _))
      | false =>
        have HB := Lib.hid hb
        cases hu : unqO b with
        | none =>
          have hp : paramO s.data.toList = none := by unfold paramO; rw [hc]; simp [HA.out, hb, hu]
          have HP := Lib.hid hp
          have HU := Lib.hid hu
          clear hp hc hb hu
          go_enter Tryd.func51, Tryd.ntmps51
          go_wp2_with fail
          refine (cutSome_any s m _ (by omega) hm2 HC.out).mono ?_
          rintro e w1 ⟨rfl, n, rfl⟩
          go_wp2_with fail
          refine (token_any (strB a) _ (by unfold maxLen; omega)).mono ?_
          rintro e w' ⟨rfl, rfl⟩
          rw [strB_list, HA.out]
          go_wp2_with fail
          refine (token_any (strB b) _ (by unfold maxLen; omega)).mono ?_
          rintro e w' ⟨rfl, rfl⟩
          rw [strB_list, HB.out]
          go_wp2_with fail
          refine (unquote_any (strB b) _ (by omega)).mono ?_
          rintro e w3 ⟨hB3, he⟩
          rw [strB_list, HU.out] at he
          subst he
          obtain ⟨c0, c1, f0, f1, hz⟩ := two_kept w n hB3
          go_wp2
          exact bodyPost_ret (v := .tuple #[.agg #[.string ⟨#[]⟩, .string ⟨#[]⟩], errForm]) (by simp [results, Tryd.results51, go_sem, c0, c1]) rfl (ParPost.none HP.out (below_two (below_over (below_draw (below_new w _) n) hB3) _ _))
        | some t =>
          have hp : paramO s.data.toList = some (lowS a, t) := by unfold paramO; rw [hc]; simp [HA.out, hb, hu]
          have HP := Lib.hid hp
          have HU := Lib.hid hu
          clear hp hc hb hu
          go_enter Tryd.func51, Tryd.ntmps51
          go_wp2_with fail
          refine (cutSome_any s m _ (by omega) hm2 HC.out).mono ?_
          rintro e w1 ⟨rfl, n, rfl⟩
          go_wp2_with fail
          refine (token_any (strB a) _ (by unfold maxLen; omega)).mono ?_
          rintro e w' ⟨rfl, rfl⟩
          rw [strB_list, HA.out]
          go_wp2_with fail
          refine (token_any (strB b) _ (by unfold maxLen; omega)).mono ?_
          rintro e w' ⟨rfl, rfl⟩
          rw [strB_list, HB.out]
          go_wp2_with fail
          refine (unquote_any (strB b) _ (by omega)).mono ?_
          rintro e w3 ⟨hB3, he⟩
          rw [strB_list, HU.out] at he
          subst he
          go_wp2_with fail
          refine (lower_any (strB a) _ (by omega)).mono ?_
          rintro e w4 ⟨rfl, hB4⟩
          rw [strB_list]
          obtain ⟨c0, c1, f0, f1, hz⟩ := two_kept w n (below_over hB3 hB4)
          go_wp2
          exact bodyPost_ret (v := .tuple #[.agg #[.string (strB (lowS a)), .string (strB t)], .nilIface]) (by simp [results, Tryd.results51, go_sem, c0, c1]) rfl (ParPost.some HP.out (below_two (below_over (below_draw (below_new w _) n) (below_over hB3 hB4)) _ _))
end Go.Proofs.YtnpodkjcdhgfcaaDoor
