/- What matches, known, getDate, isOther, isUnmodified return. -/
import Derived.Test.YtkpeaghbacoehaaGreatDoorYMatch
import Derived.Test.YtkpeaghbacoehaaGreatDoorHParse
import Derived.Test.YtkpeaghbacoehaaGreatDoorFGet
namespace Go.Proofs.YtkpeaghbacoehaaGreatDoor
open Go.RowKit

def mtQ (l : List UInt8) (s : StV) (sg : Bool) : Bool := if starL l = true then s.ex else s.ht && (tagsL l).any fun t => sameT sg t s.tag
def knownS (s : StV) : StV := if s.ex = true then s else ⟨false, false, false, (false, []), 0⟩
theorem mtQ_known (l : List UInt8) (s : StV) (sg : Bool) : mtQ l (knownS s) sg = mtL l s sg := by
  unfold mtQ mtL knownS
  cases h : s.ex <;> cases starL l <;> simp [h]
abbrev stC (s : StV) : Array Value := #[.bool s.ex, .bool s.ht, .bool s.hm, .bool s.tag.1, .string (strB s.tag.2), .int .i64 s.md]
abbrev stV (s : StV) : Value := .agg #[.bool s.ex, .bool s.ht, .bool s.hm, .bool s.tag.1, .string (strB s.tag.2), .int .i64 s.md]
/-- A block of a state's six cells. -/
structure StB (N : Nat) (w : World) (s : StV) : Prop where
  c0 : w.cell? ⟨N, 0, none⟩ = some (.bool s.ex)
  c1 : w.cell? ⟨N, 1, none⟩ = some (.bool s.ht)
  c2 : w.cell? ⟨N, 2, none⟩ = some (.bool s.hm)
  c3 : w.cell? ⟨N, 3, none⟩ = some (.bool s.tag.1)
  c4 : w.cell? ⟨N, 4, none⟩ = some (.string (strB s.tag.2))
  c5 : w.cell? ⟨N, 5, none⟩ = some (.int .i64 s.md)
  fr : ∀ j, w.frozen? ⟨N, j, none⟩ = false
  lt : N < w.heap.size
theorem StB.below {N : Nat} {w w' : World} {s : StV} (h : StB N w s) (hb : Below w.heap.size w w') : StB N w' s :=
  ⟨(hb.cell (p := ⟨N, 0, none⟩) h.lt).trans h.c0, (hb.cell (p := ⟨N, 1, none⟩) h.lt).trans h.c1, (hb.cell (p := ⟨N, 2, none⟩) h.lt).trans h.c2, (hb.cell (p := ⟨N, 3, none⟩) h.lt).trans h.c3, (hb.cell (p := ⟨N, 4, none⟩) h.lt).trans h.c4, (hb.cell (p := ⟨N, 5, none⟩) h.lt).trans h.c5,
    fun j => (hb.frozen (p := ⟨N, j, none⟩) h.lt).trans (h.fr j), Nat.lt_of_lt_of_le h.lt hb.size⟩
theorem stB_new (w : World) (s : StV) (T : TypeId) : StB w.heap.size (w.alloc (.cells (stC s) T)) s :=
  ⟨by rw [World.cell?_alloc_at _ _ _ _ rfl]; rfl, by rw [World.cell?_alloc_at _ _ _ _ rfl]; rfl, by rw [World.cell?_alloc_at _ _ _ _ rfl]; rfl, by rw [World.cell?_alloc_at _ _ _ _ rfl]; rfl, by rw [World.cell?_alloc_at _ _ _ _ rfl]; rfl, by rw [World.cell?_alloc_at _ _ _ _ rfl]; rfl,
    fun j => World.frozen?_alloc_new _ _ _ _, by simp⟩
theorem below_six {B N : Nat} {w w1 : World} (h : Below B w w1) (hN : B ≤ N) (a b c d e f : Value) : Below B w ((((((w1.setCell ⟨N, 0, none⟩ a).setCell ⟨N, 1, none⟩ b).setCell ⟨N, 2, none⟩ c).setCell ⟨N, 3, none⟩ d).setCell ⟨N, 4, none⟩ e).setCell ⟨N, 5, none⟩ f) :=
  (((((h.setCell (p := ⟨N, 0, none⟩) hN _).setCell (p := ⟨N, 1, none⟩) hN _).setCell (p := ⟨N, 2, none⟩) hN _).setCell (p := ⟨N, 3, none⟩) hN _).setCell (p := ⟨N, 4, none⟩) hN _).setCell (p := ⟨N, 5, none⟩) hN _
theorem StB.set {N : Nat} {w : World} {s : StV} (h : StB N w s) (t : StV) : StB N ((((((w.setCell ⟨N, 0, none⟩ (.bool t.ex)).setCell ⟨N, 1, none⟩ (.bool t.ht)).setCell ⟨N, 2, none⟩ (.bool t.hm)).setCell ⟨N, 3, none⟩ (.bool t.tag.1)).setCell ⟨N, 4, none⟩ (.string (strB t.tag.2))).setCell ⟨N, 5, none⟩ (.int .i64 t.md)) t := by
  obtain ⟨c0, c1, c2, c3, c4, c5, fr, lt⟩ := h
  refine ⟨?_, ?_, ?_, ?_, ?_, ?_, fun j => by simpa using fr j, by simpa using lt⟩
  all_goals simp [go_sem, c0, c1, c2, c3, c4, c5]
theorem cloE_new (w : World) (s : StV) (sg : Bool) (T S : TypeId) : CloE sg s.tag (w.heap.size + 1) w.heap.size ((w.alloc (.cells (stC s) T)).alloc (.cells #[cmpV sg] S)) := by
  have e : w.heap.size + 1 = (w.alloc (.cells (stC s) T)).heap.size := by simp
  refine ⟨?_, ?_, ?_, by simp, by simp; omega⟩
  · rw [e, World.cell?_alloc_at _ _ _ _ rfl]; rfl
  · rw [World.cell?_alloc_past _ _ _ (by simp), World.cell?_alloc_at _ _ _ _ rfl]; rfl
  · rw [World.cell?_alloc_past _ _ _ (by simp), World.cell?_alloc_at _ _ _ _ rfl]; rfl
set_option maxHeartbeats 4000000 in
set_option maxRecDepth 100000 in
theorem matches_any (sg : Bool) (s : StV) (l : List UInt8) (w : World) (hM : MaxIs w) (hl : l.length ≤ 1000000) :
    Calls Tryz.prog 44 #[stV s, .string (strB l), cmpV sg] w fun e w' => e = .returned (.bool (mtQ l s sg)) ∧ Below w.heap.size w w' := by
  have HM := Lib.hid hM
  have HS := stB_new w s 61
  have hW := below_newY w (.cells (stC s) 61) (.cells #[cmpV sg] 48)
  have HS2 := Lib.hid (HS.below (below_new _ (.cells #[cmpV sg] 48)))
  have HE := Lib.hid (cloE_new w s sg 61 48)
  have HM2 := Lib.hid (hM.below hW)
  have HW := Lib.hid hW
  have HR := Lib.hid (fun (w : World) (hM : MaxIs w) => readTags_any l w hM hl)
  clear hM HS hW
  generalize hcv : cmpV sg = cv at *
  go_enter Tryz.func44, Tryz.ntmps44
  go_wp2_with fail
  refine (HR.out _ HM2.out).mono ?_
  rintro e w2 ⟨hB2, hcase⟩
  have HW2 := Lib.hid (HW.out.trans (hB2.mono HW.out.size))
  obtain ⟨c0, c1, c2, c3, c4, c5, fr, lt⟩ := HS2.out.below hB2
  have HE2 := Lib.hid (HE.out.below hB2)
  clear hB2
  rcases hcase with ⟨hst, rfl⟩ | ⟨hst, hq, rfl⟩ | ⟨hst, v, ts, hq, rfl, hO, hln⟩
  · have HQ := Lib.hid (show mtQ l s sg = s.ex by unfold mtQ; rw [hst]; rfl)
    clear hst
    go_wp2
    go_ret
    exact ⟨by first | (rw [HQ.out]; rfl) | rw [HQ.out], HW2.out⟩
  · have ht : tagsL l = [] := by unfold tagsL; rw [hq]; rfl
    have HQ := Lib.hid (show mtQ l s sg = (s.ht && ([] : List Tg).any fun t => sameT sg t s.tag) by unfold mtQ; rw [hst, ht]; rfl)
    have HC := Lib.hid (containsFunc_any sg s.tag (w.heap.size + 1) w.heap.size (.slice none 0 0) [] w2 ⟨none, 0, rfl, fun j p h => by simp at h⟩ HE2.out (by simp))
    clear hst hq ht
    cases hht : s.ht with
    | false =>
      rw [hht] at c1 HQ
      go_wp2
      go_ret
      exact ⟨by rw [HQ.out]; rfl, HW2.out⟩
    | true =>
      rw [hht] at c1 HQ
      go_wp2_with fail
      refine HC.out.mono ?_
      rintro e w3 ⟨rfl, hB3⟩
      go_wp2_with fail
      go_ret
      exact ⟨by rw [HQ.out]; rfl, HW2.out.trans (hB3.mono HW2.out.size)⟩
  · have ht : tagsL l = ts := by unfold tagsL; rw [hq]; rfl
    have HQ := Lib.hid (show mtQ l s sg = (s.ht && ts.any fun t => sameT sg t s.tag) by unfold mtQ; rw [hst, ht]; rfl)
    have HC := Lib.hid (containsFunc_any sg s.tag (w.heap.size + 1) w.heap.size v ts w2 hO.reads HE2.out (by omega))
    clear hst hq ht hO
    cases hht : s.ht with
    | false =>
      rw [hht] at c1 HQ
      go_wp2
      go_ret
      exact ⟨by rw [HQ.out]; rfl, HW2.out⟩
    | true =>
      rw [hht] at c1 HQ
      go_wp2_with fail
      refine HC.out.mono ?_
      rintro e w3 ⟨rfl, hB3⟩
      go_wp2_with fail
      go_ret
      exact ⟨by rw [HQ.out]; rfl, HW2.out.trans (hB3.mono HW2.out.size)⟩
set_option maxHeartbeats 1000000 in
set_option maxRecDepth 100000 in
theorem known_any (s : StV) (w : World) :
    Calls Tryz.prog 41 #[stV s] w fun e w' => e = .returned (stV (knownS s)) ∧ Below w.heap.size w w' := by
  obtain ⟨ex, ht, hm, ⟨k, a⟩, md⟩ := s
  cases ex
  · go_enter Tryz.func41, Tryz.ntmps41
    go_wp2
    exact bodyPost_ret (v := stV (knownS ⟨false, ht, hm, (k, a), md⟩)) (by simp [results, Tryz.results41, go_sem, knownS, strB_nil0]) rfl ⟨rfl, below_newY _ _ _⟩
  · go_enter Tryz.func41, Tryz.ntmps41
    go_wp2
    exact bodyPost_ret (v := stV (knownS ⟨true, ht, hm, (k, a), md⟩)) (by simp [results, Tryz.results41, go_sem, knownS]) rfl ⟨rfl, below_newY _ _ _⟩
end Go.Proofs.YtkpeaghbacoehaaGreatDoor
