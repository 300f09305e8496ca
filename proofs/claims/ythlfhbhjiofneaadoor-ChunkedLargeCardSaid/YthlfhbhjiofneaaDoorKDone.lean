/- New, Done, Trailers, and the nil decoder; the statements' fixed example. -/
import Derived.Test.YthlfhbhjiofneaaDoorKWrite
import Derived.Test.YthlfhbhjiofneaaDoorFClone
import Derived.Lib.SlBytesConst
namespace Go.Proofs.YthlfhbhjiofneaaDoor
open Go.RowKit

/-- What New leaves: a decoder at the beginning, in a block of its own. -/
def NewPost (w : World) (e : Ending) (w' : World) : Prop := e = .returned (.pointer (some ⟨w.heap.size, 0, none⟩)) ∧ Dec w.heap.size w.heap.size (fun k => k = w.heap.size) Dc.new w' ∧ Below w.heap.size w w' ∧ w'.heap.size = w.heap.size + 1
theorem dec_new (w : World) : Dec w.heap.size w.heap.size (fun k => k = w.heap.size) Dc.new (w.alloc (.cells #[.int .i64 0, .nilIface, .int .i64 0, .int .i64 0, .int .i64 0, .slice none 0 0, .slice none 0 0] 67)) :=
  ⟨.slice none 0 0, .slice none 0 0, heap_alloc_new w _, World.ownsRow_nil _ _ _ _, OwnsP.nil _ _ _, rfl, fun k hk => (by cases hk), fun k hk => (by cases hk), fun k hk => ⟨by omega, by simp; omega⟩⟩
set_option maxHeartbeats 1000000 in
set_option maxRecDepth 100000 in
theorem new_any (w : World) : Calls Tryd.prog 17 #[] w (NewPost w) := by
  have HD := Lib.hid (dec_new w)
  go_enter Tryd.func17, Tryd.ntmps17
  go_wp2_with fail
  go_ret
  exact ⟨rfl, HD.out, below_new _ _, by simp⟩
set_option maxHeartbeats 1000000 in
set_option maxRecDepth 100000 in
theorem done_any {B P : Nat} {X : Nat → Prop} {s : Dc} (w : World) (h : Dec B P X s w) :
    Calls Tryd.prog 18 #[.pointer (some ⟨P, 0, none⟩)] w fun e w' => e = .returned (.bool (decide (s.pl = 8))) ∧ w = w' := by
  obtain ⟨hx, HD, lv, tv, c0, _⟩ := dec_open h
  clear h
  by_cases h8 : s.pl = 8
  · rw [decide_eq_true h8]
    rw [h8] at c0
    clear h8
    go_enter Tryd.func18, Tryd.ntmps18
    go_wp2_with fail
    go_ret
    exact ⟨rfl, rfl⟩
  · rw [decide_eq_false h8]
    have hq : ((s.pl : Int) == 8) = false := by simp; omega
    clear h8
    go_enter Tryd.func18, Tryd.ntmps18
    go_wp2_with fail
    go_ret
    exact ⟨rfl, rfl⟩
set_option maxHeartbeats 1000000 in
set_option maxRecDepth 100000 in
theorem done_nil (w : World) :
    Calls Tryd.prog 18 #[.pointer none] w fun e w' => e = .returned (.bool false) ∧ w = w' := by
  go_enter Tryd.func18, Tryd.ntmps18
  go_wp2_with fail
  go_ret
  exact ⟨rfl, rfl⟩
/-- The trailers of a body that has ended. -/
def Dc.out (s : Dc) : List (List UInt8 × List UInt8) := if s.pl = 8 then s.trs else []
def TrPost (ps : List (List UInt8 × List UInt8)) (w : World) (e : Ending) (w' : World) : Prop := ∃ v, e = .returned v ∧ OwnsP 52 w.heap.size w' v ps ∧ Below w.heap.size w w'
set_option maxHeartbeats 1000000 in
set_option maxRecDepth 100000 in
theorem trailers_any {B P : Nat} {X : Nat → Prop} {s : Dc} (w : World) (h : Dec B P X s w) (ht : s.trs.length ≤ 64) :
    Calls Tryd.prog 19 #[.pointer (some ⟨P, 0, none⟩)] w (TrPost s.out w) := by
  have D := Lib.hid (done_any w h)
  obtain ⟨lv, tv, hp⟩ := h.parts
  obtain ⟨_, _, _, _, _, _, c6, _⟩ := dec_cells hp.1
  have hO := hp.2.2.1
  obtain ⟨ta, tc, rfl⟩ := len_trs hO
  have C := Lib.hid (clone_any _ s.trs w (OwnsP.q hO) (OwnsP.sane hO) (by omega))
  clear h hp hO
  by_cases h8 : s.pl = 8
  · have e1 : s.out = s.trs := by unfold Dc.out; rw [if_pos h8]
    rw [e1]
    rw [decide_eq_true h8] at D
    clear h8 e1
    go_enter Tryd.func19, Tryd.ntmps19
    go_wp2_with fail
    refine D.out.mono ?_
    rintro e w' ⟨rfl, rfl⟩
    go_wp2_with fail
    refine C.out.mono ?_
    rintro e w1 ⟨v, rfl, hO, hB⟩
    obtain ⟨va, vc, rfl⟩ := len_trs hO
    go_wp2_with fail
    go_ret
    exact ⟨_, rfl, hO, hB⟩
  · have e1 : s.out = [] := by unfold Dc.out; rw [if_neg h8]
    rw [e1]
    rw [decide_eq_false h8] at D
    clear h8 e1
    go_enter Tryd.func19, Tryd.ntmps19
    go_wp2_with fail
    refine D.out.mono ?_
    rintro e w' ⟨rfl, rfl⟩
    go_wp2_with fail
    go_ret
    exact ⟨_, rfl, OwnsP.nil _ _ _, Below.refl _ _⟩
set_option maxHeartbeats 1000000 in
set_option maxRecDepth 100000 in
theorem trailers_nil (w : World) :
    Calls Tryd.prog 19 #[.pointer none] w fun e w' => e = .returned (.slice none 0 0) ∧ w = w' := by
  go_enter Tryd.func19, Tryd.ntmps19
  go_wp2_with fail
  refine (done_nil w).mono ?_
  rintro e w' ⟨rfl, rfl⟩
  go_wp2_with fail
  go_ret
  exact ⟨rfl, rfl⟩
set_option maxHeartbeats 1000000 in
set_option maxRecDepth 100000 in
theorem write_nil (bv : Value) (w : World) :
    Calls Tryd.prog 20 #[.pointer none, bv] w fun e w' => e = .returned (.tuple #[.slice none 0 0, .int .i64 0, .iface 41 (.int .i64 3)]) ∧ w = w' := by
  go_enter Tryd.func20, Tryd.ntmps20
  go_wp2_with fail
  refine bodyPost_ret (v := .tuple #[.slice none 0 0, .int .i64 0, .iface 41 (.int .i64 3)]) (by simp [results, Tryd.results20, go_sem]) rfl ?_
  exact ⟨rfl, rfl⟩
def exK : List UInt8 := [51, 13, 10, 97, 98, 99, 13, 10, 48, 13, 10, 13, 10, 120]
theorem exK_run : (wrD Dc.new exK).1.er = 0 ∧ (wrD Dc.new exK).1.pl = 8 ∧ (wrD Dc.new exK).2.1 = [97, 98, 99] ∧ (wrD Dc.new exK).2.2 = 13 := by decide +kernel
theorem exW {B P : Nat} {X : Nat → Prop} {w w' : World} {e : Ending} (h : WritePost B P X Dc.new exK w e w') : ∃ v X' s', e = .returned (.tuple #[v, .int .i64 13, .nilIface]) ∧ Dec B P X' s' w' ∧ s'.pl = 8 ∧ Only X w w' ∧ OwnB w.heap.size w' v [97, 98, 99] := by
  obtain ⟨x0, x8, xb, xn⟩ := exK_run
  obtain ⟨v, X', he, hD, _, hO, ho, _⟩ := h
  rw [x0, xn] at he
  rw [xb] at ho
  exact ⟨v, X', _, he, hD, x8, hO, ho⟩
theorem readsB_lit (w : World) (l : List UInt8) (fr : Nat × Nat) (hl : l.length ≤ 1000) : ReadsD (w.alloc (.cells (Lib.byteCells l).toArray 5 fr)) (.slice (some ⟨w.heap.size, 0, none⟩) l.length l.length) l := by
  refine ⟨_, _, rfl, Nat.le_refl _, by unfold maxLen; omega, fun h => (by cases h), fun j c hj => ⟨w.heap.size, 0, rfl, by simp, ?_⟩⟩
  rw [Nat.zero_add, World.cell?_alloc_mark]
  simpa using cellB_get hj
set_option maxHeartbeats 4000000 in
set_option maxRecDepth 100000 in
theorem awake7_any (w : World) (hM : HasMax w) : Calls Tryd.prog 6 #[] w fun e w' => e = .returned (.bool true) ∧ Below w.heap.size w w' := by
  have HM := Lib.hid hM
  have kc := fun (w : World) (C : Array Value) (n c : Nat) => Lib.run_convert_bytes_const (P := Tryd.prog) w 27 5 C n c Tryd.underlying27 Tryd.underlying5
  have q : ((strB [97, 98, 99]).toList == ([97, 98, 99] : List UInt8)) = true := by rw [ByteArray.toList_eq, strB_list]; rfl
  obtain ⟨x0, x8, xb, xn⟩ := exK_run
  go_enter Tryd.func6, Tryd.ntmps6
  go_wp2_with fail
  refine (new_any w).mono ?_
  rintro e w1 ⟨rfl, hD, hB, hs⟩
  have HD := Lib.hid hD
  have HB := Lib.hid hB
  have W := Lib.hid (decWrite_any (.slice (some ⟨w1.heap.size, 0, none⟩) 14 14) exK (w1.alloc (.cells (Lib.byteCells exK).toArray 5 (14, 15))) (hD.alloc _) (MaxB.of (HM.out.below hB) |>.1 |> fun h => ⟨h.below (below_new _ _), (MaxB.of HM.out).2⟩) ok_new (readsB_lit w1 exK (14, 15) (by decide)) (fun _ k hk => by simp [Value.ownBlock] at hk; omega) (by decide))
  clear hD hB hs hM x0 x8 xb xn
  go_wp2_with fail
  refine W.out.mono ?_
  intro e w2 hp
  obtain ⟨v, X', s', rfl, hD2, h8, hO, ho⟩ := exW hp
  have hB2 := (HB.out.alloc HB.out.size (.cells (Lib.byteCells exK).toArray 5 (14, 15))).trans (hO.to (B := w.heap.size) (fun k hk => by omega) (by have := HB.out.size; simp; omega))
  have D := done_any w2 hD2
  rw [decide_eq_true h8] at D
  have HD2 := Lib.hid D
  obtain ⟨va, vc, rfl⟩ := ho.isSlice
  have hcv : (convert 27 9 (.slice va 3 vc)).run Tryd.prog w2 = .ok (.string (strB [97, 98, 99])) w2 := convB ho.reads
  clear hp hO ho hD2 h8 D
  go_wp2_with fail
  refine HD2.out.mono ?_
  rintro e w' ⟨rfl, rfl⟩
  go_wp2_with fail
  go_ret
  exact ⟨rfl, hB2⟩
end Go.Proofs.YthlfhbhjiofneaaDoor
