/- What the program's ofCodings, ofLengths, ofFields, OfRequest and OfResponse return. -/
import Derived.Test.YthjkneifffdglaaDoorJElems
import Derived.Test.YthjkneifffdglaaDoorJNum
import Derived.Test.YthjkneifffdglaaDoorJFrame
import Derived.Test.YthjkneifffdglaaDoorFAll
namespace Go.Proofs.YthjkneifffdglaaDoor
open Go.RowKit

/-- A call returns the frame, or the error. -/
def OfRes (r : Nat × Nat × Nat) (w : World) (e : Ending) (w' : World) : Prop :=
  e = .returned (.tuple #[frV r.2.1 r.2.2, errV r.1]) ∧ Below w.heap.size w w'
theorem ofRes_err {r : Nat × Nat × Nat} {c : Nat} {w w' : World} (h : r = (c, 0, 0)) (hc : c ≠ 0) (hB : Below w.heap.size w w') :
    OfRes r w (.returned (.tuple #[.agg #[.int .i64 0, .int .i64 0], .iface 59 (.int .i64 c)])) w' := by
  subst h
  refine ⟨?_, hB⟩
  unfold errV; rw [if_neg hc]; rfl
theorem ofRes_ok {r : Nat × Nat × Nat} {k n : Nat} {w w' : World} (h : r = (0, k, n)) (hB : Below w.heap.size w w') :
    OfRes r w (.returned (.tuple #[.agg #[.int .i64 k, .int .i64 n], .nilIface])) w' := by
  subst h; exact ⟨rfl, hB⟩
/-- A new variable of two numbers, kept over a call. -/
theorem frame_new (w : World) (T : TypeId) (a b : Int) : (w.alloc (.cells #[.int .i64 a, .int .i64 b] T)).cell? ⟨w.heap.size, 0, none⟩ = some (.int .i64 a) ∧ (w.alloc (.cells #[.int .i64 a, .int .i64 b] T)).cell? ⟨w.heap.size, 1, none⟩ = some (.int .i64 b) ∧
    (∀ j, (w.alloc (.cells #[.int .i64 a, .int .i64 b] T)).frozen? ⟨w.heap.size, j, none⟩ = false) := by
  refine ⟨?_, ?_, fun j => World.frozen?_alloc_at _ _ _ _ rfl⟩ <;> rw [World.cell?_alloc_at _ _ _ _ rfl] <;> rfl
theorem frame_kept {w w' : World} {T : TypeId} {a b : Int} (h : Below (w.alloc (.cells #[.int .i64 a, .int .i64 b] T)).heap.size (w.alloc (.cells #[.int .i64 a, .int .i64 b] T)) w') :
    w'.cell? ⟨w.heap.size, 0, none⟩ = some (.int .i64 a) ∧ w'.cell? ⟨w.heap.size, 1, none⟩ = some (.int .i64 b) ∧ w'.frozen? ⟨w.heap.size, 0, none⟩ = false ∧ w'.frozen? ⟨w.heap.size, 1, none⟩ = false ∧ w.heap.size < w'.heap.size := by
  have hs : w.heap.size < (w.alloc (.cells #[.int .i64 a, .int .i64 b] T)).heap.size := by simp
  obtain ⟨h1, h2, h3⟩ := frame_new w T a b
  exact ⟨(h.cell (p := ⟨w.heap.size, 0, none⟩) hs).trans h1, (h.cell (p := ⟨w.heap.size, 1, none⟩) hs).trans h2, (h.frozen (p := ⟨w.heap.size, 0, none⟩) hs).trans (h3 0), (h.frozen (p := ⟨w.heap.size, 1, none⟩) hs).trans (h3 1), Nat.lt_of_lt_of_le hs h.size⟩
theorem below_frame {w w' : World} (h : Below w.heap.size w w') (a b : Value) : Below w.heap.size w ((w'.setCell ⟨w.heap.size, 0, none⟩ a).setCell ⟨w.heap.size, 1, none⟩ b) :=
  (h.setCell (p := ⟨w.heap.size, 0, none⟩) (Nat.le_refl _) a).setCell (p := ⟨w.heap.size, 1, none⟩) (Nat.le_refl _) b

set_option maxHeartbeats 4000000 in
set_option maxRecDepth 100000 in
theorem ofCodings_any (vv : Value) (cs : List (List UInt8)) (w : World) (hr : ReadsS w vv cs) (hs : roomL cs ≤ 50000) :
    Calls Tryd.prog 33 #[vv] w (fun e w' => OfRes (codS cs) w e w') := by
  have hB0 : Below w.heap.size w (w.alloc (.cells #[.int .i64 0, .int .i64 0] 28)) := below_new _ _
  have E := elements_any vv cs _ (hr.below hB0) hs
  unfold ElPost at E
  cases he : elemsF cs with
  | none =>
    have HE := Lib.hid (cod_none he)
    rw [he] at E
    clear he hr
    go_enter Tryd.func33, Tryd.ntmps33
    go_wp2_with fail
    refine E.mono ?_
    rintro e w1 ⟨hB1, rfl⟩
    obtain ⟨b0, b1, f0, f1, bz⟩ := frame_kept hB1
    go_wp2_with fail
    exact bodyPost_ret (v := .tuple #[.agg #[.int .i64 0, .int .i64 0], .iface 59 (.int .i64 32)]) (by simp [results, Tryd.results33, go_sem, b0, b1]) rfl (ofRes_err HE.out (by decide) (below_frame (hB0.trans (hB1.mono hB0.size)) _ _))
  | some es =>
    rw [he] at E
    by_cases hl : es.length = 1
    · obtain ⟨c, rfl⟩ : ∃ c, es = [c] := List.length_eq_one_iff.1 hl
      have hcl := elems_part he c (by simp)
      have hcz : (strB c).size ≤ 1000000000 := by rw [strB_size]; omega
      have L := fun w => lower_any (strB c) w hcz
      rw [strB_list] at L
      by_cases hc : lowS c = chunkedL
      · have HE := Lib.hid (cod_yes he hc)
        have heq : ((strB (lowS c)).toList == [99, 104, 117, 110, 107, 101, 100]) = true := by rw [hc, ByteArray.toList_eq]; decide
        clear he hr hc hl
        go_enter Tryd.func33, Tryd.ntmps33
        go_wp2_with fail
        refine E.mono ?_
        rintro e w1 ⟨hB1, v1, rfl, hO1⟩
        obtain ⟨b0, b1, f0, f1, bz⟩ := frame_kept hB1
        rcases hO1.open' with ⟨rfl, h⟩ | ⟨g, cap, rfl, hBg, hg, hcells⟩
        · cases h
        have hcell := hcells 0 c rfl
        clear hcells hO1
        go_wp2_with fail
        refine (L _).mono ?_
        rintro e w2 ⟨rfl, hB2⟩
        have c0 := (hB2.cell (p := ⟨w.heap.size, 0, none⟩) bz).trans b0
        have c1 := (hB2.cell (p := ⟨w.heap.size, 1, none⟩) bz).trans b1
        have d0 := (hB2.frozen (p := ⟨w.heap.size, 0, none⟩) bz).trans f0
        have d1 := (hB2.frozen (p := ⟨w.heap.size, 1, none⟩) bz).trans f1
        have hBx := hB0.trans (hB1.mono hB0.size)
        clear b0 b1 f0 f1
        go_wp2_with fail
        exact bodyPost_ret (v := .tuple #[.agg #[.int .i64 3, .int .i64 0], .nilIface]) (by simp [results, Tryd.results33, go_sem, c0, c1]) rfl (ofRes_ok HE.out (below_frame (hBx.trans (hB2.mono hBx.size)) _ _))
      · have HE := Lib.hid (cod_no he hc)
        have heq : ((strB (lowS c)).toList == [99, 104, 117, 110, 107, 101, 100]) = false := by
          rw [ByteArray.toList_eq, strB_list]; simpa [chunkedL] using hc
        clear he hr hc hl
        go_enter Tryd.func33, Tryd.ntmps33
        go_wp2_with fail
        refine E.mono ?_
        rintro e w1 ⟨hB1, v1, rfl, hO1⟩
        obtain ⟨b0, b1, f0, f1, bz⟩ := frame_kept hB1
        rcases hO1.open' with ⟨rfl, h⟩ | ⟨g, cap, rfl, hBg, hg, hcells⟩
        · cases h
        have hcell := hcells 0 c rfl
        clear hcells hO1
        go_wp2_with fail
        refine (L _).mono ?_
        rintro e w2 ⟨rfl, hB2⟩
        have c0 := (hB2.cell (p := ⟨w.heap.size, 0, none⟩) bz).trans b0
        have c1 := (hB2.cell (p := ⟨w.heap.size, 1, none⟩) bz).trans b1
        have d0 := (hB2.frozen (p := ⟨w.heap.size, 0, none⟩) bz).trans f0
        have d1 := (hB2.frozen (p := ⟨w.heap.size, 1, none⟩) bz).trans f1
        have hBx := hB0.trans (hB1.mono hB0.size)
        clear b0 b1 f0 f1
        go_wp2_with fail
        exact bodyPost_ret (v := .tuple #[.agg #[.int .i64 0, .int .i64 0], .iface 59 (.int .i64 32)]) (by simp [results, Tryd.results33, go_sem, c0, c1]) rfl (ofRes_err HE.out (by decide) (below_frame (hBx.trans (hB2.mono hBx.size)) _ _))
    · have HE := Lib.hid (cod_len he hl)
      clear he hr
      go_enter Tryd.func33, Tryd.ntmps33
      go_wp2_with fail
      refine E.mono ?_
      rintro e w1 ⟨hB1, v1, rfl, hO1⟩
      obtain ⟨b0, b1, f0, f1, bz⟩ := frame_kept hB1
      obtain ⟨a1, c1, rfl⟩ := hO1.isSlice
      clear hO1
      go_wp2_with fail
      exact bodyPost_ret (v := .tuple #[.agg #[.int .i64 0, .int .i64 0], .iface 59 (.int .i64 32)]) (by simp [results, Tryd.results33, go_sem, b0, b1]) rfl (ofRes_err HE.out (by decide) (below_frame (hB0.trans (hB1.mono hB0.size)) _ _))
set_option maxHeartbeats 4000000 in
set_option maxRecDepth 100000 in
theorem ofLengths_any (vv : Value) (ls : List (List UInt8)) (w : World) (hr : ReadsS w vv ls) (hs : roomL ls ≤ 50000) :
    Calls Tryd.prog 34 #[vv] w (fun e w' => OfRes (lensS ls) w e w') := by
  have hB0 : Below w.heap.size w (w.alloc (.cells #[.int .i64 0, .int .i64 0] 28)) := below_new _ _
  have E := elements_any vv ls _ (hr.below hB0) hs
  unfold ElPost at E
  cases he : elemsF ls with
  | none =>
    have HE := Lib.hid (len_none he)
    rw [he] at E
    clear he hr
    go_enter Tryd.func34, Tryd.ntmps34
    go_wp2_with fail
    refine E.mono ?_
    rintro e w1 ⟨hB1, rfl⟩
    obtain ⟨b0, b1, f0, f1, bz⟩ := frame_kept hB1
    go_wp2_with fail
    exact bodyPost_ret (v := .tuple #[.agg #[.int .i64 0, .int .i64 0], .iface 59 (.int .i64 30)]) (by simp [results, Tryd.results34, go_sem, b0, b1]) rfl (ofRes_err HE.out (by decide) (below_frame (hB0.trans (hB1.mono hB0.size)) _ _))
  | some es =>
    rw [he] at E
    cases es with
    | nil =>
      have HE := Lib.hid (len_nil he)
      clear he hr
      go_enter Tryd.func34, Tryd.ntmps34
      go_wp2_with fail
      refine E.mono ?_
      rintro e w1 ⟨hB1, v1, rfl, hO1⟩
      obtain ⟨b0, b1, f0, f1, bz⟩ := frame_kept hB1
      obtain ⟨a1, c1, rfl⟩ := hO1.isSlice
      go_wp2_with fail
      exact bodyPost_ret (v := .tuple #[.agg #[.int .i64 0, .int .i64 0], .iface 59 (.int .i64 30)]) (by simp [results, Tryd.results34, go_sem, b0, b1]) rfl (ofRes_err HE.out (by decide) (below_frame (hB0.trans (hB1.mono hB0.size)) _ _))
    | cons x r =>
      have hel : (x :: r).length ≤ 50000 := Nat.le_trans (elems_len he) hs
      have hxl := elems_part he x (by simp)
      have NX := fun w => number_num x w (by omega)
      unfold NumPost at NX
      have MIX := Lib.hid (fun y (hy : y ∈ x :: r) (hn : y ≠ x) => len_mix he hy hn)
      have NON := Lib.hid (fun (hn : numO x = none) => len_nonum he hn)
      have LAR := Lib.hid (fun (ha : ∀ y ∈ x :: r, y = x) n (hn : numO x = some n) (hl : 65536 < n) => len_large he ha hn hl)
      have GOO := Lib.hid (fun (ha : ∀ y ∈ x :: r, y = x) n (hn : numO x = some n) (hl : ¬ 65536 < n) => len_good he ha hn hl)
      clear he hr
      generalize hes : x :: r = es at *
      have HES := Lib.hid hes
      clear hes
      go_enter Tryd.func34, Tryd.ntmps34
      go_wp2_with fail
      refine E.mono ?_
      rintro e w1 ⟨hB1, v1, rfl, hO1⟩
      obtain ⟨b0, b1, f0, f1, bz⟩ := frame_kept hB1
      have hBx := hB0.trans (hB1.mono hB0.size)
      have hpos : 0 < es.length := by rw [← HES.out]; simp
      rcases hO1.open' with ⟨rfl, h⟩ | ⟨g, cap, rfl, hBg, hg, hcells⟩
      · rw [h] at hpos; exact absurd hpos (by simp)
      have hc0 := hcells 0 x (by rw [← HES.out]; rfl)
      have HC := Lib.hid hcells
      clear hcells hO1
      go_wp2_with fail
      go_loop [25] (fun i => ∃ k : Nat, k ≤ es.length ∧ i = .int .i64 k ∧ ∀ y ∈ es.take k, y = x) (fun i => es.length - (intOf i).toNat)
      case atStart => exact ⟨0, by omega, rfl, by simp⟩
      case round =>
        obtain ⟨k, hk, rfl, hall⟩ := hrel
        have HA := Lib.hid hall
        clear hall
        by_cases hlt : k < es.length
        · obtain ⟨y, hy⟩ : ∃ y, es[k]? = some y := ⟨es[k], by simp [hlt]⟩
          have hck := HC.out k y hy
          have HY := Lib.hid hy
          clear hy
          by_cases hxy : y = x
          · have heq := toList_same hxy
            have HN := Lib.hid (show ∀ z ∈ es.take (k + 1), z = x by
              rw [take_more HY.out]
              intro z hz
              rcases List.mem_append.1 hz with hz | hz
              · exact HA.out z hz
              · rw [List.mem_singleton] at hz; rw [hz]; exact hxy)
            clear hxy
            go_wp2_with fail
            go_round
            case rel => exact ⟨k + 1, by omega, by go_num, HN.out⟩
            case measure => simp [intOf]; omega
          · have heq := toList_other hxy
            have HE := Lib.hid (MIX.out y (List.mem_of_getElem? HY.out) hxy)
            clear hxy
            go_wp2_with fail
            exact bodyPost_ret (v := .tuple #[.agg #[.int .i64 0, .int .i64 0], .iface 59 (.int .i64 30)]) (by simp [results, Tryd.results34, go_sem, b0, b1]) rfl (ofRes_err HE.out (by decide) (below_frame hBx _ _))
        · have HALL := Lib.hid (show ∀ y ∈ es, y = x by have := HA.out; rwa [List.take_of_length_le (by omega)] at this)
          cases hn : numO x with
          | none =>
            rw [hn] at NX
            have HE := Lib.hid (NON.out hn)
            clear hn
            go_wp2_with fail
            refine (NX _).mono ?_
            rintro e w2 ⟨rfl, c, rfl⟩
            go_wp2_with fail
            exact bodyPost_ret (v := .tuple #[.agg #[.int .i64 0, .int .i64 0], .iface 59 (.int .i64 30)]) (by simp [results, Tryd.results34, go_sem, b0, b1]) rfl (ofRes_err HE.out (by decide) (below_frame hBx _ _))
          | some n =>
            rw [hn] at NX
            have hn15 := numO_lt hn
            by_cases hl : 65536 < n
            · have HE := Lib.hid (LAR.out HALL.out n hn hl)
              clear hn
              go_wp2_with fail
              refine (NX _).mono ?_
              rintro e w2 ⟨rfl, rfl⟩
              go_wp2_with fail
              exact bodyPost_ret (v := .tuple #[.agg #[.int .i64 0, .int .i64 0], .iface 59 (.int .i64 5)]) (by simp [results, Tryd.results34, go_sem, b0, b1]) rfl (ofRes_err HE.out (by decide) (below_frame hBx _ _))
            · have HE := Lib.hid (GOO.out HALL.out n hn hl)
              clear hn
              go_wp2_with fail
              refine (NX _).mono ?_
              rintro e w2 ⟨rfl, rfl⟩
              go_wp2_with fail
              exact bodyPost_ret (v := .tuple #[.agg #[.int .i64 2, .int .i64 n], .nilIface]) (by simp [results, Tryd.results34, go_sem, b0, b1]) rfl (ofRes_ok HE.out (below_frame hBx _ _))
end Go.Proofs.YthjkneifffdglaaDoor
