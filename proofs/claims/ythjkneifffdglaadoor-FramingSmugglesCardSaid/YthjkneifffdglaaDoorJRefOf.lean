/- What the reference's of, OfRequest and OfResponse return. -/
import Derived.Test.YthjkneifffdglaaDoorJRefEl
import Derived.Deep.QuietTactic
import Derived.BigQuiet
namespace Go.Proofs.YthjkneifffdglaaDoor
open Go.RowKit

/-- The reference returns the frame, and the error's number. -/
def RefOfRes (r : Nat × Nat × Nat) (w : World) (e : Ending) (w' : World) : Prop :=
  e = .returned (.tuple #[frV r.2.1 r.2.2, .int .i64 (r.1 : Int)]) ∧ Below w.heap.size w w'
theorem refOfRes {r : Nat × Nat × Nat} {c k n : Nat} {w w' : World} (h : r = (c, k, n)) (hB : Below w.heap.size w w') :
    RefOfRes r w (.returned (.tuple #[.agg #[.int .i64 k, .int .i64 n], .int .i64 c])) w' := by
  subst h; exact ⟨rfl, hB⟩
theorem refElCL_any (fv : Value) (ps : Flds) (w : World) (hr : ReadsQ w fv ps) (hf : Fits ps) :
    Calls Tryd.prog 35 #[fv, .string ⟨#[99, 111, 110, 116, 101, 110, 116, 45, 108, 101, 110, 103, 116, 104]⟩] w (fun e w' => RefElPost (lsF ps) w e w') := refElements_any clN fv ps w hr hf (by decide)
theorem refElTE_any (fv : Value) (ps : Flds) (w : World) (hr : ReadsQ w fv ps) (hf : Fits ps) :
    Calls Tryd.prog 35 #[fv, .string ⟨#[116, 114, 97, 110, 115, 102, 101, 114, 45, 101, 110, 99, 111, 100, 105, 110, 103]⟩] w (fun e w' => RefElPost (csF ps) w e w') := refElements_any teN fv ps w hr hf (by decide)
theorem refAllCL_any (fv : Value) (ps : Flds) (w : World) (hr : ReadsQ w fv ps) (hf : Fits ps) :
    Calls Tryd.prog 36 #[fv, .string ⟨#[99, 111, 110, 116, 101, 110, 116, 45, 108, 101, 110, 103, 116, 104]⟩] w fun e w' => ∃ v, e = .returned v ∧ OwnsS w.heap.size w' v (lsF ps) ∧ Below w.heap.size w w' := refAllN_any clN fv ps w hr hf (by decide)
theorem refAllTE_any (fv : Value) (ps : Flds) (w : World) (hr : ReadsQ w fv ps) (hf : Fits ps) :
    Calls Tryd.prog 36 #[fv, .string ⟨#[116, 114, 97, 110, 115, 102, 101, 114, 45, 101, 110, 99, 111, 100, 105, 110, 103]⟩] w fun e w' => ∃ v, e = .returned v ∧ OwnsS w.heap.size w' v (csF ps) ∧ Below w.heap.size w w' := refAllN_any teN fv ps w hr hf (by decide)
set_option maxHeartbeats 8000000 in
set_option maxRecDepth 100000 in
theorem refOf_any (fv : Value) (ps : Flds) (w : World) (hr : ReadsQ w fv ps) (hf : Fits ps) :
    Calls Tryd.prog 28 #[fv] w (fun e w' => RefOfRes (ofO 1 (lsF ps) (csF ps)) w e w') := by
  have hB0 : Below w.heap.size w (w.alloc (.cells #[.int .i64 0, .int .i64 0] 38)) := below_new _ _
  have HR := Lib.hid hr
  have E1 := refElCL_any fv ps _ (hr.below hB0) hf
  have E2 := Lib.hid (fun W (hr : ReadsQ W fv ps) => refElTE_any fv ps W hr hf)
  have A1 := Lib.hid (fun W (hr : ReadsQ W fv ps) => refAllCL_any fv ps W hr hf)
  have A2 := Lib.hid (fun W (hr : ReadsQ W fv ps) => refAllTE_any fv ps W hr hf)
  have hl1 : (lsF ps).length ≤ 100 := hf.all clN
  have hl2 : (csF ps).length ≤ 100 := hf.all teN
  have hel1 := Lib.hid (fun es (h : elemsF (lsF ps) = some es) => Nat.le_trans (elems_len h) (hf.room clN))
  have hel2 := Lib.hid (fun es (h : elemsF (csF ps) = some es) => elems_part h)
  have hel3 := Lib.hid (fun es (h : elemsF (lsF ps) = some es) => elems_part h)
  have hro1 : roomL (lsF ps) ≤ 50000 := hf.room clN
  have hro2 : roomL (csF ps) ≤ 50000 := hf.room teN
  unfold RefElPost at E1 E2
  generalize hlls : lsF ps = ls at *
  generalize hlcs : csF ps = cs at *
  clear hlls hlcs hr hf
  go_enter Tryd.func28, Tryd.ntmps28
  go_wp2_with fail
  refine E1.mono ?_
  rintro e w1 ⟨v1, rfl, hO1, hB1⟩
  have hBx := hB0.trans (hB1.mono hB0.size)
  have E2 := E2.out _ (HR.out.below hBx)
  go_wp2_with fail
  refine E2.mono ?_
  rintro e w2 ⟨v2, rfl, hO2, hB2⟩
  have hB12 := hB1.trans (hB2.mono hB1.size)
  have hBy := hB0.trans (hB12.mono hB0.size)
  have A1 := A1.out _ (HR.out.below hBy)
  have hO1 := OwnsS.below hO1 hB2
  clear E1 E2 hB1 hB2 hBx
  go_wp2_with fail
  refine A1.mono ?_
  rintro e w3 ⟨v3, rfl, hO3, hB3⟩
  have hB13 := hB12.trans (hB3.mono hB12.size)
  have hBz := hB0.trans (hB13.mono hB0.size)
  have A2 := A2.out _ (HR.out.below hBz)
  have hO1 := OwnsS.below hO1 hB3
  have hO2 := OwnsS.below hO2 hB3
  obtain ⟨a3, c3, rfl⟩ := hO3.isSlice
  clear A1 hO3 hB3 hB12 hBy
  go_wp2_with fail
  refine A2.mono ?_
  rintro e w4 ⟨v4, rfl, hO4, hB4⟩
  have hB14 := hB13.trans (hB4.mono hB13.size)
  have hBw := hB0.trans (hB14.mono hB0.size)
  have hO1 := OwnsS.below hO1 hB4
  have hO2 := OwnsS.below hO2 hB4
  obtain ⟨a4, c4, rfl⟩ := hO4.isSlice
  clear A2 hO4 hB4 hB13 hBz
  obtain ⟨b0, b1, f0, f1, bz⟩ := frame_kept hB14
  by_cases h1 : ls = []
  · have z1 : ls.length = 0 := by rw [h1]; rfl
    by_cases h2 : cs = []
    · have z2 : cs.length = 0 := by rw [h2]; rfl
      have HE := Lib.hid (ofO_none (o := 1) h1 h2)
      clear h1 h2
      generalize (elemsF ls).isSome = q1 at *
      generalize (elemsF cs).isSome = q2 at *
      go_wp2_with fail
      exact bodyPost_ret (v := .tuple #[.agg #[.int .i64 1, .int .i64 0], .int .i64 0]) (by simp [results, Tryd.results28, go_sem, b0, b1]) rfl (refOfRes HE.out (below_frame hBw _ _))
    · have z2 : 0 < cs.length := by cases cs with
        | nil => exact absurd rfl h2
        | cons a b => simp
      have HE := Lib.hid (ofO_cod (o := 1) h1 h2)
      clear h1 h2
      generalize (elemsF ls).isSome = q1 at *
      generalize hq2 : (elemsF cs).isSome = q2 at *
      cases he : elemsF cs with
      | none =>
        have HC := Lib.hid (HE.out.trans (cod_none he))
        rw [he] at hO2 hq2
        obtain rfl : q2 = false := hq2.symm
        clear he hq2
        go_wp2_with fail
        exact bodyPost_ret (v := .tuple #[.agg #[.int .i64 0, .int .i64 0], .int .i64 32]) (by simp [results, Tryd.results28, go_sem, b0, b1]) rfl (refOfRes HC.out (below_frame hBw _ _))
      | some es =>
        rw [he] at hO2 hq2
        obtain rfl : q2 = true := hq2.symm
        clear hq2
        have hO2 : OwnsS _ w4 v2 es := hO2
        by_cases hl : es.length = 1
        · obtain ⟨c, rfl⟩ : ∃ c, es = [c] := List.length_eq_one_iff.1 hl
          have hcl := hel2.out _ he c (by simp)
          have L := fun W => refLower_any (strB c) W (by rw [strB_size]; omega)
          rw [strB_list] at L
          rcases hO2.open' with ⟨rfl, h⟩ | ⟨g, cap, rfl, hBg, hg, hcells⟩
          · cases h
          have hcell := hcells 0 c rfl
          clear hcells hO2 hl
          by_cases hc : lowS c = chunkedL
          · have HC := Lib.hid (HE.out.trans (cod_yes he hc))
            have heq : ((strB (lowS c)).toList == [99, 104, 117, 110, 107, 101, 100]) = true := by rw [hc, ByteArray.toList_eq]; decide
            clear he hc
            go_wp2_with fail
            refine (L _).mono ?_
            rintro e w5 ⟨rfl, hB5⟩
            have d0 := (hB5.cell (p := ⟨w.heap.size, 0, none⟩) bz).trans b0
            have d1 := (hB5.cell (p := ⟨w.heap.size, 1, none⟩) bz).trans b1
            have g0 := (hB5.frozen (p := ⟨w.heap.size, 0, none⟩) bz).trans f0
            have g1 := (hB5.frozen (p := ⟨w.heap.size, 1, none⟩) bz).trans f1
            clear b0 b1 f0 f1
            go_wp2_with fail
            exact bodyPost_ret (v := .tuple #[.agg #[.int .i64 3, .int .i64 0], .int .i64 0]) (by simp [results, Tryd.results28, go_sem, d0, d1]) rfl (refOfRes HC.out (below_frame (hBw.trans (hB5.mono hBw.size)) _ _))
          · have HC := Lib.hid (HE.out.trans (cod_no he hc))
            have heq : ((strB (lowS c)).toList == [99, 104, 117, 110, 107, 101, 100]) = false := by
              rw [ByteArray.toList_eq, strB_list]; simpa [chunkedL] using hc
            clear he hc
            go_wp2_with fail
            refine (L _).mono ?_
            rintro e w5 ⟨rfl, hB5⟩
            have d0 := (hB5.cell (p := ⟨w.heap.size, 0, none⟩) bz).trans b0
            have d1 := (hB5.cell (p := ⟨w.heap.size, 1, none⟩) bz).trans b1
            have g0 := (hB5.frozen (p := ⟨w.heap.size, 0, none⟩) bz).trans f0
            have g1 := (hB5.frozen (p := ⟨w.heap.size, 1, none⟩) bz).trans f1
            clear b0 b1 f0 f1
            go_wp2_with fail
            exact bodyPost_ret (v := .tuple #[.agg #[.int .i64 0, .int .i64 0], .int .i64 32]) (by simp [results, Tryd.results28, go_sem, d0, d1]) rfl (refOfRes HC.out (below_frame (hBw.trans (hB5.mono hBw.size)) _ _))
        · have HC := Lib.hid (HE.out.trans (cod_len he hl))
          obtain ⟨a2, cp2, rfl⟩ := hO2.isSlice
          clear he hO2
          go_wp2_with fail
          exact bodyPost_ret (v := .tuple #[.agg #[.int .i64 0, .int .i64 0], .int .i64 32]) (by simp [results, Tryd.results28, go_sem, b0, b1]) rfl (refOfRes HC.out (below_frame hBw _ _))
  · have z1 : 0 < ls.length := by cases ls with
      | nil => exact absurd rfl h1
      | cons a b => simp
    by_cases h2 : cs = []
    · have z2 : cs.length = 0 := by rw [h2]; rfl
      have HE := Lib.hid (ofO_len (o := 1) h1 h2)
      clear h1 h2
      generalize (elemsF cs).isSome = q2 at *
      generalize hq1 : (elemsF ls).isSome = q1 at *
      cases he : elemsF ls with
      | none =>
        have HC := Lib.hid (HE.out.trans (len_none he))
        rw [he] at hO1 hq1
        obtain rfl : q1 = false := hq1.symm
        clear he hq1
        go_wp2_with fail
        exact bodyPost_ret (v := .tuple #[.agg #[.int .i64 0, .int .i64 0], .int .i64 30]) (by simp [results, Tryd.results28, go_sem, b0, b1]) rfl (refOfRes HC.out (below_frame hBw _ _))
      | some es =>
        rw [he] at hO1 hq1
        obtain rfl : q1 = true := hq1.symm
        clear hq1
        have hO1 : OwnsS _ w4 v1 es := hO1
        cases es with
        | nil =>
          have HC := Lib.hid (HE.out.trans (len_nil he))
          obtain ⟨a2, cp2, rfl⟩ := hO1.isSlice
          clear he hO1
          go_wp2_with fail
          exact bodyPost_ret (v := .tuple #[.agg #[.int .i64 0, .int .i64 0], .int .i64 30]) (by simp [results, Tryd.results28, go_sem, b0, b1]) rfl (refOfRes HC.out (below_frame hBw _ _))
        | cons x r =>
          have hel := hel1.out _ he
          have hxl := hel3.out _ he x (by simp)
          have NX := fun W => refNumber_any (strB x) W (by rw [strB_size]; omega)
          rw [strB_list] at NX
          have MIX := Lib.hid (fun y (hy : y ∈ x :: r) (hn : y ≠ x) => HE.out.trans (len_mix he hy hn))
          have NON := Lib.hid (fun (hn : numO x = none) => HE.out.trans (len_nonum he hn))
          have LAR := Lib.hid (fun (ha : ∀ y ∈ x :: r, y = x) n (hn : numO x = some n) (hl : 65536 < n) => HE.out.trans (len_large he ha hn hl))
          have GOO := Lib.hid (fun (ha : ∀ y ∈ x :: r, y = x) n (hn : numO x = some n) (hl : ¬ 65536 < n) => HE.out.trans (len_good he ha hn hl))
          clear he
          generalize hes : x :: r = es at *
          have HES := Lib.hid hes
          clear hes
          have hpos : 0 < es.length := by rw [← HES.out]; simp
          rcases hO1.open' with ⟨rfl, h⟩ | ⟨g, cap, rfl, hBg, hg, hcells⟩
          · rw [h] at hpos; exact absurd hpos (by simp)
          have hc0 := hcells 0 x (by rw [← HES.out]; rfl)
          have HC := Lib.hid hcells
          have hne0 : ((es.length : Int) == 0) = false := by rw [beq_eq_false_iff_ne]; omega
          clear hcells hO1
          cases hn : numO x with
          | none =>
            have HE2 := Lib.hid (NON.out hn)
            rw [show numZ x = -1 by unfold numZ; rw [hn]] at NX
            clear hn
            go_wp2_with fail
            refine (NX _).mono ?_
            rintro e w5 ⟨rfl, rfl⟩
            go_wp2_with fail
            exact bodyPost_ret (v := .tuple #[.agg #[.int .i64 0, .int .i64 0], .int .i64 30]) (by simp [results, Tryd.results28, go_sem, b0, b1]) rfl (refOfRes HE2.out (below_frame hBw _ _))
          | some n =>
            rw [show numZ x = (n : Int) by unfold numZ; rw [hn]] at NX
            have hn15 := numO_lt hn
            have HN := Lib.hid hn
            clear hn
            go_wp2_with fail
            refine (NX _).mono ?_
            rintro e w5 ⟨rfl, rfl⟩
            go_wp2_with fail
            go_loopw [10] (fun i wr => ∃ k m : Nat, k ≤ es.length ∧ i = .int .i64 k ∧ (∀ y ∈ es.take k, y = x) ∧ wr = w4.drewN m) (fun i _ => es.length - (intOf i).toNat)
            case atStart => exact ⟨0, 0, by omega, rfl, by simp, rfl⟩
            case round =>
              obtain ⟨k, m, hk, rfl, hall, rfl⟩ := hrel
              have HA := Lib.hid hall
              clear hall
              by_cases hlt : k < es.length
              · obtain ⟨y, hy⟩ : ∃ y, es[k]? = some y := ⟨es[k], by simp [hlt]⟩
                have hck := HC.out k y hy
                have HY := Lib.hid hy
                clear hy
                by_cases hxy : y = x
                · have heq := toList_same hxy
                  have HNX := Lib.hid (show ∀ z ∈ es.take (k + 1), z = x by
                    rw [take_more HY.out]
                    intro z hz
                    rcases List.mem_append.1 hz with hz | hz
                    · exact HA.out z hz
                    · rw [List.mem_singleton] at hz; rw [hz]; exact hxy)
                  clear hxy
                  go_wp2
                  go_quiet (fail)
                  go_wp2
                  go_roundw
                  case rel => exact ⟨k + 1, m + nq, by omega, by go_num, HNX.out, by first | exact World.drewN_drewN .. | rfl⟩
                  case measure => simp [intOf]; omega
                · have heq := toList_other hxy
                  have HE2 := Lib.hid (MIX.out y (List.mem_of_getElem? HY.out) hxy)
                  clear hxy
                  go_wp2
                  go_quiet (fail)
                  go_wp2_with fail
                  exact bodyPost_ret (v := .tuple #[.agg #[.int .i64 0, .int .i64 0], .int .i64 30]) (by simp [results, Tryd.results28, go_sem, b0, b1]) rfl (refOfRes HE2.out (below_frame (below_drewN hBw _) _ _))
              · have HALL := Lib.hid (show ∀ y ∈ es, y = x by have := HA.out; rwa [List.take_of_length_le (by omega)] at this)
                by_cases hl : 65536 < n
                · have HE2 := Lib.hid (LAR.out HALL.out n HN.out hl)
                  go_wp2_with fail
                  refine (NX _).mono ?_
                  rintro e w5 ⟨rfl, rfl⟩
                  go_wp2_with fail
                  exact bodyPost_ret (v := .tuple #[.agg #[.int .i64 0, .int .i64 0], .int .i64 5]) (by simp [results, Tryd.results28, go_sem, b0, b1]) rfl (refOfRes HE2.out (below_frame (below_drewN hBw _) _ _))
                · have HE2 := Lib.hid (GOO.out HALL.out n HN.out hl)
                  go_wp2_with fail
                  refine (NX _).mono ?_
                  rintro e w5 ⟨rfl, rfl⟩
                  go_wp2_with fail
                  refine (NX _).mono ?_
                  rintro e w5 ⟨rfl, rfl⟩
                  go_wp2_with fail
                  exact bodyPost_ret (v := .tuple #[.agg #[.int .i64 2, .int .i64 n], .int .i64 0]) (by simp [results, Tryd.results28, go_sem, b0, b1]) rfl (refOfRes HE2.out (below_frame (below_drewN hBw _) _ _))
    · have z2 : 0 < cs.length := by cases cs with
        | nil => exact absurd rfl h2
        | cons a b => simp
      have HE := Lib.hid (ofO_both (o := 1) h1 h2)
      clear h1 h2
      generalize (elemsF ls).isSome = q1 at *
      generalize (elemsF cs).isSome = q2 at *
      go_wp2_with fail
      exact bodyPost_ret (v := .tuple #[.agg #[.int .i64 0, .int .i64 0], .int .i64 31]) (by simp [results, Tryd.results28, go_sem, b0, b1]) rfl (refOfRes HE.out (below_frame hBw _ _))
set_option maxHeartbeats 4000000 in
set_option maxRecDepth 100000 in
theorem refOfRequest_any (m t : List UInt8) (fv : Value) (ps : Flds) (w : World) (hr : ReadsQ w fv ps) (hf : Fits ps) :
    Calls Tryd.prog 14 #[.agg #[.string (strB m), .string (strB t), fv]] w (fun e w' => RefOfRes (ofO 1 (lsF ps) (csF ps)) w e w') := by
  have F := Lib.hid (fun W (hr : ReadsQ W fv ps) => refOf_any fv ps W hr hf)
  have HR := Lib.hid hr
  obtain ⟨ao, cap, rfl, hc⟩ := hr
  unfold RefOfRes at F
  generalize ofO 1 (lsF ps) (csF ps) = r at *
  obtain ⟨c1, c2, c3⟩ := r
  have hB0 : Below w.heap.size w (w.alloc (.cells #[.string (strB m), .string (strB t), .slice ao ps.length cap] 24)) := below_new _ _
  have hB1 := hB0.alloc hB0.size (.cells #[.int .i64 0, .int .i64 0] 38)
  have hr2 := HR.out.below hB1
  have hx : ((w.alloc (.cells #[.string (strB m), .string (strB t), .slice ao ps.length cap] 24)).alloc (.cells #[.int .i64 0, .int .i64 0] 38)).cell? ⟨w.heap.size, 2, none⟩ = some (.slice ao ps.length cap) := by
    have hb2 := below_new (w.alloc (.cells #[.string (strB m), .string (strB t), .slice ao ps.length cap] 24)) (.cells #[.int .i64 0, .int .i64 0] 38)
    rw [hb2.cell (p := ⟨w.heap.size, 2, none⟩) (by simp), World.cell?_alloc_at _ _ _ _ rfl]; rfl
  have F := F.out _ hr2
  clear hc
  go_enter Tryd.func14, Tryd.ntmps14
  go_wp2_with fail
  refine F.mono ?_
  rintro e w3 ⟨rfl, hB3⟩
  obtain ⟨b0, b1, f0, f1, bz⟩ := frame_kept hB3
  have ez : (w.alloc (.cells #[.string (strB m), .string (strB t), .slice ao ps.length cap] 24)).heap.size = w.heap.size + 1 := by simp
  rw [ez] at b0 b1 f0 f1 bz
  have hBz := hB1.trans (hB3.mono hB1.size)
  go_wp2_with fail
  exact bodyPost_ret (v := .tuple #[frV c2 c3, .int .i64 (c1 : Int)]) (by simp [results, Tryd.results14, go_sem, b0, b1]) rfl ⟨rfl, (hBz.setCell (p := ⟨w.heap.size + 1, 0, none⟩) (Nat.le_succ _) _).setCell (p := ⟨w.heap.size + 1, 1, none⟩) (Nat.le_succ _) _⟩
theorem of1_4 {ls cs : List (List UInt8)} : ((ofO 1 ls cs).1 = 0 ↔ (ofO 4 ls cs).1 = 0) ∧ ((ofO 1 ls cs).1 ≠ 0 → ofO 4 ls cs = ofO 1 ls cs) ∧ ((ofO 1 ls cs).1 = 0 → (ofO 1 ls cs).2.1 = 1 → ofO 4 ls cs = (0, 4, 0)) ∧ ((ofO 1 ls cs).1 = 0 → (ofO 1 ls cs).2.1 ≠ 1 → ofO 4 ls cs = ofO 1 ls cs) := by
  have hk : ∀ cs, (codS cs).1 = 0 → (codS cs).2.1 = 3 := by
    intro cs h
    unfold codS at h ⊢
    repeat' split at h
    all_goals first | (exfalso; simp at h; done) | (split <;> simp_all)
  have hl : ∀ ls, (lensS ls).1 = 0 → (lensS ls).2.1 = 2 := by
    intro ls h
    unfold lensS at h ⊢
    repeat' split at h
    all_goals first | (exfalso; simp at h; done) | skip
    all_goals simp_all
    rename_i a b
    rw [if_pos a, if_neg (by omega)]
  by_cases h1 : ls = []
  · by_cases h2 : cs = []
    · rw [ofO_none h1 h2, ofO_none h1 h2]; simp
    · rw [ofO_cod h1 h2, ofO_cod h1 h2]
      refine ⟨Iff.rfl, fun _ => rfl, fun h h' => ?_, fun _ _ => rfl⟩
      rw [hk cs h] at h'; simp at h'
  · by_cases h2 : cs = []
    · rw [ofO_len h1 h2, ofO_len h1 h2]
      refine ⟨Iff.rfl, fun _ => rfl, fun h h' => ?_, fun _ _ => rfl⟩
      rw [hl ls h] at h'; simp at h'
    · rw [ofO_both h1 h2, ofO_both h1 h2]; simp
theorem bod_yes {z : Int} (h : bodB z = true) : (100 ≤ z ∧ z ≤ 199) ∨ z = 204 ∨ z = 304 := by simp [bodB] at h; omega
theorem bod_no {z : Int} (h : bodB z = false) : (z < 100 ∨ 199 < z) ∧ z ≠ 204 ∧ z ≠ 304 := by simp [bodB] at h; omega
set_option maxHeartbeats 8000000 in
set_option maxRecDepth 100000 in
theorem refOfResponse_any (m : List UInt8) (z : Int) (fv : Value) (ps : Flds) (w : World) (hr : ReadsQ w fv ps) (hf : Fits ps) :
    Calls Tryd.prog 19 #[.string (strB m), .agg #[.int .i64 z, fv]] w (fun e w' => RefOfRes (ofR (decide (m = headL) || bodB z) (lsF ps) (csF ps)) w e w') := by
  have F := Lib.hid (fun W (hr : ReadsQ W fv ps) => refOf_any fv ps W hr hf)
  have HR := Lib.hid hr
  obtain ⟨ao, cap, rfl, hc⟩ := hr
  have H1 : Hid ((ofO 1 (lsF ps) (csF ps)).1 ≠ 0 → ofR (decide (m = headL) || bodB z) (lsF ps) (csF ps) = ((ofO 1 (lsF ps) (csF ps)).1, 0, 0)) := Lib.hid fun h => by
    have h4 := (@of1_4 (lsF ps) (csF ps)).2.1 h
    rw [← h4] at h ⊢
    exact ofR_err h
  have H2 : Hid ((ofO 1 (lsF ps) (csF ps)).1 = 0 → ofR true (lsF ps) (csF ps) = (0, 1, 0)) := Lib.hid fun h => ofR_hd ((@of1_4 (lsF ps) (csF ps)).1.1 h)
  have H3 : Hid ((ofO 1 (lsF ps) (csF ps)).1 = 0 → (ofO 1 (lsF ps) (csF ps)).2.1 = 1 → ofR false (lsF ps) (csF ps) = (0, 4, 0)) := Lib.hid fun h h' => by rw [ofR_body]; exact (@of1_4 (lsF ps) (csF ps)).2.2.1 h h'
  have H4 : Hid ((ofO 1 (lsF ps) (csF ps)).1 = 0 → (ofO 1 (lsF ps) (csF ps)).2.1 ≠ 1 → ofR false (lsF ps) (csF ps) = ofO 1 (lsF ps) (csF ps)) := Lib.hid fun h h' => by rw [ofR_body]; exact (@of1_4 (lsF ps) (csF ps)).2.2.2 h h'
  unfold RefOfRes at F
  generalize ofO 1 (lsF ps) (csF ps) = r at *
  obtain ⟨c1, c2, c3⟩ := r
  have hB0 : Below w.heap.size w (w.alloc (.cells #[.int .i64 z, .slice ao ps.length cap] 45)) := below_new _ _
  have hB1 := hB0.alloc hB0.size (.cells #[.int .i64 0, .int .i64 0] 38)
  have hr2 := HR.out.below hB1
  have hx : ∀ j, ((w.alloc (.cells #[.int .i64 z, .slice ao ps.length cap] 45)).alloc (.cells #[.int .i64 0, .int .i64 0] 38)).cell? ⟨w.heap.size, j, none⟩ = (#[.int .i64 z, .slice ao ps.length cap] : Array Value)[j]? := fun j => by
    have hb2 := below_new (w.alloc (.cells #[.int .i64 z, .slice ao ps.length cap] 45)) (.cells #[.int .i64 0, .int .i64 0] 38)
    rw [hb2.cell (p := ⟨w.heap.size, j, none⟩) (by simp), World.cell?_alloc_at _ _ _ _ rfl]
  have hx0 := hx 0
  have hx1 := hx 1
  have hxz : w.heap.size < ((w.alloc (.cells #[.int .i64 z, .slice ao ps.length cap] 45)).alloc (.cells #[.int .i64 0, .int .i64 0] 38)).heap.size := by simp; omega
  have F := F.out _ hr2
  have ez : (w.alloc (.cells #[.int .i64 z, .slice ao ps.length cap] 45)).heap.size = w.heap.size + 1 := by simp
  clear hc hx
  go_enter Tryd.func19, Tryd.ntmps19
  go_wp2_with fail
  refine F.mono ?_
  rintro e w3 ⟨rfl, hB3⟩
  obtain ⟨b0, b1, f0, f1, bz⟩ := frame_kept hB3
  have y0 : w3.cell? ⟨w.heap.size, 0, none⟩ = some (.int .i64 z) := (hB3.cell (p := ⟨w.heap.size, 0, none⟩) hxz).trans hx0
  rw [ez] at b0 b1 f0 f1 bz
  have bz0 : w.heap.size < w3.heap.size := by omega
  have y1 : (w3.alloc (.cells #[.int .i64 (c2 : Int), .int .i64 (c3 : Int)] 38)).cell? ⟨w.heap.size, 0, none⟩ = some (.int .i64 z) := ((below_new w3 _).cell (p := ⟨w.heap.size, 0, none⟩) bz0).trans y0
  have hBz := hB1.trans (hB3.mono hB1.size)
  have hBs := fun (x y : Value) => (hBz.setCell (p := ⟨w.heap.size + 1, 0, none⟩) (Nat.le_succ _) x).setCell (p := ⟨w.heap.size + 1, 1, none⟩) (Nat.le_succ _) y
  have hBa := fun (x y : Value) (o : Obj) => (hBs x y).alloc (hBs x y).size o
  have HBA := Lib.hid hBa
  clear hBs hBa
  by_cases hc1 : c1 = 0
  · subst hc1
    by_cases hm : m = headL
    · have heq := head_eq hm
      have HE := Lib.hid (show ofR (decide (m = headL) || bodB z) (lsF ps) (csF ps) = (0, 1, 0) by rw [decide_eq_true hm, Bool.true_or]; exact H2.out rfl)
      clear hm
      go_wp2_with fail
      exact bodyPost_ret (v := .tuple #[.agg #[.int .i64 1, .int .i64 0], .int .i64 0]) (by simp [results, Tryd.results19, go_sem, b0, b1, bz]) rfl (refOfRes HE.out (HBA.out _ _ _))
    · have heq := head_ne hm
      have HD := Lib.hid (decide_eq_false hm)
      clear hm
      cases hb : bodB z with
      | true =>
        have HE := Lib.hid (show ofR (decide (m = headL) || bodB z) (lsF ps) (csF ps) = (0, 1, 0) by rw [hb, Bool.or_true]; exact H2.out rfl)
        rcases bod_yes hb with ⟨z1, z2⟩ | rfl | rfl
        all_goals
          clear hb
          go_wp2_with fail
          exact bodyPost_ret (v := .tuple #[.agg #[.int .i64 1, .int .i64 0], .int .i64 0]) (by simp [results, Tryd.results19, go_sem, b0, b1, bz]) rfl (refOfRes HE.out (HBA.out _ _ _))
      | false =>
        obtain ⟨hz1, hz2, hz3⟩ := bod_no hb
        have q2 : (z == 204) = false := by rw [beq_eq_false_iff_ne]; exact hz2
        have q3 : (z == 304) = false := by rw [beq_eq_false_iff_ne]; exact hz3
        clear hz2 hz3
        by_cases hk : c2 = 1
        · have HE := Lib.hid (show ofR (decide (m = headL) || bodB z) (lsF ps) (csF ps) = (0, 4, 0) by rw [HD.out, hb, Bool.false_or]; exact H3.out rfl hk)
          subst hk
          clear hb
          rcases hz1 with hz1 | hz1
          all_goals
            go_wp2_with fail
            exact bodyPost_ret (v := .tuple #[.agg #[.int .i64 4, .int .i64 0], .int .i64 0]) (by simp [results, Tryd.results19, go_sem, b0, b1, bz]) rfl (refOfRes HE.out (HBA.out _ _ _))
        · have HE := Lib.hid (show ofR (decide (m = headL) || bodB z) (lsF ps) (csF ps) = (0, c2, c3) by rw [HD.out, hb, Bool.false_or]; exact H4.out rfl hk)
          clear hb
          rcases hz1 with hz1 | hz1
          all_goals
            go_wp2_with fail
            exact bodyPost_ret (v := .tuple #[frV c2 c3, .int .i64 0]) (by simp [results, Tryd.results19, go_sem, b0, b1, bz]) rfl (refOfRes HE.out (HBA.out _ _ _))
  · have HE := Lib.hid (H1.out hc1)
    go_wp2_with fail
    exact bodyPost_ret (v := .tuple #[.agg #[.int .i64 0, .int .i64 0], .int .i64 (c1 : Int)]) (by simp [results, Tryd.results19, go_sem, b0, b1, bz]) rfl (refOfRes HE.out (HBA.out _ _ _))
end Go.Proofs.YthjkneifffdglaaDoor
