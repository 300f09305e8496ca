/- What the program's ofFields, OfRequest and OfResponse return. -/
import Derived.Test.YthjkneifffdglaaDoorJOf
import Derived.Test.YthjkneifffdglaaDoorJFields
namespace Go.Proofs.YthjkneifffdglaaDoor
open Go.RowKit

theorem errV_no' {c : Nat} (h : c ≠ 0) : errV c = .iface 59 (.int .i64 c) := by unfold errV; rw [if_neg h]
/-- A list of fields that is not too large. -/
def Fits (ps : Flds) : Prop := ps.length ≤ 100 ∧ totL ps ≤ 40000
theorem Fits.room {ps : Flds} (h : Fits ps) (n : List UInt8) : roomL (allL ps n) ≤ 50000 := by
  have := all_room ps n
  have h2 : totL ps ≤ 40000 := h.2
  unfold totL at h2
  have := h.1
  omega
theorem Fits.each {ps : Flds} (h : Fits ps) : ∀ p ∈ ps, p.1.length + p.2.length ≤ 1000000 := fun p hp => Nat.le_trans (tot_mem hp) (Nat.le_trans h.2 (by decide))
theorem Fits.all {ps : Flds} (h : Fits ps) (n : List UInt8) : (allL ps n).length ≤ 100 := Nat.le_trans (all_len ps n) h.1
theorem allN_any (n : List UInt8) (fv : Value) (ps : Flds) (w : World) (hr : ReadsQ w fv ps) (hf : Fits ps) (hn : n.length ≤ 100) :
    Calls Tryd.prog 31 #[fv, .string (strB n)] w fun e w' => ∃ v, e = .returned v ∧ OwnsS w.heap.size w' v (allL ps n) ∧ Below w.heap.size w w' := by
  have := all_any fv ps (strB n) w hr (by rw [strB_size]; omega) (Nat.le_trans hf.1 (by decide)) hf.each
  rwa [strB_list] at this
theorem allCL_any (fv : Value) (ps : Flds) (w : World) (hr : ReadsQ w fv ps) (hf : Fits ps) :
    Calls Tryd.prog 31 #[fv, .string ⟨#[99, 111, 110, 116, 101, 110, 116, 45, 108, 101, 110, 103, 116, 104]⟩] w fun e w' => ∃ v, e = .returned v ∧ OwnsS w.heap.size w' v (lsF ps) ∧ Below w.heap.size w w' := allN_any clN fv ps w hr hf (by decide)
theorem allTE_any (fv : Value) (ps : Flds) (w : World) (hr : ReadsQ w fv ps) (hf : Fits ps) :
    Calls Tryd.prog 31 #[fv, .string ⟨#[116, 114, 97, 110, 115, 102, 101, 114, 45, 101, 110, 99, 111, 100, 105, 110, 103]⟩] w fun e w' => ∃ v, e = .returned v ∧ OwnsS w.heap.size w' v (csF ps) ∧ Below w.heap.size w w' := allN_any teN fv ps w hr hf (by decide)
set_option maxHeartbeats 4000000 in
set_option maxRecDepth 100000 in
theorem ofFields_any (o : Nat) (fv : Value) (ps : Flds) (w : World) (hr : ReadsQ w fv ps) (hf : Fits ps) :
    Calls Tryd.prog 26 #[fv, .int .i64 (o : Int)] w (fun e w' => OfRes (ofO o (lsF ps) (csF ps)) w e w') := by
  have hB0 : Below w.heap.size w (w.alloc (.cells #[.int .i64 0, .int .i64 0] 28)) := below_new _ _
  have A1 := allCL_any fv ps _ (hr.below hB0) hf
  have A2 := Lib.hid (fun W (hr : ReadsQ W fv ps) => allTE_any fv ps W hr hf)
  have HR := Lib.hid hr
  have hl1 := hf.all clN
  have hl2 := hf.all teN
  have C := Lib.hid (fun v W (hr : ReadsS W v (csF ps)) => ofCodings_any v (csF ps) W hr (hf.room teN))
  have L := Lib.hid (fun v W (hr : ReadsS W v (lsF ps)) => ofLengths_any v (lsF ps) W hr (hf.room clN))
  have H1 := Lib.hid (@ofO_both o (lsF ps) (csF ps))
  have H2 := Lib.hid (@ofO_cod o (lsF ps) (csF ps))
  have H3 := Lib.hid (@ofO_len o (lsF ps) (csF ps))
  have H4 := Lib.hid (@ofO_none o (lsF ps) (csF ps))
  clear hr hf
  unfold OfRes at C L
  generalize codS (csF ps) = rc at *
  generalize lensS (lsF ps) = rl at *
  generalize hlls : lsF ps = ls at *
  generalize hlcs : csF ps = cs at *
  obtain ⟨c1, c2, c3⟩ := rc
  obtain ⟨l1, l2, l3⟩ := rl
  clear hlls hlcs
  go_enter Tryd.func26, Tryd.ntmps26
  go_wp2_with fail
  refine A1.mono ?_
  rintro e w1 ⟨v1, rfl, hO1, hB1⟩
  have hBx := hB0.trans (hB1.mono hB0.size)
  have A2 := A2.out _ (HR.out.below hBx)
  go_wp2_with fail
  refine A2.mono ?_
  rintro e w2 ⟨v2, rfl, hO2, hB2⟩
  have hB12 := hB1.trans (hB2.mono hB1.size)
  have hBy := hB0.trans (hB12.mono hB0.size)
  have R1 := Lib.hid (OwnsS.below hO1 hB2).reads
  have R2 := Lib.hid hO2.reads
  obtain ⟨a1, cp1, rfl⟩ := hO1.isSlice
  obtain ⟨a2, cp2, rfl⟩ := hO2.isSlice
  obtain ⟨b0, b1, f0, f1, bz⟩ := frame_kept hB12
  clear A1 A2 hO1 hO2 hB1 hB2 hBx
  by_cases h1 : ls = []
  · have z1 : ls.length = 0 := by rw [h1]; rfl
    by_cases h2 : cs = []
    · have z2 : cs.length = 0 := by rw [h2]; rfl
      have HE := Lib.hid (H4.out h1 h2)
      clear h1 h2
      go_wp2_with fail
      exact bodyPost_ret (v := .tuple #[.agg #[.int .i64 o, .int .i64 0], .nilIface]) (by simp [results, Tryd.results26, go_sem, b0, b1]) rfl (ofRes_ok HE.out (below_frame hBy _ _))
    · have z2 : 0 < cs.length := by cases cs with
        | nil => exact absurd rfl h2
        | cons a b => simp
      have HE := Lib.hid (H2.out h1 h2)
      have C := C.out _ _ R2.out
      clear h1 h2
      go_wp2_with fail
      refine C.mono ?_
      rintro e w3 ⟨rfl, hB3⟩
      have d0 := (hB3.cell (p := ⟨w.heap.size, 0, none⟩) bz).trans b0
      have d1 := (hB3.cell (p := ⟨w.heap.size, 1, none⟩) bz).trans b1
      have g0 := (hB3.frozen (p := ⟨w.heap.size, 0, none⟩) bz).trans f0
      have g1 := (hB3.frozen (p := ⟨w.heap.size, 1, none⟩) bz).trans f1
      clear b0 b1 f0 f1
      go_wp2_with fail
      exact bodyPost_ret (v := .tuple #[frV c2 c3, errV c1]) (by simp [results, Tryd.results26, go_sem, d0, d1]) rfl ⟨by rw [HE.out], below_frame (hBy.trans (hB3.mono hBy.size)) _ _⟩
  · have z1 : 0 < ls.length := by cases ls with
      | nil => exact absurd rfl h1
      | cons a b => simp
    by_cases h2 : cs = []
    · have z2 : cs.length = 0 := by rw [h2]; rfl
      have HE := Lib.hid (H3.out h1 h2)
      have L := L.out _ _ R1.out
      clear h1 h2
      go_wp2_with fail
      refine L.mono ?_
      rintro e w3 ⟨rfl, hB3⟩
      have d0 := (hB3.cell (p := ⟨w.heap.size, 0, none⟩) bz).trans b0
      have d1 := (hB3.cell (p := ⟨w.heap.size, 1, none⟩) bz).trans b1
      have g0 := (hB3.frozen (p := ⟨w.heap.size, 0, none⟩) bz).trans f0
      have g1 := (hB3.frozen (p := ⟨w.heap.size, 1, none⟩) bz).trans f1
      clear b0 b1 f0 f1
      go_wp2_with fail
      exact bodyPost_ret (v := .tuple #[frV l2 l3, errV l1]) (by simp [results, Tryd.results26, go_sem, d0, d1]) rfl ⟨by rw [HE.out], below_frame (hBy.trans (hB3.mono hBy.size)) _ _⟩
    · have z2 : 0 < cs.length := by cases cs with
        | nil => exact absurd rfl h2
        | cons a b => simp
      have HE := Lib.hid (H1.out h1 h2)
      clear h1 h2
      go_wp2_with fail
      exact bodyPost_ret (v := .tuple #[.agg #[.int .i64 0, .int .i64 0], .iface 59 (.int .i64 31)]) (by simp [results, Tryd.results26, go_sem, b0, b1]) rfl (ofRes_err HE.out (by decide) (below_frame hBy _ _))
set_option maxHeartbeats 4000000 in
set_option maxRecDepth 100000 in
theorem ofRequest_any (m t : List UInt8) (fv : Value) (ps : Flds) (w : World) (hr : ReadsQ w fv ps) (hf : Fits ps) :
    Calls Tryd.prog 12 #[.agg #[.string (strB m), .string (strB t), fv]] w (fun e w' => OfRes (ofO 1 (lsF ps) (csF ps)) w e w') := by
  have F := Lib.hid (fun W (hr : ReadsQ W fv ps) => ofFields_any 1 fv ps W hr hf)
  have HR := Lib.hid hr
  obtain ⟨ao, cap, rfl, hc⟩ := hr
  unfold OfRes at F
  generalize ofO 1 (lsF ps) (csF ps) = r at *
  obtain ⟨c1, c2, c3⟩ := r
  have hB0 : Below w.heap.size w (w.alloc (.cells #[.string (strB m), .string (strB t), .slice ao ps.length cap] 36)) := below_new _ _
  have hB1 := hB0.alloc hB0.size (.cells #[.int .i64 0, .int .i64 0] 28)
  have hr2 := HR.out.below hB1
  have hx : ((w.alloc (.cells #[.string (strB m), .string (strB t), .slice ao ps.length cap] 36)).alloc (.cells #[.int .i64 0, .int .i64 0] 28)).cell? ⟨w.heap.size, 2, none⟩ = some (.slice ao ps.length cap) := by
    have hb2 := below_new (w.alloc (.cells #[.string (strB m), .string (strB t), .slice ao ps.length cap] 36)) (.cells #[.int .i64 0, .int .i64 0] 28)
    rw [hb2.cell (p := ⟨w.heap.size, 2, none⟩) (by simp), World.cell?_alloc_at _ _ _ _ rfl]; rfl
  have F := F.out _ hr2
  clear hc
  go_enter Tryd.func12, Tryd.ntmps12
  go_wp2_with fail
  refine F.mono ?_
  rintro e w3 ⟨rfl, hB3⟩
  obtain ⟨b0, b1, f0, f1, bz⟩ := frame_kept hB3
  have ez : (w.alloc (.cells #[.string (strB m), .string (strB t), .slice ao ps.length cap] 36)).heap.size = w.heap.size + 1 := by simp
  rw [ez] at b0 b1 f0 f1 bz
  have hBz := hB1.trans (hB3.mono hB1.size)
  go_wp2_with fail
  exact bodyPost_ret (v := .tuple #[frV c2 c3, errV c1]) (by simp [results, Tryd.results12, go_sem, b0, b1]) rfl ⟨rfl, (hBz.setCell (p := ⟨w.heap.size + 1, 0, none⟩) (Nat.le_succ _) _).setCell (p := ⟨w.heap.size + 1, 1, none⟩) (Nat.le_succ _) _⟩
set_option maxHeartbeats 1000000 in
theorem isBodiless_any (z : Int) (w : World) : Calls Tryd.prog 29 #[.int .i64 z] w (fun e w' => e = .returned (.bool (bodB z)) ∧ w = w') := by
  go_enter Tryd.func29, Tryd.ntmps29
  go_wp2_with fail
  all_goals
    go_ret
    refine ⟨ret_bool ?_, rfl⟩
    rw [Bool.eq_iff_iff]
    simp [bodB] at *
    try omega
theorem head_eq {m : List UInt8} (h : m = headL) : ((strB m).toList == [72, 69, 65, 68]) = true := by subst h; rw [ByteArray.toList_eq]; decide
theorem head_ne {m : List UInt8} (h : m ≠ headL) : ((strB m).toList == [72, 69, 65, 68]) = false := by rw [ByteArray.toList_eq, strB_list]; simpa [headL] using h
set_option maxHeartbeats 4000000 in
set_option maxRecDepth 100000 in
theorem ofResponse_any (m : List UInt8) (z : Int) (fv : Value) (ps : Flds) (w : World) (hr : ReadsQ w fv ps) (hf : Fits ps) :
    Calls Tryd.prog 17 #[.string (strB m), .agg #[.int .i64 z, fv]] w (fun e w' => OfRes (ofR (decide (m = headL) || bodB z) (lsF ps) (csF ps)) w e w') := by
  have F := Lib.hid (fun W (hr : ReadsQ W fv ps) => ofFields_any 4 fv ps W hr hf)
  have HR := Lib.hid hr
  obtain ⟨ao, cap, rfl, hc⟩ := hr
  have H1 := Lib.hid (@ofR_err (decide (m = headL) || bodB z) (lsF ps) (csF ps))
  have H2 := Lib.hid (@ofR_hd (lsF ps) (csF ps))
  have H3 := Lib.hid (@ofR_body (lsF ps) (csF ps))
  unfold OfRes at F
  generalize ofO 4 (lsF ps) (csF ps) = r at *
  obtain ⟨c1, c2, c3⟩ := r
  have hB0 : Below w.heap.size w (w.alloc (.cells #[.int .i64 z, .slice ao ps.length cap] 48)) := below_new _ _
  have hB1 := hB0.alloc hB0.size (.cells #[.int .i64 0, .int .i64 0] 28)
  have hr2 := HR.out.below hB1
  have hx : ∀ j, ((w.alloc (.cells #[.int .i64 z, .slice ao ps.length cap] 48)).alloc (.cells #[.int .i64 0, .int .i64 0] 28)).cell? ⟨w.heap.size, j, none⟩ = (#[.int .i64 z, .slice ao ps.length cap] : Array Value)[j]? := fun j => by
    have hb2 := below_new (w.alloc (.cells #[.int .i64 z, .slice ao ps.length cap] 48)) (.cells #[.int .i64 0, .int .i64 0] 28)
    rw [hb2.cell (p := ⟨w.heap.size, j, none⟩) (by simp), World.cell?_alloc_at _ _ _ _ rfl]
  have hx0 := hx 0
  have hx1 := hx 1
  have hxz : w.heap.size < ((w.alloc (.cells #[.int .i64 z, .slice ao ps.length cap] 48)).alloc (.cells #[.int .i64 0, .int .i64 0] 28)).heap.size := by simp; omega
  have F := F.out _ hr2
  have ez : (w.alloc (.cells #[.int .i64 z, .slice ao ps.length cap] 48)).heap.size = w.heap.size + 1 := by simp
  clear hc hx
  go_enter Tryd.func17, Tryd.ntmps17
  go_wp2_with fail
  refine F.mono ?_
  rintro e w3 ⟨rfl, hB3⟩
  obtain ⟨b0, b1, f0, f1, bz⟩ := frame_kept hB3
  have y0 : w3.cell? ⟨w.heap.size, 0, none⟩ = some (.int .i64 z) := (hB3.cell (p := ⟨w.heap.size, 0, none⟩) hxz).trans hx0
  rw [ez] at b0 b1 f0 f1 bz
  have bz0 : w.heap.size < w3.heap.size := by omega
  have y1 : (w3.alloc (.cells #[.int .i64 (c2 : Int), .int .i64 (c3 : Int)] 28)).cell? ⟨w.heap.size, 0, none⟩ = some (.int .i64 z) := ((below_new w3 _).cell (p := ⟨w.heap.size, 0, none⟩) bz0).trans y0
  have hBz := hB1.trans (hB3.mono hB1.size)
  have hBs := fun (x y : Value) => (hBz.setCell (p := ⟨w.heap.size + 1, 0, none⟩) (Nat.le_succ _) x).setCell (p := ⟨w.heap.size + 1, 1, none⟩) (Nat.le_succ _) y
  have hBa := fun (x y : Value) (o : Obj) => (hBs x y).alloc (hBs x y).size o
  have HBA := Lib.hid hBa
  clear hBs hBa
  by_cases hc1 : c1 = 0
  · subst hc1
    have e0 : errV 0 = .nilIface := rfl
    rw [e0]
    by_cases hm : m = headL
    · have heq := head_eq hm
      have HE := Lib.hid (show ofR (decide (m = headL) || bodB z) (lsF ps) (csF ps) = (0, 1, 0) by rw [decide_eq_true hm, Bool.true_or]; exact H2.out rfl)
      clear hm
      go_wp2_with fail
      exact bodyPost_ret (v := .tuple #[.agg #[.int .i64 1, .int .i64 0], .nilIface]) (by simp [results, Tryd.results17, go_sem, b0, b1, bz]) rfl (ofRes_ok HE.out (HBA.out _ _ _))
    · have heq := head_ne hm
      have HD := Lib.hid (decide_eq_false hm)
      clear hm
      have BD := isBodiless_any z
      cases hb : bodB z with
      | true =>
        have HE := Lib.hid (show ofR (decide (m = headL) || bodB z) (lsF ps) (csF ps) = (0, 1, 0) by rw [hb, Bool.or_true]; exact H2.out rfl)
        rw [hb] at BD
        clear hb
        go_wp2_with fail
        refine (BD _).mono ?_
        rintro e w5 ⟨rfl, rfl⟩
        go_wp2_with fail
        exact bodyPost_ret (v := .tuple #[.agg #[.int .i64 1, .int .i64 0], .nilIface]) (by simp [results, Tryd.results17, go_sem, b0, b1, bz]) rfl (ofRes_ok HE.out (HBA.out _ _ _))
      | false =>
        have HE := Lib.hid (show ofR (decide (m = headL) || bodB z) (lsF ps) (csF ps) = (0, c2, c3) by rw [HD.out, hb, Bool.false_or]; exact H3.out)
        rw [hb] at BD
        clear hb
        go_wp2_with fail
        refine (BD _).mono ?_
        rintro e w5 ⟨rfl, rfl⟩
        go_wp2_with fail
        exact bodyPost_ret (v := .tuple #[frV c2 c3, .nilIface]) (by simp [results, Tryd.results17, go_sem, b0, b1, bz]) rfl (ofRes_ok HE.out (HBA.out _ _ _))
  · rw [errV_no' hc1]
    have HE := Lib.hid (H1.out hc1)
    have HC1 := Lib.hid hc1
    clear hc1
    go_wp2_with fail
    exact bodyPost_ret (v := .tuple #[.agg #[.int .i64 0, .int .i64 0], .iface 59 (.int .i64 c1)]) (by simp [results, Tryd.results17, go_sem, b0, b1, bz]) rfl (ofRes_err HE.out HC1.out (HBA.out _ _ _))
end Go.Proofs.YthjkneifffdglaaDoor
