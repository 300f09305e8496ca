import Derived.Test.YtfmgfcddnnggeaaGreatDoorPa18
import Derived.Test.YtfmgfcddnnggeaaGreatDoorPa17
/- What the program's ofFields, OfRequest and OfResponse return. -/
namespace Go.Proofs.YtfmgfcddnnggeaaGreatDoor
open Go.RowKit

theorem errV_no' {c : Nat} (h : c ≠ 0) : errV c = .iface 32 (.int .i64 c) := by unfold errV; rw [if_neg h]
/-- A list of fields that is not too large. -/
def Fits (ps : Flds) : Prop := ps.length ≤ 100 ∧ totL ps ≤ 40000
theorem Fits.room {ps : Flds} (h : Fits ps) (n : List UInt8) : roomL (allL ps n) ≤ 50000 := by
  have := all_room ps n
  have h2 : totL ps ≤ 40000 := h.2
  unfold totL at h2
  have := h.1
  omega
theorem Fits.each {ps : Flds} (h : Fits ps) : ∀ p ∈ ps, p.1.length + p.2.length ≤ 1000000 := fun p hp => Nat.le_trans (tot_mem hp) (Nat.le_trans h.2 (by decide))
theorem Fits.all {ps : Flds} (h : Fits ps) (n : List UInt8) : (allL ps n).length ≤ 100 := Nat.le_trans (all_len ps n) h.1
theorem allN_any (n : List UInt8) (fv : Value) (ps : Flds) (w : World) (hr : ReadsQ w fv ps) (hf : Fits ps) (hn : n.length ≤ 100) :
    Calls Tryz.prog 64 #[fv, .string (strB n)] w fun e w' => ∃ v, e = .returned v ∧ OwnsS w.heap.size w' v (allL ps n) ∧ Below w.heap.size w w' := by
  have := all_any fv ps (strB n) w hr (by rw [strB_size]; omega) (Nat.le_trans hf.1 (by decide)) hf.each
  rwa [strB_list] at this
theorem allCL_any (fv : Value) (ps : Flds) (w : World) (hr : ReadsQ w fv ps) (hf : Fits ps) :
    Calls Tryz.prog 64 #[fv, .string ⟨#[99, 111, 110, 116, 101, 110, 116, 45, 108, 101, 110, 103, 116, 104]⟩] w fun e w' => ∃ v, e = .returned v ∧ OwnsS w.heap.size w' v (lsF ps) ∧ Below w.heap.size w w' := allN_any clN fv ps w hr hf (by decide)
theorem allTE_any (fv : Value) (ps : Flds) (w : World) (hr : ReadsQ w fv ps) (hf : Fits ps) :
    Calls Tryz.prog 64 #[fv, .string ⟨#[116, 114, 97, 110, 115, 102, 101, 114, 45, 101, 110, 99, 111, 100, 105, 110, 103]⟩] w fun e w' => ∃ v, e = .returned v ∧ OwnsS w.heap.size w' v (csF ps) ∧ Below w.heap.size w w' := allN_any teN fv ps w hr hf (by decide)
set_option maxHeartbeats 4000000 in
set_option maxRecDepth 100000 in
theorem ofFields_any (o : Nat) (fv : Value) (ps : Flds) (w : World) (hr : ReadsQ w fv ps) (hf : Fits ps) :
    Calls Tryz.prog 44 #[fv, .int .i64 (o : Int)] w (fun e w' => OfRes (ofO o (lsF ps) (csF ps)) w e w') := by
  have hB0 : Below w.heap.size w (w.alloc (.cells #[.int .i64 0, .int .i64 0] 48)) := below_new _ _
  have A1 := allCL_any fv ps _ (hr.below hB0) hf
  have A2 := Lib.hid (fun W (hr : ReadsQ W fv ps) => allTE_any fv ps W hr hf)
  have HR := Lib.hid hr
  have hl1 := hf.all clN
  have hl2 := hf.all teN
  have C := Lib.hid (fun v W (hr : ReadsS W v (csF ps)) => ofCodings_any v (csF ps) W hr (hf.room teN))
  have L := Lib.hid (fun v W (hr : ReadsS W v (lsF ps)) => ofLengths_any v (lsF ps) W hr (hf.room clN))
  have H1 := Lib.hid (@ofO_both o (lsF ps) (csF ps))
  have H2 := Lib.hid (@ofO_cod o (lsF ps) (csF ps))
  have H3 := Lib.hid (@ofO_len o (lsF ps) (csF ps))
  have H4 := Lib.hid (@ofO_none o (lsF ps) (csF ps))
  clear hr hf
  unfold OfRes at C L
  generalize codS (csF ps) = rc at *
  generalize lensS (lsF ps) = rl at *
  generalize hlls : lsF ps = ls at *
  generalize hlcs : csF ps = cs at *
  obtain ⟨c1, c2, c3⟩ := rc
  obtain ⟨l1, l2, l3⟩ := rl
  clear hlls hlcs
  go_enter Tryz.func44, Tryz.ntmps44
  go_wp2_with fail
  refine A1.mono ?_
  rintro e w1 ⟨v1, rfl, hO1, hB1⟩
  have hBx := hB0.trans (hB1.mono hB0.size)
  have A2 := A2.out _ (HR.out.below hBx)
  go_wp2_with fail
  refine A2.mono ?_
  rintro e w2 ⟨v2, rfl, hO2, hB2⟩
  have hB12 := hB1.trans (hB2.mono hB1.size)
  have hBy := hB0.trans (hB12.mono hB0.size)
  have R1 := Lib.hid (OwnsS.below hO1 hB2).reads
  have R2 := Lib.hid hO2.reads
  obtain ⟨a1, cp1, rfl⟩ := hO1.isSlice
  obtain ⟨a2, cp2, rfl⟩ := hO2.isSlice
  obtain ⟨b0, b1, f0, f1, bz⟩ := frame_kept hB12
  clear A1 A2 hO1 hO2 hB1 hB2 hBx
  by_cases h1 : ls = []
  · have z1 : ls.length = 0 := by rw [h1]; rfl
    by_cases h2 : cs = []
    · have z2 : cs.length = 0 := by rw [h2]; rfl
      have HE := Lib.hid (H4.out h1 h2)
      clear h1 h2
      go_wp2_with fail
      exact bodyPost_ret (v := .tuple #[.agg #[.int .i64 o, .int .i64 0], .nilIface]) (by simp [results, Tryz.results44, go_sem, b0, b1]) rfl (ofRes_ok HE.out (below_frame hBy _ _))
    · have z2 : 0 < cs.length := by cases cs with
        | nil => exact absurd rfl h2
        | cons a b => simp
      have HE := Lib.hid (H2.out h1 h2)
      have C := C.out _ _ R2.out
      clear h1 h2
      go_wp2_with fail
      refine C.mono ?_
      rintro e w3 ⟨rfl, hB3⟩
      have d0 := (hB3.cell (p := ⟨w.heap.size, 0, none⟩) bz).trans b0
      have d1 := (hB3.cell (p := ⟨w.heap.size, 1, none⟩) bz).trans b1
      have g0 := (hB3.frozen (p := ⟨w.heap.size, 0, none⟩) bz).trans f0
      have g1 := (hB3.frozen (p := ⟨w.heap.size, 1, none⟩) bz).trans f1
      clear b0 b1 f0 f1
      go_wp2_with fail
      exact bodyPost_ret (v := .tuple #[frV c2 c3, errV c1]) (by simp [results, Tryz.results44, go_sem, d0, d1]) rfl ⟨by rw [HE.out], below_frame (hBy.trans (hB3.mono hBy.size)) _ _⟩
  · have z1 : 0 < ls.length := by cases ls with
      | nil => exact absurd rfl h1
      | cons a b => simp
    by_cases h2 : cs = []
    · have z2 : cs.length = 0 := by rw [h2]; rfl
      have HE := Lib.hid (H3.out h1 h2)
      have L := L.out _ _ R1.out
      clear h1 h2
      go_wp2_with fail
      refine L.mono ?_
      rintro e w3 ⟨rfl, hB3⟩
      have d0 := (hB3.cell (p := ⟨w.heap.size, 0, none⟩) bz).trans b0
      have d1 := (hB3.cell (p := ⟨w.heap.size, 1, none⟩) bz).trans b1
      have g0 := (hB3.frozen (p := ⟨w.heap.size, 0, none⟩) bz).trans f0
      have g1 := (hB3.frozen (p := ⟨w.heap.size, 1, none⟩) bz).trans f1
      clear b0 b1 f0 f1
      go_wp2_with fail
      exact bodyPost_ret (v := .tuple #[frV l2 l3, errV l1]) (by simp [results, Tryz.results44, go_sem, d0, d1]) rfl ⟨by rw [HE.out], below_frame (hBy.trans (hB3.mono hBy.size)) _ _⟩
    · have z2 : 0 < cs.length := by cases cs with
        | nil => exact absurd rfl h2
        | cons a b => simp
      have HE := Lib.hid (H1.out h1 h2)
      clear h1 h2
      go_wp2_with fail
      exact bodyPost_ret (v := .tuple #[.agg #[.int .i64 0, .int .i64 0], .iface 32 (.int .i64 31)]) (by simp [results, Tryz.results44, go_sem, b0, b1]) rfl (ofRes_err HE.out (by decide) (below_frame hBy _ _))
set_option maxHeartbeats 4000000 in
set_option maxRecDepth 100000 in
theorem ofRequest_any (m t : List UInt8) (fv : Value) (ps : Flds) (w : World) (hr : ReadsQ w fv ps) (hf : Fits ps) :
    Calls Tryz.prog 34 #[.agg #[.string (strB m), .string (strB t), fv]] w (fun e w' => OfRes (ofO 1 (lsF ps) (csF ps)) w e w') := by
  have F := Lib.hid (fun W (hr : ReadsQ W fv ps) => ofFields_any 1 fv ps W hr hf)
  have HR := Lib.hid hr
  obtain ⟨ao, cap, rfl, hc⟩ := hr
  unfold OfRes at F
  generalize ofO 1 (lsF ps) (csF ps) = r at *
  obtain ⟨c1, c2, c3⟩ := r
  have hB0 : Below w.heap.size w (w.alloc (.cells #[.string (strB m), .string (strB t), .slice ao ps.length cap] 40)) := below_new _ _
  have hB1 := hB0.alloc hB0.size (.cells #[.int .i64 0, .int .i64 0] 48)
  have hr2 := HR.out.below hB1
  have hx : ((w.alloc (.cells #[.string (strB m), .string (strB t), .slice ao ps.length cap] 40)).alloc (.cells #[.int .i64 0, .int .i64 0] 48)).cell? ⟨w.heap.size, 2, none⟩ = some (.slice ao ps.length cap) := by
    have hb2 := below_new (w.alloc (.cells #[.string (strB m), .string (strB t), .slice ao ps.length cap] 40)) (.cells #[.int .i64 0, .int .i64 0] 48)
    rw [hb2.cell (p := ⟨w.heap.size, 2, none⟩) (by simp), World.cell?_alloc_at _ _ _ _ rfl]; rfl
  have F := F.out _ hr2
  clear hc
  go_enter Tryz.func34, Tryz.ntmps34
  go_wp2_with fail
  refine F.mono ?_
  rintro e w3 ⟨rfl, hB3⟩
  obtain ⟨b0, b1, f0, f1, bz⟩ := frame_kept hB3
  have ez : (w.alloc (.cells #[.string (strB m), .string (strB t), .slice ao ps.length cap] 40)).heap.size = w.heap.size + 1 := by simp
  rw [ez] at b0 b1 f0 f1 bz
  have hBz := hB1.trans (hB3.mono hB1.size)
  go_wp2_with fail
  exact bodyPost_ret (v := .tuple #[frV c2 c3, errV c1]) (by simp [results, Tryz.results34, go_sem, b0, b1]) rfl ⟨rfl, (hBz.setCell (p := ⟨w.heap.size + 1, 0, none⟩) (Nat.le_succ _) _).setCell (p := ⟨w.heap.size + 1, 1, none⟩) (Nat.le_succ _) _⟩
set_option maxHeartbeats 1000000 in
theorem isBodiless_any (z : Int) (w : World) : Calls Tryz.prog 45 #[.int .i64 z] w (fun e w' => e = .returned (.bool (bodB z)) ∧ w = w') := by
  go_enter Tryz.func45, Tryz.ntmps45
  go_wp2_with fail
  all_goals
    go_ret
    refine ⟨ret_bool ?_, rfl⟩
    rw [Bool.eq_iff_iff]
    simp [bodB] at *
    try omega
theorem head_eq {m : List UInt8} (h : m = headL) : ((strB m).toList == [72, 69, 65, 68]) = true := by subst h; rw [ByteArray.toList_eq]; decide
theorem head_ne {m : List UInt8} (h : m ≠ headL) : ((strB m).toList == [72, 69, 65, 68]) = false := by rw [ByteArray.toList_eq, strB_list]; simpa [headL] using h
set_option maxHeartbeats 4000000 in
set_option maxRecDepth 100000 in
theorem ofResponse_any (m : List UInt8) (z : Int) (fv : Value) (ps : Flds) (w : World) (hr : ReadsQ w fv ps) (hf : Fits ps) :
    Calls Tryz.prog 35 #[.string (strB m), .agg #[.int .i64 z, fv]] w (fun e w' => OfRes (ofR (decide (m = headL) || bodB z) (lsF ps) (csF ps)) w e w') := by
  have F := Lib.hid (fun W (hr : ReadsQ W fv ps) => ofFields_any 4 fv ps W hr hf)
  have HR := Lib.hid hr
  obtain ⟨ao, cap, rfl, hc⟩ := hr
  have H1 := Lib.hid (@ofR_err (decide (m = headL) || bodB z) (lsF ps) (csF ps))
  have H2 := Lib.hid (@ofR_hd (lsF ps) (csF ps))
  have H3 := Lib.hid (@ofR_body (lsF ps) (csF ps))
  unfold OfRes at F
  generalize ofO 4 (lsF ps) (csF ps) = r at *
  obtain ⟨c1, c2, c3⟩ := r
  have hB0 : Below w.heap.size w (w.alloc (.cells #[.int .i64 z, .slice ao ps.length cap] 38)) := below_new _ _
  have hB1 := hB0.alloc hB0.size (.cells #[.int .i64 0, .int .i64 0] 48)
  have hr2 := HR.out.below hB1
  have hx : ∀ j, ((w.alloc (.cells #[.int .i64 z, .slice ao ps.length cap] 38)).alloc (.cells #[.int .i64 0, .int .i64 0] 48)).cell? ⟨w.heap.size, j, none⟩ = (#[.int .i64 z, .slice ao ps.length cap] : Array Value)[j]? := fun j => by
    have hb2 := below_new (w.alloc (.cells #[.int .i64 z, .slice ao ps.length cap] 38)) (.cells #[.int .i64 0, .int .i64 0] 48)
    rw [hb2.cell (p := ⟨w.heap.size, j, none⟩) (by simp), World.cell?_alloc_at _ _ _ _ rfl]
  have hx0 := hx 0
  have hx1 := hx 1
  have hxz : w.heap.size < ((w.alloc (.cells #[.int .i64 z, .slice ao ps.length cap] 38)).alloc (.cells #[.int .i64 0, .int .i64 0] 48)).heap.size := by simp; omega
  have F := F.out _ hr2
  have ez : (w.alloc (.cells #[.int .i64 z, .slice ao ps.length cap] 38)).heap.size = w.heap.size + 1 := by simp
  clear hc hx
  go_enter Tryz.func35, Tryz.ntmps35
  go_wp2_with fail
  refine F.mono ?_
  rintro e w3 ⟨rfl, hB3⟩
  obtain ⟨b0, b1, f0, f1, bz⟩ := frame_kept hB3
  have y0 : w3.cell? ⟨w.heap.size, 0, none⟩ = some (.int .i64 z) := (hB3.cell (p := ⟨w.heap.size, 0, none⟩) hxz).trans hx0
  rw [ez] at b0 b1 f0 f1 bz
  have bz0 : w.heap.size < w3.heap.size := by omega
  have y1 : (w3.alloc (.cells #[.int .i64 (c2 : Int), .int .i64 (c3 : Int)] 48)).cell? ⟨w.heap.size, 0, none⟩ = some (.int .i64 z) := ((below_new w3 _).cell (p := ⟨w.heap.size, 0, none⟩) bz0).trans y0
  have hBz := hB1.trans (hB3.mono hB1.size)
  have hBs := fun (x y : Value) => (hBz.setCell (p := ⟨w.heap.size + 1, 0, none⟩) (Nat.le_succ _) x).setCell (p := ⟨w.heap.size + 1, 1, none⟩) (Nat.le_succ _) y
  have hBa := fun (x y : Value) (o : Obj) => (hBs x y).alloc (hBs x y).size o
  have HBA := Lib.hid hBa
  clear hBs hBa
  by_cases hc1 : c1 = 0
  · subst hc1
    have e0 : errV 0 = .nilIface := rfl
    rw [e0]
    by_cases hm : m = headL
    · have heq := head_eq hm
      have HE := Lib.hid (show ofR (decide (m = headL) || bodB z) (lsF ps) (csF ps) = (0, 1, 0) by rw [decide_eq_true hm, Bool.true_or]; exact H2.out rfl)
      clear hm
      go_wp2_with fail
      exact bodyPost_ret (v := .tuple #[.agg #[.int .i64 1, .int .i64 0], .nilIface]) (by simp [results, Tryz.results35, go_sem, b0, b1, bz]) rfl (ofRes_ok HE.out (HBA.out _ _ _))
    · have heq := head_ne hm
      have HD := Lib.hid (decide_eq_false hm)
      clear hm
      have BD := isBodiless_any z
      cases hb : bodB z with
      | true =>
        have HE := Lib.hid (show ofR (decide (m = headL) || bodB z) (lsF ps) (csF ps) = (0, 1, 0) by rw [hb, Bool.or_true]; exact H2.out rfl)
        rw [hb] at BD
        clear hb
        go_wp2_with fail
        refine (BD _).mono ?_
        rintro e w5 ⟨rfl, rfl⟩
        go_wp2_with fail
        exact bodyPost_ret (v := .tuple #[.agg #[.int .i64 1, .int .i64 0], .nilIface]) (by simp [results, Tryz.results35, go_sem, b0, b1, bz]) rfl (ofRes_ok HE.out (HBA.out _ _ _))
      | false =>
        have HE := Lib.hid (show ofR (decide (m = headL) || bodB z) (lsF ps) (csF ps) = (0, c2, c3) by rw [HD.out, hb, Bool.false_or]; exact H3.out)
        rw [hb] at BD
        clear hb
        go_wp2_with fail
        refine (BD _).mono ?_
        rintro e w5 ⟨rfl, rfl⟩
        go_wp2_with fail
        exact bodyPost_ret (v := .tuple #[frV c2 c3, .nilIface]) (by simp [results, Tryz.results35, go_sem, b0, b1, bz]) rfl (ofRes_ok HE.out (HBA.out _ _ _))
  · rw [errV_no' hc1]
    have HE := Lib.hid (H1.out hc1)
    have HC1 := Lib.hid hc1
    clear hc1
    go_wp2_with fail
    exact bodyPost_ret (v := .tuple #[.agg #[.int .i64 0, .int .i64 0], .iface 32 (.int .i64 c1)]) (by simp [results, Tryz.results35, go_sem, b0, b1, bz]) rfl (ofRes_err HE.out HC1.out (HBA.out _ _ _))
end Go.Proofs.YtfmgfcddnnggeaaGreatDoor

/- What the connection's small functions return. -/
namespace Go.Proofs.YtfmgfcddnnggeaaGreatDoor
open Go.RowKit

/-- An event as a value; q, p, d, t: its fields, the response's, its data, its trailers. -/
abbrev evV (e : Ev) (q p d t : Value) : Value := .agg #[.int .i64 (e.k : Int), .string (strB e.q.1), .string (strB e.q.2.1), q, .int .i64 (e.p.1 : Int), p, d, t]
set_option maxHeartbeats 1000000 in
set_option maxRecDepth 100000 in
theorem isRequest_any (e : Ev) (q p d t : Value) (w : World) :
    Calls Tryz.prog 33 #[evV e q p d t] w fun x w' => x = .returned (.bool (decide (e.q.1 ≠ []))) ∧ Below w.heap.size w w' := by
  by_cases h : e.q.1 = []
  · have z : (strB e.q.1).toList.isEmpty = true := by rw [ByteArray.toList_eq, strB_list, h]; rfl
    rw [decide_eq_false (by simp [h])]
    clear h
    go_enter Tryz.func33, Tryz.ntmps33
    go_wp2_with fail
    go_ret
    exact ⟨rfl, below_new _ _⟩
  · have z : (strB e.q.1).toList.isEmpty = false := by rw [ByteArray.toList_eq, strB_list]; simp [h]
    rw [decide_eq_true h]
    clear h
    go_enter Tryz.func33, Tryz.ntmps33
    go_wp2_with fail
    go_ret
    exact ⟨rfl, below_new _ _⟩
theorem box_below {w w1 : World} {o : Obj} (h : Below (w.alloc o).heap.size (w.alloc o) w1) : Below w.heap.size w w1 := (below_new w o).trans (h.mono (by simp))
/-- Is a head that of an interim response? -/
def interE (e : Ev) : Bool := decide (e.q.1 = []) && decide (100 ≤ e.p.1) && decide (e.p.1 ≤ 199)
set_option maxHeartbeats 1000000 in
set_option maxRecDepth 100000 in
theorem isInterim_any (e : Ev) (q p d t : Value) (w : World) :
    Calls Tryz.prog 26 #[evV e q p d t] w fun x w' => x = .returned (.bool (interE e)) ∧ Below w.heap.size w w' := by
  have R := Lib.hid (fun W => isRequest_any e q p d t W)
  by_cases h : e.q.1 = []
  · rw [decide_eq_false (by simp [h])] at R
    have hi : interE e = (decide (100 ≤ e.p.1) && decide (e.p.1 ≤ 199)) := by unfold interE; rw [decide_eq_true h, Bool.true_and]
    rw [hi]
    clear h hi
    by_cases h1 : 100 ≤ e.p.1
    · rw [decide_eq_true h1, Bool.true_and]
      have z1 : decide ((100 : Int) ≤ (e.p.1 : Int)) = true := decide_eq_true (by omega)
      by_cases h2 : e.p.1 ≤ 199
      · rw [decide_eq_true h2]
        have z2 : decide ((e.p.1 : Int) ≤ 199) = true := decide_eq_true (by omega)
        go_enter Tryz.func26, Tryz.ntmps26
        go_wp2_with fail
        refine (R.out _).mono ?_
        rintro x w1 ⟨rfl, hB⟩
        have c4 := (hB.cell (p := ⟨w.heap.size, 4, none⟩) (by simp)).trans (show _ = some (Value.int .i64 (e.p.1 : Int)) by rw [World.cell?_alloc_at _ _ _ _ rfl]; rfl)
        go_wp2_with fail
        go_ret
        exact ⟨rfl, box_below hB⟩
      · rw [decide_eq_false h2]
        have z2 : decide ((e.p.1 : Int) ≤ 199) = false := decide_eq_false (by omega)
        go_enter Tryz.func26, Tryz.ntmps26
        go_wp2_with fail
        refine (R.out _).mono ?_
        rintro x w1 ⟨rfl, hB⟩
        have c4 := (hB.cell (p := ⟨w.heap.size, 4, none⟩) (by simp)).trans (show _ = some (Value.int .i64 (e.p.1 : Int)) by rw [World.cell?_alloc_at _ _ _ _ rfl]; rfl)
        go_wp2_with fail
        go_ret
        exact ⟨rfl, box_below hB⟩
    · rw [decide_eq_false h1, Bool.false_and]
      have z1 : decide ((100 : Int) ≤ (e.p.1 : Int)) = false := decide_eq_false (by omega)
      go_enter Tryz.func26, Tryz.ntmps26
      go_wp2_with fail
      refine (R.out _).mono ?_
      rintro x w1 ⟨rfl, hB⟩
      have c4 := (hB.cell (p := ⟨w.heap.size, 4, none⟩) (by simp)).trans (show _ = some (Value.int .i64 (e.p.1 : Int)) by rw [World.cell?_alloc_at _ _ _ _ rfl]; rfl)
      go_wp2_with fail
      go_ret
      exact ⟨rfl, box_below hB⟩
  · rw [decide_eq_true h] at R
    have hi : interE e = false := by unfold interE; rw [decide_eq_false h]; rfl
    rw [hi]
    clear h hi
    go_enter Tryz.func26, Tryz.ntmps26
    go_wp2_with fail
    refine (R.out _).mono ?_
    rintro x w1 ⟨rfl, hB⟩
    go_wp2_with fail
    go_ret
    exact ⟨rfl, box_below hB⟩
set_option maxHeartbeats 1000000 in
set_option maxRecDepth 100000 in
theorem inBody_any {P : Nat} {s : Cn} {mv sv dv : Value} {w : World} (h : ConC P s mv sv dv w) :
    Calls Tryz.prog 17 #[.pointer (some ⟨P, 0, none⟩)] w fun e w' => e = .returned (.bool (decide (s.fk ≠ 0))) ∧ w = w' := by
  have c4 := h.c4
  clear h
  by_cases h0 : s.fk = 0
  · rw [decide_eq_false (by simp [h0])]
    rw [h0] at c4
    clear h0
    go_enter Tryz.func17, Tryz.ntmps17
    go_wp2_with fail
    go_ret
    exact ⟨rfl, rfl⟩
  · rw [decide_eq_true h0]
    have z : ((s.fk : Int) != 0) = true := by simp; omega
    clear h0
    go_enter Tryz.func17, Tryz.ntmps17
    go_wp2_with fail
    go_ret
    exact ⟨rfl, rfl⟩
theorem decO_done {B : Nat} {X : Nat → Prop} {o : Option Dc} {dv : Value} {w : World} (h : DecO B X o dv w) : Calls Tryz.prog 20 #[dv] w fun e w' => e = .returned (.bool (doneO o)) ∧ w = w' := by
  cases o with
  | none => obtain rfl : dv = .pointer none := h; exact done_nil w
  | some d => obtain ⟨Q, rfl, hD⟩ := h; exact done_any w hD
set_option maxHeartbeats 1000000 in
set_option maxRecDepth 100000 in
theorem isComplete_any {B P : Nat} {X XM XD : Nat → Prop} {s : Cn} {mv sv dv : Value} {w : World} (h : ConP B P X XM XD s mv sv dv w) :
    Calls Tryz.prog 13 #[.pointer (some ⟨P, 0, none⟩)] w fun e w' => e = .returned (.bool (complB s)) ∧ w = w' := by
  obtain ⟨_, _, _, _, c4, c5, c6, _, _, _⟩ := h.cells
  have D := Lib.hid (decO_done h.d)
  clear h
  unfold complB
  by_cases h2 : s.fk = 2
  · rw [if_pos h2]
    rw [h2] at c4
    by_cases h0 : s.fl = 0
    · rw [decide_eq_true h0]
      rw [h0] at c5
      clear h0 h2
      go_enter Tryz.func13, Tryz.ntmps13
      go_wp2_with fail
      go_ret
      exact ⟨rfl, rfl⟩
    · rw [decide_eq_false h0]
      have z : ((s.fl : Int) == 0) = false := by simp; omega
      clear h0 h2
      go_enter Tryz.func13, Tryz.ntmps13
      go_wp2_with fail
      go_ret
      exact ⟨rfl, rfl⟩
  · rw [if_neg h2]
    by_cases h3 : s.fk = 3
    · rw [if_pos h3]
      rw [h3] at c4
      clear h2 h3
      go_enter Tryz.func13, Tryz.ntmps13
      go_wp2_with fail
      refine D.out.mono ?_
      rintro e w' ⟨rfl, rfl⟩
      go_wp2_with fail
      go_ret
      exact ⟨rfl, rfl⟩
    · rw [if_neg h3]
      have z2 : ((s.fk : Int) == 2) = false := by simp; omega
      have z3 : ((s.fk : Int) == 3) = false := by simp; omega
      by_cases h1 : s.fk = 1
      · rw [decide_eq_true h1]
        rw [h1] at c4
        clear h1 h2 h3 z2 z3
        go_enter Tryz.func13, Tryz.ntmps13
        go_wp2_with fail
        go_ret
        exact ⟨rfl, rfl⟩
      · rw [decide_eq_false h1]
        have z1 : ((s.fk : Int) == 1) = false := by simp; omega
        clear h1 h2 h3
        go_enter Tryz.func13, Tryz.ntmps13
        go_wp2_with fail
        go_ret
        exact ⟨rfl, rfl⟩
set_option maxHeartbeats 1000000 in
set_option maxRecDepth 100000 in
theorem method_any {B P : Nat} {X XM XD : Nat → Prop} {s : Cn} {mv sv dv : Value} {w : World} (h : ConP B P X XM XD s mv sv dv w) :
    Calls Tryz.prog 25 #[.pointer (some ⟨P, 0, none⟩)] w fun e w' => e = .returned (.string (strB (s.ms.headD []))) ∧ w = w' := by
  obtain ⟨_, c1, _, _, _, _, _, _, _, _⟩ := h.cells
  obtain ⟨a, cap, rfl, h1, h2, h3⟩ := h.m
  clear h
  cases hm : s.ms with
  | nil =>
    rw [hm] at c1
    clear h3 hm h1 h2
    go_enter Tryz.func25, Tryz.ntmps25
    go_wp2_with fail
    go_ret
    exact ⟨rfl, rfl⟩
  | cons m ms =>
    rw [hm] at c1 h1 h3
    obtain ⟨g, off, rfl, _, hg, hc⟩ := h3 (by simp)
    have hc0 := hc 0 m rfl
    rw [Nat.add_zero] at hc0
    have hpos : 0 < (m :: ms).length := by simp
    have z : (((m :: ms).length : Int) == 0) = false := by simp; omega
    generalize (m :: ms).length = n at *
    clear hc hm h1 h2 h3
    show Calls Tryz.prog 25 #[.pointer (some ⟨P, 0, none⟩)] w fun e w' => e = .returned (.string (strB m)) ∧ w = w'
    go_enter Tryz.func25, Tryz.ntmps25
    go_wp2_with fail
    go_ret
    exact ⟨rfl, rfl⟩
end Go.Proofs.YtfmgfcddnnggeaaGreatDoor

/- What the connection's frame, begin and end return. -/
namespace Go.Proofs.YtfmgfcddnnggeaaGreatDoor
open Go.RowKit

/-- A box is as it was behind calls that leave what was there. -/
theorem box_cells (w : World) {cs : Array Value} {t : TypeId} {o : Obj} {w1 : World} (h : Below ((w.alloc (.cells cs t)).alloc o).heap.size ((w.alloc (.cells cs t)).alloc o) w1) :
    ∀ j, w1.cell? ⟨w.heap.size, j, none⟩ = cs[j]? ∧ w1.frozen? ⟨w.heap.size, j, none⟩ = false := by
  have hs : w.heap.size < ((w.alloc (.cells cs t)).alloc o).heap.size := by simp; omega
  have hh : ((w.alloc (.cells cs t)).alloc o).heap[w.heap.size]? = some (.cells cs t (0, 0)) := by
    rw [(below_new (w.alloc (.cells cs t)) o).block _ (by simp)]; exact heap_alloc_new w _
  exact fun j => ⟨(h.cell (p := ⟨w.heap.size, j, none⟩) hs).trans (by rw [Lib.cell_of_heap hh]), (h.frozen (p := ⟨w.heap.size, j, none⟩) hs).trans (Lib.frozen_of_heap hh j)⟩
theorem box2_cells (w : World) {cs : Array Value} {t : TypeId} {o : Obj} {w1 : World} (h : Below ((w.alloc o).alloc (.cells cs t)).heap.size ((w.alloc o).alloc (.cells cs t)) w1) :
    ∀ j, w1.cell? ⟨w.heap.size + 1, j, none⟩ = cs[j]? ∧ w1.frozen? ⟨w.heap.size + 1, j, none⟩ = false := by
  have hs : w.heap.size + 1 < ((w.alloc o).alloc (.cells cs t)).heap.size := by simp
  have hh : ((w.alloc o).alloc (.cells cs t)).heap[w.heap.size + 1]? = some (.cells cs t (0, 0)) := by
    have := heap_alloc_new (w.alloc o) (.cells cs t)
    rwa [show (w.alloc o).heap.size = w.heap.size + 1 by simp] at this
  exact fun j => ⟨(h.cell (p := ⟨w.heap.size + 1, j, none⟩) hs).trans (by rw [Lib.cell_of_heap hh]), (h.frozen (p := ⟨w.heap.size + 1, j, none⟩) hs).trans (Lib.frozen_of_heap hh j)⟩
theorem bel_two {w w1 : World} {o1 o2 : Obj} (h : Below ((w.alloc o1).alloc o2).heap.size ((w.alloc o1).alloc o2) w1) : Below w.heap.size w w1 :=
  (((Below.refl _ w).alloc (Nat.le_refl _) _).alloc (by simp) _).trans (h.mono (by simp; omega))
/-- The frame of a head, for a method. -/
def frE (e : Ev) (m : List UInt8) : Nat × Nat × Nat := if e.q.1 = [] then ofR (decide (m = headL) || bodB (e.p.1 : Int)) (lsF e.p.2) (csF e.p.2) else ofO 1 (lsF e.q.2.2) (csF e.q.2.2)
set_option maxHeartbeats 1000000 in
set_option maxRecDepth 100000 in
theorem frame_any (e : Ev) (q p d t : Value) (m : List UInt8) (w : World) (hq : ReadsQ w q e.q.2.2) (hp : ReadsQ w p e.p.2) (fq : Fits e.q.2.2) (fp : Fits e.p.2) :
    Calls Tryz.prog 24 #[evV e q p d t, .string (strB m)] w (fun x w' => OfRes (frE e m) w x w') := by
  have R := Lib.hid (fun W => isRequest_any e q p d t W)
  have HQ := Lib.hid hq
  have HP := Lib.hid hp
  have F1 := Lib.hid (fun W (hr : ReadsQ W q e.q.2.2) => ofRequest_any e.q.1 e.q.2.1 q e.q.2.2 W hr fq)
  have F2 := Lib.hid (fun W (hr : ReadsQ W p e.p.2) => ofResponse_any m (e.p.1 : Int) p e.p.2 W hr fp)
  unfold OfRes at F1 F2
  clear hq hp fq fp
  by_cases h : e.q.1 = []
  · rw [decide_eq_false (by simp [h])] at R
    have hi : frE e m = ofR (decide (m = headL) || bodB (e.p.1 : Int)) (lsF e.p.2) (csF e.p.2) := by unfold frE; rw [if_pos h]
    rw [hi]
    generalize ofR (decide (m = headL) || bodB (e.p.1 : Int)) (lsF e.p.2) (csF e.p.2) = r at *
    clear h hi F1
    go_enter Tryz.func24, Tryz.ntmps24
    go_wp2_with fail
    refine (R.out _).mono ?_
    rintro x w1 ⟨rfl, hB⟩
    have K := box_cells w hB
    have c4 := (K 4).1
    have c5 := (K 5).1
    have HB := Lib.hid hB
    clear K hB
    go_wp2_with fail
    refine (F2.out _ (HP.out.below (bel_two HB.out))).mono ?_
    rintro x w2 ⟨rfl, hB2⟩
    have hB3 := HB.out.trans (hB2.mono HB.out.size)
    have L := box2_cells w hB3
    have d0 := (L 0).1
    have d1 := (L 1).1
    have f0 := (L 0).2
    have f1 := (L 1).2
    have HB3 := Lib.hid hB3
    clear L hB2 hB3 c4 c5
    go_wp2_with fail
    refine bodyPost_ret (v := .tuple #[frV r.2.1 r.2.2, errV r.1]) (by simp [results, Tryz.results24, go_sem, d0, d1]) rfl ?_
    exact ⟨rfl, ((bel_two HB3.out).setCell (p := ⟨w.heap.size + 1, 0, none⟩) (by simp) _).setCell (p := ⟨w.heap.size + 1, 1, none⟩) (by simp) _⟩
  · rw [decide_eq_true h] at R
    have hi : frE e m = ofO 1 (lsF e.q.2.2) (csF e.q.2.2) := by unfold frE; rw [if_neg h]
    rw [hi]
    generalize ofO 1 (lsF e.q.2.2) (csF e.q.2.2) = r at *
    clear h hi F2
    go_enter Tryz.func24, Tryz.ntmps24
    go_wp2_with fail
    refine (R.out _).mono ?_
    rintro x w1 ⟨rfl, hB⟩
    have K := box_cells w hB
    have c1 := (K 1).1
    have c2 := (K 2).1
    have c3 := (K 3).1
    have HB := Lib.hid hB
    clear K hB
    go_wp2_with fail
    refine (F1.out _ (HQ.out.below (bel_two HB.out))).mono ?_
    rintro x w2 ⟨rfl, hB2⟩
    have hB3 := HB.out.trans (hB2.mono HB.out.size)
    have L := box2_cells w hB3
    have d0 := (L 0).1
    have d1 := (L 1).1
    have f0 := (L 0).2
    have f1 := (L 1).2
    have HB3 := Lib.hid hB3
    clear L hB2 hB3 c1 c2 c3
    go_wp2_with fail
    refine bodyPost_ret (v := .tuple #[frV r.2.1 r.2.2, errV r.1]) (by simp [results, Tryz.results24, go_sem, d0, d1]) rfl ?_
    exact ⟨rfl, ((bel_two HB3.out).setCell (p := ⟨w.heap.size + 1, 0, none⟩) (by simp) _).setCell (p := ⟨w.heap.size + 1, 1, none⟩) (by simp) _⟩
/-- What a call leaves that changes the connection: its new state, and nothing else that was there is changed. -/
def ConTo (B P : Nat) (X : Nat → Prop) (s' : Cn) (w w' : World) : Prop := ∃ X', (∀ k, X' k → X k ∨ w.heap.size ≤ k) ∧ Con B P X' s' w' ∧ Only X w w'
theorem Dec.rebase {B C P : Nat} {X : Nat → Prop} {s : Dc} {w : World} (h : Dec C P X s w) (hB : B ≤ C) : Dec B P X s w := by
  obtain ⟨lv, tv, h1, h2, h3, h4, h5, h6, h7⟩ := h
  exact ⟨lv, tv, h1, ownsRow_base h2 (fun k hk => Nat.le_trans hB (h7 k (h5 k hk)).1), ownsRow_base h3 (fun k hk => Nat.le_trans hB (h7 k (h6 k hk)).1), h4, h5, h6, fun k hk => ⟨Nat.le_trans hB (h7 k hk).1, (h7 k hk).2⟩⟩
/-- A new decoder for a body that begins. -/
theorem begin_new {B P k n : Nat} {X XM XD : Nat → Prop} {s : Cn} {mv sv dv : Value} {w w0 w1 : World} (hp : ConP B P X XM XD s mv sv dv w) (hp2 : ConP B P X XM XD { s with fk := k, fl := n } mv sv dv w1) (hD : Dec w0.heap.size w0.heap.size (fun j => j = w0.heap.size) Dc.new w1) (hs : w1.heap.size = w0.heap.size + 1) (h3 : k = 3) (hO : Only X w w1) (h0 : w.heap.size ≤ w0.heap.size) {N : Nat} (hN : w0.heap.size = N) :
    ConTo B P X (beginC s k n) w (w1.setCell ⟨P, 6, none⟩ (.pointer (some ⟨N, 0, none⟩))) := by
  subst hN
  have hb := (hp.lt P hp.p)
  have e : beginC s k n = { s with fk := k, fl := n, dc := some Dc.new } := by unfold beginC; rw [if_pos h3]
  have hlt := hp.lt
  refine ⟨fun j => X j ∨ j = w0.heap.size, fun j hj => ?_, ⟨mv, sv, .pointer (some ⟨w0.heap.size, 0, none⟩), XM, fun j => j = w0.heap.size, ?_⟩, hO.trans' (Only.set hp.p _ _ _)⟩
  · rcases hj with h | h
    · exact .inl h
    · exact .inr (by omega)
  · rw [e]
    refine hp2.set 6 _ rfl hp2.m hp2.t ⟨w0.heap.size, rfl, hD.rebase (by omega)⟩ (fun _ h => .inl h) (fun j hj => ⟨.inl (hp2.xm j hj).1, (hp2.xm j hj).2⟩) (fun j hj => ?_) (fun j hj => ?_) (fun j hj => ?_)
    · obtain ⟨a, b, c, d⟩ := hp.xs j hj
      exact ⟨.inl a, b, c, fun h => by have := (hlt j a).2; omega⟩
    · refine ⟨.inr hj, by omega, fun h => ?_⟩
      have := (hlt j (hp.xm j h).1).2; omega
    · rcases hj with h | h
      · exact hp2.lt j h
      · exact ⟨by omega, by omega⟩
set_option maxHeartbeats 1000000 in
set_option maxRecDepth 100000 in
theorem begin_any {B P : Nat} {X : Nat → Prop} {s : Cn} (k n : Nat) (w : World) (h : Con B P X s w) (_ : s.dc = none) :
    Calls Tryz.prog 27 #[.pointer (some ⟨P, 0, none⟩), frV k n] w fun e w' => e = .returned (.tuple #[]) ∧ ConTo B P X (beginC s k n) w w' := by
  obtain ⟨mv, sv, dv, XM, XD, hp⟩ := h
  have HP := Lib.hid hp
  obtain ⟨_, _, _, _, c4, c5, c6, _, _, f⟩ := hp.cells
  have f4 := f 4
  have f5 := f 5
  have f6 := f 6
  have hs : P < w.heap.size := (hp.lt P hp.p).2
  clear hp f
  by_cases h3 : k = 3
  · have z : ((k : Int) == 3) = true := by rw [h3]; rfl
    have H3 := Lib.hid h3
    clear h3
    go_enter Tryz.func27, Tryz.ntmps27
    go_wp2_with fail
    refine (new_any _).mono ?_
    rintro e w1 ⟨rfl, hD, hB1, hs1⟩
    have hp2 := (((HP.out.fk (n := k) rfl).fl (n := n) rfl).below (below_new _ (.cells #[.int .i64 (k : Int), .int .i64 (n : Int)] 48))).below hB1
    have HP2 := Lib.hid hp2
    obtain ⟨_, _, _, _, _, _, e6, _, _, ef⟩ := hp2.cells
    have g6 := ef 6
    have HO := Lib.hid (((Only.set (X := X) HP.out.p w 4 (.int .i64 (k : Int))).trans' (Only.set (X := X) HP.out.p _ 5 (.int .i64 (n : Int)))).trans' (Only.below ((below_new _ (.cells #[.int .i64 (k : Int), .int .i64 (n : Int)] 48)).trans (hB1.mono (by simp)))))
    have HD := Lib.hid hD
    have HS := Lib.hid hs1
    clear hp2 ef c4 c5 c6 f4 f5 f6 hs1 hB1 hD
    go_wp2_with fail
    go_end0
    exact ⟨rfl, begin_new HP.out HP2.out HD.out HS.out H3.out HO.out (by simp) (by simp)⟩
  · have z : ((k : Int) == 3) = false := by simp; omega
    have H3 := Lib.hid h3
    clear h3
    go_enter Tryz.func27, Tryz.ntmps27
    go_wp2_with fail
    go_end0
    refine ⟨rfl, X, fun _ h => .inl h, ⟨mv, sv, dv, XM, XD, ?_⟩, ?_⟩
    · have := ((HP.out.fk (n := k) rfl).fl (n := n) rfl).below (below_new _ (.cells #[.int .i64 (k : Int), .int .i64 (n : Int)] 48))
      have e : beginC s k n = { s with fk := k, fl := n } := by unfold beginC; rw [if_neg H3.out]
      rw [e]; exact this
    · exact ((Only.set (X := X) HP.out.p w 4 _).trans' (Only.set (X := X) HP.out.p _ 5 _)).trans' (Only.below (below_new _ _))
end Go.Proofs.YtfmgfcddnnggeaaGreatDoor
