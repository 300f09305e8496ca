import Derived.Test.YtieolalohindgaaGreatDoorPa7
import Derived.Deep.QuietTactic
import Derived.BigQuiet
import Derived.Deep.DeepCutAuto
import Derived.Deep.CutBlock
import Derived.Test.YtieolalohindgaaGreatDoorPa37
import Derived.Test.YtieolalohindgaaGreatDoorPa0
import Derived.Lib.Builder
import Derived.Lib.AppendStr
/- What None, normalTime and normal return, and the reference's None and time. -/
namespace Go.Proofs.YtieolalohindgaaGreatDoor
open Go.RowKit

abbrev In64 (n : Int) : Prop := -9223372036854775808 ≤ n ∧ n ≤ 9223372036854775807
theorem normalTime_any (n : Int) (w : World) (_h : In64 n) :
    Calls Tryz.prog 81 #[.int .i64 n] w fun e w' => e = .returned (.int .i64 (normT n)) ∧ w = w' := by
  have HR := Lib.hid (show normT n = min (max n (-1)) 2147483647 from rfl)
  go_enter Tryz.func81, Tryz.ntmps81
  go_wp2
  go_ret
  exact ⟨by first | (rw [HR.out]; rfl) | rw [HR.out], rfl⟩
abbrev zD : Dv := ⟨false, false, false, false, false, false, 0, 0, 0, 0, 0, 0⟩
set_option maxHeartbeats 2000000 in
set_option maxRecDepth 100000 in
theorem none_any (w : World) : Calls Tryz.prog 27 #[] w fun e w' => e = .returned (dvV noneD) ∧ Below w.heap.size w w' := by
  have HB := Lib.hid (below_new w (.cells (dvC zD) 40))
  have hD := dvB_new w zD 40
  go_enter Tryz.func27, Tryz.ntmps27
  go_upto_region 1 with fail
  change Code.wp _ _ _ _ (w.alloc (.cells (dvC zD) 40))
  generalize (w.alloc (.cells (dvC zD) 40)) = W at *
  obtain ⟨c0, c1, c2, c3, c4, c5, c6, c7, c8, c9, c10, c11, fr, lt⟩ := hD
  go_wp2_with fail
  refine bodyPost_ret (v := .agg #[.bool false, .bool false, .bool false, .bool false, .bool false, .bool false, .int .i64 (-1), .int .i64 (-1), .int .i64 (-1), .int .i64 (-1), .int .i64 (-1), .int .i64 (-1)]) (by simp [results, Tryz.results27, go_sem, c0, c1, c2, c3, c4, c5, c6, c7, c8, c9, c10, c11]) rfl ?_
  exact ⟨rfl, below_dv HB.out (Nat.le_refl _) _ _ _ _ _ _ _ _ _ _ _ _⟩
end Go.Proofs.YtieolalohindgaaGreatDoor

/- What normal returns. -/
namespace Go.Proofs.YtieolalohindgaaGreatDoor
open Go.RowKit

/-- All times fit into 64 bits. -/
structure FitD (d : Dv) : Prop where
  ma : In64 d.ma
  sa : In64 d.sa
  ws : In64 d.ws
  oe : In64 d.oe
  ms : In64 d.ms
  mf : In64 d.mf
theorem Nor.fit {d : Dv} (h : Nor d) : FitD d := by
  obtain ⟨h1, h2, h3, h4, h5, h6⟩ := h
  exact ⟨⟨by omega, by omega⟩, ⟨by omega, by omega⟩, ⟨by omega, by omega⟩, ⟨by omega, by omega⟩, ⟨by omega, by omega⟩, ⟨by omega, by omega⟩⟩
set_option maxHeartbeats 8000000 in
set_option maxRecDepth 100000 in
theorem normal_any (d : Dv) (w : World) (hd : FitD d) :
    Calls Tryz.prog 54 #[dvV d] w fun e w' => e = .returned (dvV (normD d)) ∧ Below w.heap.size w w' := by
  have HF := Lib.hid hd
  have HB := Lib.hid ((below_new w (.cells (dvC d) 40)).alloc (by simp) (.cells (dvC zD) 40))
  have HA := Lib.hid ((dvB_new w d 40).below (below_new _ (.cells (dvC zD) 40)))
  have hR := dvB_new (w.alloc (.cells (dvC d) 40)) zD 40
  have e1 : (w.alloc (.cells (dvC d) 40)).heap.size = w.heap.size + 1 := by simp
  rw [e1] at hR
  have HR := Lib.hid hR
  clear hR hd e1
  go_enter Tryz.func54, Tryz.ntmps54
  go_upto_region 1 with fail
  change Code.wp _ _ _ _ ((w.alloc (.cells (dvC d) 40)).alloc (.cells (dvC zD) 40))
  generalize ((w.alloc (.cells (dvC d) 40)).alloc (.cells (dvC zD) 40)) = W at *
  obtain ⟨a0, a1, a2, a3, a4, a5, a6, a7, a8, a9, a10, a11, fa, la⟩ := HA.out
  have fj := fa 6
  go_upto_region 2 with (go_at_call 81; refine (normalTime_any _ _ HF.out.ma).mono ?_; rintro e w' ⟨rfl, rfl⟩)
  have HA1 := Lib.hid (HA.out.set6 (normT d.ma))
  have HR1 := Lib.hid (HR.out.only (Only.set (X := (· = w.heap.size)) rfl _ 6 (.int .i64 (normT d.ma))) (by omega))
  have HB1 := Lib.hid (HB.out.setCell (p := ⟨w.heap.size, 6, none⟩) (Nat.le_refl _) (.int .i64 (normT d.ma)))
  clear a0 a1 a2 a3 a4 a5 a6 a7 a8 a9 a10 a11 fa la fj
  generalize W.setCell ⟨w.heap.size, 6, none⟩ (.int .i64 (normT d.ma)) = W1 at *
  clear HA HR HB
  obtain ⟨a0, a1, a2, a3, a4, a5, a6, a7, a8, a9, a10, a11, fa, la⟩ := HA1.out
  have fj := fa 7
  go_upto_region 3 with (go_at_call 81; refine (normalTime_any _ _ HF.out.sa).mono ?_; rintro e w' ⟨rfl, rfl⟩)
  have HA2 := Lib.hid (HA1.out.set7 (normT d.sa))
  have HR2 := Lib.hid (HR1.out.only (Only.set (X := (· = w.heap.size)) rfl _ 7 (.int .i64 (normT d.sa))) (by omega))
  have HB2 := Lib.hid (HB1.out.setCell (p := ⟨w.heap.size, 7, none⟩) (Nat.le_refl _) (.int .i64 (normT d.sa)))
  clear a0 a1 a2 a3 a4 a5 a6 a7 a8 a9 a10 a11 fa la fj
  generalize W1.setCell ⟨w.heap.size, 7, none⟩ (.int .i64 (normT d.sa)) = W2 at *
  clear HA1 HR1 HB1
  obtain ⟨a0, a1, a2, a3, a4, a5, a6, a7, a8, a9, a10, a11, fa, la⟩ := HA2.out
  have fj := fa 8
  go_upto_region 4 with (go_at_call 81; refine (normalTime_any _ _ HF.out.ws).mono ?_; rintro e w' ⟨rfl, rfl⟩)
  have HA3 := Lib.hid (HA2.out.set8 (normT d.ws))
  have HR3 := Lib.hid (HR2.out.only (Only.set (X := (· = w.heap.size)) rfl _ 8 (.int .i64 (normT d.ws))) (by omega))
  have HB3 := Lib.hid (HB2.out.setCell (p := ⟨w.heap.size, 8, none⟩) (Nat.le_refl _) (.int .i64 (normT d.ws)))
  clear a0 a1 a2 a3 a4 a5 a6 a7 a8 a9 a10 a11 fa la fj
  generalize W2.setCell ⟨w.heap.size, 8, none⟩ (.int .i64 (normT d.ws)) = W3 at *
  clear HA2 HR2 HB2
  obtain ⟨a0, a1, a2, a3, a4, a5, a6, a7, a8, a9, a10, a11, fa, la⟩ := HA3.out
  have fj := fa 9
  go_upto_region 5 with (go_at_call 81; refine (normalTime_any _ _ HF.out.oe).mono ?_; rintro e w' ⟨rfl, rfl⟩)
  have HA4 := Lib.hid (HA3.out.set9 (normT d.oe))
  have HR4 := Lib.hid (HR3.out.only (Only.set (X := (· = w.heap.size)) rfl _ 9 (.int .i64 (normT d.oe))) (by omega))
  have HB4 := Lib.hid (HB3.out.setCell (p := ⟨w.heap.size, 9, none⟩) (Nat.le_refl _) (.int .i64 (normT d.oe)))
  clear a0 a1 a2 a3 a4 a5 a6 a7 a8 a9 a10 a11 fa la fj
  generalize W3.setCell ⟨w.heap.size, 9, none⟩ (.int .i64 (normT d.oe)) = W4 at *
  clear HA3 HR3 HB3
  obtain ⟨a0, a1, a2, a3, a4, a5, a6, a7, a8, a9, a10, a11, fa, la⟩ := HA4.out
  have fj := fa 10
  go_upto_region 6 with (go_at_call 81; refine (normalTime_any _ _ HF.out.ms).mono ?_; rintro e w' ⟨rfl, rfl⟩)
  have HA5 := Lib.hid (HA4.out.set10 (normT d.ms))
  have HR5 := Lib.hid (HR4.out.only (Only.set (X := (· = w.heap.size)) rfl _ 10 (.int .i64 (normT d.ms))) (by omega))
  have HB5 := Lib.hid (HB4.out.setCell (p := ⟨w.heap.size, 10, none⟩) (Nat.le_refl _) (.int .i64 (normT d.ms)))
  clear a0 a1 a2 a3 a4 a5 a6 a7 a8 a9 a10 a11 fa la fj
  generalize W4.setCell ⟨w.heap.size, 10, none⟩ (.int .i64 (normT d.ms)) = W5 at *
  clear HA4 HR4 HB4
  obtain ⟨a0, a1, a2, a3, a4, a5, a6, a7, a8, a9, a10, a11, fa, la⟩ := HA5.out
  have fj := fa 11
  go_upto_region 7 with (go_at_call 81; refine (normalTime_any _ _ HF.out.mf).mono ?_; rintro e w' ⟨rfl, rfl⟩)
  have HA6 := Lib.hid (HA5.out.set11 (normT d.mf))
  have HR6 := Lib.hid (HR5.out.only (Only.set (X := (· = w.heap.size)) rfl _ 11 (.int .i64 (normT d.mf))) (by omega))
  have HB6 := Lib.hid (HB5.out.setCell (p := ⟨w.heap.size, 11, none⟩) (Nat.le_refl _) (.int .i64 (normT d.mf)))
  clear a0 a1 a2 a3 a4 a5 a6 a7 a8 a9 a10 a11 fa la fj
  generalize W5.setCell ⟨w.heap.size, 11, none⟩ (.int .i64 (normT d.mf)) = W6 at *
  clear HA5 HR5 HB5
  obtain ⟨a0, a1, a2, a3, a4, a5, a6, a7, a8, a9, a10, a11, fa, la⟩ := HA6.out
  obtain ⟨c0, c1, c2, c3, c4, c5, c6, c7, c8, c9, c10, c11, fr, lt⟩ := HR6.out
  have hBw := below_dv HB6.out (Nat.le_succ _) (.bool d.ns) (.bool d.nc) (.bool d.pr) (.bool d.pu) (.bool d.mr) (.bool d.oc) (.int .i64 (normT d.ma)) (.int .i64 (normT d.sa)) (.int .i64 (normT d.ws)) (.int .i64 (normT d.oe)) (.int .i64 (normT d.ms)) (.int .i64 (normT d.mf))
  have HBW := Lib.hid hBw
  clear HA6 HR6 HB6 hBw
  go_wp2_with fail
  refine bodyPost_ret (v := dvV (normD d)) (by simp [results, Tryz.results54, go_sem, c0, c1, c2, c3, c4, c5, c6, c7, c8, c9, c10, c11, normD]) rfl ?_
  exact ⟨rfl, HBW.out⟩
end Go.Proofs.YtieolalohindgaaGreatDoor

/- The methods of strings.Builder at a builder that the call itself made: copyCheck, WriteByte, WriteString, String. -/
namespace Go.Proofs.YtieolalohindgaaGreatDoor
open Go.RowKit

/-- A builder in block b, one of the call's own (from B on), that holds the bytes l. -/
def Bld (B b : Nat) (l : List UInt8) (w : World) : Prop := Lib.IsBuilder 135 5 B b (Lib.byteCells l) w

theorem bld_size : (Tryz.prog.info? 135).map (·.size) = some 2 := by kernel_rfl
theorem bld_lies : liesAt Tryz.prog Tryz.prog.depth 135 (2 / Tryz.prog.cellsOf 135) 0 135 1 = true := by kernel_rfl
theorem byte_info : (Tryz.prog.info? 5).map (fun i => (i.zero, i.size, i.bytes)) = some (some (.int .u8 0), 1, 1) := by kernel_rfl
set_option maxHeartbeats 1000000 in
set_option maxRecDepth 100000 in
theorem copyCheck_used (b : Nat) (w : World) (h0 : w.cell? ⟨b, 0, none⟩ = some (.pointer (some ⟨b, 0, none⟩))) :
    Calls Tryz.prog 123 #[.pointer (some ⟨b, 0, none⟩)] w fun e w' => e = .returned (.tuple #[]) ∧ w = w' := by
  obtain ⟨j, hj, _⟩ := Option.map_eq_some_iff.1 bld_size
  go_enter Tryz.func123, Tryz.ntmps123
  go_wp2
  rw [Lib.run_neq_ptr_same w _ Tryz.underlying133 hj]
  go_wp2
  go_end0
  exact ⟨rfl, rfl⟩
set_option maxHeartbeats 1000000 in
set_option maxRecDepth 100000 in
theorem copyCheck_fresh (b : Nat) (w : World) (h0 : w.cell? ⟨b, 0, none⟩ = some (.pointer none)) (hsh : w.shape? b = some (135, 2)) (hfz : w.frozen? ⟨b, 0, none⟩ = false) :
    Calls Tryz.prog 123 #[.pointer (some ⟨b, 0, none⟩)] w fun e w' => e = .returned (.tuple #[]) ∧ w.setCell ⟨b, 0, none⟩ (.pointer (some ⟨b, 0, none⟩)) = w' := by
  obtain ⟨j, hj, hjs⟩ := Option.map_eq_some_iff.1 bld_size
  go_enter Tryz.func123, Tryz.ntmps123
  go_wp2
  rw [Lib.run_to_unsafe w ⟨b, 0, none⟩ Tryz.underlying133 Tryz.underlying156 hj (by rw [hjs]; decide) hsh (Nat.zero_lt_succ 1)]
  simp only [Result.andThen]
  rw [Oper.upon_value]
  go_wp2
  rw [run_callFunc_extern Tryz.func140 (by kernel_rfl) (by kernel_rfl) (by kernel_rfl) (e := Extern.AbiNoEscape.same) (by kernel_rfl)]
  rw [Lib.run_noEscape]
  simp only [Result.andThen]
  rw [Oper.upon_value]
  go_wp2
  rw [Lib.run_from_unsafe w ⟨b, 0, none⟩ Tryz.underlying156 Tryz.underlying133 hj hsh bld_lies]
  simp only [Result.andThen]
  rw [Oper.upon_value]
  go_wp2
  go_end0
  exact ⟨rfl, rfl⟩
theorem copyCheck_any (B b : Nat) (bs : List Value) (w : World) (h : Lib.IsBuilder 135 5 B b bs w) :
    Calls Tryz.prog 123 #[.pointer (some ⟨b, 0, none⟩)] w fun e w' => e = .returned (.tuple #[]) ∧ Lib.BuilderAt 135 5 B b (.pointer (some ⟨b, 0, none⟩)) bs w' ∧ Below B w w' := by
  rcases h with h | h
  · refine (copyCheck_fresh b w h.cell0 h.shape h.frozen0).mono ?_
    rintro e w' ⟨rfl, rfl⟩
    exact ⟨rfl, h.used _, (Below.refl B w).setCell (p := ⟨b, 0, none⟩) h.1 _⟩
  · refine (copyCheck_used b w h.cell0).mono ?_
    rintro e w' ⟨rfl, rfl⟩
    exact ⟨rfl, h, Below.refl B _⟩

set_option maxHeartbeats 2000000 in
set_option maxRecDepth 100000 in
theorem writeByte_any (B b : Nat) (l : List UInt8) (c : UInt8) (w : World) (h : Bld B b l w) (hlen : l.length + 1 ≤ 140737488355328) (hBw : B ≤ w.heap.size) :
    Calls Tryz.prog 114 #[.pointer (some ⟨b, 0, none⟩), .int .u8 (c.toNat : Int)] w fun e w' => e = .returned .nilIface ∧ Bld B b (l ++ [c]) w' ∧ Below B w w' := by
  obtain ⟨i0, hi, hz0, hz1, hz2⟩ := info_parts byte_info
  go_enter Tryz.func114, Tryz.ntmps114
  go_wp2_with fail
  refine (copyCheck_any B b (Lib.byteCells l) _ h).mono ?_
  rintro e w1 ⟨rfl, h1, hb1⟩
  obtain ⟨hB, v, hbk, hown, hne⟩ := h1
  have hlen' : (Lib.byteCells l).length = l.length := Lib.byteCells_length l
  have hlt : b < w1.heap.size := Lib.BuilderAt.lt ⟨hB, v, hbk, hown, hne⟩
  have hbs := hb1.size
  have HLEN := Lib.hid hlen'
  have c0 : w1.cell? ⟨b, 0, none⟩ = some (.pointer (some ⟨b, 0, none⟩)) := by rw [Lib.cell_of_heap hbk]; rfl
  have c1 : w1.cell? ⟨b, 1, none⟩ = some v := by rw [Lib.cell_of_heap hbk]; rfl
  have HBK := Lib.hid hbk
  clear hbk hlen'
  go_wp2_with (at_builtin; refine wpList_append_own _ rfl _ _ 123 rfl B 5 i0 (.int .u8 0) 1 1 Tryz.underlying123 hi hz0 hz1 hz2 rfl (by decide) _ _ _ rfl (hown.alloc _) ⟨w1.heap.size, 0, none⟩ 1 1 [.int .u8 (c.toNat : Int)] rfl rfl (cell_one_new _ _ _) (fun u hu => by simp at hu; subst hu; rfl) (by rw [HLEN.out]; unfold maxLen; omega) (by rw [HLEN.out]; omega) (by simp; omega) ?_)
  intro v' w2 hown' hgrow _
  have hb2 : w2.heap[b]? = some (.cells #[.pointer (some ⟨b, 0, none⟩), v] 135 (0, 0)) := by
    rw [hgrow.block b (by simp; omega) (fun e => hne e.symm), Lib.alloc_old w1 _ b hlt]
    exact HBK.out
  have d0 : w2.cell? ⟨b, 0, none⟩ = some (.pointer (some ⟨b, 0, none⟩)) := by rw [Lib.cell_of_heap hb2]; rfl
  have d1 : w2.cell? ⟨b, 1, none⟩ = some v := by rw [Lib.cell_of_heap hb2]; rfl
  have f1 : w2.frozen? ⟨b, 1, none⟩ = false := Lib.frozen_of_heap hb2 1
  obtain ⟨g, cap, rfl⟩ : ∃ g cap, v' = .slice (some ⟨g, 0, none⟩) ((Lib.byteCells l).length + 1) cap := by
    rcases hown'.2 with ⟨_, h0⟩ | ⟨g, cap, cur, hv, _⟩
    · omega
    · exact ⟨g, cap, hv⟩
  have HB2 := Lib.hid hb2
  clear hb2
  go_wp2
  go_ret
  refine ⟨rfl, ?_, ?_⟩
  · have e : Lib.byteCells (l ++ [c]) = Lib.byteCells l ++ [.int .u8 (c.toNat : Int)] := by simp [Lib.byteCells]
    unfold Bld
    rw [e]
    exact Or.inr (Lib.BuilderAt.put (T := 135) (e := 5) hB HB2.out (bs' := Lib.byteCells l ++ [.int .u8 (c.toNat : Int)]) (by simpa using hown') (by decide))
  · exact ((hb1.alloc (by omega) _).grown hgrow (by simp; omega) (fun k hk => (hown.lt k hk).1)).setCell (p := ⟨b, 1, none⟩) hB _
set_option maxHeartbeats 2000000 in
set_option maxRecDepth 100000 in
theorem writeString_any (B b : Nat) (l t : List UInt8) (w : World) (h : Bld B b l w) (hlen : l.length + t.length ≤ 140737488355328) (hBw : B ≤ w.heap.size) :
    Calls Tryz.prog 106 #[.pointer (some ⟨b, 0, none⟩), .string (strB t)] w fun e w' => e = .returned (.tuple #[.int .i64 (strB t).size, .nilIface]) ∧ Bld B b (l ++ t) w' ∧ Below B w w' := by
  obtain ⟨i0, hi, hz0, hz1, hz2⟩ := info_parts byte_info
  have hts : (strB t).size = t.length := by show t.toArray.size = _; simp
  have HTS := Lib.hid hts
  have htb : (strB t).size ≤ 140737488355328 := by omega
  clear hts
  go_enter Tryz.func106, Tryz.ntmps106
  go_wp2_with fail
  refine (copyCheck_any B b (Lib.byteCells l) _ h).mono ?_
  rintro e w1 ⟨rfl, h1, hb1⟩
  obtain ⟨hB, v, hbk, hown, hne⟩ := h1
  have hlen' : (Lib.byteCells l).length = l.length := Lib.byteCells_length l
  have hlt : b < w1.heap.size := Lib.BuilderAt.lt ⟨hB, v, hbk, hown, hne⟩
  have hbs := hb1.size
  have HLEN := Lib.hid hlen'
  have c0 : w1.cell? ⟨b, 0, none⟩ = some (.pointer (some ⟨b, 0, none⟩)) := by rw [Lib.cell_of_heap hbk]; rfl
  have c1 : w1.cell? ⟨b, 1, none⟩ = some v := by rw [Lib.cell_of_heap hbk]; rfl
  have HBK := Lib.hid hbk
  clear hbk hlen'
  go_wp2_with (at_builtin; refine Lib.wpList_append_own_string _ rfl _ _ 123 9 rfl B 5 i0 Tryz.underlying123 Tryz.underlying9 hi hz0 hz1 hz2 _ _ _ rfl hown (strB t) rfl (by rw [HLEN.out, HTS.out]; unfold maxLen; omega) (by rw [HLEN.out, HTS.out]; omega) (by omega) ?_)
  intro v' w2 hown' hgrow _
  have hb2 : w2.heap[b]? = some (.cells #[.pointer (some ⟨b, 0, none⟩), v] 135 (0, 0)) := by
    rw [hgrow.block b hlt (fun e => hne e.symm)]
    exact HBK.out
  have d0 : w2.cell? ⟨b, 0, none⟩ = some (.pointer (some ⟨b, 0, none⟩)) := by rw [Lib.cell_of_heap hb2]; rfl
  have d1 : w2.cell? ⟨b, 1, none⟩ = some v := by rw [Lib.cell_of_heap hb2]; rfl
  have f1 : w2.frozen? ⟨b, 1, none⟩ = false := Lib.frozen_of_heap hb2 1
  obtain ⟨ao, n', cap, rfl⟩ : ∃ ao n' cap, v' = .slice ao n' cap := by
    rcases hown'.2 with ⟨hv, _⟩ | ⟨g, cap, cur, hv, _⟩
    · exact ⟨_, _, _, hv⟩
    · exact ⟨_, _, _, hv⟩
  have HB2 := Lib.hid hb2
  clear hb2
  go_wp2
  go_ret2
  refine ⟨rfl, ?_, ?_⟩
  · have e : Lib.byteCells (l ++ t) = Lib.byteCells l ++ Lib.strCells (strB t) := by
      simp [Lib.byteCells, Lib.strCells, strB]
    unfold Bld
    rw [e]
    exact Or.inr (Lib.BuilderAt.put (T := 135) (e := 5) hB HB2.out (bs' := Lib.byteCells l ++ Lib.strCells (strB t)) (by simpa [Lib.strCells_length] using hown') (by decide))
  · exact (hb1.grown hgrow (by omega) (fun k hk => (hown.lt k hk).1)).setCell (p := ⟨b, 1, none⟩) hB _
theorem builder_string (B b : Nat) (l : List UInt8) (w : World) (h : Bld B b l w) (hBw : B ≤ w.heap.size) :
    Calls Tryz.prog 107 #[.pointer (some ⟨b, 0, none⟩)] w fun e w' => e = .returned (.string (strB l)) ∧ Below B w w' :=
  Tryz.Builder_String_any B b l w h hBw
theorem bld_new (w : World) : Bld w.heap.size w.heap.size [] (w.alloc (.cells #[.pointer none, .slice none 0 0] 135)) :=
  Lib.fresh_isBuilder _ _ _
/-- What lies in other blocks than the builder's, and in none of its own, leaves it as it is. -/
theorem Bld.below {B b : Nat} {l : List UInt8} {w w' : World} (h : Bld B b l w) (hb : Below w.heap.size w w') : Bld B b l w' := by
  have key : ∀ p, Lib.BuilderAt 135 5 B b p (Lib.byteCells l) w → Lib.BuilderAt 135 5 B b p (Lib.byteCells l) w' := by
    rintro p ⟨hB, v, hbk, hown, hne⟩
    have hlt : b < w.heap.size := Lib.BuilderAt.lt ⟨hB, v, hbk, hown, hne⟩
    exact ⟨hB, v, (hb.block b hlt).trans hbk, World.ownsRow.kept hown (grown_of_below hb none) (by cases hv : v.ownBlock <;> simp), hne⟩
  exact h.imp (key _) (key _)
end Go.Proofs.YtieolalohindgaaGreatDoor
