import Derived.Test.YtinbdflkpbjmcaaGreatDoorPa12
import Derived.Test.YtinbdflkpbjmcaaGreatDoorPa1
import Derived.Test.YtinbdflkpbjmcaaGreatDoorPa0
import Derived.Lib.Builder
import Derived.Lib.AppendStr
/- What normal returns. -/
namespace Go.Proofs.YtinbdflkpbjmcaaGreatDoor
open Go.RowKit

/-- All times fit into 64 bits. -/
structure FitD (d : Dv) : Prop where
  ma : In64 d.ma
  sa : In64 d.sa
  ws : In64 d.ws
  oe : In64 d.oe
  ms : In64 d.ms
  mf : In64 d.mf
theorem Nor.fit {d : Dv} (h : Nor d) : FitD d := by
  obtain ⟨h1, h2, h3, h4, h5, h6⟩ := h
  exact ⟨⟨by omega, by omega⟩, ⟨by omega, by omega⟩, ⟨by omega, by omega⟩, ⟨by omega, by omega⟩, ⟨by omega, by omega⟩, ⟨by omega, by omega⟩⟩
set_option maxHeartbeats 8000000 in
set_option maxRecDepth 100000 in
theorem normal_any (d : Dv) (w : World) (hd : FitD d) :
    Calls Tryz.prog 43 #[dvV d] w fun e w' => e = .returned (dvV (normD d)) ∧ Below w.heap.size w w' := by
  have HF := Lib.hid hd
  have HB := Lib.hid ((below_new w (.cells (dvC d) 45)).alloc (by simp) (.cells (dvC zD) 45))
  have HA := Lib.hid ((dvB_new w d 45).below (below_new _ (.cells (dvC zD) 45)))
  have hR := dvB_new (w.alloc (.cells (dvC d) 45)) zD 45
  have e1 : (w.alloc (.cells (dvC d) 45)).heap.size = w.heap.size + 1 := by simp
  rw [e1] at hR
  have HR := Lib.hid hR
  clear hR hd e1
  go_enter Tryz.func43, Tryz.ntmps43
  go_upto_region 1 with fail
  change Code.wp _ _ _ _ ((w.alloc (.cells (dvC d) 45)).alloc (.cells (dvC zD) 45))
  generalize ((w.alloc (.cells (dvC d) 45)).alloc (.cells (dvC zD) 45)) = W at *
  obtain ⟨a0, a1, a2, a3, a4, a5, a6, a7, a8, a9, a10, a11, fa, la⟩ := HA.out
  have fj := fa 6
  go_upto_region 2 with (go_at_call 64; refine (normalTime_any _ _ HF.out.ma).mono ?_; rintro e w' ⟨rfl, rfl⟩)
  have HA1 := Lib.hid (HA.out.set6 (normT d.ma))
  have HR1 := Lib.hid (HR.out.only (Only.set (X := (· = w.heap.size)) rfl _ 6 (.int .i64 (normT d.ma))) (by omega))
  have HB1 := Lib.hid (HB.out.setCell (p := ⟨w.heap.size, 6, none⟩) (Nat.le_refl _) (.int .i64 (normT d.ma)))
  clear a0 a1 a2 a3 a4 a5 a6 a7 a8 a9 a10 a11 fa la fj
  generalize W.setCell ⟨w.heap.size, 6, none⟩ (.int .i64 (normT d.ma)) = W1 at *
  clear HA HR HB
  obtain ⟨a0, a1, a2, a3, a4, a5, a6, a7, a8, a9, a10, a11, fa, la⟩ := HA1.out
  have fj := fa 7
  go_upto_region 3 with (go_at_call 64; refine (normalTime_any _ _ HF.out.sa).mono ?_; rintro e w' ⟨rfl, rfl⟩)
  have HA2 := Lib.hid (HA1.out.set7 (normT d.sa))
  have HR2 := Lib.hid (HR1.out.only (Only.set (X := (· = w.heap.size)) rfl _ 7 (.int .i64 (normT d.sa))) (by omega))
  have HB2 := Lib.hid (HB1.out.setCell (p := ⟨w.heap.size, 7, none⟩) (Nat.le_refl _) (.int .i64 (normT d.sa)))
  clear a0 a1 a2 a3 a4 a5 a6 a7 a8 a9 a10 a11 fa la fj
  generalize W1.setCell ⟨w.heap.size, 7, none⟩ (.int .i64 (normT d.sa)) = W2 at *
  clear HA1 HR1 HB1
  obtain ⟨a0, a1, a2, a3, a4, a5, a6, a7, a8, a9, a10, a11, fa, la⟩ := HA2.out
  have fj := fa 8
  go_upto_region 4 with (go_at_call 64; refine (normalTime_any _ _ HF.out.ws).mono ?_; rintro e w' ⟨rfl, rfl⟩)
  have HA3 := Lib.hid (HA2.out.set8 (normT d.ws))
  have HR3 := Lib.hid (HR2.out.only (Only.set (X := (· = w.heap.size)) rfl _ 8 (.int .i64 (normT d.ws))) (by omega))
  have HB3 := Lib.hid (HB2.out.setCell (p := ⟨w.heap.size, 8, none⟩) (Nat.le_refl _) (.int .i64 (normT d.ws)))
  clear a0 a1 a2 a3 a4 a5 a6 a7 a8 a9 a10 a11 fa la fj
  generalize W2.setCell ⟨w.heap.size, 8, none⟩ (.int .i64 (normT d.ws)) = W3 at *
  clear HA2 HR2 HB2
  obtain ⟨a0, a1, a2, a3, a4, a5, a6, a7, a8, a9, a10, a11, fa, la⟩ := HA3.out
  have fj := fa 9
  go_upto_region 5 with (go_at_call 64; refine (normalTime_any _ _ HF.out.oe).mono ?_; rintro e w' ⟨rfl, rfl⟩)
  have HA4 := Lib.hid (HA3.out.set9 (normT d.oe))
  have HR4 := Lib.hid (HR3.out.only (Only.set (X := (· = w.heap.size)) rfl _ 9 (.int .i64 (normT d.oe))) (by omega))
  have HB4 := Lib.hid (HB3.out.setCell (p := ⟨w.heap.size, 9, none⟩) (Nat.le_refl _) (.int .i64 (normT d.oe)))
  clear a0 a1 a2 a3 a4 a5 a6 a7 a8 a9 a10 a11 fa la fj
  generalize W3.setCell ⟨w.heap.size, 9, none⟩ (.int .i64 (normT d.oe)) = W4 at *
  clear HA3 HR3 HB3
  obtain ⟨a0, a1, a2, a3, a4, a5, a6, a7, a8, a9, a10, a11, fa, la⟩ := HA4.out
  have fj := fa 10
  go_upto_region 6 with (go_at_call 64; refine (normalTime_any _ _ HF.out.ms).mono ?_; rintro e w' ⟨rfl, rfl⟩)
  have HA5 := Lib.hid (HA4.out.set10 (normT d.ms))
  have HR5 := Lib.hid (HR4.out.only (Only.set (X := (· = w.heap.size)) rfl _ 10 (.int .i64 (normT d.ms))) (by omega))
  have HB5 := Lib.hid (HB4.out.setCell (p := ⟨w.heap.size, 10, none⟩) (Nat.le_refl _) (.int .i64 (normT d.ms)))
  clear a0 a1 a2 a3 a4 a5 a6 a7 a8 a9 a10 a11 fa la fj
  generalize W4.setCell ⟨w.heap.size, 10, none⟩ (.int .i64 (normT d.ms)) = W5 at *
  clear HA4 HR4 HB4
  obtain ⟨a0, a1, a2, a3, a4, a5, a6, a7, a8, a9, a10, a11, fa, la⟩ := HA5.out
  have fj := fa 11
  go_upto_region 7 with (go_at_call 64; refine (normalTime_any _ _ HF.out.mf).mono ?_; rintro e w' ⟨rfl, rfl⟩)
  have HA6 := Lib.hid (HA5.out.set11 (normT d.mf))
  have HR6 := Lib.hid (HR5.out.only (Only.set (X := (· = w.heap.size)) rfl _ 11 (.int .i64 (normT d.mf))) (by omega))
  have HB6 := Lib.hid (HB5.out.setCell (p := ⟨w.heap.size, 11, none⟩) (Nat.le_refl _) (.int .i64 (normT d.mf)))
  clear a0 a1 a2 a3 a4 a5 a6 a7 a8 a9 a10 a11 fa la fj
  generalize W5.setCell ⟨w.heap.size, 11, none⟩ (.int .i64 (normT d.mf)) = W6 at *
  clear HA5 HR5 HB5
  obtain ⟨a0, a1, a2, a3, a4, a5, a6, a7, a8, a9, a10, a11, fa, la⟩ := HA6.out
  obtain ⟨c0, c1, c2, c3, c4, c5, c6, c7, c8, c9, c10, c11, fr, lt⟩ := HR6.out
  have hBw := below_dv HB6.out (Nat.le_succ _) (.bool d.ns) (.bool d.nc) (.bool d.pr) (.bool d.pu) (.bool d.mr) (.bool d.oc) (.int .i64 (normT d.ma)) (.int .i64 (normT d.sa)) (.int .i64 (normT d.ws)) (.int .i64 (normT d.oe)) (.int .i64 (normT d.ms)) (.int .i64 (normT d.mf))
  have HBW := Lib.hid hBw
  clear HA6 HR6 HB6 hBw
  go_wp2_with fail
  refine bodyPost_ret (v := dvV (normD d)) (by simp [results, Tryz.results43, go_sem, c0, c1, c2, c3, c4, c5, c6, c7, c8, c9, c10, c11, normD]) rfl ?_
  exact ⟨rfl, HBW.out⟩
end Go.Proofs.YtinbdflkpbjmcaaGreatDoor

/- The methods of strings.Builder at a builder that the call itself made: copyCheck, WriteByte, WriteString, String. -/
namespace Go.Proofs.YtinbdflkpbjmcaaGreatDoor
open Go.RowKit

/-- A builder in block b, one of the call's own (from B on), that holds the bytes l. -/
def Bld (B b : Nat) (l : List UInt8) (w : World) : Prop := Lib.IsBuilder 106 5 B b (Lib.byteCells l) w

theorem bld_size : (Tryz.prog.info? 106).map (·.size) = some 2 := by kernel_rfl
theorem bld_lies : liesAt Tryz.prog Tryz.prog.depth 106 (2 / Tryz.prog.cellsOf 106) 0 106 1 = true := by kernel_rfl
theorem byte_info : (Tryz.prog.info? 5).map (fun i => (i.zero, i.size, i.bytes)) = some (some (.int .u8 0), 1, 1) := by kernel_rfl
set_option maxHeartbeats 1000000 in
set_option maxRecDepth 100000 in
theorem copyCheck_used (b : Nat) (w : World) (h0 : w.cell? ⟨b, 0, none⟩ = some (.pointer (some ⟨b, 0, none⟩))) :
    Calls Tryz.prog 86 #[.pointer (some ⟨b, 0, none⟩)] w fun e w' => e = .returned (.tuple #[]) ∧ w = w' := by
  obtain ⟨j, hj, _⟩ := Option.map_eq_some_iff.1 bld_size
  go_enter Tryz.func86, Tryz.ntmps86
  go_wp2
  rw [Lib.run_neq_ptr_same w _ Tryz.underlying104 hj]
  go_wp2
  go_end0
  exact ⟨rfl, rfl⟩
set_option maxHeartbeats 1000000 in
set_option maxRecDepth 100000 in
theorem copyCheck_fresh (b : Nat) (w : World) (h0 : w.cell? ⟨b, 0, none⟩ = some (.pointer none)) (hsh : w.shape? b = some (106, 2)) (hfz : w.frozen? ⟨b, 0, none⟩ = false) :
    Calls Tryz.prog 86 #[.pointer (some ⟨b, 0, none⟩)] w fun e w' => e = .returned (.tuple #[]) ∧ w.setCell ⟨b, 0, none⟩ (.pointer (some ⟨b, 0, none⟩)) = w' := by
  obtain ⟨j, hj, hjs⟩ := Option.map_eq_some_iff.1 bld_size
  go_enter Tryz.func86, Tryz.ntmps86
  go_wp2
  rw [Lib.run_to_unsafe w ⟨b, 0, none⟩ Tryz.underlying104 Tryz.underlying138 hj (by rw [hjs]; decide) hsh (Nat.zero_lt_succ 1)]
  simp only [Result.andThen]
  rw [Oper.upon_value]
  go_wp2
  rw [run_callFunc_extern Tryz.func111 (by kernel_rfl) (by kernel_rfl) (by kernel_rfl) (e := Extern.AbiNoEscape.same) (by kernel_rfl)]
  rw [Lib.run_noEscape]
  simp only [Result.andThen]
  rw [Oper.upon_value]
  go_wp2
  rw [Lib.run_from_unsafe w ⟨b, 0, none⟩ Tryz.underlying138 Tryz.underlying104 hj hsh bld_lies]
  simp only [Result.andThen]
  rw [Oper.upon_value]
  go_wp2
  go_end0
  exact ⟨rfl, rfl⟩
theorem copyCheck_any (B b : Nat) (bs : List Value) (w : World) (h : Lib.IsBuilder 106 5 B b bs w) :
    Calls Tryz.prog 86 #[.pointer (some ⟨b, 0, none⟩)] w fun e w' => e = .returned (.tuple #[]) ∧ Lib.BuilderAt 106 5 B b (.pointer (some ⟨b, 0, none⟩)) bs w' ∧ Below B w w' := by
  rcases h with h | h
  · refine (copyCheck_fresh b w h.cell0 h.shape h.frozen0).mono ?_
    rintro e w' ⟨rfl, rfl⟩
    exact ⟨rfl, h.used _, (Below.refl B w).setCell (p := ⟨b, 0, none⟩) h.1 _⟩
  · refine (copyCheck_used b w h.cell0).mono ?_
    rintro e w' ⟨rfl, rfl⟩
    exact ⟨rfl, h, Below.refl B _⟩

set_option maxHeartbeats 2000000 in
set_option maxRecDepth 100000 in
theorem writeByte_any (B b : Nat) (l : List UInt8) (c : UInt8) (w : World) (h : Bld B b l w) (hlen : l.length + 1 ≤ 140737488355328) (hBw : B ≤ w.heap.size) :
    Calls Tryz.prog 125 #[.pointer (some ⟨b, 0, none⟩), .int .u8 (c.toNat : Int)] w fun e w' => e = .returned .nilIface ∧ Bld B b (l ++ [c]) w' ∧ Below B w w' := by
  obtain ⟨i0, hi, hz0, hz1, hz2⟩ := info_parts byte_info
  go_enter Tryz.func125, Tryz.ntmps125
  go_wp2_with fail
  refine (copyCheck_any B b (Lib.byteCells l) _ h).mono ?_
  rintro e w1 ⟨rfl, h1, hb1⟩
  obtain ⟨hB, v, hbk, hown, hne⟩ := h1
  have hlen' : (Lib.byteCells l).length = l.length := Lib.byteCells_length l
  have hlt : b < w1.heap.size := Lib.BuilderAt.lt ⟨hB, v, hbk, hown, hne⟩
  have hbs := hb1.size
  have HLEN := Lib.hid hlen'
  have c0 : w1.cell? ⟨b, 0, none⟩ = some (.pointer (some ⟨b, 0, none⟩)) := by rw [Lib.cell_of_heap hbk]; rfl
  have c1 : w1.cell? ⟨b, 1, none⟩ = some v := by rw [Lib.cell_of_heap hbk]; rfl
  have HBK := Lib.hid hbk
  clear hbk hlen'
  go_wp2_with (at_builtin; refine wpList_append_own _ rfl _ _ 103 rfl B 5 i0 (.int .u8 0) 1 1 Tryz.underlying103 hi hz0 hz1 hz2 rfl (by decide) _ _ _ rfl (hown.alloc _) ⟨w1.heap.size, 0, none⟩ 1 1 [.int .u8 (c.toNat : Int)] rfl rfl (cell_one_new _ _ _) (fun u hu => by simp at hu; subst hu; rfl) (by rw [HLEN.out]; unfold maxLen; omega) (by rw [HLEN.out]; omega) (by simp; omega) ?_)
  intro v' w2 hown' hgrow _
  have hb2 : w2.heap[b]? = some (.cells #[.pointer (some ⟨b, 0, none⟩), v] 106 (0, 0)) := by
    rw [hgrow.block b (by simp; omega) (fun e => hne e.symm), Lib.alloc_old w1 _ b hlt]
    exact HBK.out
  have d0 : w2.cell? ⟨b, 0, none⟩ = some (.pointer (some ⟨b, 0, none⟩)) := by rw [Lib.cell_of_heap hb2]; rfl
  have d1 : w2.cell? ⟨b, 1, none⟩ = some v := by rw [Lib.cell_of_heap hb2]; rfl
  have f1 : w2.frozen? ⟨b, 1, none⟩ = false := Lib.frozen_of_heap hb2 1
  obtain ⟨g, cap, rfl⟩ : ∃ g cap, v' = .slice (some ⟨g, 0, none⟩) ((Lib.byteCells l).length + 1) cap := by
    rcases hown'.2 with ⟨_, h0⟩ | ⟨g, cap, cur, hv, _⟩
    · omega
    · exact ⟨g, cap, hv⟩
  have HB2 := Lib.hid hb2
  clear hb2
  go_wp2
  go_ret
  refine ⟨rfl, ?_, ?_⟩
  · have e : Lib.byteCells (l ++ [c]) = Lib.byteCells l ++ [.int .u8 (c.toNat : Int)] := by simp [Lib.byteCells]
    unfold Bld
    rw [e]
    exact Or.inr (Lib.BuilderAt.put (T := 106) (e := 5) hB HB2.out (bs' := Lib.byteCells l ++ [.int .u8 (c.toNat : Int)]) (by simpa using hown') (by decide))
  · exact ((hb1.alloc (by omega) _).grown hgrow (by simp; omega) (fun k hk => (hown.lt k hk).1)).setCell (p := ⟨b, 1, none⟩) hB _
set_option maxHeartbeats 2000000 in
set_option maxRecDepth 100000 in
theorem writeString_any (B b : Nat) (l t : List UInt8) (w : World) (h : Bld B b l w) (hlen : l.length + t.length ≤ 140737488355328) (hBw : B ≤ w.heap.size) :
    Calls Tryz.prog 67 #[.pointer (some ⟨b, 0, none⟩), .string (strB t)] w fun e w' => e = .returned (.tuple #[.int .i64 (strB t).size, .nilIface]) ∧ Bld B b (l ++ t) w' ∧ Below B w w' := by
  obtain ⟨i0, hi, hz0, hz1, hz2⟩ := info_parts byte_info
  have hts : (strB t).size = t.length := by show t.toArray.size = _; simp
  have HTS := Lib.hid hts
  have htb : (strB t).size ≤ 140737488355328 := by omega
  clear hts
  go_enter Tryz.func67, Tryz.ntmps67
  go_wp2_with fail
  refine (copyCheck_any B b (Lib.byteCells l) _ h).mono ?_
  rintro e w1 ⟨rfl, h1, hb1⟩
  obtain ⟨hB, v, hbk, hown, hne⟩ := h1
  have hlen' : (Lib.byteCells l).length = l.length := Lib.byteCells_length l
  have hlt : b < w1.heap.size := Lib.BuilderAt.lt ⟨hB, v, hbk, hown, hne⟩
  have hbs := hb1.size
  have HLEN := Lib.hid hlen'
  have c0 : w1.cell? ⟨b, 0, none⟩ = some (.pointer (some ⟨b, 0, none⟩)) := by rw [Lib.cell_of_heap hbk]; rfl
  have c1 : w1.cell? ⟨b, 1, none⟩ = some v := by rw [Lib.cell_of_heap hbk]; rfl
  have HBK := Lib.hid hbk
  clear hbk hlen'
  go_wp2_with (at_builtin; refine Lib.wpList_append_own_string _ rfl _ _ 103 9 rfl B 5 i0 Tryz.underlying103 Tryz.underlying9 hi hz0 hz1 hz2 _ _ _ rfl hown (strB t) rfl (by rw [HLEN.out, HTS.out]; unfold maxLen; omega) (by rw [HLEN.out, HTS.out]; omega) (by omega) ?_)
  intro v' w2 hown' hgrow _
  have hb2 : w2.heap[b]? = some (.cells #[.pointer (some ⟨b, 0, none⟩), v] 106 (0, 0)) := by
    rw [hgrow.block b hlt (fun e => hne e.symm)]
    exact HBK.out
  have d0 : w2.cell? ⟨b, 0, none⟩ = some (.pointer (some ⟨b, 0, none⟩)) := by rw [Lib.cell_of_heap hb2]; rfl
  have d1 : w2.cell? ⟨b, 1, none⟩ = some v := by rw [Lib.cell_of_heap hb2]; rfl
  have f1 : w2.frozen? ⟨b, 1, none⟩ = false := Lib.frozen_of_heap hb2 1
  obtain ⟨ao, n', cap, rfl⟩ : ∃ ao n' cap, v' = .slice ao n' cap := by
    rcases hown'.2 with ⟨hv, _⟩ | ⟨g, cap, cur, hv, _⟩
    · exact ⟨_, _, _, hv⟩
    · exact ⟨_, _, _, hv⟩
  have HB2 := Lib.hid hb2
  clear hb2
  go_wp2
  go_ret2
  refine ⟨rfl, ?_, ?_⟩
  · have e : Lib.byteCells (l ++ t) = Lib.byteCells l ++ Lib.strCells (strB t) := by
      simp [Lib.byteCells, Lib.strCells, strB]
    unfold Bld
    rw [e]
    exact Or.inr (Lib.BuilderAt.put (T := 106) (e := 5) hB HB2.out (bs' := Lib.byteCells l ++ Lib.strCells (strB t)) (by simpa [Lib.strCells_length] using hown') (by decide))
  · exact (hb1.grown hgrow (by omega) (fun k hk => (hown.lt k hk).1)).setCell (p := ⟨b, 1, none⟩) hB _
theorem builder_string (B b : Nat) (l : List UInt8) (w : World) (h : Bld B b l w) (hBw : B ≤ w.heap.size) :
    Calls Tryz.prog 68 #[.pointer (some ⟨b, 0, none⟩)] w fun e w' => e = .returned (.string (strB l)) ∧ Below B w w' :=
  Tryz.Builder_String_any B b l w h hBw
theorem bld_new (w : World) : Bld w.heap.size w.heap.size [] (w.alloc (.cells #[.pointer none, .slice none 0 0] 106)) :=
  Lib.fresh_isBuilder _ _ _
/-- What lies in other blocks than the builder's, and in none of its own, leaves it as it is. -/
theorem Bld.below {B b : Nat} {l : List UInt8} {w w' : World} (h : Bld B b l w) (hb : Below w.heap.size w w') : Bld B b l w' := by
  have key : ∀ p, Lib.BuilderAt 106 5 B b p (Lib.byteCells l) w → Lib.BuilderAt 106 5 B b p (Lib.byteCells l) w' := by
    rintro p ⟨hB, v, hbk, hown, hne⟩
    have hlt : b < w.heap.size := Lib.BuilderAt.lt ⟨hB, v, hbk, hown, hne⟩
    exact ⟨hB, v, (hb.block b hlt).trans hbk, World.ownsRow.kept hown (grown_of_below hb none) (by cases hv : v.ownBlock <;> simp), hne⟩
  exact h.imp (key _) (key _)
end Go.Proofs.YtinbdflkpbjmcaaGreatDoor

/- What the reference's Trim returns: the bytes without blanks at both ends. -/
namespace Go.Proofs.YtinbdflkpbjmcaaGreatDoor
open Go.RowKit

def blank (c : UInt8) : Bool := [32, 9].contains c
theorem blank_iff (c : UInt8) : blank c = true ↔ c.toNat = 32 ∨ c.toNat = 9 := by
  simp only [blank, List.contains_iff_mem, List.mem_cons, List.mem_nil_iff, or_false]
  constructor
  · rintro (h | h) <;> subst h <;> simp
  · rintro (h | h)
    · exact .inl (UInt8.toNat_inj.mp h)
    · exact .inr (UInt8.toNat_inj.mp h)
def tL (l : List UInt8) : List UInt8 := l.dropWhile blank
def tR (l : List UInt8) : List UInt8 := (l.reverse.dropWhile blank).reverse
theorem tR_cons (c : UInt8) (t : List UInt8) : tR (c :: t) = if tR t = [] ∧ blank c = true then [] else c :: tR t := by
  unfold tR
  rw [List.reverse_cons, List.dropWhile_append]
  cases h : t.reverse.dropWhile blank with
  | nil =>
    cases hc : blank c <;> simp [hc]
  | cons a r => simp
theorem tL_cons (c : UInt8) (t : List UInt8) : tL (c :: t) = if blank c = true then tL t else c :: t := by
  unfold tL; rw [List.dropWhile_cons]
theorem tR_tL (l : List UInt8) : tR (tL l) = tL (tR l) := by
  induction l with
  | nil => rfl
  | cons c t ih =>
    rw [tL_cons, tR_cons]
    by_cases hc : blank c = true
    · rw [if_pos hc, ih]
      by_cases ht : tR t = []
      · rw [if_pos ⟨ht, hc⟩, ht]
      · rw [if_neg (fun h => ht h.1), tL_cons, if_pos hc]
    · rw [if_neg hc, if_neg (fun h => hc h.2), tR_cons, if_neg (fun h => hc h.2), tL_cons, if_neg hc]
theorem trimB_eq (l : List UInt8) : trimB l = tR (tL l) := by rw [tR_tL]; rfl
theorem tR_snoc (t : List UInt8) (c : UInt8) : tR (t ++ [c]) = if blank c = true then tR t else t ++ [c] := by
  unfold tR
  rw [List.reverse_append]
  show (List.dropWhile blank (c :: t.reverse)).reverse = _
  rw [List.dropWhile_cons]
  split <;> simp

theorem strB_tail (c : UInt8) (t : List UInt8) : (strB (c :: t)).extract 1 (t.length + 1) = strB t := by
  apply strB_ext; rw [Lib.extract_data, strB_list]; simp
theorem strB_init (t : List UInt8) (c : UInt8) : (strB (t ++ [c])).extract 0 t.length = strB t := by
  apply strB_ext; rw [Lib.extract_data, strB_list]; simp

theorem front (l : List UInt8) : (∃ c t, l = c :: t ∧ blank c = true ∧ ((c.toNat : Int) == 32) = true) ∨ (∃ c t, l = c :: t ∧ blank c = true ∧ ((c.toNat : Int) == 32) = false ∧ ((c.toNat : Int) == 9) = true) ∨
    (l = [] ∨ ∃ c t, l = c :: t ∧ blank c = false ∧ ((c.toNat : Int) == 32) = false ∧ ((c.toNat : Int) == 9) = false) := by
  cases l with
  | nil => exact .inr (.inr (.inl rfl))
  | cons c t =>
    by_cases h1 : c.toNat = 32
    · exact .inl ⟨c, t, rfl, (blank_iff c).mpr (.inl h1), by simp; omega⟩
    · by_cases h2 : c.toNat = 9
      · exact .inr (.inl ⟨c, t, rfl, (blank_iff c).mpr (.inr h2), by simp; omega, by simp; omega⟩)
      · refine .inr (.inr (.inr ⟨c, t, rfl, ?_, by simp; omega, by simp; omega⟩))
        rw [Bool.eq_false_iff]; intro h; rcases (blank_iff c).mp h with h | h
        · exact h1 h
        · exact h2 h
theorem front_done {l : List UInt8} (h : l = [] ∨ ∃ c t, l = c :: t ∧ blank c = false ∧ ((c.toNat : Int) == 32) = false ∧ ((c.toNat : Int) == 9) = false) : tL l = l := by
  rcases h with rfl | ⟨c, t, rfl, hb, _⟩
  · rfl
  · rw [tL_cons, hb]; rfl

def lenV : Value → Nat
  | .string b => b.size
  | _ => 0
theorem lenV_s (l : List UInt8) : lenV (.string (strB l)) = l.length := strB_size l
theorem back (l : List UInt8) : (∃ c t, l = t ++ [c] ∧ blank c = true ∧ ((c.toNat : Int) == 32) = true) ∨ (∃ c t, l = t ++ [c] ∧ blank c = true ∧ ((c.toNat : Int) == 32) = false ∧ ((c.toNat : Int) == 9) = true) ∨
    (l = [] ∨ ∃ c t, l = t ++ [c] ∧ blank c = false ∧ ((c.toNat : Int) == 32) = false ∧ ((c.toNat : Int) == 9) = false) := by
  rcases List.eq_nil_or_concat l with rfl | ⟨t, c, rfl⟩
  · exact .inr (.inr (.inl rfl))
  · rcases front [c] with ⟨c', t', h, r⟩ | ⟨c', t', h, r⟩ | h | ⟨c', t', h, r⟩
    · simp only [List.cons.injEq] at h; obtain ⟨rfl, _⟩ := h; exact .inl ⟨c, t, by simp, r⟩
    · simp only [List.cons.injEq] at h; obtain ⟨rfl, _⟩ := h; exact .inr (.inl ⟨c, t, by simp, r⟩)
    · cases h
    · simp only [List.cons.injEq] at h; obtain ⟨rfl, _⟩ := h; exact .inr (.inr (.inr ⟨c, t, by simp, r⟩))
theorem back_done {l : List UInt8} (h : l = [] ∨ ∃ c t, l = t ++ [c] ∧ blank c = false ∧ ((c.toNat : Int) == 32) = false ∧ ((c.toNat : Int) == 9) = false) : tR l = l := by
  rcases h with rfl | ⟨c, t, rfl, hb, _⟩
  · rfl
  · rw [tR_snoc, hb]; rfl
theorem last_byte (t : List UInt8) (c : UInt8) (h : t.length < (strB (t ++ [c])).size) : (strB (t ++ [c]))[t.length] = c := by
  have : (strB (t ++ [c]))[t.length] = (strB (t ++ [c])).data.toList[t.length]'(by rw [strB_list]; simp) := rfl
  rw [this]; simp only [strB_list]; simp

set_option maxHeartbeats 1000000 in
set_option maxRecDepth 100000 in
theorem refTrim_any (L : List UInt8) (w : World) (hs : L.length ≤ 1000000) :
    Calls Tryz.prog 118 #[.string (strB L)] w fun e w' => e = .returned (.string (strB (trimB L))) ∧ w = w' := by
  go_enter Tryz.func118, Tryz.ntmps118
  go_wp2
  go_loop [0] (fun u => ∃ l : List UInt8, u = .string (strB l) ∧ tL l = tL L ∧ l.length ≤ L.length) (fun u => lenV u)
  case atStart => exact ⟨L, rfl, rfl, Nat.le_refl _⟩
  case round =>
    obtain ⟨l, rfl, hl, hle⟩ := hrel
    have HL := Lib.hid hl
    clear hl
    rcases front l with ⟨c, t, rfl, hb, ha1⟩ | ⟨c, t, rfl, hb, ha1, ha2⟩ | he
    · have ez : (strB (c :: t)).size = t.length + 1 := strB_size _
      have e0 : (strB (c :: t))[0]'(by omega) = c := rfl
      have HB := Lib.hid hb
      simp only [List.length_cons] at hle
      clear hb
      go_wp2
      go_round
      case rel => exact ⟨t, by rw [strB_tail], by rw [← HL.out, tL_cons, if_pos HB.out], by omega⟩
      case measure => rw [strB_tail, lenV_s, lenV_s]; simp
    · have ez : (strB (c :: t)).size = t.length + 1 := strB_size _
      have e0 : (strB (c :: t))[0]'(by omega) = c := rfl
      have HB := Lib.hid hb
      simp only [List.length_cons] at hle
      clear hb
      go_wp2
      go_round
      case rel => exact ⟨t, by rw [strB_tail], by rw [← HL.out, tL_cons, if_pos HB.out], by omega⟩
      case measure => rw [strB_tail, lenV_s, lenV_s]; simp
    · have hlx : tL l = l := front_done he
      have HX := Lib.hid hlx
      clear hlx
      rcases he with rfl | ⟨c, t, rfl, hb, ha1, ha2⟩
      all_goals
        first
        | (have ez : (strB (c :: t)).size = t.length + 1 := strB_size _
           have e0 : (strB (c :: t))[0]'(by omega) = c := rfl
           simp only [List.length_cons] at hle
           have HB := Lib.hid hb
           clear hb)
        | (have ez : (strB []).size = 0 := rfl)
        go_wp2
        go_loop [0] (fun u => ∃ l : List UInt8, u = .string (strB l) ∧ tR l = tR (tL L) ∧ l.length ≤ L.length) (fun u => lenV u)
        case atStart => exact ⟨_, rfl, by rw [← HL.out, HX.out], by first | exact hle | simpa using hle⟩
        case round =>
          obtain ⟨m, rfl, hm, hme⟩ := hrel
          have HM := Lib.hid hm
          clear hm
          try clear e0
          clear ez
          rcases back m with ⟨d, r, rfl, hb, hd1⟩ | ⟨d, r, rfl, hb, hd1, hd2⟩ | he
          · have ez : (strB (r ++ [d])).size = r.length + 1 := by rw [strB_size]; simp
            have e0 := last_byte r d (by omega)
            have HD := Lib.hid hb
            simp only [List.length_append, List.length_singleton] at hme
            clear hb
            go_wp2
            go_round
            case rel => exact ⟨r, by rw [strB_init], by rw [← HM.out, tR_snoc, if_pos HD.out], by omega⟩
            case measure => rw [strB_init, lenV_s, lenV_s]; simp
          · have ez : (strB (r ++ [d])).size = r.length + 1 := by rw [strB_size]; simp
            have e0 := last_byte r d (by omega)
            have HD := Lib.hid hb
            simp only [List.length_append, List.length_singleton] at hme
            clear hb
            go_wp2
            go_round
            case rel => exact ⟨r, by rw [strB_init], by rw [← HM.out, tR_snoc, if_pos HD.out], by omega⟩
            case measure => rw [strB_init, lenV_s, lenV_s]; simp
          · have hmx : tR m = m := back_done he
            have HMX := Lib.hid hmx
            clear hmx
            have fin : strB m = strB (trimB L) := by rw [trimB_eq, ← HM.out, HMX.out]
            have FIN := Lib.hid fin
            clear fin
            rcases he with rfl | ⟨d, r, rfl, hb, hd1, hd2⟩
            · have ez : (strB []).size = 0 := rfl
              go_wp2
              go_ret
              exact ⟨by rw [← FIN.out]; rfl, rfl⟩
            · have ez : (strB (r ++ [d])).size = r.length + 1 := by rw [strB_size]; simp
              have e0 := last_byte r d (by omega)
              have HD := Lib.hid hb
              simp only [List.length_append, List.length_singleton] at hme
              clear hb
              go_wp2
              go_ret
              exact ⟨by rw [← FIN.out]; rfl, rfl⟩
end Go.Proofs.YtinbdflkpbjmcaaGreatDoor
