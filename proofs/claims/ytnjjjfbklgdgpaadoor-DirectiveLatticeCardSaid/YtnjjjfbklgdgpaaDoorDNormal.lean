/- What normal returns. -/
import Derived.Test.YtnjjjfbklgdgpaaDoorDNorm
namespace Go.Proofs.YtnjjjfbklgdgpaaDoor
open Go.RowKit

/-- All times fit into 64 bits. -/
structure FitD (d : Dv) : Prop where
  ma : In64 d.ma
  sa : In64 d.sa
  ws : In64 d.ws
  oe : In64 d.oe
  ms : In64 d.ms
  mf : In64 d.mf
theorem Nor.fit {d : Dv} (h : Nor d) : FitD d := by
  obtain ⟨h1, h2, h3, h4, h5, h6⟩ := h
  exact ⟨⟨by omega, by omega⟩, ⟨by omega, by omega⟩, ⟨by omega, by omega⟩, ⟨by omega, by omega⟩, ⟨by omega, by omega⟩, ⟨by omega, by omega⟩⟩
set_option maxHeartbeats 8000000 in
set_option maxRecDepth 100000 in
theorem normal_any (d : Dv) (w : World) (hd : FitD d) :
    Calls Tryd.prog 31 #[dvV d] w fun e w' => e = .returned (dvV (normD d)) ∧ Below w.heap.size w w' := by
  have HF := Lib.hid hd
  have HB := Lib.hid ((below_new w (.cells (dvC d) 28)).alloc (by simp) (.cells (dvC zD) 28))
  have HA := Lib.hid ((dvB_new w d 28).below (below_new _ (.cells (dvC zD) 28)))
  have hR := dvB_new (w.alloc (.cells (dvC d) 28)) zD 28
  have e1 : (w.alloc (.cells (dvC d) 28)).heap.size = w.heap.size + 1 := by simp
  rw [e1] at hR
  have HR := Lib.hid hR
  clear hR hd e1
  go_enter Tryd.func31, Tryd.ntmps31
  go_upto_region 1 with fail
  change Code.wp _ _ _ _ ((w.alloc (.cells (dvC d) 28)).alloc (.cells (dvC zD) 28))
  generalize ((w.alloc (.cells (dvC d) 28)).alloc (.cells (dvC zD) 28)) = W at *
  obtain ⟨a0, a1, a2, a3, a4, a5, a6, a7, a8, a9, a10, a11, fa, la⟩ := HA.out
  have fj := fa 6
  go_upto_region 2 with (go_at_call 49; refine (normalTime_any _ _ HF.out.ma).mono ?_; rintro e w' ⟨rfl, rfl⟩)
  have HA1 := Lib.hid (HA.out.set6 (normT d.ma))
  have HR1 := Lib.hid (HR.out.only (Only.set (X := (· = w.heap.size)) rfl _ 6 (.int .i64 (normT d.ma))) (by omega))
  have HB1 := Lib.hid (HB.out.setCell (p := ⟨w.heap.size, 6, none⟩) (Nat.le_refl _) (.int .i64 (normT d.ma)))
  clear a0 a1 a2 a3 a4 a5 a6 a7 a8 a9 a10 a11 fa la fj
  generalize W.setCell ⟨w.heap.size, 6, none⟩ (.int .i64 (normT d.ma)) = W1 at *
  clear HA HR HB
  obtain ⟨a0, a1, a2, a3, a4, a5, a6, a7, a8, a9, a10, a11, fa, la⟩ := HA1.out
  have fj := fa 7
  go_upto_region 3 with (go_at_call 49; refine (normalTime_any _ _ HF.out.sa).mono ?_; rintro e w' ⟨rfl, rfl⟩)
  have HA2 := Lib.hid (HA1.out.set7 (normT d.sa))
  have HR2 := Lib.hid (HR1.out.only (Only.set (X := (· = w.heap.size)) rfl _ 7 (.int .i64 (normT d.sa))) (by omega))
  have HB2 := Lib.hid (HB1.out.setCell (p := ⟨w.heap.size, 7, none⟩) (Nat.le_refl _) (.int .i64 (normT d.sa)))
  clear a0 a1 a2 a3 a4 a5 a6 a7 a8 a9 a10 a11 fa la fj
  generalize W1.setCell ⟨w.heap.size, 7, none⟩ (.int .i64 (normT d.sa)) = W2 at *
  clear HA1 HR1 HB1
  obtain ⟨a0, a1, a2, a3, a4, a5, a6, a7, a8, a9, a10, a11, fa, la⟩ := HA2.out
  have fj := fa 8
  go_upto_region 4 with (go_at_call 49; refine (normalTime_any _ _ HF.out.ws).mono ?_; rintro e w' ⟨rfl, rfl⟩)
  have HA3 := Lib.hid (HA2.out.set8 (normT d.ws))
  have HR3 := Lib.hid (HR2.out.only (Only.set (X := (· = w.heap.size)) rfl _ 8 (.int .i64 (normT d.ws))) (by omega))
  have HB3 := Lib.hid (HB2.out.setCell (p := ⟨w.heap.size, 8, none⟩) (Nat.le_refl _) (.int .i64 (normT d.ws)))
  clear a0 a1 a2 a3 a4 a5 a6 a7 a8 a9 a10 a11 fa la fj
  generalize W2.setCell ⟨w.heap.size, 8, none⟩ (.int .i64 (normT d.ws)) = W3 at *
  clear HA2 HR2 HB2
  obtain ⟨a0, a1, a2, a3, a4, a5, a6, a7, a8, a9, a10, a11, fa, la⟩ := HA3.out
  have fj := fa 9
  go_upto_region 5 with (go_at_call 49; refine (normalTime_any _ _ HF.out.oe).mono ?_; rintro e w' ⟨rfl, rfl⟩)
  have HA4 := Lib.hid (HA3.out.set9 (normT d.oe))
  have HR4 := Lib.hid (HR3.out.only (Only.set (X := (· = w.heap.size)) rfl _ 9 (.int .i64 (normT d.oe))) (by omega))
  have HB4 := Lib.hid (HB3.out.setCell (p := ⟨w.heap.size, 9, none⟩) (Nat.le_refl _) (.int .i64 (normT d.oe)))
  clear a0 a1 a2 a3 a4 a5 a6 a7 a8 a9 a10 a11 fa la fj
  generalize W3.setCell ⟨w.heap.size, 9, none⟩ (.int .i64 (normT d.oe)) = W4 at *
  clear HA3 HR3 HB3
  obtain ⟨a0, a1, a2, a3, a4, a5, a6, a7, a8, a9, a10, a11, fa, la⟩ := HA4.out
  have fj := fa 10
  go_upto_region 6 with (go_at_call 49; refine (normalTime_any _ _ HF.out.ms).mono ?_; rintro e w' ⟨rfl, rfl⟩)
  have HA5 := Lib.hid (HA4.out.set10 (normT d.ms))
  have HR5 := Lib.hid (HR4.out.only (Only.set (X := (· = w.heap.size)) rfl _ 10 (.int .i64 (normT d.ms))) (by omega))
  have HB5 := Lib.hid (HB4.out.setCell (p := ⟨w.heap.size, 10, none⟩) (Nat.le_refl _) (.int .i64 (normT d.ms)))
  clear a0 a1 a2 a3 a4 a5 a6 a7 a8 a9 a10 a11 fa la fj
  generalize W4.setCell ⟨w.heap.size, 10, none⟩ (.int .i64 (normT d.ms)) = W5 at *
  clear HA4 HR4 HB4
  obtain ⟨a0, a1, a2, a3, a4, a5, a6, a7, a8, a9, a10, a11, fa, la⟩ := HA5.out
  have fj := fa 11
  go_upto_region 7 with (go_at_call 49; refine (normalTime_any _ _ HF.out.mf).mono ?_; rintro e w' ⟨rfl, rfl⟩)
  have HA6 := Lib.hid (HA5.out.set11 (normT d.mf))
  have HR6 := Lib.hid (HR5.out.only (Only.set (X := (· = w.heap.size)) rfl _ 11 (.int .i64 (normT d.mf))) (by omega))
  have HB6 := Lib.hid (HB5.out.setCell (p := ⟨w.heap.size, 11, none⟩) (Nat.le_refl _) (.int .i64 (normT d.mf)))
  clear a0 a1 a2 a3 a4 a5 a6 a7 a8 a9 a10 a11 fa la fj
  generalize W5.setCell ⟨w.heap.size, 11, none⟩ (.int .i64 (normT d.mf)) = W6 at *
  clear HA5 HR5 HB5
  obtain ⟨a0, a1, a2, a3, a4, a5, a6, a7, a8, a9, a10, a11, fa, la⟩ := HA6.out
  obtain ⟨c0, c1, c2, c3, c4, c5, c6, c7, c8, c9, c10, c11, fr, lt⟩ := HR6.out
  have hBw := below_dv HB6.out (Nat.le_succ _) (.bool d.ns) (.bool d.nc) (.bool d.pr) (.bool d.pu) (.bool d.mr) (.bool d.oc) (.int .i64 (normT d.ma)) (.int .i64 (normT d.sa)) (.int .i64 (normT d.ws)) (.int .i64 (normT d.oe)) (.int .i64 (normT d.ms)) (.int .i64 (normT d.mf))
  have HBW := Lib.hid hBw
  clear HA6 HR6 HB6 hBw
  go_wp2_with fail
  refine bodyPost_ret (v := dvV (normD d)) (by simp [results, Tryd.results31, go_sem, c0, c1, c2, c3, c4, c5, c6, c7, c8, c9, c10, c11, normD]) rfl ?_
  exact ⟨rfl, HBW.out⟩
end Go.Proofs.YtnjjjfbklgdgpaaDoor
