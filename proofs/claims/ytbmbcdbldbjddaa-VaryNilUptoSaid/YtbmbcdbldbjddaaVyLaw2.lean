/- VaryNil: the walk. -/
import Derived.Test.YtbmbcdbldbjddaaVyLaw1
namespace Go.Proofs.Ytbmbcdbldbjddaa
open Go.RowKit

theorem nilPut_any (nv fv : Value) (id : Int) (w : World) :
    Calls Try.prog 24 #[.pointer none, nv, fv, .int .i64 id] w fun x w' => x = .returned (.slice none 0 0) ∧ Below w.heap.size w w' := by
  go_enter Try.func24, Try.ntmps24
  go_wp2
  go_ret
  exact ⟨rfl, Below.refl _ _⟩
abbrev stV (a : Int) (n f : Value) (b : Int) : Value := .agg #[.int .u8 a, n, f, .int .i8 b]
set_option maxHeartbeats 8000000 in
set_option maxRecDepth 100000 in
theorem vy_nil_walk (x y : Int) (na : Option Addr) (nc : Nat) (ns : List (List UInt8)) (fa : Option Addr) (fc : Nat) (ps : Flds) (w : World) (hn : ReadsS w (.slice na ns.length nc) ns) (hr : ReadsQ w (.slice fa ps.length fc) ps) (bn : ns.length + sumL ns ≤ 90000000) (bf : 2 * ps.length + totL ps ≤ 90000000) (hy : -128 ≤ y ∧ y ≤ 127) :
    Calls Try.prog 8 #[stV x (.slice na ns.length nc) (.slice fa ps.length fc) y] w fun e w' => e = .returned (.bool true) ∧ Below w.heap.size w w' := by
  obtain ⟨hy1, hy2⟩ := hy
  have HL := Lib.hid (fun (W : World) (hB : Below w.heap.size w W) => long16_any _ ns W (hn.below hB) bn)
  have HG := Lib.hid (fun (W : World) (hB : Below w.heap.size w W) => largeOne_any _ ps W (hr.below hB) bf)
  have HA := Lib.hid (fun (W : World) => awake16_any W)
  have HR := Lib.hid hr
  have hB0 := below_new w (.cells #[.int .u8 x, .slice na ns.length nc, .slice fa ps.length fc, .int .i8 y] 45)
  have k1 : (w.alloc (.cells #[.int .u8 x, .slice na ns.length nc, .slice fa ps.length fc, .int .i8 y] 45)).cell? ⟨w.heap.size, 1, none⟩ = some (.slice na ns.length nc) := by rw [World.cell?_alloc_at _ _ _ _ rfl]; rfl
  have k2 : (w.alloc (.cells #[.int .u8 x, .slice na ns.length nc, .slice fa ps.length fc, .int .i8 y] 45)).cell? ⟨w.heap.size, 2, none⟩ = some (.slice fa ps.length fc) := by rw [World.cell?_alloc_at _ _ _ _ rfl]; rfl
  have k3 : (w.alloc (.cells #[.int .u8 x, .slice na ns.length nc, .slice fa ps.length fc, .int .i8 y] 45)).cell? ⟨w.heap.size, 3, none⟩ = some (.int .i8 y) := by rw [World.cell?_alloc_at _ _ _ _ rfl]; rfl
  have hs0 : w.heap.size < (w.alloc (.cells #[.int .u8 x, .slice na ns.length nc, .slice fa ps.length fc, .int .i8 y] 45)).heap.size := by simp
  clear hn hr bn bf
  go_enter Try.func8, Try.ntmps8
  go_upto_region 1 with fail
  change Code.wp _ _ _ _ (w.alloc (.cells #[.int .u8 x, .slice na ns.length nc, .slice fa ps.length fc, .int .i8 y] 45))
  generalize (w.alloc (.cells #[.int .u8 x, .slice na ns.length nc, .slice fa ps.length fc, .int .i8 y] 45)) = W0 at *
  cases h1 : lonB ns with
  | true =>
    rw [h1] at HL
    clear h1
    go_wp2_with fail
    refine (HL.out _ hB0).mono ?_
    rintro e w1 ⟨rfl, rfl⟩
    go_wp2_with fail
    refine (HL.out _ hB0).mono ?_
    rintro e w2 ⟨rfl, rfl⟩
    go_wp2_with fail
    go_ret
    exact ⟨rfl, hB0⟩
  | false =>
    rw [h1] at HL
    clear h1
    have HB0 := Lib.hid hB0
    have HS0 := Lib.hid (fun (W : World) (hB : Below W0.heap.size W0 W) => (show W.cell? ⟨w.heap.size, 1, none⟩ = some (.slice na ns.length nc) ∧ W.cell? ⟨w.heap.size, 2, none⟩ = some (.slice fa ps.length fc) ∧ W.cell? ⟨w.heap.size, 3, none⟩ = some (.int .i8 y) from ⟨(hB.cell (p := ⟨w.heap.size, 1, none⟩) hs0).trans k1, (hB.cell (p := ⟨w.heap.size, 2, none⟩) hs0).trans k2, (hB.cell (p := ⟨w.heap.size, 3, none⟩) hs0).trans k3⟩))
    have HZ0 := Lib.hid hs0
    cases h2 : lgV [(Value.slice fa ps.length fc, ps)] with
    | true =>
      rw [h2] at HG
      clear h2 hB0 hs0
      go_wp2_with fail
      refine (HL.out _ HB0.out).mono ?_
      rintro e w1 ⟨rfl, rfl⟩
      go_wp2_with fail
      refine (HG.out _ HB0.out).mono ?_
      rintro e w2 ⟨rfl, hB2⟩
      obtain ⟨q1, q2, q3⟩ := HS0.out w2 hB2
      have HB2 := Lib.hid (HB0.out.trans (hB2.mono HB0.out.size))
      clear hB2 k1 k2 k3
      go_wp2_with fail
      refine (HL.out _ HB2.out).mono ?_
      rintro e w3 ⟨rfl, rfl⟩
      go_wp2_with fail
      refine (HG.out _ HB2.out).mono ?_
      rintro e w4 ⟨rfl, hB4⟩
      go_wp2_with fail
      go_ret
      exact ⟨rfl, HB2.out.trans (hB4.mono HB2.out.size)⟩
    | false =>
      rw [h2] at HG
      have hb3 := lg_fit1 h2
      have HF := Lib.hid (fun (W : World) (hB : Below w.heap.size w W) => fieldsK_any fa fc ps W (HR.out.below hB) hb3)
      have HP := Lib.hid (fun (nv fv : Value) (id : Int) (w : World) => nilPut_any nv fv id w)
      have HX := Lib.hid (fun (fa : Option Addr) (n fc : Nat) (w : World) => nilFind_any fa n fc w)
      have HM := Lib.hid (fun (id : Int) (w : World) => nilRemove_any id w)
      have HI := Lib.hid (fun (w : World) => nilIDs_any w)
      have HW := Lib.hid (fun (w : World) => setNew_any w)
      have HJ := Lib.hid (fun (sa : Nat) (F : Nat → Prop) (w : World) (h : SetO F w sa []) => setIDs_any sa [] F w h fitV_nil)
      clear h2 hb3 hB0 hs0
      go_wp2_with fail
      refine (HL.out _ HB0.out).mono ?_
      rintro e w1 ⟨rfl, rfl⟩
      go_wp2_with fail
      refine (HG.out _ HB0.out).mono ?_
      rintro e w2 ⟨rfl, hB2⟩
      have HC2 := Lib.hid hB2
      clear hB2
      go_wp2_with fail
      refine (HA.out _).mono ?_
      rintro e w3 ⟨rfl, hB3⟩
      have HC3 := Lib.hid (HC2.out.trans (hB3.mono HC2.out.size))
      obtain ⟨q1, q2, q3⟩ := HS0.out w3 HC3.out
      clear hB3 k1 k2 k3
      go_wp2_with fail
      refine (HF.out _ (HB0.out.trans (HC3.out.mono HB0.out.size))).mono ?_
      rintro e w4 ⟨a4, c4, rfl, hR4, _, hB4⟩
      have HC4 := Lib.hid (HC3.out.trans (hB4.mono HC3.out.size))
      obtain ⟨k1, k2, k3⟩ := HS0.out w4 HC4.out
      clear hB4 hR4 q1 q2 q3
      go_wp2_with fail
      refine (HP.out _ _ _ _).mono ?_
      rintro e w5 ⟨rfl, hB5⟩
      have HC5 := Lib.hid (HC4.out.trans (hB5.mono HC4.out.size))
      clear hB5 k1 k2 k3
      go_wp2_with fail
      refine (HX.out _ _ _ _).mono ?_
      rintro e w6 ⟨rfl, hB6⟩
      have HC6 := Lib.hid (HC5.out.trans (hB6.mono HC5.out.size))
      obtain ⟨k1, k2, k3⟩ := HS0.out w6 HC6.out
      clear hB6
      go_wp2_with fail
      refine (HM.out _ _).mono ?_
      rintro e w7 ⟨rfl, hB7⟩
      have HC7 := Lib.hid (HC6.out.trans (hB7.mono HC6.out.size))
      clear hB7 k1 k2 k3
      go_wp2_with fail
      refine (HI.out _).mono ?_
      rintro e w8 ⟨rfl, hB8⟩
      have HC8 := Lib.hid (HC7.out.trans (hB8.mono HC7.out.size))
      clear hB8
      go_wp2_with fail
      refine (HW.out _).mono ?_
      rintro e w9 ⟨rfl, hS9, hB9⟩
      have HC9 := Lib.hid (HC8.out.trans (hB9.mono HC8.out.size))
      clear hB9
      go_wp2_with fail
      refine (HJ.out _ _ _ hS9).mono ?_
      rintro e w10 ⟨v, rfl, hO, hB10⟩
      have HC10 := Lib.hid (HC9.out.trans (hB10.mono HC9.out.size))
      obtain ⟨va, vc, rfl, _⟩ := id hO.reads
      clear hB10 hS9 hO
      go_wp2_with fail
      go_ret
      exact ⟨rfl, HB0.out.trans (HC10.out.mono HB0.out.size)⟩
end Go.Proofs.Ytbmbcdbldbjddaa
