/- What the program's Lenient and Ambiguous return. -/
import Derived.Test.YthjkneifffdglaaDoorJParts
import Derived.Test.YthjkneifffdglaaDoorJOfF
import Derived.Deep.RegionHeld3
import Derived.Deep.DeepCutAuto
import Derived.BigRegion
namespace Go.Proofs.YthjkneifffdglaaDoor
open Go.RowKit

def lenR (o : Option Nat) (b f : Bool) : Nat × Nat := if b = true ∧ (f = false ∨ o = none) then (3, 0) else match o with
  | some n => (2, n)
  | none => (1, 0)
theorem lenientS_R (ls cs : List (List UInt8)) (f : Bool) : lenientS ls cs f = lenR (firstN (cutsL ls)) (isChunked (cutsL cs)) f := rfl
/-- What a careless reader takes for the frame of the fields. -/
abbrev lenP (ps : Flds) (f : Bool) : Nat × Nat := lenientS (lsF ps) (csF ps) f
set_option maxHeartbeats 8000000 in
set_option maxRecDepth 100000 in
theorem lenient_any (m t : List UInt8) (fv : Value) (ps : Flds) (f : Bool) (w : World) (hr : ReadsQ w fv ps) (hf : Fits ps) (hM : HasMax w) :
    Calls Tryd.prog 21 #[.agg #[.string (strB m), .string (strB t), fv], .bool f] w (fun e w' => e = .returned (frV (lenP ps f).1 (lenP ps f).2) ∧ Below w.heap.size w w') := by
  have HR := Lib.hid hr
  have HM := Lib.hid hM
  have A1 := Lib.hid (fun W (hr : ReadsQ W fv ps) => allCL_any fv ps W hr hf)
  have A2 := Lib.hid (fun W (hr : ReadsQ W fv ps) => allTE_any fv ps W hr hf)
  have L := Lib.hid (fun v W (hr : ReadsS W v (lsF ps)) hM => lenientLength_any v (lsF ps) W hr (hf.room clN) hM)
  have C := Lib.hid (fun v W (hr : ReadsS W v (csF ps)) hM => lenientChunked_any v (csF ps) W hr (hf.room teN) hM)
  have e0 : lenP ps f = lenR (firstN (cutsL (lsF ps))) (isChunked (cutsL (csF ps))) f := rfl
  rw [e0]
  generalize firstN (cutsL (lsF ps)) = o at *
  generalize isChunked (cutsL (csF ps)) = b at *
  obtain ⟨ao, cap, rfl, hc⟩ := hr
  have hB0 : Below w.heap.size w (w.alloc (.cells #[.string (strB m), .string (strB t), .slice ao ps.length cap] 36)) := below_new _ _
  have hB1 := hB0.alloc hB0.size (.cells #[.int .i64 0, .int .i64 0] 28)
  have hx2 : ((w.alloc (.cells #[.string (strB m), .string (strB t), .slice ao ps.length cap] 36)).alloc (.cells #[.int .i64 0, .int .i64 0] 28)).cell? ⟨w.heap.size, 2, none⟩ = some (.slice ao ps.length cap) := by
    have hb2 := below_new (w.alloc (.cells #[.string (strB m), .string (strB t), .slice ao ps.length cap] 36)) (.cells #[.int .i64 0, .int .i64 0] 28)
    rw [hb2.cell (p := ⟨w.heap.size, 2, none⟩) (by simp), World.cell?_alloc_at _ _ _ _ rfl]; rfl
  have hxz : w.heap.size < ((w.alloc (.cells #[.string (strB m), .string (strB t), .slice ao ps.length cap] 36)).alloc (.cells #[.int .i64 0, .int .i64 0] 28)).heap.size := by simp; omega
  have ez : (w.alloc (.cells #[.string (strB m), .string (strB t), .slice ao ps.length cap] 36)).heap.size = w.heap.size + 1 := by simp
  have A1 := A1.out _ (HR.out.below hB1)
  clear hc hM e0
  go_enter Tryd.func21, Tryd.ntmps21
  go_wp2_with fail
  refine A1.mono ?_
  rintro e w1 ⟨v1, rfl, hO1, hB2⟩
  have hBa := hB1.trans (hB2.mono hB1.size)
  have LL := L.out v1 w1 hO1.reads (HM.out.below hBa)
  obtain ⟨a1, c1, rfl⟩ := hO1.isSlice
  clear A1 hO1
  go_wp2_with fail
  refine LL.mono ?_
  rintro e w2 ⟨he2, hB3⟩
  have hB23 := hB2.trans (hB3.mono hB2.size)
  have hBb := hB1.trans (hB23.mono hB1.size)
  have y2 : w2.cell? ⟨w.heap.size, 2, none⟩ = some (.slice ao ps.length cap) := (hB23.cell (p := ⟨w.heap.size, 2, none⟩) hxz).trans hx2
  have A2 := A2.out _ (HR.out.below hBb)
  have hev : ∃ n bb, lenV2 o = .tuple #[.int .i64 n, .bool bb] ∧ bb = o.isSome ∧ (n : Int) = ((o.getD 0 : Nat) : Int) := ⟨_, _, rfl, rfl, rfl⟩
  obtain ⟨n, bb, hev, hbb, hn⟩ := hev
  rw [hev] at he2
  subst he2
  have HBB := Lib.hid hbb
  have HN := Lib.hid hn
  clear hev hbb hn LL hB2 hB3 hBa
  go_wp2_with fail
  refine A2.mono ?_
  rintro e w3 ⟨v3, rfl, hO3, hB4⟩
  have hB24 := hB23.trans (hB4.mono hB23.size)
  have hBc := hB1.trans (hB24.mono hB1.size)
  have CC := C.out v3 w3 hO3.reads (HM.out.below hBc)
  obtain ⟨a3, c3, rfl⟩ := hO3.isSlice
  clear A2 hO3 hB4 hB23 hBb y2
  go_wp2_with fail
  refine CC.mono ?_
  rintro e w4 ⟨rfl, hB5⟩
  have hB25 := hB24.trans (hB5.mono hB24.size)
  have hBd := hB1.trans (hB25.mono hB1.size)
  obtain ⟨b0, b1, f0, f1, bz⟩ := frame_kept hB25
  rw [ez] at b0 b1 f0 f1 bz
  have HBS := Lib.hid (fun (x y : Value) => (hBd.setCell (p := ⟨w.heap.size + 1, 0, none⟩) (Nat.le_succ _) x).setCell (p := ⟨w.heap.size + 1, 1, none⟩) (Nat.le_succ _) y)
  clear CC hB5 hB24 hBc hB25 hBd
  cases o with
  | none =>
    obtain rfl : bb = false := HBB.out
    cases b with
    | true =>
      have HE := Lib.hid (show lenR none true f = (3, 0) by cases f <;> rfl)
      go_wp2_with fail
      exact bodyPost_ret (v := .agg #[.int .i64 3, .int .i64 0]) (by simp [results, Tryd.results21, go_sem, b0, b1]) rfl ⟨by rw [HE.out]; rfl, HBS.out _ _⟩
    | false =>
      have HE := Lib.hid (show lenR none false f = (1, 0) by cases f <;> rfl)
      go_wp2_with fail
      exact bodyPost_ret (v := .agg #[.int .i64 1, .int .i64 0]) (by simp [results, Tryd.results21, go_sem, b0, b1]) rfl ⟨by rw [HE.out]; rfl, HBS.out _ _⟩
  | some k =>
    obtain rfl : bb = true := HBB.out
    obtain rfl : n = (k : Int) := HN.out
    cases b with
    | true =>
      cases f with
      | true =>
        have HE := Lib.hid (show lenR (some k) true true = (2, k) by unfold lenR; rw [if_neg (by simp)])
        go_wp2_with fail
        exact bodyPost_ret (v := .agg #[.int .i64 2, .int .i64 k]) (by simp [results, Tryd.results21, go_sem, b0, b1]) rfl ⟨by rw [HE.out]; rfl, HBS.out _ _⟩
      | false =>
        have HE := Lib.hid (show lenR (some k) true false = (3, 0) by unfold lenR; rw [if_pos (by simp)])
        go_wp2_with fail
        exact bodyPost_ret (v := .agg #[.int .i64 3, .int .i64 0]) (by simp [results, Tryd.results21, go_sem, b0, b1]) rfl ⟨by rw [HE.out]; rfl, HBS.out _ _⟩
    | false =>
      have HE := Lib.hid (show lenR (some k) false f = (2, k) by unfold lenR; rw [if_neg (by simp)])
      cases f with
      | true =>
        go_wp2_with fail
        exact bodyPost_ret (v := .agg #[.int .i64 2, .int .i64 k]) (by simp [results, Tryd.results21, go_sem, b0, b1]) rfl ⟨by rw [HE.out]; rfl, HBS.out _ _⟩
      | false =>
        go_wp2_with fail
        exact bodyPost_ret (v := .agg #[.int .i64 2, .int .i64 k]) (by simp [results, Tryd.results21, go_sem, b0, b1]) rfl ⟨by rw [HE.out]; rfl, HBS.out _ _⟩
/-- A request lies in its variable, and its fields are read. -/
def ReqS (M : Nat) (m t : List UInt8) (v : Value) (ps : Flds) (w w' : World) : Prop :=
  w'.cell? ⟨M, 0, none⟩ = some (.string (strB m)) ∧ w'.cell? ⟨M, 1, none⟩ = some (.string (strB t)) ∧ w'.cell? ⟨M, 2, none⟩ = some v ∧ M < w'.heap.size ∧ ReadsQ w' v ps ∧ HasMax w' ∧ Below w.heap.size w w'
theorem ReqS.below {M : Nat} {m t : List UInt8} {v : Value} {ps : Flds} {w w1 w2 : World} (h : ReqS M m t v ps w w1) (hb : Below w1.heap.size w1 w2) : ReqS M m t v ps w w2 := by
  obtain ⟨a0, a1, a2, hM, r, hx, hB⟩ := h
  exact ⟨(hb.cell (p := ⟨M, 0, none⟩) hM).trans a0, (hb.cell (p := ⟨M, 1, none⟩) hM).trans a1, (hb.cell (p := ⟨M, 2, none⟩) hM).trans a2, Nat.lt_of_lt_of_le hM hb.size, r.below hb, hx.below hb, hB.trans (hb.mono hB.size)⟩
theorem lenient_S {M : Nat} {m t : List UInt8} {v : Value} {ps : Flds} {w w1 : World} (f : Bool) (h : ReqS M m t v ps w w1) (hf : Fits ps) :
    Calls Tryd.prog 21 #[.agg #[.string (strB m), .string (strB t), v], .bool f] w1 (fun e w' => e = .returned (frV (lenP ps f).1 (lenP ps f).2) ∧ ReqS M m t v ps w w') :=
  (lenient_any m t v ps f w1 h.2.2.2.2.1 hf h.2.2.2.2.2.1).mono fun _ _ ⟨he, hb⟩ => ⟨he, h.below hb⟩
set_option maxHeartbeats 8000000 in
set_option maxRecDepth 100000 in
theorem ambiguous_any (m t : List UInt8) (fv : Value) (ps : Flds) (w : World) (hr : ReadsQ w fv ps) (hf : Fits ps) (hM : HasMax w) :
    Calls Tryd.prog 20 #[.agg #[.string (strB m), .string (strB t), fv]] w (fun e w' => e = .returned (.bool (decide (lenP ps true ≠ lenP ps false))) ∧ Below w.heap.size w w') := by
  have HR := Lib.hid hr
  obtain ⟨ao, cap, rfl, hc⟩ := hr
  have L := Lib.hid (fun (f : Bool) W (h : ReqS w.heap.size m t (.slice ao ps.length cap) ps w W) => lenient_S f h hf)
  generalize hp : (fun f => lenP ps f) = p at *
  have HP := Lib.hid hp
  rw [show lenP ps true = p true by rw [← hp], show lenP ps false = p false by rw [← hp]]
  have L : Hid (∀ (f : Bool) W (h : ReqS w.heap.size m t (.slice ao ps.length cap) ps w W), Calls Tryd.prog 21 #[.agg #[.string (strB m), .string (strB t), .slice ao ps.length cap], .bool f] W (fun e w' => e = .returned (frV (p f).1 (p f).2) ∧ ReqS w.heap.size m t (.slice ao ps.length cap) ps w w')) := Lib.hid (by rw [← hp]; exact L.out)
  clear hp
  have hB0 : Below w.heap.size w (w.alloc (.cells #[.string (strB m), .string (strB t), .slice ao ps.length cap] 36)) := below_new _ _
  have hx : ∀ j, (w.alloc (.cells #[.string (strB m), .string (strB t), .slice ao ps.length cap] 36)).cell? ⟨w.heap.size, j, none⟩ = (#[.string (strB m), .string (strB t), .slice ao ps.length cap] : Array Value)[j]? := fun j => by rw [World.cell?_alloc_at _ _ _ _ rfl]
  have hS0 : ReqS w.heap.size m t (.slice ao ps.length cap) ps w (w.alloc (.cells #[.string (strB m), .string (strB t), .slice ao ps.length cap] 36)) :=
    ⟨hx 0, hx 1, hx 2, by simp, HR.out.below hB0, hM.below hB0, hB0⟩
  clear hc hx hM HR
  have hcase : ((((p true).1 : Int) == ((p false).1 : Int)) = true ∧ (((p true).2 : Int) == ((p false).2 : Int)) = true ∧ p true = p false) ∨ ((((p true).1 : Int) == ((p false).1 : Int)) = false ∧ p true ≠ p false) ∨
      ((((p true).1 : Int) == ((p false).1 : Int)) = true ∧ (((p true).2 : Int) == ((p false).2 : Int)) = false ∧ p true ≠ p false) := by
    by_cases h1 : (p true).1 = (p false).1
    · by_cases h2 : (p true).2 = (p false).2
      · exact .inl ⟨by rw [h1]; simp, by rw [h2]; simp, Prod.ext h1 h2⟩
      · exact .inr (.inr ⟨by rw [h1]; simp, by simp; omega, fun h => h2 (by rw [h])⟩)
    · exact .inr (.inl ⟨by simp; omega, fun h => h1 (by rw [h])⟩)
  rcases hcase with ⟨e1, e2, h⟩ | ⟨e1, h⟩ | ⟨e1, e2, h⟩
  all_goals
    first
    | rw [show decide (p true ≠ p false) = false by rw [h]; simp]
    | rw [show decide (p true ≠ p false) = true by simpa using h]
    clear h
    go_enter Tryd.func20, Tryd.ntmps20
    go_upto_region 1 with fail
    generalize (w.alloc (.cells #[.string (strB m), .string (strB t), .slice ao ps.length cap] 36)) = W at *
    have hSd := hS0.below (Below.refl _ _).drew
    clear hB0
    go_region_held3 (fun w' => w'.cell? ⟨w.heap.size, 0, none⟩ = some (.string (strB m)) ∧ w'.cell? ⟨w.heap.size, 1, none⟩ = some (.string (strB t)) ∧ w'.cell? ⟨w.heap.size, 2, none⟩ = some (.slice ao ps.length cap) ∧ w.heap.size < w'.heap.size ∧ ReadsQ w' (.slice ao ps.length cap) ps ∧ HasMax w' ∧ Below w.heap.size w w')
      (first | exact hK | exact hSd)
      (first | (go_at_call 21; refine (L.out _ _ (by first | exact hSd | assumption)).mono ?_; rintro e w10 ⟨rfl, hK⟩))
    have hBf := hK.2.2.2.2.2.2
    go_wp2_with fail
    go_ret
    exact ⟨rfl, hBf⟩
end Go.Proofs.YthjkneifffdglaaDoor
