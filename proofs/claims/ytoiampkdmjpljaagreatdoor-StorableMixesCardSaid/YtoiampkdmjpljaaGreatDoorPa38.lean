import Derived.Test.YtoiampkdmjpljaaGreatDoorPa37
import Derived.Test.YtoiampkdmjpljaaGreatDoorPa10
import Derived.Lib.SmallJoins
import Derived.BigRegion
import Derived.Test.YtoiampkdmjpljaaGreatDoorPa12
import Derived.Test.YtoiampkdmjpljaaGreatDoorPa18
import Derived.Test.YtoiampkdmjpljaaGreatDoorPa11
import Derived.Deep.RegionHeld3
import Derived.Deep.DeepCutAuto
import Derived.Deep.QuietTactic
import Derived.BigQuiet
import Derived.Laws.CopyRow
import Derived.Laws.CopyOwn
/- Two fields of a list exchanged in memory; what slices.swapRange does. -/
namespace Go.Proofs.YtoiampkdmjpljaaGreatDoor
open Go.RowKit

theorem flatP_set : ∀ (d : Flds) (i : Nat) (p : List UInt8 × List UInt8), flatP (d.set i p) = ((flatP d).set (i * 2) (strV p.1)).set (i * 2 + 1) (strV p.2) := by
  intro d
  induction d with
  | nil => intro i p; simp [flatP]
  | cons q r ih =>
    intro i p
    have e : ∀ (q : List UInt8 × List UInt8) (r : Flds), flatP (q :: r) = strV q.1 :: strV q.2 :: flatP r := fun _ _ => rfl
    cases i with
    | zero => rw [List.set_cons_zero, e, e]; rfl
    | succ i =>
      rw [List.set_cons_succ, e, e, ih, show (i + 1) * 2 = i * 2 + 1 + 1 by omega]
      simp
theorem OwnsP.put {T : TypeId} {B g n cap : Nat} {w : World} {d : Flds} (h : OwnsP T B w (.slice (some ⟨g, 0, none⟩) n cap) d) (i : Nat) (p : List UInt8 × List UInt8) :
    OwnsP T B ((w.setCell ⟨g, i * 2, none⟩ (strV p.1)).setCell ⟨g, i * 2 + 1, none⟩ (strV p.2)) (.slice (some ⟨g, 0, none⟩) n cap) (d.set i p) := by
  rcases h with ⟨hl, ⟨hv, _⟩ | ⟨g', cap', cur, hv, hb, hg, hn, hm, hs, ht⟩⟩
  · cases hv
  · cases hv
    unfold OwnsP
    rw [List.length_set]
    refine ⟨by rw [flatP_len, List.length_set], .inr ⟨g, cap, _, rfl, hb, Go.Joins.block_setCell (Go.Joins.block_setCell hg _) _, hn, hm, by simpa using hs, ?_⟩⟩
    rw [Array.toList_setIfInBounds, Array.toList_setIfInBounds, List.take_set, List.take_set, ht, flatP_set]
theorem own_len {T : TypeId} {B g n cap : Nat} {w : World} {d : Flds} (h : OwnsP T B w (.slice (some ⟨g, 0, none⟩) n cap) d) : n = d.length ∧ B ≤ g ∧ g < w.heap.size ∧ n ≤ cap := by
  have h' := h
  rcases h with ⟨hl, ⟨hv, _⟩ | ⟨g', cap', cur, hv, hb, hg, hn, hm, hs, ht⟩⟩
  · cases hv
  · cases hv
    exact ⟨rfl, hb, (World.ownsRow.lt h' g rfl).2, hn⟩
/-- The cells of a field of such a list: there, and to be written. -/
theorem own_at {T : TypeId} {B g n cap : Nat} {w : World} {d : Flds} (h : OwnsP T B w (.slice (some ⟨g, 0, none⟩) n cap) d) {i : Nat} {p : List UInt8 × List UInt8} (hp : d[i]? = some p) :
    w.cell? ⟨g, i * 2, none⟩ = some (.string (strB p.1)) ∧ w.cell? ⟨g, i * 2 + 1, none⟩ = some (.string (strB p.2)) ∧ w.frozen? ⟨g, i * 2, none⟩ = false ∧ w.frozen? ⟨g, i * 2 + 1, none⟩ = false := by
  obtain ⟨ao, c, hv, hc⟩ := h.reads
  simp only [Value.slice.injEq] at hv
  obtain ⟨g', he, _, h1, h2⟩ := hc i p hp
  rw [← hv.1] at he
  simp only [Option.some.injEq, Addr.mk.injEq, and_true] at he
  subst he
  rcases h with ⟨hl, ⟨hv', _⟩ | ⟨g', cap', cur, hv', hb, hg, _⟩⟩
  · cases hv'
  · cases hv'
    exact ⟨h1, h2, Lib.frozen_of_heap hg _, Lib.frozen_of_heap hg _⟩

/-- A list with two of its fields shown. -/
def two (A : Flds) (x : List UInt8 × List UInt8) (M : Flds) (y : List UInt8 × List UInt8) (C : Flds) : Flds := A ++ x :: (M ++ y :: C)
theorem two_1 (A M C : Flds) (x y : List UInt8 × List UInt8) : (two A x M y C)[A.length]? = some x := by unfold two; rw [List.getElem?_append_right (Nat.le_refl _)]; simp
theorem two_2 (A M C : Flds) (x y : List UInt8 × List UInt8) : (two A x M y C)[A.length + 1 + M.length]? = some y := by
  unfold two
  rw [List.getElem?_append_right (by omega), show A.length + 1 + M.length - A.length = M.length + 1 by omega, List.getElem?_cons_succ, List.getElem?_append_right (Nat.le_refl _)]; simp
theorem two_len (A M C : Flds) (x y : List UInt8 × List UInt8) : (two A x M y C).length = A.length + 1 + M.length + 1 + C.length := by simp [two]; omega
theorem two_set1 (A M C : Flds) (x y z : List UInt8 × List UInt8) : (two A x M y C).set A.length z = two A z M y C := by
  unfold two; rw [List.set_append_right _ _ (Nat.le_refl _)]; simp
theorem two_set2 (A M C : Flds) (x y z : List UInt8 × List UInt8) : (two A x M y C).set (A.length + 1 + M.length) z = two A x M z C := by
  unfold two
  rw [List.set_append_right _ _ (by omega), show A.length + 1 + M.length - A.length = M.length + 1 by omega, List.set_cons_succ, List.set_append_right _ _ (Nat.le_refl _)]; simp
/-- Exchanged: the left one is written first. -/
theorem own_swap {T : TypeId} {B g n cap : Nat} {w : World} {A M C : Flds} {x y : List UInt8 × List UInt8} (h : OwnsP T B w (.slice (some ⟨g, 0, none⟩) n cap) (two A x M y C)) {i j : Nat} (hi : i = A.length) (hj : j = A.length + 1 + M.length) :
    OwnsP T B ((((w.setCell ⟨g, i * 2, none⟩ (strV y.1)).setCell ⟨g, i * 2 + 1, none⟩ (strV y.2)).setCell ⟨g, j * 2, none⟩ (strV x.1)).setCell ⟨g, j * 2 + 1, none⟩ (strV x.2)) (.slice (some ⟨g, 0, none⟩) n cap) (two A y M x C) := by
  subst hi hj
  have := (h.put A.length y).put (A.length + 1 + M.length) x
  rw [two_set1, two_set2] at this
  exact this
/-- Exchanged: the right one is written first. -/
theorem own_swap' {T : TypeId} {B g n cap : Nat} {w : World} {A M C : Flds} {x y : List UInt8 × List UInt8} (h : OwnsP T B w (.slice (some ⟨g, 0, none⟩) n cap) (two A x M y C)) {i j : Nat} (hi : i = A.length) (hj : j = A.length + 1 + M.length) :
    OwnsP T B ((((w.setCell ⟨g, j * 2, none⟩ (strV x.1)).setCell ⟨g, j * 2 + 1, none⟩ (strV x.2)).setCell ⟨g, i * 2, none⟩ (strV y.1)).setCell ⟨g, i * 2 + 1, none⟩ (strV y.2)) (.slice (some ⟨g, 0, none⟩) n cap) (two A y M x C) := by
  subst hi hj
  have := (h.put (A.length + 1 + M.length) x).put A.length y
  rw [two_set2, two_set1] at this
  exact this
theorem below_four {B g : Nat} {w0 w : World} (h : Below B w0 w) (hg : B ≤ g) (a b c e : Nat) (p q r s : Value) :
    Below B w0 ((((w.setCell ⟨g, a, none⟩ p).setCell ⟨g, b, none⟩ q).setCell ⟨g, c, none⟩ r).setCell ⟨g, e, none⟩ s) :=
  (((h.setCell (p := ⟨g, a, none⟩) hg _).setCell (p := ⟨g, b, none⟩) hg _).setCell (p := ⟨g, c, none⟩) hg _).setCell (p := ⟨g, e, none⟩) hg _

def sw (P U M V S : Flds) (i : Nat) : Flds := P ++ (V.take i ++ U.drop i) ++ M ++ (U.take i ++ V.drop i) ++ S
theorem drop_at {l : Flds} {i : Nat} {x : List UInt8 × List UInt8} (h : l[i]? = some x) : l.drop i = x :: l.drop (i + 1) := by
  obtain ⟨hi, e⟩ := List.getElem?_eq_some_iff.mp h
  rw [List.drop_eq_getElem_cons hi, e]
theorem sw_now {P U M V S : Flds} {i : Nat} {x y : List UInt8 × List UInt8} (hx : U[i]? = some x) (hy : V[i]? = some y) :
    sw P U M V S i = two (P ++ V.take i) x (U.drop (i + 1) ++ M ++ U.take i) y (V.drop (i + 1) ++ S) := by
  unfold sw two; rw [drop_at hx, drop_at hy]; simp
theorem sw_next {P U M V S : Flds} {i : Nat} {x y : List UInt8 × List UInt8} (hx : U[i]? = some x) (hy : V[i]? = some y) :
    sw P U M V S (i + 1) = two (P ++ V.take i) y (U.drop (i + 1) ++ M ++ U.take i) x (V.drop (i + 1) ++ S) := by
  unfold sw two; rw [take_more hx, take_more hy]; simp
theorem sw_0 (P U M V S : Flds) : sw P U M V S 0 = P ++ U ++ M ++ V ++ S := by simp [sw]
theorem sw_end {P U M V S : Flds} {i : Nat} (hu : U.length ≤ i) (hv : V.length ≤ i) : sw P U M V S i = P ++ V ++ M ++ U ++ S := by
  unfold sw; rw [List.take_of_length_le hv, List.take_of_length_le hu, List.drop_eq_nil_of_le hu, List.drop_eq_nil_of_le hv]; simp

set_option maxHeartbeats 4000000 in
set_option maxRecDepth 100000 in
theorem swapRange_any (B g m cap a b n : Nat) (cv : Value) (P U M V S : Flds) (w : World) (h : OwnsP 58 B w (.slice (some ⟨g, 0, none⟩) m cap) (P ++ U ++ M ++ V ++ S))
    (ha : a = P.length) (hu : U.length = n) (hv : V.length = n) (hb : b = P.length + n + M.length) (hm : m ≤ 1000000) :
    Calls Tryz.prog 157 #[.slice (some ⟨g, 0, none⟩) m cap, .int .i64 a, .int .i64 b, .int .i64 n, cv] w fun e w' => e = .returned (.tuple #[]) ∧ OwnsP 58 B w' (.slice (some ⟨g, 0, none⟩) m cap) (P ++ V ++ M ++ U ++ S) ∧ Below B w w' := by
  obtain ⟨hml, hBg, hgl, hmc⟩ := own_len h
  have hmle : P.length + n + M.length + n + S.length = m := by rw [hml]; simp; omega
  have HO := Lib.hid h
  clear h hml
  have hab : a + n ≤ b := by omega
  have hbm : b + n ≤ m := by omega
  have HU := Lib.hid hu
  have HV := Lib.hid hv
  have HA := Lib.hid ha
  have HB := Lib.hid hb
  clear hu hv ha hb hmle
  go_enter Tryz.func157, Tryz.ntmps157
  go_wp2_with fail
  go_loopw [10] (fun i wr => ∃ k : Nat, i = .int .i64 k ∧ k ≤ n ∧ OwnsP 58 B wr (.slice (some ⟨g, 0, none⟩) m cap) (sw P U M V S k) ∧ Below B w wr) (fun i _ => n - (intOf i).toNat)
  case atStart => exact ⟨0, rfl, Nat.zero_le _, by rw [sw_0]; exact HO.out, Below.refl _ _⟩
  case round =>
    obtain ⟨k, rfl, hk, hO, hBr⟩ := hrel
    by_cases hlt : k < n
    · obtain ⟨x, hx⟩ : ∃ x, U[k]? = some x := ⟨U[k]'(by rw [HU.out]; exact hlt), by simp⟩
      obtain ⟨y, hy⟩ : ∃ y, V[k]? = some y := ⟨V[k]'(by rw [HV.out]; exact hlt), by simp⟩
      have hV := HV.out
      have hU := HU.out
      have hA := HA.out
      have hB := HB.out
      have e1 : (P ++ V.take k).length = a + k := by simp; omega
      have e2 : (P ++ V.take k).length + 1 + (U.drop (k + 1) ++ M ++ U.take k).length = b + k := by simp; omega
      rw [sw_now hx hy] at hO
      have q1 := own_at hO (two_1 _ _ _ _ _)
      have q2 := own_at hO (two_2 _ _ _ _ _)
      rw [e1] at q1
      rw [e2] at q2
      obtain ⟨c1, c2, f1, f2⟩ := q1
      obtain ⟨c3, c4, f3, f4⟩ := q2
      have hnx := sw_next (P := P) (M := M) (S := S) hx hy
      have HN := Lib.hid hnx
      have HO1 := Lib.hid hO
      have E1 := Lib.hid e1
      have E2 := Lib.hid e2
      clear hV hU hA hB e1 e2 hO hnx hx hy
      have r1 : IntKind.i64.wrap ((a : Int) + (k : Int)) = (a : Int) + (k : Int) := by rw [IntKind.wrap_i64]; omega
      have r2 : IntKind.i64.wrap ((b : Int) + (k : Int)) = (b : Int) + (k : Int) := by rw [IntKind.wrap_i64]; omega
      have p1 : (0 : Int) ≤ (a : Int) + (k : Int) := by omega
      have p2 : (0 : Int) ≤ (b : Int) + (k : Int) := by omega
      have t1 : (a : Int) + (k : Int) < (m : Int) := by omega
      have t2 : (b : Int) + (k : Int) < (m : Int) := by omega
      have n1 : ((a : Int) + (k : Int)).toNat = a + k := by omega
      have n2 : ((b : Int) + (k : Int)).toNat = b + k := by omega
      go_wp2_with fail
      go_region
      go_wp2_with fail
      go_roundw
      case rel => exact ⟨k + 1, by go_num, by omega, by rw [HN.out]; exact World.ownsRow.drew (own_swap HO1.out E1.out.symm E2.out.symm), (below_four hBr hBg _ _ _ _ _ _ _ _).drew⟩
      case measure => simp [intOf]; omega
    · have he := sw_end (P := P) (M := M) (S := S) (Nat.le_trans (Nat.le_of_eq HU.out) (by omega : n ≤ k)) (Nat.le_trans (Nat.le_of_eq HV.out) (by omega : n ≤ k))
      rw [he] at hO
      go_wp2_with fail
      go_end0
      exact ⟨rfl, hO, hBr⟩
end Go.Proofs.YtoiampkdmjpljaaGreatDoor

/- slices.IndexFunc and DeleteFunc of fields, with the closure of storable.Update. -/
namespace Go.Proofs.YtoiampkdmjpljaaGreatDoor
open Go.RowKit Go.Maps

abbrev delV (g1 : Nat) : Value := .func (.func 43) #[] #[.pointer (some ⟨g1, 0, none⟩)]
/-- What the closure asks of a world: the map in its box, and the names that it has. -/
structure CloU (g1 b n : Nat) (ks : List (List UInt8)) (w : World) : Prop where
  m : w.cell? ⟨g1, 0, none⟩ = some (.map (some b))
  h : HasNames w b n ks
  l : g1 < w.heap.size
theorem CloU.below {g1 b n : Nat} {ks : List (List UInt8)} {w w' : World} (h : CloU g1 b n ks w) (hb : Below w.heap.size w w') : CloU g1 b n ks w' :=
  ⟨(hb.cell (p := ⟨g1, 0, none⟩) h.l).trans h.m, h.h.below hb, Nat.lt_of_lt_of_le h.l hb.size⟩
theorem CloU.only {g g1 b n : Nat} {ks : List (List UInt8)} {w w' : World} (h : CloU g1 b n ks w) (ho : Only (· = g) w w') (h1 : g1 ≠ g) (h2 : b ≠ g) : CloU g1 b n ks w' :=
  ⟨(ho.cell (p := ⟨g1, 0, none⟩) h.l h1).trans h.m, h.h.kept (row := some g) ⟨ho.os, ho.tape, ho.output, ho.size, fun k hk hne => ho.block k hk (fun e => hne (by rw [e]))⟩ (fun e => h2 (Option.some.inj e)), Nat.lt_of_lt_of_le h.l ho.size⟩
structure CloS (g1 b n N : Nat) (ks : List (List UInt8)) (p : List UInt8 × List UInt8) (w0 w' : World) : Prop where
  u : CloU g1 b n ks w'
  c0 : w'.cell? ⟨N, 0, none⟩ = some (.string (strB p.1))
  l2 : N < w'.heap.size
  l : Below w0.heap.size w0 w'
theorem CloS.below {g1 b n N : Nat} {ks : List (List UInt8)} {p : List UInt8 × List UInt8} {w0 w w' : World} (h : CloS g1 b n N ks p w0 w) (hb : Below w.heap.size w w') : CloS g1 b n N ks p w0 w' :=
  ⟨h.u.below hb, (hb.cell (p := ⟨N, 0, none⟩) h.l2).trans h.c0, Nat.lt_of_lt_of_le h.l2 hb.size, h.l.trans (hb.mono h.l.size)⟩
theorem cloS_all {g1 b n N : Nat} {ks : List (List UInt8)} {p : List UInt8 × List UInt8} {w0 w' : World} (h : CloS g1 b n N ks p w0 w') (hp : p.1.length ≤ 1000000) :
    w'.cell? ⟨g1, 0, none⟩ = some (.map (some b)) ∧ w'.cell? ⟨N, 0, none⟩ = some (.string (strB p.1)) ∧ (Instr.lookup 72 (.map (some b)) (.string (strB (lowS p.1))) false).run Tryz.prog w' = .ok (.bool (decide (lowS p.1 ∈ ks))) w' ∧ CloS g1 b n N ks p w0 w' :=
  ⟨h.u.m, h.c0, h.u.h.look (lowS p.1) (by rw [lowS_len]; unfold maxLen; omega), h⟩
set_option maxHeartbeats 4000000 in
set_option maxRecDepth 100000 in
theorem upd1_any (p : List UInt8 × List UInt8) (g1 b n : Nat) (ks : List (List UInt8)) (w : World) (hE : CloU g1 b n ks w) (hp : p.1.length ≤ 1000000) :
    Calls Tryz.prog 43 #[.agg #[.string (strB p.1), .string (strB p.2)], .pointer (some ⟨g1, 0, none⟩)] w fun e w' => e = .returned (.bool (decide (lowS p.1 ∈ ks))) ∧ Below w.heap.size w w' := by
  have HS := Lib.hid (show CloS g1 b n w.heap.size ks p w (w.alloc (.cells #[.string (strB p.1), .string (strB p.2)] 58)) from ⟨hE.below (below_new _ _), (new_pair w _ _ _).1, by simp, below_new _ _⟩)
  have HL := Lib.hid (fun (w : World) => lower_any (strB p.1) w (by rw [strB_size]; omega))
  rw [strB_list] at HL
  clear hE
  go_enter Tryz.func43, Tryz.ntmps43
  go_upto_region 1 with fail
  change Code.wp _ _ _ _ (w.alloc (.cells #[.string (strB p.1), .string (strB p.2)] 58))
  generalize (w.alloc (.cells #[.string (strB p.1), .string (strB p.2)] 58)) = W at *
  have hS0 := HS.out.below (Below.refl _ _).drew
  clear HS
  refine wp_region_held_drew (S := (fun w' => w'.cell? ⟨g1, 0, none⟩ = some (.map (some b)) ∧ w'.cell? ⟨w.heap.size, 0, none⟩ = some (.string (strB p.1)) ∧ (Instr.lookup 72 (.map (some b)) (.string (strB (lowS p.1))) false).run Tryz.prog w' = .ok (.bool (decide (lowS p.1 ∈ ks))) w' ∧ CloS g1 b n w.heap.size ks p w w')) (by kernel_rfl) (cloS_all hS0 hp) (fun hHeld => ?_)
  generalize W.drew = V0 at *
  refine wpAnyH_take (i := 0) (oi := { dst := some 4, op := _, type := _, pos := _, after := _, guard := _ }) (v := ?_) rfl (by kernel_rfl) (by kernel_rfl) (by kernel_rfl) (fun _ _ _ h => h) (Or.inl ⟨by rfl, ?_⟩) (by assumption) ?_
  rotate_left
  focus (intro w hSw; (try dsimp only at hSw); first | (go_simp; done) | (go_simp; with_reducible rfl))
  (try simp only [Act.put, List.setIfInBounds_toArray, List.set_cons_zero, List.set_cons_succ])
  refine wpAnyH_take (i := 1) (oi := { dst := some 5, op := _, type := _, pos := _, after := _, guard := _ }) (v := ?_) rfl (by kernel_rfl) (by kernel_rfl) (by kernel_rfl) (fun _ _ _ h => h) (Or.inl ⟨by rfl, ?_⟩) (by assumption) ?_
  rotate_left
  focus (intro w hSw; (try dsimp only at hSw); first | (go_simp; done) | (go_simp; with_reducible rfl))
  (try simp only [Act.put, List.setIfInBounds_toArray, List.set_cons_zero, List.set_cons_succ])
  refine wpAnyH_take (i := 2) (oi := { dst := some 6, op := _, type := _, pos := _, after := _, guard := _ }) (v := ?_) rfl (by kernel_rfl) (by kernel_rfl) (by kernel_rfl) (fun _ _ _ h => h) (Or.inl ⟨by rfl, ?_⟩) (by assumption) ?_
  rotate_left
  focus (intro w hSw; (try dsimp only at hSw); first | (go_simp; done) | (go_simp; with_reducible rfl))
  (try simp only [Act.put, List.setIfInBounds_toArray, List.set_cons_zero, List.set_cons_succ])
  refine wpAnyH_ready (rs := [3]) (by kernel_rfl) (by simp) ?_
  refine AllReadyH.cons (o := { dst := some 7, op := _, type := _, pos := _, after := _, guard := _ }) rfl (fun K hK => ?_) AllReadyH.nil
  go_simp
  refine (HL.out _).mono ?_
  rintro e V1 ⟨rfl, hBc⟩
  have hS1 := hS0.below hBc
  refine hK.out _ _ (cloS_all hS1 hp) (fun hH1 => ?_)
  clear hK K hBc hS0 hHeld
  (try simp only [Act.put, List.setIfInBounds_toArray, List.set_cons_zero, List.set_cons_succ])
  refine wpAnyH_take (i := 4) (oi := { dst := some 8, op := _, type := _, pos := _, after := _, guard := _ }) (v := ?_) rfl (by kernel_rfl) (by kernel_rfl) (by kernel_rfl) (fun _ _ _ h => h) (Or.inl ⟨by rfl, ?_⟩) (by assumption) ?_
  rotate_left
  focus (intro w hSw; (try dsimp only at hSw); first | (go_simp; done) | (go_simp; with_reducible rfl))
  (try simp only [Act.put, List.setIfInBounds_toArray, List.set_cons_zero, List.set_cons_succ])
  refine wpAnyH_take (i := 5) (oi := { dst := some 3, op := _, type := _, pos := _, after := _, guard := _ }) (v := ?_) rfl (by kernel_rfl) (by kernel_rfl) (by kernel_rfl) (fun _ _ _ h => h) (Or.inl ⟨by rfl, ?_⟩) (by assumption) ?_
  rotate_left
  focus (intro w hSw; (try dsimp only at hSw); first | (go_simp; done) | (go_simp; with_reducible rfl))
  (try simp only [Act.put, List.setIfInBounds_toArray, List.set_cons_zero, List.set_cons_succ])
  refine wpAnyH_done (by kernel_rfl) ?_ _
  (try simp only [Exit.then])
  (try go_wp2_with fail)
  go_ret
  exact ⟨rfl, hS1.l⟩

theorem anyF_hit {ps : Flds} {f : List UInt8 × List UInt8 → Bool} {k : Nat} {p : List UInt8 × List UInt8} (hk : ps[k]? = some p) (h : (ps.take k).any f = false) (hp : f p = true) : ∃ q, ps[k]? = some q ∧ f q = true ∧ (ps.take k).any f = false := ⟨p, hk, hp, h⟩
theorem anyF_step {ps : Flds} {f : List UInt8 × List UInt8 → Bool} {k : Nat} {p : List UInt8 × List UInt8} (hk : ps[k]? = some p) (h : (ps.take k).any f = false) (hp : f p = false) : (ps.take (k + 1)).any f = false := by
  rw [take_more hk, List.any_append, h]; simp [hp]
/-- The index that IndexFunc returns: none, or the first that fits. -/
def IxF (ps : Flds) (f : List UInt8 × List UInt8 → Bool) (n : Int) : Prop :=
  (n = -1 ∧ ps.any f = false) ∨ ∃ k : Nat, n = k ∧ ∃ q, ps[k]? = some q ∧ f q = true ∧ (ps.take k).any f = false
set_option maxHeartbeats 4000000 in
set_option maxRecDepth 100000 in
theorem indexF_any (fv : Value) (ps : Flds) (g1 b n : Nat) (ks : List (List UInt8)) (w : World) (hr : ReadsQ w fv ps) (hE : CloU g1 b n ks w) (hl : ps.length ≤ 1000000) (hb : ∀ p ∈ ps, p.1.length + p.2.length ≤ 1000000) :
    Calls Tryz.prog 68 #[fv, delV g1] w fun e w' => ∃ i, e = .returned (.int .i64 i) ∧ IxF ps (fun p => decide (lowS p.1 ∈ ks)) i ∧ Below w.heap.size w w' := by
  obtain ⟨ao, cap, rfl, hc⟩ := hr
  have HC := Lib.hid hc
  have HE := Lib.hid hE
  have HBg := Lib.hid hb
  clear hc hE hb
  go_enter Tryz.func68, Tryz.ntmps68
  go_wp2
  go_loopw [8] (fun i wr => ∃ k : Nat, i = .int .i64 k ∧ k ≤ ps.length ∧ (ps.take k).any (fun p => decide (lowS p.1 ∈ ks)) = false ∧ Below w.heap.size w wr) (fun i _ => ps.length - (intOf i).toNat)
  case atStart => exact ⟨0, rfl, Nat.zero_le _, rfl, Below.refl _ _⟩
  case round =>
    obtain ⟨k, rfl, hk, hs, hBr⟩ := hrel
    have hbr := hBr.size
    have HS := Lib.hid hs
    have HB := Lib.hid hBr
    clear hs hBr
    by_cases hlt : k < ps.length
    · obtain ⟨p, hp⟩ : ∃ p, ps[k]? = some p := ⟨ps[k], by simp [hlt]⟩
      obtain ⟨g, off, rfl, hg, h1, h2⟩ := HC.out k p hp
      have hc1 : wr.cell? ⟨g, off + k * 2, none⟩ = some (.string (strB p.1)) := (HB.out.cell (p := ⟨g, off + k * 2, none⟩) hg).trans h1
      have hc2 : wr.cell? ⟨g, off + k * 2 + 1, none⟩ = some (.string (strB p.2)) := (HB.out.cell (p := ⟨g, off + k * 2 + 1, none⟩) hg).trans h2
      have hpl := HBg.out p (List.mem_of_getElem? hp)
      have HP := Lib.hid hp
      clear hp h1 h2
      go_wp2_with fail
      refine (upd1_any p g1 b n ks _ (HE.out.below HB.out) (by omega)).mono ?_
      rintro e w2 ⟨rfl, hB2⟩
      have HB2 := Lib.hid (HB.out.trans (hB2.mono hbr))
      clear hB2
      cases hst : decide (lowS p.1 ∈ ks) with
      | true =>
        have HR := Lib.hid (anyF_hit (f := fun p => decide (lowS p.1 ∈ ks)) HP.out HS.out hst)
        clear hst
        go_wp2
        go_ret
        exact ⟨k, rfl, .inr ⟨k, rfl, HR.out⟩, HB2.out⟩
      | false =>
        have HR := Lib.hid (anyF_step (f := fun p => decide (lowS p.1 ∈ ks)) HP.out HS.out hst)
        clear hst
        go_wp2
        go_roundw
        case rel => exact ⟨k + 1, by go_num, by omega, HR.out, HB2.out⟩
        case measure => simp [intOf]; omega
    · have HR := Lib.hid (show ps.any (fun p => decide (lowS p.1 ∈ ks)) = false by have := HS.out; rwa [List.take_of_length_le (by omega)] at this)
      go_wp2
      go_ret
      exact ⟨-1, rfl, .inl ⟨rfl, HR.out⟩, HB.out⟩

theorem zeroF (w : World) : (zeroValue 58).run Tryz.prog w = .ok (.agg #[.string ByteArray.empty, .string ByteArray.empty]) w := by kernel_rfl
theorem zcells (n : Nat) : (Builtin.zeroCells (Value.agg #[.string ByteArray.empty, .string ByteArray.empty]).cells n).toList = List.replicate (n * 2) (.string ByteArray.empty) := by
  have e : (Value.agg #[.string ByteArray.empty, .string ByteArray.empty]).cells = #[.string ByteArray.empty, .string ByteArray.empty] := rfl
  rw [e]
  simp only [Builtin.zeroCells]
  apply List.ext_getElem
  · simp
  · intro i h1 h2
    simp only [List.size_toArray, List.length_cons, List.length_nil, Nat.zero_add, Nat.reduceAdd, Array.getElem_toList, List.getElem_replicate]
    rcases Nat.mod_two_eq_zero_or_one i with h | h <;> simp [h]
/-- 'clear' of the fields from the k-th on: the fields ahead of it stay. -/
theorem run_clearF {B g cap m k : Nat} {w : World} {Z : Flds} (hO : OwnsP 58 B w (.slice (some ⟨g, 0, none⟩) m cap) Z) (hk : k < m) :
    ∃ cs, (∀ ty c, (Builtin.clear_ #[37] ty #[.slice (some ⟨g, k * 2, none⟩) (m - k) c]).run Tryz.prog w = .ok (.tuple #[]) (w.setRow g cs)) ∧ OwnsP 58 B (w.setRow g cs) (.slice (some ⟨g, 0, none⟩) k cap) (Z.take k) := by
  have hml := (own_len hO).1
  rcases hO with ⟨hl, ⟨hv, _⟩ | ⟨g', cap', cur, hv, hb, hg, hn, hm, hs, ht⟩⟩
  · cases hv
  · cases hv
    have hst := run_storeCells_at Tryz.prog g (k * 2) 58 (List.replicate ((Z.length - k) * 2) (.string ByteArray.empty)) 0 cur w hg (by rw [List.length_replicate]; omega) (fun v hv' => by rw [List.eq_of_mem_replicate hv']; rfl)
    obtain ⟨vs, hvs⟩ : ∃ vs : List Value, vs = List.replicate ((Z.length - k) * 2) (.string ByteArray.empty) := ⟨_, rfl⟩
    have hvl : vs.length = (Z.length - k) * 2 := by rw [hvs, List.length_replicate]
    refine ⟨(cur.toList.take (k * 2 + 0) ++ vs ++ cur.toList.drop (k * 2 + 0 + vs.length)).toArray, fun ty c => ?_, ?_, .inr ⟨g, cap, _, ?_, hb, setRow_heap w g cur _ _ _ hg, ?_, hm, ?_, ?_⟩⟩
    · obtain ⟨j, hj⟩ : ∃ j, Z.length - k = j + 1 := ⟨Z.length - k - 1, by omega⟩
      have hz : (Builtin.zeroCells (Value.agg #[.string ByteArray.empty, .string ByteArray.empty]).cells (j + 1)).toList = List.replicate ((j + 1) * 2) (.string ByteArray.empty) := zcells _
      rw [← hvs] at hst
      rw [hj] at hvs
      rw [hj]
      rw [← hvs] at hz
      have hz2 : (Builtin.zeroCells (Value.agg #[.string ⟨#[]⟩, .string ⟨#[]⟩]).cells (j + 1)).toList = vs := hz
      simp [Builtin.clear_, run_underlying Tryz.underlying37, hz2, hst]
    · rw [flatP_len, List.length_take]
    · rw [List.length_take, Nat.min_eq_left (by omega)]
    · rw [List.length_take]; omega
    · simp [hvl]; omega
    · rw [List.length_take, Nat.min_eq_left (by omega)]
      simp only [Nat.add_zero]
      have h1 : (cur.toList.take (k * 2)).length = k * 2 := by rw [List.length_take, Array.length_toList]; omega
      have e1 : ∀ x : List Value, (cur.toList.take (k * 2) ++ x).take (k * 2) = cur.toList.take (k * 2) := fun x => by
        rw [List.take_append_of_le_length (Nat.le_of_eq h1.symm), List.take_of_length_le (Nat.le_of_eq h1)]
      rw [List.append_assoc, e1]
      have h2 : cur.toList.take (k * 2) = (flatP Z).take (k * 2) := by rw [← ht, List.take_take, Nat.min_eq_left (by omega)]
      rw [h2]
      have h3 : flatP Z = flatP (Z.take k) ++ flatP (Z.drop k) := by
        have e : ∀ a b : Flds, flatP (a ++ b) = flatP a ++ flatP b := fun a b => by simp [flatP]
        rw [← e, List.take_append_drop]
      have h4 : (flatP (Z.take k)).length = k * 2 := by rw [flatP_len, List.length_take, Nat.min_eq_left (by omega)]
      rw [h3, List.take_append_of_le_length (Nat.le_of_eq h4.symm), List.take_of_length_le (Nat.le_of_eq h4)]
end Go.Proofs.YtoiampkdmjpljaaGreatDoor

/- What slices.DeleteFunc of fields returns, with the closure of storable.Update. -/
namespace Go.Proofs.YtoiampkdmjpljaaGreatDoor
open Go.RowKit Go.Maps

/-- While fields are deleted: the first i are those of the first j that stay; from j on all is as it was. -/
structure DelI (ps : Flds) (f : List UInt8 × List UInt8 → Bool) (i j : Nat) (Z : Flds) : Prop where
  len : Z.length = ps.length
  pre : Z.take i = (ps.take j).filter fun p => !f p
  suf : Z.drop j = ps.drop j
  lt : i < j
  le : j ≤ ps.length
theorem DelI.at {ps : Flds} {f : List UInt8 × List UInt8 → Bool} {i j : Nat} {Z : Flds} (h : DelI ps f i j Z) {p : List UInt8 × List UInt8} (hp : ps[j]? = some p) : Z[j]? = some p := by
  have h1 : (Z.drop j)[0]? = (ps.drop j)[0]? := by rw [h.suf]
  rw [List.getElem?_drop, List.getElem?_drop] at h1
  simpa [hp] using h1
theorem DelI.have_at {ps : Flds} {f : List UInt8 × List UInt8 → Bool} {i j : Nat} {Z : Flds} (h : DelI ps f i j Z) : ∃ z, Z[i]? = some z :=
  ⟨Z[i]'(by have := h.len; have := h.lt; have := h.le; omega), by simp⟩
theorem DelI.start {ps : Flds} {f : List UInt8 × List UInt8 → Bool} {k : Nat} {q : List UInt8 × List UInt8} (hq : ps[k]? = some q) (hf : f q = true) (hp : (ps.take k).any f = false) : DelI ps f k (k + 1) ps := by
  have hk := (List.getElem?_eq_some_iff.mp hq).1
  refine ⟨rfl, ?_, rfl, Nat.lt_succ_self _, hk⟩
  rw [fil_no hq (by simp [hf])]
  refine (List.filter_eq_self.mpr fun p hm => ?_).symm
  rw [List.any_eq_false] at hp
  simpa using hp p hm
theorem drop_one {α : Type} {a b : List α} {j : Nat} (h : a.drop j = b.drop j) : a.drop (j + 1) = b.drop (j + 1) := by
  have h1 := congrArg (List.drop 1) h
  rwa [List.drop_drop, List.drop_drop] at h1
theorem DelI.gone {ps : Flds} {f : List UInt8 × List UInt8 → Bool} {i j : Nat} {Z : Flds} {p : List UInt8 × List UInt8} (h : DelI ps f i j Z) (hp : ps[j]? = some p) (hf : f p = true) : DelI ps f i (j + 1) Z :=
  ⟨h.len, by rw [fil_no hp (by simp [hf])]; exact h.pre, drop_one h.suf, Nat.lt_succ_of_lt h.lt, (List.getElem?_eq_some_iff.mp hp).1⟩
theorem DelI.kept {ps : Flds} {f : List UInt8 × List UInt8 → Bool} {i j : Nat} {Z : Flds} {p : List UInt8 × List UInt8} (h : DelI ps f i j Z) (hp : ps[j]? = some p) (hf : f p = false) : DelI ps f (i + 1) (j + 1) (Z.set i p) := by
  have hl := h.len
  have hj := (List.getElem?_eq_some_iff.mp hp).1
  have hi := h.lt
  refine ⟨by rw [List.length_set]; exact hl, ?_, ?_, Nat.succ_lt_succ hi, hj⟩
  · rw [fil_yes hp (by simp [hf]), ← h.pre, take_more (p := p) (by rw [List.getElem?_set_self (by omega)]), List.take_set_of_le (Nat.le_refl _)]
  · rw [List.drop_set_of_lt (by omega)]; exact drop_one h.suf
theorem DelI.fin {ps : Flds} {f : List UInt8 × List UInt8 → Bool} {i j : Nat} {Z : Flds} (h : DelI ps f i j Z) (hj : ps.length ≤ j) : Z.take i = ps.filter fun p => !f p := by
  rw [h.pre, List.take_of_length_le hj]
theorem any_fil {ps : Flds} {f : List UInt8 × List UInt8 → Bool} (h : ps.any f = false) : (ps.filter fun p => !f p) = ps := by
  rw [List.any_eq_false] at h
  exact List.filter_eq_self.mpr fun p hm => by simpa using h p hm
theorem Only.setRow (w : World) (g : Nat) (cs : Array Value) : Only (· = g) w (w.setRow g cs) :=
  ⟨rfl, rfl, rfl, by simp, fun k _ hk => setRow_other w g k cs hk⟩
set_option maxHeartbeats 8000000 in
set_option maxRecDepth 100000 in
theorem deleteF_any (B : Nat) (fv : Value) (ps : Flds) (g1 b n : Nat) (ks : List (List UInt8)) (w : World) (hO : OwnsP 58 B w fv ps) (hE : CloU g1 b n ks w) (h1 : g1 < B) (h2 : b < B) (hB : B ≤ w.heap.size) (hl : ps.length ≤ 1000000) (hb : ∀ p ∈ ps, p.1.length + p.2.length ≤ 1000000) :
    Calls Tryz.prog 41 #[fv, delV g1] w fun e w' => ∃ v, e = .returned v ∧ OwnsP 58 B w' v (ps.filter fun p => !decide (lowS p.1 ∈ ks)) ∧ Below B w w' := by
  have HI := Lib.hid (indexF_any fv ps g1 b n ks w hO.q hE hl hb)
  have HO := Lib.hid hO
  have HE := Lib.hid hE
  have HBg := Lib.hid hb
  have hv : fv = .slice none 0 0 ∨ ∃ g cap, fv = .slice (some ⟨g, 0, none⟩) ps.length cap ∧ B ≤ g ∧ g < w.heap.size ∧ ps.length ≤ cap := by
    rcases hO with ⟨_, ⟨h, _⟩ | ⟨g, cap, cur, h, hb, hg, hn, _⟩⟩
    · exact .inl h
    · exact .inr ⟨g, cap, h, hb, (Array.getElem?_eq_some_iff.1 hg).1, hn⟩
  clear hO hE hb
  rcases hv with rfl | ⟨g, cap, rfl, hBg, hgs, hcap⟩
  · have hps : ps = [] := by
      rcases HO.out with ⟨hl0, ⟨_, hn⟩ | ⟨g, cap, cur, h, _⟩⟩
      · exact List.eq_nil_of_length_eq_zero hn
      · cases h
    subst hps
    go_enter Tryz.func41, Tryz.ntmps41
    go_wp2_with fail
    refine HI.out.mono ?_
    rintro e w1 ⟨i, rfl, hix, hB1⟩
    rcases hix with ⟨rfl, hany⟩ | ⟨k, rfl, q, hq, _⟩
    · go_wp2_with fail
      go_ret
      exact ⟨_, rfl, OwnsP.nil _ _ _, hB1.mono hB⟩
    · simp at hq
  · go_enter Tryz.func41, Tryz.ntmps41
    go_wp2_with fail
    refine HI.out.mono ?_
    rintro e w1 ⟨i, rfl, hix, hB1⟩
    have HO1 := Lib.hid (OwnsP.below HO.out hB1)
    have HE1 := Lib.hid (HE.out.below hB1)
    have hs1 := hB1.size
    have HB1 := Lib.hid (hB1.mono hB)
    clear hB1
    rcases hix with ⟨rfl, hany⟩ | ⟨k, rfl, q, hq, hf, hpre⟩
    · have HF := Lib.hid (any_fil hany)
      clear hany
      go_wp2_with fail
      go_ret
      exact ⟨_, rfl, by rw [HF.out]; exact HO1.out, HB1.out⟩
    · have HS := Lib.hid (DelI.start (f := fun p => decide (lowS p.1 ∈ ks)) hq hf hpre)
      have hk1 := (List.getElem?_eq_some_iff.mp hq).1
      have hkb : ((k : Int) == -1) = false := by first | (simp; done) | (simp; omega)
      clear hq hf hpre HO HE
      have HL := Lib.hid hl
      clear hl
      have hml : ps.length ≤ 1000000 := HL.out
      go_wp2_with fail
      go_loopw [5, 6] (fun u v wr => ∃ (i j : Nat) (Z : Flds), u = .int .i64 i ∧ v = .int .i64 j ∧ DelI ps (fun p => decide (lowS p.1 ∈ ks)) i j Z ∧ OwnsP 58 B wr (.slice (some ⟨g, 0, none⟩) ps.length cap) Z ∧ CloU g1 b n ks wr ∧ Only (· = g) w1 wr) (fun _ v _ => ps.length - (intOf v).toNat)
      case atStart => exact ⟨k, k + 1, ps, rfl, by first | rfl | go_num, HS.out, HO1.out, HE1.out, Only.refl _ _⟩
      case round =>
        obtain ⟨i, j, Z, rfl, rfl, hI, hO, hE, hOn⟩ := hrel
        have hjl := hI.le
        have hij := hI.lt
        have HI2 := Lib.hid hI
        have HO2 := Lib.hid hO
        have HE2 := Lib.hid hE
        have HN2 := Lib.hid hOn
        have hwr := hOn.size
        clear hI hO hE hOn HI
        by_cases hlt : j < ps.length
        · obtain ⟨p, hp⟩ : ∃ p, ps[j]? = some p := ⟨ps[j], by simp [hlt]⟩
          obtain ⟨c1, c2, _, _⟩ := own_at HO2.out (HI2.out.at hp)
          have hpl := HBg.out p (List.mem_of_getElem? hp)
          have HP := Lib.hid hp
          clear hp
          go_wp2_with fail
          refine (upd1_any p g1 b n ks _ (HE2.out.below (below_new _ _)) (by omega)).mono ?_
          rintro e w2 ⟨rfl, hB2⟩
          obtain ⟨d1, d2⟩ := pair_kept hB2
          have hB2' := below_pair' hB2
          have HO3 := Lib.hid (OwnsP.below HO2.out hB2')
          have HE3 := Lib.hid (HE2.out.below hB2')
          have HN3 := Lib.hid (HN2.out.trans' (Only.below hB2'))
          have hgw2 : g < w2.heap.size := by have := hB2'.size; omega
          clear hB2 hB2' c1 c2
          cases hst : decide (lowS p.1 ∈ ks) with
          | true =>
            have HR := Lib.hid (HI2.out.gone HP.out hst)
            clear hst
            go_wp2_with fail
            go_roundw
            case rel => exact ⟨i, j + 1, Z, rfl, by go_num, HR.out, HO3.out, HE3.out, HN3.out⟩
            case measure => simp [intOf]; omega
          | false =>
            have HR := Lib.hid (HI2.out.kept HP.out hst)
            obtain ⟨z, hz⟩ := HI2.out.have_at
            obtain ⟨c3, c4, f3, f4⟩ := own_at HO3.out hz
            clear hst hz
            have hil : i < ps.length := by omega
            go_wp2_with fail
            go_roundw
            case rel => exact ⟨i + 1, j + 1, Z.set i p, by go_num, by go_num, HR.out, HO3.out.put i p, (HE3.out.only (g := g) (Only.set (X := (· = g)) rfl _ _ _) (by omega) (by omega)).only (g := g) (Only.set (X := (· = g)) rfl _ _ _) (by omega) (by omega), (HN3.out.trans' (Only.set (X := (· = g)) rfl _ _ _)).trans' (Only.set (X := (· = g)) rfl _ _ _)⟩
            case measure => simp [intOf]; omega
        · have hfin := HI2.out.fin (by omega)
          have hil : i < ps.length := by omega
          obtain ⟨cs, hcl, hOc⟩ := run_clearF HO2.out hil
          rw [hfin] at hOc
          have HOc := Lib.hid hOc
          have HNc := Lib.hid (HB1.out.trans ((HN2.out.trans' (Only.setRow wr g cs)).to (B := B) (fun k hk => by rw [hk]; exact hBg) (by omega)))
          clear hOc hfin
          go_wp2_with fail
          go_ret
          exact ⟨_, rfl, HOc.out, HNc.out⟩
end Go.Proofs.YtoiampkdmjpljaaGreatDoor
