/- Two fields of a list exchanged in memory; what slices.swapRange does. -/
import Derived.Test.YthpjemihbobjfaaSortSpec
import Derived.Test.YthpjemihbobjfaaFSmall
import Derived.Lib.SmallJoins
import Derived.BigRegion
namespace Go.Proofs.Ythpjemihbobjfaa
open Go.RowKit

theorem flatP_set : ∀ (d : Flds) (i : Nat) (p : List UInt8 × List UInt8), flatP (d.set i p) = ((flatP d).set (i * 2) (strV p.1)).set (i * 2 + 1) (strV p.2) := by
  intro d
  induction d with
  | nil => intro i p; simp [flatP]
  | cons q r ih =>
    intro i p
    have e : ∀ (q : List UInt8 × List UInt8) (r : Flds), flatP (q :: r) = strV q.1 :: strV q.2 :: flatP r := fun _ _ => rfl
    cases i with
    | zero => rw [List.set_cons_zero, e, e]; rfl
    | succ i =>
      rw [List.set_cons_succ, e, e, ih, show (i + 1) * 2 = i * 2 + 1 + 1 by omega]
      simp
theorem OwnsP.put {T : TypeId} {B g n cap : Nat} {w : World} {d : Flds} (h : OwnsP T B w (.slice (some ⟨g, 0, none⟩) n cap) d) (i : Nat) (p : List UInt8 × List UInt8) :
    OwnsP T B ((w.setCell ⟨g, i * 2, none⟩ (strV p.1)).setCell ⟨g, i * 2 + 1, none⟩ (strV p.2)) (.slice (some ⟨g, 0, none⟩) n cap) (d.set i p) := by
  rcases h with ⟨hl, ⟨hv, _⟩ | ⟨g', cap', cur, hv, hb, hg, hn, hm, hs, ht⟩⟩
  · cases hv
  · cases hv
    unfold OwnsP
    rw [List.length_set]
    refine ⟨by rw [flatP_len, List.length_set], .inr ⟨g, cap, _, rfl, hb, Go.Joins.block_setCell (Go.Joins.block_setCell hg _) _, hn, hm, by simpa using hs, ?_⟩⟩
    rw [Array.toList_setIfInBounds, Array.toList_setIfInBounds, List.take_set, List.take_set, ht, flatP_set]
theorem own_len {T : TypeId} {B g n cap : Nat} {w : World} {d : Flds} (h : OwnsP T B w (.slice (some ⟨g, 0, none⟩) n cap) d) : n = d.length ∧ B ≤ g ∧ g < w.heap.size ∧ n ≤ cap := by
  have h' := h
  rcases h with ⟨hl, ⟨hv, _⟩ | ⟨g', cap', cur, hv, hb, hg, hn, hm, hs, ht⟩⟩
  · cases hv
  · cases hv
    exact ⟨rfl, hb, (World.ownsRow.lt h' g rfl).2, hn⟩
/-- The cells of a field of such a list: there, and to be written. -/
theorem own_at {T : TypeId} {B g n cap : Nat} {w : World} {d : Flds} (h : OwnsP T B w (.slice (some ⟨g, 0, none⟩) n cap) d) {i : Nat} {p : List UInt8 × List UInt8} (hp : d[i]? = some p) :
    w.cell? ⟨g, i * 2, none⟩ = some (.string (strB p.1)) ∧ w.cell? ⟨g, i * 2 + 1, none⟩ = some (.string (strB p.2)) ∧ w.frozen? ⟨g, i * 2, none⟩ = false ∧ w.frozen? ⟨g, i * 2 + 1, none⟩ = false := by
  obtain ⟨ao, c, hv, hc⟩ := h.reads
  simp only [Value.slice.injEq] at hv
  obtain ⟨g', he, _, h1, h2⟩ := hc i p hp
  rw [← hv.1] at he
  simp only [Option.some.injEq, Addr.mk.injEq, and_true] at he
  subst he
  rcases h with ⟨hl, ⟨hv', _⟩ | ⟨g', cap', cur, hv', hb, hg, _⟩⟩
  · cases hv'
  · cases hv'
    exact ⟨h1, h2, Lib.frozen_of_heap hg _, Lib.frozen_of_heap hg _⟩

/-- A list with two of its fields shown. -/
def two (A : Flds) (x : List UInt8 × List UInt8) (M : Flds) (y : List UInt8 × List UInt8) (C : Flds) : Flds := A ++ x :: (M ++ y :: C)
theorem two_1 (A M C : Flds) (x y : List UInt8 × List UInt8) : (two A x M y C)[A.length]? = some x := by unfold two; rw [List.getElem?_append_right (Nat.le_refl _)]; simp
theorem two_2 (A M C : Flds) (x y : List UInt8 × List UInt8) : (two A x M y C)[A.length + 1 + M.length]? = some y := by
  unfold two
  rw [List.getElem?_append_right (by omega), show A.length + 1 + M.length - A.length = M.length + 1 by omega, List.getElem?_cons_succ, List.getElem?_append_right (Nat.le_refl _)]; simp
theorem two_len (A M C : Flds) (x y : List UInt8 × List UInt8) : (two A x M y C).length = A.length + 1 + M.length + 1 + C.length := by simp [two]; omega
theorem two_set1 (A M C : Flds) (x y z : List UInt8 × List UInt8) : (two A x M y C).set A.length z = two A z M y C := by
  unfold two; rw [List.set_append_right _ _ (Nat.le_refl _)]; simp
theorem two_set2 (A M C : Flds) (x y z : List UInt8 × List UInt8) : (two A x M y C).set (A.length + 1 + M.length) z = two A x M z C := by
  unfold two
  rw [List.set_append_right _ _ (by omega), show A.length + 1 + M.length - A.length = M.length + 1 by omega, List.set_cons_succ, List.set_append_right _ _ (Nat.le_refl _)]; simp
/-- Exchanged: the left one is written first. -/
theorem own_swap {T : TypeId} {B g n cap : Nat} {w : World} {A M C : Flds} {x y : List UInt8 × List UInt8} (h : OwnsP T B w (.slice (some ⟨g, 0, none⟩) n cap) (two A x M y C)) {i j : Nat} (hi : i = A.length) (hj : j = A.length + 1 + M.length) :
    OwnsP T B ((((w.setCell ⟨g, i * 2, none⟩ (strV y.1)).setCell ⟨g, i * 2 + 1, none⟩ (strV y.2)).setCell ⟨g, j * 2, none⟩ (strV x.1)).setCell ⟨g, j * 2 + 1, none⟩ (strV x.2)) (.slice (some ⟨g, 0, none⟩) n cap) (two A y M x C) := by
  subst hi hj
  have := (h.put A.length y).put (A.length + 1 + M.length) x
  rw [two_set1, two_set2] at this
  exact this
/-- Exchanged: the right one is written first. -/
theorem own_swap' {T : TypeId} {B g n cap : Nat} {w : World} {A M C : Flds} {x y : List UInt8 × List UInt8} (h : OwnsP T B w (.slice (some ⟨g, 0, none⟩) n cap) (two A x M y C)) {i j : Nat} (hi : i = A.length) (hj : j = A.length + 1 + M.length) :
    OwnsP T B ((((w.setCell ⟨g, j * 2, none⟩ (strV x.1)).setCell ⟨g, j * 2 + 1, none⟩ (strV x.2)).setCell ⟨g, i * 2, none⟩ (strV y.1)).setCell ⟨g, i * 2 + 1, none⟩ (strV y.2)) (.slice (some ⟨g, 0, none⟩) n cap) (two A y M x C) := by
  subst hi hj
  have := (h.put (A.length + 1 + M.length) x).put A.length y
  rw [two_set2, two_set1] at this
  exact this
theorem below_four {B g : Nat} {w0 w : World} (h : Below B w0 w) (hg : B ≤ g) (a b c e : Nat) (p q r s : Value) :
    Below B w0 ((((w.setCell ⟨g, a, none⟩ p).setCell ⟨g, b, none⟩ q).setCell ⟨g, c, none⟩ r).setCell ⟨g, e, none⟩ s) :=
  (((h.setCell (p := ⟨g, a, none⟩) hg _).setCell (p := ⟨g, b, none⟩) hg _).setCell (p := ⟨g, c, none⟩) hg _).setCell (p := ⟨g, e, none⟩) hg _

def sw (P U M V S : Flds) (i : Nat) : Flds := P ++ (V.take i ++ U.drop i) ++ M ++ (U.take i ++ V.drop i) ++ S
theorem drop_at {l : Flds} {i : Nat} {x : List UInt8 × List UInt8} (h : l[i]? = some x) : l.drop i = x :: l.drop (i + 1) := by
  obtain ⟨hi, e⟩ := List.getElem?_eq_some_iff.mp h
  rw [List.drop_eq_getElem_cons hi, e]
theorem sw_now {P U M V S : Flds} {i : Nat} {x y : List UInt8 × List UInt8} (hx : U[i]? = some x) (hy : V[i]? = some y) :
    sw P U M V S i = two (P ++ V.take i) x (U.drop (i + 1) ++ M ++ U.take i) y (V.drop (i + 1) ++ S) := by
  unfold sw two; rw [drop_at hx, drop_at hy]; simp
theorem sw_next {P U M V S : Flds} {i : Nat} {x y : List UInt8 × List UInt8} (hx : U[i]? = some x) (hy : V[i]? = some y) :
    sw P U M V S (i + 1) = two (P ++ V.take i) y (U.drop (i + 1) ++ M ++ U.take i) x (V.drop (i + 1) ++ S) := by
  unfold sw two; rw [take_more hx, take_more hy]; simp
theorem sw_0 (P U M V S : Flds) : sw P U M V S 0 = P ++ U ++ M ++ V ++ S := by simp [sw]
theorem sw_end {P U M V S : Flds} {i : Nat} (hu : U.length ≤ i) (hv : V.length ≤ i) : sw P U M V S i = P ++ V ++ M ++ U ++ S := by
  unfold sw; rw [List.take_of_length_le hv, List.take_of_length_le hu, List.drop_eq_nil_of_le hu, List.drop_eq_nil_of_le hv]; simp

set_option maxHeartbeats 4000000 in
set_option maxRecDepth 100000 in
theorem swapRange_any (B g m cap a b n : Nat) (cv : Value) (P U M V S : Flds) (w : World) (h : OwnsP 42 B w (.slice (some ⟨g, 0, none⟩) m cap) (P ++ U ++ M ++ V ++ S))
    (ha : a = P.length) (hu : U.length = n) (hv : V.length = n) (hb : b = P.length + n + M.length) (hm : m ≤ 1000000) :
    Calls Try.prog 51 #[.slice (some ⟨g, 0, none⟩) m cap, .int .i64 a, .int .i64 b, .int .i64 n, cv] w fun e w' => e = .returned (.tuple #[]) ∧ OwnsP 42 B w' (.slice (some ⟨g, 0, none⟩) m cap) (P ++ V ++ M ++ U ++ S) ∧ Below B w w' := by
  obtain ⟨hml, hBg, hgl, hmc⟩ := own_len h
  have hmle : P.length + n + M.length + n + S.length = m := by rw [hml]; simp; omega
  have HO := Lib.hid h
  clear h hml
  have hab : a + n ≤ b := by omega
  have hbm : b + n ≤ m := by omega
  have HU := Lib.hid hu
  have HV := Lib.hid hv
  have HA := Lib.hid ha
  have HB := Lib.hid hb
  clear hu hv ha hb hmle
  go_enter Try.func51, Try.ntmps51
  go_wp2_with fail
  go_loopw [10] (fun i wr => ∃ k : Nat, i = .int .i64 k ∧ k ≤ n ∧ OwnsP 42 B wr (.slice (some ⟨g, 0, none⟩) m cap) (sw P U M V S k) ∧ Below B w wr) (fun i _ => n - (intOf i).toNat)
  case atStart => exact ⟨0, rfl, Nat.zero_le _, by rw [sw_0]; exact HO.out, Below.refl _ _⟩
  case round =>
    obtain ⟨k, rfl, hk, hO, hBr⟩ := hrel
    by_cases hlt : k < n
    · obtain ⟨x, hx⟩ : ∃ x, U[k]? = some x := ⟨U[k]'(by rw [HU.out]; exact hlt), by simp⟩
      obtain ⟨y, hy⟩ : ∃ y, V[k]? = some y := ⟨V[k]'(by rw [HV.out]; exact hlt), by simp⟩
      have hV := HV.out
      have hU := HU.out
      have hA := HA.out
      have hB := HB.out
      have e1 : (P ++ V.take k).length = a + k := by simp; omega
      have e2 : (P ++ V.take k).length + 1 + (U.drop (k + 1) ++ M ++ U.take k).length = b + k := by simp; omega
      rw [sw_now hx hy] at hO
      have q1 := own_at hO (two_1 _ _ _ _ _)
      have q2 := own_at hO (two_2 _ _ _ _ _)
      rw [e1] at q1
      rw [e2] at q2
      obtain ⟨c1, c2, f1, f2⟩ := q1
      obtain ⟨c3, c4, f3, f4⟩ := q2
      have hnx := sw_next (P := P) (M := M) (S := S) hx hy
      have HN := Lib.hid hnx
      have HO1 := Lib.hid hO
      have E1 := Lib.hid e1
      have E2 := Lib.hid e2
      clear hV hU hA hB e1 e2 hO hnx hx hy
      have r1 : IntKind.i64.wrap ((a : Int) + (k : Int)) = (a : Int) + (k : Int) := by rw [IntKind.wrap_i64]; omega
      have r2 : IntKind.i64.wrap ((b : Int) + (k : Int)) = (b : Int) + (k : Int) := by rw [IntKind.wrap_i64]; omega
      have p1 : (0 : Int) ≤ (a : Int) + (k : Int) := by omega
      have p2 : (0 : Int) ≤ (b : Int) + (k : Int) := by omega
      have t1 : (a : Int) + (k : Int) < (m : Int) := by omega
      have t2 : (b : Int) + (k : Int) < (m : Int) := by omega
      have n1 : ((a : Int) + (k : Int)).toNat = a + k := by omega
      have n2 : ((b : Int) + (k : Int)).toNat = b + k := by omega
      go_wp2_with fail
      go_region
      go_wp2_with fail
      go_roundw
      case rel => exact ⟨k + 1, by go_num, by omega, by rw [HN.out]; exact World.ownsRow.drew (own_swap HO1.out E1.out.symm E2.out.symm), (below_four hBr hBg _ _ _ _ _ _ _ _).drew⟩
      case measure => simp [intOf]; omega
    · have he := sw_end (P := P) (M := M) (S := S) (Nat.le_trans (Nat.le_of_eq HU.out) (by omega : n ≤ k)) (Nat.le_trans (Nat.le_of_eq HV.out) (by omega : n ≤ k))
      rw [he] at hO
      go_wp2_with fail
      go_end0
      exact ⟨rfl, hO, hBr⟩
end Go.Proofs.Ythpjemihbobjfaa
