import Derived.Test.YtoiampkdmjpljaaGreatDoorPa43
import Derived.Test.YtoiampkdmjpljaaGreatDoorPa37
/- Plain mathematics: runs of one length that are sorted; nothing of the program. -/
namespace Go.Proofs.YtoiampkdmjpljaaGreatDoor
open Go.RowKit

/-- Below place a the runs of length w are sorted. -/
def RunsTo (w a : Nat) (l : Flds) : Prop := ∀ k i j p q, w * k ≤ i → i < j → j < w * k + w → j < a → l[i]? = some p → l[j]? = some q → leK p.1 q.1
/-- From place a on the runs of length w are sorted. -/
def RunsFrom (w a : Nat) (l : Flds) : Prop := ∀ k i j p q, a ≤ i → w * k ≤ i → i < j → j < w * k + w → l[i]? = some p → l[j]? = some q → leK p.1 q.1

theorem runs_nil (w : Nat) (l : Flds) : RunsTo w 0 l := fun _ _ _ _ _ _ _ _ h => by omega
theorem get_left {P Z S : Flds} {i : Nat} (h : i < P.length) : (P ++ Z ++ S)[i]? = P[i]? := by
  rw [List.append_assoc, List.getElem?_append_left h]
theorem get_mid {P Z S : Flds} {i : Nat} (h : P.length ≤ i) (h2 : i < P.length + Z.length) : (P ++ Z ++ S)[i]? = Z[i - P.length]? := by
  rw [List.append_assoc, List.getElem?_append_right h, List.getElem?_append_left (by omega)]
theorem get_right {P Z S : Flds} {i : Nat} (h : P.length + Z.length ≤ i) : (P ++ Z ++ S)[i]? = S[i - (P.length + Z.length)]? := by
  rw [List.getElem?_append_right (by simp; omega)]; simp
theorem runs_put {w k0 : Nat} {P X Z S : Flds} (hk : P.length = w * k0) (h : RunsTo w P.length (P ++ X ++ S)) (hZ : Srt Z) : RunsTo w (P.length + Z.length) (P ++ Z ++ S) := by
  intro k i j p q h1 h2 h3 h4 hp hq
  by_cases hj : j < P.length
  · rw [get_left (by omega)] at hp hq
    exact h k i j p q h1 h2 h3 hj (by rw [get_left (by omega)]; exact hp) (by rw [get_left hj]; exact hq)
  · have hk2 : k0 ≤ k := by
      by_cases hlt : k + 1 ≤ k0
      · have := Nat.mul_le_mul_left w hlt
        rw [Nat.mul_succ] at this; omega
      · omega
    have := Nat.mul_le_mul_left w hk2
    rw [get_mid (by omega) (by omega)] at hp hq
    exact srt_get hZ hp hq (by omega)
theorem runs_from {v a : Nat} {P X Z S : Flds} (h : RunsFrom v a (P ++ X ++ S)) (hl : Z.length = X.length) : RunsFrom v (max a (P.length + X.length)) (P ++ Z ++ S) := by
  intro k i j p q h0 h1 h2 h3 hp hq
  rw [get_right (by omega), hl] at hp hq
  exact h k i j p q (by omega) h1 h2 h3 (by rw [get_right (by omega)]; exact hp) (by rw [get_right (by omega)]; exact hq)
theorem runs_from' {v a b : Nat} {P X Z S : Flds} (h : RunsFrom v a (P ++ X ++ S)) (hl : Z.length = X.length) (hb : b = P.length + X.length) (hab : a ≤ b) : RunsFrom v b (P ++ Z ++ S) := by
  have := runs_from h hl
  rwa [show max a (P.length + X.length) = b by omega] at this
theorem runs_part {v a k0 : Nat} {P X S : Flds} (h : RunsFrom v a (P ++ X ++ S)) (ha : a ≤ P.length) (hk : P.length = v * k0) (hx : X.length ≤ v) : Srt X := by
  refine List.pairwise_iff_getElem.mpr fun i j hi hj hij => ?_
  have gi : (P ++ X ++ S)[P.length + i]? = some X[i] := by rw [get_mid (by omega) (by omega)]; simp
  have gj : (P ++ X ++ S)[P.length + j]? = some X[j] := by rw [get_mid (by omega) (by omega)]; simp
  exact h k0 (P.length + i) (P.length + j) _ _ (by omega) (by omega) (by omega) (by omega) gi gj
theorem runs_all {v : Nat} {l : Flds} (h : RunsTo v l.length l) : RunsFrom v 0 l := fun k i j p q _ h1 h2 h3 hp hq =>
  h k i j p q h1 h2 h3 (List.getElem?_eq_some_iff.mp hq).1 hp hq
theorem runs_srt {v : Nat} {l : Flds} (h : RunsTo v l.length l) (hv : l.length ≤ v) : Srt l := by
  refine List.pairwise_iff_getElem.mpr fun i j hi hj hij => ?_
  exact h 0 i j _ _ (by omega) hij (by omega) hj (by simp) (by simp)
/-- The last run is a single run of half the length. -/
theorem runs_last {v k0 : Nat} {P X : Flds} (hk : P.length = 2 * v * k0) (h : RunsTo (2 * v) P.length (P ++ X)) (hX : Srt X) : RunsTo (2 * v) (P.length + X.length) (P ++ X) := by
  have := runs_put (Z := X) (S := []) (X := X) hk (by rw [List.append_nil]; exact h) hX
  rwa [List.append_nil] at this
theorem mul_two_even (v k : Nat) : 2 * v * k = v * (2 * k) := by rw [Nat.mul_comm 2 v, Nat.mul_assoc]
theorem mul_two_odd (v k : Nat) : 2 * v * k + v = v * (2 * k + 1) := by rw [mul_two_even, Nat.mul_succ]
end Go.Proofs.YtoiampkdmjpljaaGreatDoor

/- slices.stableCmpFunc: sorted by names, the fields of each name in their order. -/
namespace Go.Proofs.YtoiampkdmjpljaaGreatDoor
open Go.RowKit

def SortPost (B g n cap : Nat) (D : Flds) (w : World) (e : Ending) (w' : World) : Prop :=
  e = .returned (.tuple #[]) ∧ ∃ Z, Srt Z ∧ SameF Z D ∧ OwnsP 58 B w' (.slice (some ⟨g, 0, none⟩) n cap) Z ∧ Below B w w'
theorem parts3 (l : Flds) (a b : Nat) (h : a ≤ b) : l = l.take a ++ (l.drop a).take (b - a) ++ l.drop b := by
  have e : (l.drop a).take (b - a) ++ l.drop b = l.drop a := by
    have := List.take_append_drop (b - a) (l.drop a)
    rw [List.drop_drop, show a + (b - a) = b by omega] at this
    exact this
  rw [List.append_assoc, e, List.take_append_drop]
theorem same3 {P X Z S D : Flds} (h : SameF (P ++ X ++ S) D) (hz : SameF Z X) : SameF (P ++ Z ++ S) D := (((SameF.refl P).app hz).app (SameF.refl S)).trans h

set_option maxHeartbeats 8000000 in
set_option maxRecDepth 100000 in
theorem stable_any (B g n cap : Nat) (D : Flds) (w : World) (h : OwnsP 58 B w (.slice (some ⟨g, 0, none⟩) n cap) D) (hn : n ≤ 1000000) :
    Calls Tryz.prog 96 #[.slice (some ⟨g, 0, none⟩) n cap, .int .i64 n, cmpV] w (SortPost B g n cap D w) := by
  have HH := Lib.hid h
  clear h
  go_enter Tryz.func96, Tryz.ntmps96
  go_wp2_with fail
  go_loopw [7, 8] (fun u v wr => ∃ (k a b : Nat) (l : Flds), u = .int .i64 a ∧ v = .int .i64 b ∧ a = 20 * k ∧ b = a + 20 ∧ a ≤ n ∧ SameF l D ∧ RunsTo 20 a l ∧ OwnsP 58 B wr (.slice (some ⟨g, 0, none⟩) n cap) l ∧ Below B w wr) (fun u _ _ => n + 1 - (intOf u).toNat)
  case atStart => exact ⟨0, 0, 20, D, rfl, rfl, rfl, rfl, Nat.zero_le _, SameF.refl _, runs_nil _ _, HH.out, Below.refl _ _⟩
  case round =>
    obtain ⟨k, a, b, l, rfl, rfl, hak, hba, han, hS, hR, hO, hBr⟩ := hrel
    have hln := (own_len hO).1
    by_cases hlt : b ≤ n
    · have e3 := parts3 l a b (by omega)
      have q1 : (l.take a).length = a := by simp; omega
      have q2 : ((l.drop a).take (b - a)).length = 20 := by simp; omega
      generalize l.take a = P at e3 q1
      generalize (l.drop a).take (b - a) = X at e3 q2
      generalize l.drop b = S at e3
      subst e3
      have SR := insertion_any B g n cap a b P X S wr hO q1.symm (by omega) hn
      have HAK := Lib.hid hak
      have HBA := Lib.hid hba
      have HS := Lib.hid hS
      have HR := Lib.hid hR
      have Q1 := Lib.hid q1
      have Q2 := Lib.hid q2
      clear hak hba hS hR hO hln q1 q2
      go_wp2_with fail
      refine SR.mono ?_
      rintro e w1 ⟨rfl, Z, hz1, hz2, hO1, hB1⟩
      have HO1 := Lib.hid hO1
      have HZ1 := Lib.hid hz1
      have HZ2 := Lib.hid hz2
      clear hO1 hz1 hz2 SR
      go_wp2_with fail
      go_roundw
      case rel =>
        have ez : Z.length = 20 := by rw [HZ2.out.length, Q2.out]
        have h1 := HBA.out
        have h2 := Q1.out
        refine ⟨k + 1, b, b + 20, P ++ Z ++ S, rfl, by go_num, by have := HAK.out; omega, rfl, hlt, same3 HS.out HZ2.out, ?_, HO1.out, hBr.trans hB1⟩
        have := runs_put (k0 := k) (by rw [Q1.out, HAK.out]) (by rw [Q1.out]; exact HR.out) HZ1.out
        rwa [ez, h2, ← h1] at this
      case measure => have := HBA.out; simp [intOf]; omega
    · have e3 : l = l.take a ++ l.drop a ++ [] := by rw [List.append_nil, List.take_append_drop]
      have q1 : (l.take a).length = a := by simp; omega
      have q2 : a + (l.drop a).length = n := by simp; omega
      generalize l.take a = P at e3 q1
      generalize l.drop a = X at e3 q2
      subst e3
      have SR := insertion_any B g n cap a n P X [] wr hO q1.symm q2.symm hn
      have HAK := Lib.hid hak
      have HS := Lib.hid hS
      have HR := Lib.hid hR
      have Q1 := Lib.hid q1
      have Q2 := Lib.hid q2
      clear hak hba hS hR hO hln q1 q2
      go_wp2_with fail
      refine SR.mono ?_
      rintro e w1 ⟨rfl, Z, hz1, hz2, hO1, hB1⟩
      have ez : Z.length = X.length := hz2.length
      have hR1 : RunsTo 20 n (P ++ Z ++ []) := by
        have := runs_put (k0 := k) (by rw [Q1.out, HAK.out]) (by rw [Q1.out]; exact HR.out) hz1
        rwa [ez, Q1.out, Q2.out] at this
      have hS1 := same3 HS.out hz2
      have hB2 := hBr.trans hB1
      generalize P ++ Z ++ [] = l1 at *
      have HO1 := Lib.hid hO1
      have HR1 := Lib.hid hR1
      have HS1 := Lib.hid hS1
      clear hO1 hz1 hz2 SR ez hR1 hS1 hBr hB1
      go_wp2_with fail
      go_loopw [6] (fun u wr => ∃ (v : Nat) (l : Flds), u = .int .i64 v ∧ 0 < v ∧ SameF l D ∧ RunsTo v n l ∧ OwnsP 58 B wr (.slice (some ⟨g, 0, none⟩) n cap) l ∧ Below B w wr) (fun u _ => n + 1 - (intOf u).toNat)
      case atStart => exact ⟨20, l1, rfl, by omega, HS1.out, HR1.out, HO1.out, hB2⟩
      case round =>
        obtain ⟨v, l, rfl, hv, hS, hR, hO, hBr⟩ := hrel
        have hln := (own_len hO).1
        by_cases hvn : v < n
        · have hF : RunsFrom v 0 l := runs_all (by rw [← hln]; exact hR)
          have HS := Lib.hid hS
          have HF := Lib.hid hF
          have HO := Lib.hid hO
          clear hS hF hO hR hln
          go_wp2_with fail
          go_loopw [7, 8] (fun x y wr => ∃ (k a b : Nat) (l : Flds), x = .int .i64 a ∧ y = .int .i64 b ∧ a = 2 * v * k ∧ b = a + 2 * v ∧ a ≤ n ∧ SameF l D ∧ RunsTo (2 * v) a l ∧ RunsFrom v a l ∧ OwnsP 58 B wr (.slice (some ⟨g, 0, none⟩) n cap) l ∧ Below B w wr) (fun x _ _ => n + 1 - (intOf x).toNat)
          case atStart => exact ⟨0, 0, 2 * v, l, rfl, by go_num, by simp, by simp, Nat.zero_le _, HS.out, runs_nil _ _, HF.out, HO.out, hBr⟩
          case round =>
            obtain ⟨k, a, b, l, rfl, rfl, hak, hba, han, hS, hR, hF, hO, hBr⟩ := hrel
            have hln := (own_len hO).1
            by_cases hlt : b ≤ n
            · obtain ⟨m, hm⟩ : ∃ m, m = a + v := ⟨_, rfl⟩
              have e3 := parts3 l a b (by omega)
              have q1 : (l.take a).length = a := by simp; omega
              have q2 : ((l.drop a).take (b - a)).length = 2 * v := by simp; omega
              generalize l.take a = P at e3 q1
              generalize (l.drop a).take (b - a) = T at e3 q2
              generalize l.drop b = S at e3
              have eT : T = T.take v ++ T.drop v := (List.take_append_drop _ _).symm
              have t1 : (T.take v).length = v := by simp; omega
              have t2 : (T.drop v).length = v := by simp; omega
              generalize T.take v = X at eT t1
              generalize T.drop v = Y at eT t2
              subst eT
              subst e3
              have sX : Srt X := runs_part (S := Y ++ S) (by have h := hF; simp only [List.append_assoc] at h ⊢; exact h) (by omega) (by rw [q1, hak, mul_two_even]) (by omega)
              have sY : Srt Y := runs_part (P := P ++ X) (S := S) (by have h := hF; simp only [List.append_assoc] at h ⊢; exact h) (by simp; omega) (by rw [List.length_append, q1, t1, hak, mul_two_odd]) (by omega)
              have SR := merge_any B g n cap hn _ a m b P X Y S wr (Nat.lt_succ_self _) (by have h := hO; simp only [List.append_assoc] at h ⊢; exact h) q1.symm (by omega) (by omega) sX sY
              have em : (a : Int) + (v : Int) = (m : Int) := by omega
              have HAK := Lib.hid hak
              have HBA := Lib.hid hba
              have HS := Lib.hid hS
              have HR := Lib.hid hR
              have HF := Lib.hid hF
              have Q1 := Lib.hid q1
              have Q2 := Lib.hid q2
              clear hak hba hS hR hF hO hln q1 q2 t1 t2 sX sY hm
              go_wp2_with fail
              refine SR.mono ?_
              rintro e w1 ⟨rfl, Z, hz1, hz2, hO1, hB1⟩
              have HO1 := Lib.hid hO1
              have HZ1 := Lib.hid hz1
              have HZ2 := Lib.hid hz2
              clear hO1 hz1 hz2 SR
              go_wp2_with fail
              go_roundw
              case rel =>
                have ez : Z.length = 2 * v := by rw [HZ2.out.length, Q2.out]
                have h1 := HBA.out
                have h2 := Q1.out
                refine ⟨k + 1, b, b + 2 * v, P ++ Z ++ S, rfl, by go_num, by have := HAK.out; rw [Nat.mul_succ, ← this, h1], rfl, hlt, same3 HS.out HZ2.out, ?_, runs_from' HF.out HZ2.out.length (by rw [Q2.out, h2, h1]) (by omega), HO1.out, hBr.trans hB1⟩
                have := runs_put (k0 := k) (by rw [Q1.out, HAK.out]) (by rw [Q1.out]; exact HR.out) HZ1.out
                rwa [ez, h2, ← h1] at this
              case measure => have := HBA.out; simp [intOf]; omega
            · obtain ⟨m, hm⟩ : ∃ m, m = a + v := ⟨_, rfl⟩
              have em : (a : Int) + (v : Int) = (m : Int) := by omega
              by_cases hmn : m < n
              · have e3 : l = l.take a ++ ((l.drop a).take v ++ l.drop m) := by
                  have := parts3 l a m (by omega)
                  rw [show m - a = v by omega, List.append_assoc] at this
                  exact this
                have q1 : (l.take a).length = a := by simp; omega
                have t1 : ((l.drop a).take v).length = v := by simp; omega
                have t2 : m + (l.drop m).length = n := by simp; omega
                generalize l.take a = P at e3 q1
                generalize (l.drop a).take v = X at e3 t1
                generalize l.drop m = Y at e3 t2
                subst e3
                have sX : Srt X := runs_part (S := Y) (by have h := hF; simp only [List.append_assoc] at h ⊢; exact h) (by omega) (by rw [q1, hak, mul_two_even]) (by omega)
                have sY : Srt Y := runs_part (P := P ++ X) (S := []) (by have h := hF; simp only [List.append_assoc, List.append_nil] at h ⊢; exact h) (by simp; omega) (by rw [List.length_append, q1, t1, hak, mul_two_odd]) (by omega)
                have SR := merge_any B g n cap hn _ a m n P X Y [] wr (Nat.lt_succ_self _) (by have h := hO; simp only [List.append_assoc, List.append_nil] at h ⊢; exact h) q1.symm (by omega) (by omega) sX sY
                have HAK := Lib.hid hak
                have HS := Lib.hid hS
                have HR := Lib.hid hR
                have Q1 := Lib.hid q1
                have T1 := Lib.hid t1
                have T2 := Lib.hid t2
                have HM := Lib.hid hm
                clear hak hba hS hR hF hO hln q1 t1 t2 sX sY hm
                go_wp2_with fail
                refine SR.mono ?_
                rintro e w1 ⟨rfl, Z, hz1, hz2, hO1, hB1⟩
                have HO1 := Lib.hid hO1
                have HZ1 := Lib.hid hz1
                have HZ2 := Lib.hid hz2
                clear hO1 hz1 hz2 SR
                go_wp2_with fail
                go_roundw
                case rel =>
                  have ez := HZ2.out.length
                  refine ⟨2 * v, P ++ Z ++ [], by go_num, by omega, same3 (by have := HS.out; rwa [← List.append_nil (P ++ (X ++ Y))] at this) HZ2.out, ?_, HO1.out, hBr.trans hB1⟩
                  have := runs_put (X := X ++ Y) (S := []) (k0 := k) (by rw [Q1.out, HAK.out]) (by rw [Q1.out, List.append_nil]; exact HR.out) HZ1.out
                  rwa [ez, List.length_append, Q1.out, T1.out, show a + (v + Y.length) = n by have := T2.out; have := HM.out; omega] at this
                case measure => simp [intOf]; omega
              · have e3 : l = l.take a ++ l.drop a := (List.take_append_drop _ _).symm
                have q1 : (l.take a).length = a := by simp; omega
                have q2 : a + (l.drop a).length = n := by simp; omega
                generalize l.take a = P at e3 q1
                generalize l.drop a = X at e3 q2
                subst e3
                have sX : Srt X := runs_part (S := []) (by have h := hF; simp only [List.append_nil] at h ⊢; exact h) (by omega) (by rw [q1, hak, mul_two_even]) (by omega)
                have hR2 : RunsTo (2 * v) n (P ++ X) := by
                  have := runs_last (k0 := k) (by rw [q1, hak]) (by rw [q1]; exact hR) sX
                  rwa [q1, q2] at this
                have HS := Lib.hid hS
                have HR2 := Lib.hid hR2
                have HO := Lib.hid hO
                clear hak hba hS hR hF hO hln q1 q2 sX hm hR2
                go_wp2_with fail
                go_roundw
                case rel => exact ⟨2 * v, P ++ X, by go_num, by omega, HS.out, HR2.out, HO.out, hBr⟩
                case measure => simp [intOf]; omega
        · have hs : Srt l := runs_srt (by rw [← hln]; exact hR) (by omega)
          have HS := Lib.hid hS
          have Hs := Lib.hid hs
          have HO := Lib.hid hO
          clear hS hs hO hR hln
          go_wp2_with fail
          go_end0
          exact ⟨rfl, l, Hs.out, HS.out, HO.out, hBr⟩
end Go.Proofs.YtoiampkdmjpljaaGreatDoor

/- Plain mathematics: two lists of fields are the same; nothing of the program. -/
namespace Go.Proofs.YtoiampkdmjpljaaGreatDoor
open Go.RowKit

/-- The fields with their names in lower case. -/
def lowF (ps : Flds) : Flds := ps.map fun p => (lowS p.1, p.2)
theorem lowF_len (ps : Flds) : (lowF ps).length = ps.length := List.length_map ..
theorem lowF_app (ps qs : Flds) : lowF (ps ++ qs) = lowF ps ++ lowF qs := List.map_append ..
theorem lowF_more {ps : Flds} {k : Nat} {p : List UInt8 × List UInt8} (h : ps[k]? = some p) : lowF (ps.take (k + 1)) = lowF (ps.take k) ++ [(lowS p.1, p.2)] := by rw [take_more h, lowF_app]; rfl
theorem low_filter (ps : Flds) (n : List UInt8) : (lowF ps).filter (hasK n) = if lowS n = n then (allL ps n).map fun v => (n, v) else [] := by
  unfold lowF allL
  split
  · rename_i hn
    induction ps with
    | nil => rfl
    | cons p r ih =>
      rw [List.map_cons]
      by_cases h : lowS p.1 = n
      · rw [List.filter_cons_of_pos (by unfold hasK; simp [h]), List.filter_cons_of_pos (by unfold ofN; simp [h, hn]), List.map_cons, List.map_cons, ih, h]
      · rw [List.filter_cons_of_neg (by unfold hasK; simp [h]), List.filter_cons_of_neg (by unfold ofN; simp [h, hn]), ih]
  · rename_i hn
    rw [List.filter_eq_nil_iff]
    intro q hq hk
    obtain ⟨p, _, rfl⟩ := List.mem_map.mp hq
    exact hn (by rw [← of_decide_eq_true hk]; exact lowS_low p.1)
theorem all_nil {ps : Flds} {n : List UInt8} (h : ∀ p ∈ ps, lowS p.1 ≠ lowS n) : allL ps n = [] := by
  unfold allL
  rw [List.map_eq_nil_iff, List.filter_eq_nil_iff]
  exact fun p hp hk => h p hp (of_decide_eq_true hk)
theorem all_same {A B : Flds} (h : SameF (lowF A) (lowF B)) (n : List UInt8) : allL A n = allL B n := by
  have h1 := h (lowS n)
  rw [low_filter, low_filter, if_pos (lowS_low n), if_pos (lowS_low n)] at h1
  have h2 := congrArg (List.map (·.2)) h1
  simp only [List.map_map] at h2
  have e : ∀ l : List (List UInt8), l.map ((fun p : List UInt8 × List UInt8 => p.2) ∘ fun v => (lowS n, v)) = l := fun l => by
    have : ((fun p : List UInt8 × List UInt8 => p.2) ∘ fun v => (lowS n, v)) = id := rfl
    rw [this, List.map_id]
  rw [e, e] at h2
  rwa [all_congr (lowS_low n), all_congr (lowS_low n)] at h2
theorem same_of_all {A B : Flds} (h : ∀ n, allL A n = allL B n) : SameF (lowF A) (lowF B) := fun n => by rw [low_filter, low_filter, h n]
/-- The reference compares the values of the first list's names: with as many fields that is enough. -/
theorem same_iff (A B : Flds) : SameF (lowF A) (lowF B) ↔ A.length = B.length ∧ ∀ p ∈ A, allL A p.1 = allL B p.1 := by
  constructor
  · intro h
    exact ⟨by rw [← lowF_len A, ← lowF_len B, h.length], fun p _ => all_same h p.1⟩
  · rintro ⟨hl, h⟩
    -- the fields of B whose names stand in A
    let f : List UInt8 × List UInt8 → Bool := fun q => decide (∃ p ∈ A, lowS p.1 = lowS q.1)
    have hB : SameF (lowF A) (lowF (B.filter f)) := same_of_all fun n => by
      by_cases hn : ∃ p ∈ A, lowS p.1 = lowS n
      · obtain ⟨p, hp, he⟩ := hn
        have e : allL (B.filter f) n = allL B n := by
          unfold allL
          rw [List.filter_filter]
          congr 1
          refine List.filter_congr fun q _ => ?_
          by_cases hq : ofN n q = true
          · have : f q = true := decide_eq_true ⟨p, hp, he.trans (of_decide_eq_true hq).symm⟩
            rw [hq, this]; rfl
          · rw [Bool.eq_false_iff.mpr hq]; rfl
        rw [e, ← all_congr (ps := A) he, ← all_congr (ps := B) he]
        exact h p hp
      · rw [all_nil fun p hp he => hn ⟨p, hp, he⟩, all_nil fun q hq he => ?_]
        obtain ⟨p, hp, hpe⟩ := of_decide_eq_true (List.mem_filter.1 hq).2
        exact hn ⟨p, hp, hpe.trans he⟩
    have hlen : (B.filter f).length = B.length := by rw [← hl, ← lowF_len A, hB.length, lowF_len]
    have hall : B.filter f = B := List.filter_eq_self.mpr (List.length_filter_eq_length_iff.mp hlen)
    rwa [hall] at hB
/-- Two sorted lists are equal just if their sources are the same. -/
theorem srt_iff {Za Zb A B : Flds} (ha : Srt Za) (hb : Srt Zb) (sa : SameF Za A) (sb : SameF Zb B) : Za = Zb ↔ SameF A B :=
  ⟨fun h => by subst h; exact sa.symm.trans sb, fun h => srt_unique ha hb (sa.trans (h.trans sb.symm))⟩
theorem same_take {A B : Flds} {k : Nat} {p : List UInt8 × List UInt8} (hp : A[k]? = some p) (h : ∀ q ∈ A.take k, allL A q.1 = allL B q.1) (he : allL A p.1 = allL B p.1) : ∀ q ∈ A.take (k + 1), allL A q.1 = allL B q.1 := by
  rw [take_more hp]
  intro q hq
  rcases List.mem_append.1 hq with hq | hq
  · exact h q hq
  · simp at hq; subst hq; exact he
end Go.Proofs.YtoiampkdmjpljaaGreatDoor
