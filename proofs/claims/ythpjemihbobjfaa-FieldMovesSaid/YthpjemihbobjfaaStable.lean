/- slices.stableCmpFunc: sorted by names, the fields of each name in their order. -/
import Derived.Test.YthpjemihbobjfaaRuns
namespace Go.Proofs.Ythpjemihbobjfaa
open Go.RowKit

def SortPost (B g n cap : Nat) (D : Flds) (w : World) (e : Ending) (w' : World) : Prop :=
  e = .returned (.tuple #[]) ∧ ∃ Z, Srt Z ∧ SameF Z D ∧ OwnsP 42 B w' (.slice (some ⟨g, 0, none⟩) n cap) Z ∧ Below B w w'
theorem parts3 (l : Flds) (a b : Nat) (h : a ≤ b) : l = l.take a ++ (l.drop a).take (b - a) ++ l.drop b := by
  have e : (l.drop a).take (b - a) ++ l.drop b = l.drop a := by
    have := List.take_append_drop (b - a) (l.drop a)
    rw [List.drop_drop, show a + (b - a) = b by omega] at this
    exact this
  rw [List.append_assoc, e, List.take_append_drop]
theorem same3 {P X Z S D : Flds} (h : SameF (P ++ X ++ S) D) (hz : SameF Z X) : SameF (P ++ Z ++ S) D := (((SameF.refl P).app hz).app (SameF.refl S)).trans h

set_option maxHeartbeats 8000000 in
set_option maxRecDepth 100000 in
theorem stable_any (B g n cap : Nat) (D : Flds) (w : World) (h : OwnsP 42 B w (.slice (some ⟨g, 0, none⟩) n cap) D) (hn : n ≤ 1000000) :
    Calls Try.prog 43 #[.slice (some ⟨g, 0, none⟩) n cap, .int .i64 n, cmpV] w (SortPost B g n cap D w) := by
  have HH := Lib.hid h
  clear h
  go_enter Try.func43, Try.ntmps43
  go_wp2_with fail
  go_loopw [7, 8] (fun u v wr => ∃ (k a b : Nat) (l : Flds), u = .int .i64 a ∧ v = .int .i64 b ∧ a = 20 * k ∧ b = a + 20 ∧ a ≤ n ∧ SameF l D ∧ RunsTo 20 a l ∧ OwnsP 42 B wr (.slice (some ⟨g, 0, none⟩) n cap) l ∧ Below B w wr) (fun u _ _ => n + 1 - (intOf u).toNat)
  case atStart => exact ⟨0, 0, 20, D, rfl, rfl, rfl, rfl, Nat.zero_le _, SameF.refl _, runs_nil _ _, HH.out, Below.refl _ _⟩
  case round =>
    obtain ⟨k, a, b, l, rfl, rfl, hak, hba, han, hS, hR, hO, hBr⟩ := hrel
    have hln := (own_len hO).1
    by_cases hlt : b ≤ n
    · have e3 := parts3 l a b (by omega)
      have q1 : (l.take a).length = a := by simp; omega
      have q2 : ((l.drop a).take (b - a)).length = 20 := by simp; omega
      generalize l.take a = P at e3 q1
      generalize (l.drop a).take (b - a) = X at e3 q2
      generalize l.drop b = S at e3
      subst e3
      have SR := insertion_any B g n cap a b P X S wr hO q1.symm (by omega) hn
      have HAK := Lib.hid hak
      have HBA := Lib.hid hba
      have HS := Lib.hid hS
      have HR := Lib.hid hR
      have Q1 := Lib.hid q1
      have Q2 := Lib.hid q2
      clear hak hba hS hR hO hln q1 q2
      go_wp2_with fail
      refine SR.mono ?_
      rintro e w1 ⟨rfl, Z, hz1, hz2, hO1, hB1⟩
      have HO1 := Lib.hid hO1
      have HZ1 := Lib.hid hz1
      have HZ2 := Lib.hid hz2
      clear hO1 hz1 hz2 SR
      go_wp2_with fail
      go_roundw
      case rel =>
        have ez : Z.length = 20 := by rw [HZ2.out.length, Q2.out]
        have h1 := HBA.out
        have h2 := Q1.out
        refine ⟨k + 1, b, b + 20, P ++ Z ++ S, rfl, by go_num, by have := HAK.out; omega, rfl, hlt, same3 HS.out HZ2.out, ?_, HO1.out, hBr.trans hB1⟩
        have := runs_put (k0 := k) (by rw [Q1.out, HAK.out]) (by rw [Q1.out]; exact HR.out) HZ1.out
        rwa [ez, h2, ← h1] at this
      case measure => have := HBA.out; simp [intOf]; omega
    · have e3 : l = l.take a ++ l.drop a ++ [] := by rw [List.append_nil, List.take_append_drop]
      have q1 : (l.take a).length = a := by simp; omega
      have q2 : a + (l.drop a).length = n := by simp; omega
      generalize l.take a = P at e3 q1
      generalize l.drop a = X at e3 q2
      subst e3
      have SR := insertion_any B g n cap a n P X [] wr hO q1.symm q2.symm hn
      have HAK := Lib.hid hak
      have HS := Lib.hid hS
      have HR := Lib.hid hR
      have Q1 := Lib.hid q1
      have Q2 := Lib.hid q2
      clear hak hba hS hR hO hln q1 q2
      go_wp2_with fail
      refine SR.mono ?_
      rintro e w1 ⟨rfl, Z, hz1, hz2, hO1, hB1⟩
      have ez : Z.length = X.length := hz2.length
      have hR1 : RunsTo 20 n (P ++ Z ++ []) := by
        have := runs_put (k0 := k) (by rw [Q1.out, HAK.out]) (by rw [Q1.out]; exact HR.out) hz1
        rwa [ez, Q1.out, Q2.out] at this
      have hS1 := same3 HS.out hz2
      have hB2 := hBr.trans hB1
      generalize P ++ Z ++ [] = l1 at *
      have HO1 := Lib.hid hO1
      have HR1 := Lib.hid hR1
      have HS1 := Lib.hid hS1
      clear hO1 hz1 hz2 SR ez hR1 hS1 hBr hB1
      go_wp2_with fail
      go_loopw [6] (fun u wr => ∃ (v : Nat) (l : Flds), u = .int .i64 v ∧ 0 < v ∧ SameF l D ∧ RunsTo v n l ∧ OwnsP 42 B wr (.slice (some ⟨g, 0, none⟩) n cap) l ∧ Below B w wr) (fun u _ => n + 1 - (intOf u).toNat)
      case atStart => exact ⟨20, l1, rfl, by omega, HS1.out, HR1.out, HO1.out, hB2⟩
      case round =>
        obtain ⟨v, l, rfl, hv, hS, hR, hO, hBr⟩ := hrel
        have hln := (own_len hO).1
        by_cases hvn : v < n
        · have hF : RunsFrom v 0 l := runs_all (by rw [← hln]; exact hR)
          have HS := Lib.hid hS
          have HF := Lib.hid hF
          have HO := Lib.hid hO
          clear hS hF hO hR hln
          go_wp2_with fail
          go_loopw [7, 8] (fun x y wr => ∃ (k a b : Nat) (l : Flds), x = .int .i64 a ∧ y = .int .i64 b ∧ a = 2 * v * k ∧ b = a + 2 * v ∧ a ≤ n ∧ SameF l D ∧ RunsTo (2 * v) a l ∧ RunsFrom v a l ∧ OwnsP 42 B wr (.slice (some ⟨g, 0, none⟩) n cap) l ∧ Below B w wr) (fun x _ _ => n + 1 - (intOf x).toNat)
          case atStart => exact ⟨0, 0, 2 * v, l, rfl, by go_num, by simp, by simp, Nat.zero_le _, HS.out, runs_nil _ _, HF.out, HO.out, hBr⟩
          case round =>
            obtain ⟨k, a, b, l, rfl, rfl, hak, hba, han, hS, hR, hF, hO, hBr⟩ := hrel
            have hln := (own_len hO).1
            by_cases hlt : b ≤ n
            · obtain ⟨m, hm⟩ : ∃ m, m = a + v := ⟨_, rfl⟩
              have e3 := parts3 l a b (by omega)
              have q1 : (l.take a).length = a := by simp; omega
              have q2 : ((l.drop a).take (b - a)).length = 2 * v := by simp; omega
              generalize l.take a = P at e3 q1
              generalize (l.drop a).take (b - a) = T at e3 q2
              generalize l.drop b = S at e3
              have eT : T = T.take v ++ T.drop v := (List.take_append_drop _ _).symm
              have t1 : (T.take v).length = v := by simp; omega
              have t2 : (T.drop v).length = v := by simp; omega
              generalize T.take v = X at eT t1
              generalize T.drop v = Y at eT t2
              subst eT
              subst e3
              have sX : Srt X := runs_part (S := Y ++ S) (by have h := hF; simp only [List.append_assoc] at h ⊢; exact h) (by omega) (by rw [q1, hak, mul_two_even]) (by omega)
              have sY : Srt Y := runs_part (P := P ++ X) (S := S) (by have h := hF; simp only [List.append_assoc] at h ⊢; exact h) (by simp; omega) (by rw [List.length_append, q1, t1, hak, mul_two_odd]) (by omega)
              have SR := merge_any B g n cap hn _ a m b P X Y S wr (Nat.lt_succ_self _) (by have h := hO; simp only [List.append_assoc] at h ⊢; exact h) q1.symm (by omega) (by omega) sX sY
              have em : (a : Int) + (v : Int) = (m : Int) := by omega
              have HAK := Lib.hid hak
              have HBA := Lib.hid hba
              have HS := Lib.hid hS
              have HR := Lib.hid hR
              have HF := Lib.hid hF
              have Q1 := Lib.hid q1
              have Q2 := Lib.hid q2
              clear hak hba hS hR hF hO hln q1 q2 t1 t2 sX sY hm
              go_wp2_with fail
              refine SR.mono ?_
              rintro e w1 ⟨rfl, Z, hz1, hz2, hO1, hB1⟩
              have HO1 := Lib.hid hO1
              have HZ1 := Lib.hid hz1
              have HZ2 := Lib.hid hz2
              clear hO1 hz1 hz2 SR
              go_wp2_with fail
              go_roundw
              case rel =>
                have ez : Z.length = 2 * v := by rw [HZ2.out.length, Q2.out]
                have h1 := HBA.out
                have h2 := Q1.out
                refine ⟨k + 1, b, b + 2 * v, P ++ Z ++ S, rfl, by go_num, by have := HAK.out; rw [Nat.mul_succ, ← this, h1], rfl, hlt, same3 HS.out HZ2.out, ?_, runs_from' HF.out HZ2.out.length (by rw [Q2.out, h2, h1]) (by omega), HO1.out, hBr.trans hB1⟩
                have := runs_put (k0 := k) (by rw [Q1.out, HAK.out]) (by rw [Q1.out]; exact HR.out) HZ1.out
                rwa [ez, h2, ← h1] at this
              case measure => have := HBA.out; simp [intOf]; omega
            · obtain ⟨m, hm⟩ : ∃ m, m = a + v := ⟨_, rfl⟩
              have em : (a : Int) + (v : Int) = (m : Int) := by omega
              by_cases hmn : m < n
              · have e3 : l = l.take a ++ ((l.drop a).take v ++ l.drop m) := by
                  have := parts3 l a m (by omega)
                  rw [show m - a = v by omega, List.append_assoc] at this
                  exact this
                have q1 : (l.take a).length = a := by simp; omega
                have t1 : ((l.drop a).take v).length = v := by simp; omega
                have t2 : m + (l.drop m).length = n := by simp; omega
                generalize l.take a = P at e3 q1
                generalize (l.drop a).take v = X at e3 t1
                generalize l.drop m = Y at e3 t2
                subst e3
                have sX : Srt X := runs_part (S := Y) (by have h := hF; simp only [List.append_assoc] at h ⊢; exact h) (by omega) (by rw [q1, hak, mul_two_even]) (by omega)
                have sY : Srt Y := runs_part (P := P ++ X) (S := []) (by have h := hF; simp only [List.append_assoc, List.append_nil] at h ⊢; exact h) (by simp; omega) (by rw [List.length_append, q1, t1, hak, mul_two_odd]) (by omega)
                have SR := merge_any B g n cap hn _ a m n P X Y [] wr (Nat.lt_succ_self _) (by have h := hO; simp only [List.append_assoc, List.append_nil] at h ⊢; exact h) q1.symm (by omega) (by omega) sX sY
                have HAK := Lib.hid hak
                have HS := Lib.hid hS
                have HR := Lib.hid hR
                have Q1 := Lib.hid q1
                have T1 := Lib.hid t1
                have T2 := Lib.hid t2
                have HM := Lib.hid hm
                clear hak hba hS hR hF hO hln q1 t1 t2 sX sY hm
                go_wp2_with fail
                refine SR.mono ?_
                rintro e w1 ⟨rfl, Z, hz1, hz2, hO1, hB1⟩
                have HO1 := Lib.hid hO1
                have HZ1 := Lib.hid hz1
                have HZ2 := Lib.hid hz2
                clear hO1 hz1 hz2 SR
                go_wp2_with fail
                go_roundw
                case rel =>
                  have ez := HZ2.out.length
                  refine ⟨2 * v, P ++ Z ++ [], by go_num, by omega, same3 (by have := HS.out; rwa [← List.append_nil (P ++ (X ++ Y))] at this) HZ2.out, ?_, HO1.out, hBr.trans hB1⟩
                  have := runs_put (X := X ++ Y) (S := []) (k0 := k) (by rw [Q1.out, HAK.out]) (by rw [Q1.out, List.append_nil]; exact HR.out) HZ1.out
                  rwa [ez, List.length_append, Q1.out, T1.out, show a + (v + Y.length) = n by have := T2.out; have := HM.out; omega] at this
                case measure => simp [intOf]; omega
              · have e3 : l = l.take a ++ l.drop a := (List.take_append_drop _ _).symm
                have q1 : (l.take a).length = a := by simp; omega
                have q2 : a + (l.drop a).length = n := by simp; omega
                generalize l.take a = P at e3 q1
                generalize l.drop a = X at e3 q2
                subst e3
                have sX : Srt X := runs_part (S := []) (by have h := hF; simp only [List.append_nil] at h ⊢; exact h) (by omega) (by rw [q1, hak, mul_two_even]) (by omega)
                have hR2 : RunsTo (2 * v) n (P ++ X) := by
                  have := runs_last (k0 := k) (by rw [q1, hak]) (by rw [q1]; exact hR) sX
                  rwa [q1, q2] at this
                have HS := Lib.hid hS
                have HR2 := Lib.hid hR2
                have HO := Lib.hid hO
                clear hak hba hS hR hF hO hln q1 q2 sX hm hR2
                go_wp2_with fail
                go_roundw
                case rel => exact ⟨2 * v, P ++ X, by go_num, by omega, HS.out, HR2.out, HO.out, hBr⟩
                case measure => simp [intOf]; omega
        · have hs : Srt l := runs_srt (by rw [← hln]; exact hR) (by omega)
          have HS := Lib.hid hS
          have Hs := Lib.hid hs
          have HO := Lib.hid hO
          clear hS hs hO hR hln
          go_wp2_with fail
          go_end0
          exact ⟨rfl, l, Hs.out, HS.out, HO.out, hBr⟩
end Go.Proofs.Ythpjemihbobjfaa
