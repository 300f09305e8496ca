/- What the code's Merge returns: the ranges, in order and joined. -/
import Derived.Test.YtdcnoegnkopfdaaDoorRSort
import Derived.Deep.QuietTactic
import Derived.BigQuiet
import Derived.BigRegion
import Derived.IntWalk
namespace Go.Proofs.YtdcnoegnkopfdaaDoor
open Go.RowKit

theorem own_snoc {T : TypeId} {B : Nat} {w : World} {v : Value} {m : List Rg} {q : Rg} (h : OwnsI T B w v (m ++ [q])) : ∃ g cap, v = .slice (some ⟨g, 0, none⟩) (m.length + 1) cap ∧ B ≤ g ∧ g < w.heap.size := by
  have h0 := h
  rcases h with ⟨hl, ⟨_, hn⟩ | ⟨g, cap, cur, hv, hb, hg, _⟩⟩
  · simp at hn
  · exact ⟨g, cap, by rw [hv]; simp, hb, (World.ownsRow.lt h0 g (by rw [hv]; rfl)).2⟩
theorem own_last {T : TypeId} {B g cap : Nat} {w : World} {m : List Rg} {q : Rg} (h : OwnsI T B w (.slice (some ⟨g, 0, none⟩) (m.length + 1) cap) (m ++ [q])) :
    w.cell? ⟨g, m.length * 2, none⟩ = some (.int .i64 q.1) ∧ w.cell? ⟨g, m.length * 2 + 1, none⟩ = some (.int .i64 q.2) ∧ w.frozen? ⟨g, m.length * 2 + 1, none⟩ = false := by
  have hl : (m ++ [q]).length = m.length + 1 := by simp
  unfold OwnsI at h
  rw [hl] at h
  have hf := flatI_at (m ++ [q]) m.length q (by simp)
  exact ⟨(World.ownsRow.cellAt h _ (by omega)).trans hf.1, (World.ownsRow.cellAt h _ (by omega)).trans hf.2, World.ownsRow.frozenAt h _⟩
theorem own_grow {T : TypeId} {B g cap : Nat} {w : World} {m : List Rg} {q : Rg} (h : OwnsI T B w (.slice (some ⟨g, 0, none⟩) (m.length + 1) cap) (m ++ [q])) (z : Int) :
    OwnsI T B (w.setCell ⟨g, m.length * 2 + 1, none⟩ (.int .i64 z)) (.slice (some ⟨g, 0, none⟩) (m.length + 1) cap) (m ++ [(q.1, z)]) := by
  have hl : ∀ q : Rg, (m ++ [q]).length = m.length + 1 := fun q => by simp
  unfold OwnsI at *
  rw [hl] at *
  have := (World.ownsRow.stored h (m.length * 2 + 1) (.int .i64 z)).1
  have e : (flatI (m ++ [q])).set (m.length * 2 + 1) (.int .i64 z) = flatI (m ++ [(q.1, z)]) := by
    rw [flatI_app, flatI_app, List.set_append_right _ _ (by rw [flatI_len]; omega), flatI_len]
    rw [show m.length * 2 + 1 - m.length * 2 = 1 by omega]; rfl
  rwa [e] at this
/-- What has been joined of the first k ranges in order. -/
def MRel (T : TypeId) (qs : List Rg) (w : World) (v i : Value) (wr : World) : Prop :=
  ∃ (k : Nat) (ms : List Rg), i = .int .i64 k ∧ k ≤ qs.length ∧ OwnsI T w.heap.size wr v ms ∧ Joins ms (qs.take k) ∧ ms.length ≤ k ∧ (∀ q ∈ ms, ∀ j r, k ≤ j → qs[j]? = some r → q.1 ≤ r.1) ∧ Below w.heap.size w wr
def MergePost (T : TypeId) (l : List Rg) (w : World) (e : Ending) (w' : World) : Prop :=
  ∃ v ms, e = .returned v ∧ OwnsI T w.heap.size w' v ms ∧ Joins ms l ∧ ms.length ≤ l.length ∧ Below w.heap.size w w'
theorem ord_step {ms qs : List Rg} {k : Nat} (h : ∀ q ∈ ms, ∀ j r, k ≤ j → qs[j]? = some r → q.1 ≤ r.1) : ∀ q ∈ ms, ∀ j r, k + 1 ≤ j → qs[j]? = some r → q.1 ≤ r.1 :=
  fun q hq j r hj hr => h q hq j r (by omega) hr
theorem ord_new {qs : List Rg} {k : Nat} {p : Rg} (hs : qs.Pairwise (fun a b => a.1 ≤ b.1)) (hp : qs[k]? = some p) : ∀ j r, k + 1 ≤ j → qs[j]? = some r → p.1 ≤ r.1 := by
  intro j r hj hr
  rw [List.pairwise_iff_getElem] at hs
  have hk := (List.getElem?_eq_some_iff.mp hp)
  have hjj := (List.getElem?_eq_some_iff.mp hr)
  obtain ⟨hk1, rfl⟩ := hk
  obtain ⟨hj1, rfl⟩ := hjj
  exact hs k j hk1 hj1 (by omega)
theorem take_succ_of {qs : List Rg} {k : Nat} {p : Rg} (hp : qs[k]? = some p) : qs.take (k + 1) = qs.take k ++ [p] := by rw [List.take_add_one, hp]; rfl
theorem last_lt {m : List Rg} {a b x : Int} (h : Canon (m ++ [(a, b)])) (hx : b < x) : ∀ q ∈ m ++ [(a, b)], q.2 < x := by
  intro q hq
  rcases List.mem_append.mp hq with hq | hq
  · have := h.lasts q hq; simp only at this; omega
  · simp at hq; subst hq; exact hx
theorem ord_snoc {ms qs : List Rg} {k : Nat} {p : Rg} (h : ∀ q ∈ ms, ∀ j r, k ≤ j → qs[j]? = some r → q.1 ≤ r.1) (hp : ∀ j r, k + 1 ≤ j → qs[j]? = some r → p.1 ≤ r.1) : ∀ q ∈ ms ++ [p], ∀ j r, k + 1 ≤ j → qs[j]? = some r → q.1 ≤ r.1 := by
  intro q hq j r hj hr
  rcases List.mem_append.mp hq with hq | hq
  · exact h q hq j r (by omega) hr
  · simp at hq; subst hq; exact hp j r hj hr
theorem ord_grow {m qs : List Rg} {k : Nat} {a b z : Int} (h : ∀ q ∈ m ++ [(a, b)], ∀ j r, k ≤ j → qs[j]? = some r → q.1 ≤ r.1) : ∀ q ∈ m ++ [(a, z)], ∀ j r, k + 1 ≤ j → qs[j]? = some r → q.1 ≤ r.1 := by
  intro q hq j r hj hr
  rcases List.mem_append.mp hq with hq | hq
  · exact h q (by simp [hq]) j r (by omega) hr
  · simp at hq; subst hq; exact h (a, b) (by simp) j r (by omega) hr
set_option maxHeartbeats 8000000 in
set_option maxRecDepth 100000 in
theorem merge_any (v : Value) (l : List Rg) (B : Nat) (w : World) (hO : OwnsI 46 B w v l) (hl : l.length ≤ 100000) :
    Calls Tryd.prog 23 #[v] w (MergePost 46 l w) := by
  obtain ⟨i0, hi, hz0, hz1, hz2⟩ := info_parts Tryd.infoR
  have HC := Lib.hid (rclone_any v l B w hO (by omega))
  have HSO := Lib.hid (fun (v' : Value) (w1 : World) (hB : w.heap.size ≤ w1.heap.size) (hO : OwnsI 46 w.heap.size w1 v' l) => rsort_any v' l w.heap.size w1 hB hO (by omega))
  clear hO
  go_enter Tryd.func23, Tryd.ntmps23
  go_wp2_with fail
  refine HC.out.mono ?_
  rintro e w1 ⟨v1, rfl, hO1, hB1⟩
  have HB1 := Lib.hid hB1
  have HO1 := Lib.hid hO1
  clear hO1 hB1
  go_wp2_with fail
  refine (HSO.out _ _ HB1.out.size HO1.out).mono ?_
  rintro e w2 ⟨rfl, qs, hmem, hql, hsort, hR, hB2⟩
  have HB2 := Lib.hid (HB1.out.trans hB2)
  have HM := Lib.hid hmem
  have HS := Lib.hid hsort
  have hqll : qs.length ≤ 100000 := by omega
  have HQL := Lib.hid hql
  obtain ⟨ao, ca, rfl, hca⟩ := hR
  have HA := Lib.hid hca
  clear hmem hsort hca hB2 HO1 HC HSO hql
  go_wp2_with fail
  go_loopw [4, 14] (fun v i wr => MRel 46 qs w2 v i wr) (fun _ i _ => qs.length - (intOf i).toNat)
  case atStart => exact ⟨0, [], rfl, Nat.zero_le _, OwnsI.nil _ _ _, Joins.nil, Nat.le_refl _, (fun q hq => by cases hq), Below.refl _ _⟩
  case round =>
    obtain ⟨k, ms, rfl, hk, hO, hJ, hmk, hord, hBr⟩ := hrel
    have hbr := hBr.size
    have HBR := Lib.hid hBr
    have HJ := Lib.hid hJ
    have HORD := Lib.hid hord
    clear hBr hJ hord
    by_cases hlt : k < qs.length
    · obtain ⟨p, hp⟩ : ∃ p, qs[k]? = some p := ⟨qs[k], by simp [hlt]⟩
      obtain ⟨g, off, rfl, hg, hc1, hc2⟩ := HA.out k p hp
      have hd1 := (HBR.out.cell (p := ⟨g, off + k * 2, none⟩) hg).trans hc1
      have hd2 := (HBR.out.cell (p := ⟨g, off + k * 2 + 1, none⟩) hg).trans hc2
      have HT := Lib.hid (take_succ_of hp)
      have HNEW := Lib.hid (ord_new HS.out hp)
      have HNOW := Lib.hid (fun q hq => HORD.out q hq k p (Nat.le_refl _) hp)
      clear hp hc1 hc2
      obtain ⟨x, y⟩ := p
      simp only at hd1 hd2
      have HIE := Lib.hid (fun (w : World) => (show Calls Tryd.prog 38 #[.agg #[.int .i64 x, .int .i64 y]] w fun e w' => e = .returned (.bool (decide (y ≤ x))) ∧ Below w.heap.size w w' from isEmpty_any (x, y) w))
      have hO0 := hO.reads
      obtain ⟨mo, mc, rfl, _⟩ := hO0
      have HO := Lib.hid hO
      clear hO
      by_cases hxy : y ≤ x
      · have hd : decide (y ≤ x) = true := decide_eq_true hxy
        have HXY := Lib.hid hxy
        clear hxy
        go_wp2_with fail
        refine (HIE.out _).mono ?_
        rintro e w4 ⟨rfl, hB4⟩
        have HC4 := Lib.hid ((below_new wr (.cells #[.int .i64 x, .int .i64 y] 46)).trans (hB4.mono (by simp)))
        clear hB4
        go_wp2_with fail
        go_roundw
        case rel => exact ⟨k + 1, ms, by go_num, by omega, HO.out.below HC4.out, by rw [HT.out]; exact HJ.out.empty HXY.out, by omega, ord_step HORD.out, HBR.out.trans (HC4.out.mono hbr)⟩
        case measure => simp [intOf]; omega
      · have hd : decide (y ≤ x) = false := decide_eq_false hxy
        have HXY := Lib.hid (show x < y by omega)
        clear hxy
        rcases (show ms = [] ∨ ∃ m q, ms = m ++ [q] from by rcases List.eq_nil_or_concat ms with h | ⟨m, q, h⟩; exact .inl h; exact .inr ⟨m, q, by rw [h, List.concat_eq_append]⟩) with rfl | ⟨m, q, rfl⟩
        · have hO' := HO.out.reads.nilOf
          obtain ⟨mo', mc', hO'⟩ := hO'
          rw [hO'] at HO
          rw [hO']
          clear hO'
          go_wp2_with fail
          refine (HIE.out _).mono ?_
          rintro e w4 ⟨rfl, hB4⟩
          have HC4 := Lib.hid ((below_new wr (.cells #[.int .i64 x, .int .i64 y] 46)).trans (hB4.mono (by simp)))
          have HTW := Lib.hid ((twoI_new wr x y 46).below hB4)
          obtain ⟨c0, c1, f0, f1, hN⟩ := HTW.out
          clear hB4
          go_wp2_with fail
          go_quiet (fail)
          have hO4 := HO.out.below (below_drewN HC4.out nq)
          have hT4 := HTW.out.drewN nq
          have HC5 := Lib.hid (below_drewN HC4.out nq)
          have hsz5 := HC5.out.size
          clear c0 c1 f0 f1 hN
          generalize w4.drewN nq = W at *
          obtain ⟨c0, c1, f0, f1, hN⟩ := hT4
          go_wp2_with (at_builtin; go_must (refine wpList_append_own _ rfl _ _ 23 rfl w2.heap.size 46 i0 (.agg #[.int .i64 0, .int .i64 0]) 2 16 Tryd.underlying23 hi hz0 hz1 hz2 rfl (by decide) _ _ _ rfl (World.ownsRow.alloc hO4 _) ⟨W.heap.size, 0, none⟩ 1 1 [.int .i64 x, .int .i64 y] rfl rfl (new_rg W x y _) (fun u hu => by simp at hu; rcases hu with rfl | rfl <;> rfl) (by unfold maxLen; simp) (by simp) (by simp; omega) ?_); intro v' w5 hown' hgrow _)
          go_roundw
          case rel => exact ⟨k + 1, [(x, y)], by go_num, by omega, OwnsI.snoc (ps := []) hown', by rw [HT.out]; exact HJ.out.next HXY.out (fun q hq => by cases hq), by simp, (fun q hq j r hj hr => by simp at hq; subst hq; exact HNEW.out j r hj hr), below_appendI HBR.out hbr HC5.out HO.out hgrow⟩
          case measure => simp [intOf]; omega
        · have hO' := HO.out
          obtain ⟨mg, mc', hv, hmg, hmg2⟩ := own_snoc HO.out
          rw [hv] at HO
          rw [hv]
          clear hv hO'
          have hmk1 : m.length + 1 ≤ k := by simpa using hmk
          have hq1 := HNOW.out q (by simp)
          have HQX := Lib.hid hq1
          clear hmk hq1
          go_wp2_with fail
          refine (HIE.out _).mono ?_
          rintro e w4 ⟨rfl, hB4⟩
          have HC4 := Lib.hid ((below_new wr (.cells #[.int .i64 x, .int .i64 y] 46)).trans (hB4.mono (by simp)))
          have HTW := Lib.hid ((twoI_new wr x y 46).below hB4)
          have HO4 := Lib.hid (HO.out.below HC4.out)
          obtain ⟨c0, c1, f0, f1, hN⟩ := HTW.out
          obtain ⟨e0, e1, e2⟩ := own_last HO4.out
          clear hB4
          obtain ⟨a, b⟩ := q
          simp only at e0 e1
          have i1 : (0 : Int) ≤ (m.length : Int) := by omega
          have i2 : (m.length : Int) < (m.length : Int) + 1 := by omega
          by_cases hxb : x ≤ b
          · have hd2 : decide (x ≤ b) = true := decide_eq_true hxb
            go_wp2_with fail
            go_quiet (fail)
            go_wp2_with fail
            have hO4 := HO4.out
            have HC5 := Lib.hid (below_drewN HC4.out nq)
            have hw7 : IntKind.i64.wrap (m.length : Int) = (m.length : Int) := IntWalk.i64_in _ (by omega)
            go_region
            go_wp2_with fail
            go_roundw
            case rel => exact ⟨k + 1, m ++ [(a, max b y)], by go_num, by omega, own_grow (q := (a, b)) (HO4.out.below (below_drewN (Below.refl _ _) _)) _, by rw [HT.out]; exact HJ.out.grow (q := (a, b)) (r := (x, y)) HXY.out HQX.out hxb, by simp; omega, ord_grow HORD.out, (HBR.out.trans ((below_drewN HC4.out (nq + 1)).mono hbr)).setCell (p := ⟨mg, m.length * 2 + 1, none⟩) hmg _⟩
            case measure => simp [intOf]; omega
          · have hd2 : decide (x ≤ b) = false := decide_eq_false hxb
            go_wp2_with fail
            go_quiet (fail)
            have hO4 := HO.out.below (below_drewN HC4.out nq)
            have hT4 := HTW.out.drewN nq
            have HC5 := Lib.hid (below_drewN HC4.out nq)
            have hsz5 := HC5.out.size
            clear c0 c1 f0 f1 hN e0 e1 e2
            generalize w4.drewN nq = W at *
            obtain ⟨c0, c1, f0, f1, hN⟩ := hT4
            have hfl := flatI_len (m ++ [(a, b)])
            go_wp2_with (at_builtin; go_must (refine wpList_append_own _ rfl _ _ 23 rfl w2.heap.size 46 i0 (.agg #[.int .i64 0, .int .i64 0]) 2 16 Tryd.underlying23 hi hz0 hz1 hz2 rfl (by decide) _ _ _ rfl (World.ownsRow.alloc hO4 _) ⟨W.heap.size, 0, none⟩ 1 1 [.int .i64 x, .int .i64 y] rfl rfl (new_rg W x y _) (fun u hu => by simp at hu; rcases hu with rfl | rfl <;> rfl) (by unfold maxLen; simp; omega) (by simp; omega) (by simp; omega) ?_); intro v' w5 hown' hgrow _)
            have HBX := Lib.hid (show b < x by omega)
            go_roundw
            case rel => exact ⟨k + 1, (m ++ [(a, b)]) ++ [(x, y)], by go_num, by omega, OwnsI.snoc hown', by rw [HT.out]; exact HJ.out.next HXY.out (last_lt HJ.out.1 HBX.out), by simp; omega, ord_snoc HORD.out HNEW.out, below_appendI HBR.out hbr HC5.out HO.out hgrow⟩
            case measure => simp [intOf]; omega
    · have hall := List.take_of_length_le (show qs.length ≤ k by omega)
      have HJL := Lib.hid (show Joins ms l from (hall ▸ HJ.out).perm (fun r => (HM.out r).symm))
      have HMK := Lib.hid hmk
      clear hall hmk
      go_wp2_with fail
      go_ret
      exact ⟨_, ms, rfl, hO.mono HB2.out.size, HJL.out, by have := HQL.out; have := HMK.out; omega, HB2.out.trans (HBR.out.mono HB2.out.size)⟩
end Go.Proofs.YtdcnoegnkopfdaaDoor
