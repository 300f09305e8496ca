/- What the reference's Merge returns. -/
import Derived.Test.YtdcnoegnkopfdaaDoorRMergeW
import Derived.Test.YtdcnoegnkopfdaaDoorRRefParse
import Derived.Deep.RegionLaw
import Derived.Deep.AppendLies
namespace Go.Proofs.YtdcnoegnkopfdaaDoor
open Go.RowKit

theorem own_madeI {T : TypeId} {B : Nat} (w : World) (hB : B ≤ w.heap.size) : OwnsI T B (w.alloc (.cells #[] T)) (.slice (some ⟨w.heap.size, 0, none⟩) 0 0) [] :=
  World.ownsRow_made w #[] 0 hB (Nat.zero_le _) (by simp)
theorem readsI_take {w : World} {g off cap : Nat} {ps : List Rg} (h : ReadsI w (.slice (some ⟨g, off, none⟩) ps.length cap) ps) (k c : Nat) (hk : k ≤ ps.length) : ReadsI w (.slice (some ⟨g, off, none⟩) k c) (ps.take k) := by
  obtain ⟨ao, c', hv, hc⟩ := h
  simp only [Value.slice.injEq] at hv
  obtain ⟨rfl, _, rfl⟩ := hv
  have e : (ps.take k).length = k := by simp; omega
  refine ⟨_, c, by rw [e], fun j p hj => ?_⟩
  rw [List.getElem?_take] at hj
  split at hj
  · exact hc j p hj
  · cases hj
theorem readsI_drop {w : World} {g off cap : Nat} {ps : List Rg} (h : ReadsI w (.slice (some ⟨g, off, none⟩) ps.length cap) ps) (k c m : Nat) (hm : m = ps.length - k) : ReadsI w (.slice (some ⟨g, off + k * 2, none⟩) m c) (ps.drop k) := by
  obtain ⟨ao, c', hv, hc⟩ := h
  simp only [Value.slice.injEq] at hv
  obtain ⟨rfl, _, rfl⟩ := hv
  refine ⟨_, c, by rw [List.length_drop, hm], fun j p hj => ?_⟩
  rw [List.getElem?_drop] at hj
  obtain ⟨g', off', he, h1, h2, h3⟩ := hc _ p hj
  simp only [Option.some.injEq, Addr.mk.injEq, and_true] at he
  obtain ⟨rfl, rfl⟩ := he
  have e : off + k * 2 + j * 2 = off + (k + j) * 2 := by omega
  exact ⟨g, off + k * 2, rfl, h1, by rw [e]; exact h2, by rw [e]; exact h3⟩
theorem readsI_none {w : World} {a : Option Addr} {c : Nat} : ReadsI w (.slice a 0 c) [] := ⟨a, c, rfl, fun j p h => by simp at h⟩
set_option maxRecDepth 100000 in
/-- An append of ranges that are read to ranges that the call made. -/
theorem step_appendI {T S : TypeId} {B : Nat} {i0 : TypeInfo} (hi : Tryd.prog.info? T = some i0) (hz0 : i0.zero = some (.agg #[.int .i64 0, .int .i64 0])) (hz1 : i0.size = 2) (hz2 : i0.bytes = 16) (ht : Tryd.prog.underlying S = some (.slice T))
    {w : World} {ops : Array Oper} {o : Oper} {a : Act} {K : Act → World → Prop} {Q : Exit → Act → World → Prop} {E : Prop} (hgd : o.guard = none) (s x : Operand)
    (ho : o.op = .call { callee := .builtin .append, args := #[s, x], argTypes := #[S, S] }) (v v2 : Value) (hs : a.eval s = v) (hx : a.eval x = v2) {ps qs : List Rg} (hown : OwnsI T B w v ps) (hr : ReadsI w v2 qs) (hp : v2 = .slice none 0 0 ∨ ∃ ad n c, v2 = .slice (some ad) n c)
    (hn : ps.length + qs.length ≤ 1000000) (hB : B ≤ w.heap.size) (h : ∀ v' w', OwnsI T B w' v' (ps ++ qs) → w.grownBy w' v.ownBlock → K (a.put o.dst v') w') :
    if Region.wanted o (yielded ops a.tmps) = true then Oper.wp Tryd.prog o a w K Q else E := by
  have hw : Region.wanted o (yielded ops a.tmps) = true := by simp [Region.wanted, hgd]
  rw [if_pos hw]
  rcases hp with rfl | ⟨ad, n, c, rfl⟩
  · obtain ⟨ao, cap, hv, _⟩ := hr
    have hq : qs = [] := List.eq_nil_of_length_eq_zero (by injection hv with _ h2 _; omega)
    subst hq
    have hrun := run_append_owned_none (P := Tryd.prog) (w := w) B S o.type T i0 2 ht hi v ps.length (flatI ps) hown
    unfold Oper.wp
    simp [execOp, ho, resolve, invoke, builtin, hs, hx, hrun, Result.andThen]
    exact h v w (by rw [List.append_nil]; exact hown) ⟨rfl, rfl, rfl, Nat.le_refl _, fun _ _ _ => rfl⟩
  · have hlen : n = qs.length := by obtain ⟨ao, cap, hv, _⟩ := hr; injection hv
    subst hlen
    refine wp_append_own w s x S ho B T i0 _ 2 16 ht hi hz0 hz1 hz2 rfl (by decide) v ps.length (flatI ps) hs hown ad qs.length c (flatI qs) hx (flatI_len qs) (fun j u hj => ?_) (flatI_one qs) (by unfold maxLen; omega) (by omega) hB
      fun v' w' h1 h2 _ => h v' w' (OwnsI.app h1) h2
    obtain ⟨ao, cap, hv, hc⟩ := hr
    injection hv with ha _ _
    have hjl : j < qs.length * 2 := by have := (List.getElem?_eq_some_iff.mp hj).1; rwa [flatI_len] at this
    obtain ⟨q, r, hr2, rfl⟩ : ∃ q r, r < 2 ∧ j = q * 2 + r := ⟨j / 2, j % 2, by omega, by omega⟩
    have hp : qs[q]? = some (qs[q]'(by omega)) := by simp
    obtain ⟨g, off, h1, _, h3, h4⟩ := hc q _ hp
    rw [← ha] at h1
    obtain rfl : ad = ⟨g, off, none⟩ := Option.some.inj h1
    have hf := flatI_at qs q _ hp
    rw [Addr.add_lit]
    have hr01 : r = 0 ∨ r = 1 := by omega
    rcases hr01 with rfl | rfl
    · rw [Nat.add_zero] at hj ⊢; rw [hf.1] at hj; rw [← hj]; exact h3
    · rw [hf.2] at hj; rw [← hj, ← Nat.add_assoc]; exact h4
theorem OwnsI.beside {T : TypeId} {B N : Nat} {w : World} {v : Value} {ps : List Rg} (h : OwnsI T B w v ps) (hN : N < B) (x y : Value) : OwnsI T B ((w.setCell ⟨N, 0, none⟩ x).setCell ⟨N, 1, none⟩ y) v ps := by
  have hg : w.grownBy ((w.setCell ⟨N, 0, none⟩ x).setCell ⟨N, 1, none⟩ y) (some N) :=
    ⟨rfl, rfl, rfl, by simp, fun k _ hk => by
      rw [heap_setCell_other _ ⟨N, 1, none⟩ k y (fun e => hk (by simp [e])), heap_setCell_other w ⟨N, 0, none⟩ k x (fun e => hk (by simp [e]))]⟩
  refine World.ownsRow.kept h hg ?_
  cases hv : v.ownBlock with
  | none => exact .inl rfl
  | some b =>
    refine .inr fun e => ?_
    have := (World.ownsRow.lt h b hv).1
    injection e with e; omega
theorem bel_allocI {Z w : World} {o : Obj} (h : Below Z.heap.size Z w) : Below Z.heap.size Z (w.alloc o) := h.alloc h.size o
theorem own_emptyI {W : World} {g : Nat} (T : TypeId) {B : Nat} (hg : g = W.heap.size) (hB : B ≤ W.heap.size) : OwnsI T B (W.alloc (.cells #[] T)) (.slice (some ⟨g, 0, none⟩) 0 0) [] := by rw [hg]; exact own_madeI W hB
theorem one_atI {W : World} {g : Nat} (hg : g = W.heap.size) (a b : Int) (t : TypeId) : ReadsI (W.alloc (.cells #[.int .i64 a, .int .i64 b] t)) (.slice (some ⟨g, 0, none⟩) 1 1) [(a, b)] := by
  subst hg
  refine ⟨_, 1, rfl, fun j p hj => ⟨W.heap.size, 0, rfl, by simp, ?_, ?_⟩⟩
  all_goals
    rw [World.cell?_alloc_at _ _ _ _ rfl]
    match j, hj with
    | 0, hj => simp at hj; subst hj; rfl
    | j + 1, hj => simp at hj
theorem one_farI {w w5 : World} {g : Nat} {row : Option Nat} {a b : Int} (hr : ReadsI w (.slice (some ⟨g, 0, none⟩) 1 1) [(a, b)]) (hg : w.grownBy w5 row) (hne : row ≠ some g) : ReadsI w5 (.slice (some ⟨g, 0, none⟩) 1 1) [(a, b)] := by
  obtain ⟨ao, c, hv, hc⟩ := hr
  simp only [Value.slice.injEq] at hv
  obtain ⟨rfl, _, rfl⟩ := hv
  refine ⟨_, 1, rfl, fun j p hj => ?_⟩
  obtain ⟨g', off, ha, h1, h2, h3⟩ := hc j p hj
  obtain ⟨rfl, rfl⟩ : g = g' ∧ 0 = off := by simpa using ha
  have hb := hg.block g h1 (fun e => hne e.symm)
  exact ⟨g, 0, rfl, Nat.lt_of_lt_of_le h1 hg.size, (World.cell?_of_block hb).trans h2, (World.cell?_of_block hb).trans h3⟩
theorem grownI {Z w w5 : World} {g n c : Nat} (h : Below Z.heap.size Z w) (hg : w.grownBy w5 (Value.slice (some ⟨g, 0, none⟩) n c).ownBlock) (hZ : Z.heap.size ≤ g) : Below Z.heap.size Z w5 :=
  h.grown hg h.size (fun k hk => by injection hk with hk; subst hk; exact hZ)
theorem TwoI.upto {N : Nat} {w w' : World} {x y : Int} (h : TwoI N w x y) (hb : Below (N + 1) w w') : TwoI N w' x y := by
  obtain ⟨h1, h2, h3, h4, h5⟩ := h
  exact ⟨(hb.cell (p := ⟨N, 0, none⟩) (Nat.lt_succ_self N)).trans h1, (hb.cell (p := ⟨N, 1, none⟩) (Nat.lt_succ_self N)).trans h2, (hb.frozen (p := ⟨N, 0, none⟩) (Nat.lt_succ_self N)).trans h3, (hb.frozen (p := ⟨N, 1, none⟩) (Nat.lt_succ_self N)).trans h4, Nat.lt_of_lt_of_le h5 hb.size⟩
/-- What the reference has joined of the first k ranges. -/
def RMRel (T : TypeId) (l : List Rg) (w : World) (v i : Value) (wr : World) : Prop :=
  ∃ (k : Nat) (ms : List Rg), i = .int .i64 k ∧ k ≤ l.length ∧ OwnsI T w.heap.size wr v ms ∧ Joins ms (l.take k) ∧ ms.length ≤ k ∧ Below w.heap.size w wr
/-- One range is being put into the list ms: the first j of it have been looked at. -/
def PutRel (T : TypeId) (N : Nat) (ms : List Rg) (r0 : Rg) (w : World) (v i : Value) (wr : World) : Prop :=
  ∃ (j : Nat) (rest : List Rg) (r : Rg), i = .int .i64 j ∧ j ≤ ms.length ∧ OwnsI T (N + 1) wr v rest ∧ TwoI N wr r.1 r.2 ∧ Put (ms.take j) r0 rest r ∧ rest.length ≤ j ∧ Below N w wr ∧ w.heap.size ≤ wr.heap.size
set_option maxHeartbeats 8000000 in
set_option maxRecDepth 100000 in
theorem refMerge_any (va : Value) (l : List Rg) (w : World) (ha : ReadsI w va l) (hl : l.length ≤ 100000) :
    Calls Tryd.prog 24 #[va] w (MergePost 43 l w) := by
  obtain ⟨i0, hi, hz0, hz1, hz2⟩ := info_parts Tryd.infoR9
  obtain ⟨ao, ca, rfl, hca⟩ := ha
  have HA := Lib.hid hca
  clear hca
  go_enter Tryd.func24, Tryd.ntmps24
  go_wp2
  go_loopw [3, 11] (fun v i wr => RMRel 43 l w v i wr) (fun _ i _ => l.length - (intOf i).toNat)
  case atStart => exact ⟨0, [], rfl, Nat.zero_le _, OwnsI.nil _ _ _, Joins.nil, Nat.le_refl _, Below.refl _ _⟩
  case round =>
    obtain ⟨k, ms, rfl, hk, hO, hJ, hmk, hBr⟩ := hrel
    rename World => wq
    have hbr := hBr.size
    have HBR := Lib.hid hBr
    have HJ := Lib.hid hJ
    clear hBr hJ
    by_cases hlt : k < l.length
    · obtain ⟨p, hp⟩ : ∃ p, l[k]? = some p := ⟨l[k], by simp [hlt]⟩
      obtain ⟨g, off, rfl, hg, hc1, hc2⟩ := HA.out k p hp
      have hd1 := (HBR.out.cell (p := ⟨g, off + k * 2, none⟩) hg).trans hc1
      have hd2 := (HBR.out.cell (p := ⟨g, off + k * 2 + 1, none⟩) hg).trans hc2
      have HT := Lib.hid (take_succ_of hp)
      clear hp hc1 hc2
      obtain ⟨x, y⟩ := p
      simp only at hd1 hd2
      have HO := Lib.hid hO
      clear hO
      by_cases hxy : y ≤ x
      · have HXY := Lib.hid hxy
        go_wp2_with fail
        go_roundw
        case rel => exact ⟨k + 1, ms, by go_num, by omega, HO.out.below (below_new _ _), by rw [HT.out]; exact HJ.out.empty HXY.out, by omega, HBR.out.alloc hbr _⟩
        case measure => simp [intOf]; omega
      · have hxy' : ¬ y ≤ x := hxy
        have HXY := Lib.hid (show x < y by omega)
        clear hxy
        have hO' := HO.out.reads
        obtain ⟨mo, mc, hv, hmc⟩ := hO'
        rw [hv] at HO
        rw [hv]
        have HMC := Lib.hid hmc
        clear hv hmc
        go_wp2_with fail
        have HSTART := Lib.hid (twoI_new wq x y 43)
        go_loopw [6, 25] (fun v i wr => PutRel 43 wq.heap.size ms (x, y) wq v i wr) (fun _ i _ => ms.length - (intOf i).toNat)
        case atStart => exact ⟨0, [], (x, y), rfl, Nat.zero_le _, OwnsI.nil _ _ _, HSTART.out, Put.start HXY.out, Nat.le_refl _, below_new _ _, by simp⟩
        case round =>
          obtain ⟨j, rest, r, rfl, hj, hO2, hT2, hPut, hrj, hBw, hsz⟩ := hrel
          have HT2 := Lib.hid hT2
          have HPUT := Lib.hid hPut
          have HBW0 := Lib.hid hBw
          obtain ⟨b0, b1, b2, b3, hNw⟩ := hT2
          clear hPut hBw
          obtain ⟨a, b⟩ := r
          simp only at b0 b1
          by_cases hlt2 : j < ms.length
          · obtain ⟨q, hq⟩ : ∃ q, ms[j]? = some q := ⟨ms[j], by simp [hlt2]⟩
            obtain ⟨g2, off2, rfl, hg2, hm1, hm2⟩ := HMC.out j q hq
            have hq1 := (HBW0.out.cell (p := ⟨g2, off2 + j * 2, none⟩) hg2).trans hm1
            have hq2 := (HBW0.out.cell (p := ⟨g2, off2 + j * 2 + 1, none⟩) hg2).trans hm2
            have hgw : g2 < wr.heap.size := by omega
            have HT3 := Lib.hid (take_succ_of hq)
            have HCAN := Lib.hid (show Canon (ms.take j ++ [q]) by rw [← take_succ_of hq]; exact canon_take HJ.out.1 _)
            clear hq hm1 hm2
            obtain ⟨c, d⟩ := q
            simp only at hq1 hq2
            have hO2' := hO2
            obtain ⟨ro, rc, rfl, _⟩ := hO2.reads
            by_cases h1 : d < a
            · have hd : decide (d < a) = true := decide_eq_true h1
              go_wp2_with fail
              go_quiet (fail)
              have hOW := hO2.below (below_drewN (Below.refl _ _) nq)
              have hTW := HT2.out.drewN nq
              have HBW := Lib.hid (below_drewN HBW0.out nq)
              have hszW : wq.heap.size + 1 ≤ (wr.drewN nq).heap.size := hNw
              have hm1 := (below_drewN (Below.refl _ wr) nq).cell (p := ⟨g2, off2 + j * 2, none⟩) hgw
              have hm2 := (below_drewN (Below.refl _ wr) nq).cell (p := ⟨g2, off2 + j * 2 + 1, none⟩) hgw
              rw [hq1] at hm1
              rw [hq2] at hm2
              clear hq1 hq2 b0 b1 b2 b3 hNw
              generalize wr.drewN nq = W at *
              have hfl := flatI_len rest
              go_wp2_with (at_builtin; go_must (refine wpList_append_own _ rfl _ _ 28 rfl (wq.heap.size + 1) 43 i0 (.agg #[.int .i64 0, .int .i64 0]) 2 16 Tryd.underlying28 hi hz0 hz1 hz2 rfl (by decide) _ _ _ rfl (World.ownsRow.alloc hOW _) ⟨W.heap.size, 0, none⟩ 1 1 [.int .i64 c, .int .i64 d] rfl rfl (new_rg W c d _) (fun u hu => by simp at hu; rcases hu with rfl | rfl <;> rfl) (by unfold maxLen; omega) (by omega) (by simp; omega) ?_); intro v' w5 hown' hgrow _)
              go_roundw
              case rel => exact ⟨j + 1, rest ++ [(c, d)], (a, b), by go_num, by omega, OwnsI.snoc hown', hTW.upto (below_appendI (Below.refl _ W) hszW (Below.refl _ _) hOW hgrow), by rw [HT3.out]; exact HPUT.out.keep HCAN.out (.inl h1), by simp; omega, HBW.out.trans ((below_appendI (Below.refl _ W) hszW (Below.refl _ _) hOW hgrow).mono (by omega)), Nat.le_trans HBW.out.size (below_appendI (Below.refl _ W) hszW (Below.refl _ _) hOW hgrow).size⟩
              case measure => simp [intOf]; omega
            · have hd : decide (d < a) = false := decide_eq_false h1
              by_cases h2 : b < c
              · have hd2 : decide (b < c) = true := decide_eq_true h2
                go_wp2_with fail
                go_quiet (fail)
                have hOW := hO2.below (below_drewN (Below.refl _ _) nq)
                have hTW := HT2.out.drewN nq
                have HBW := Lib.hid (below_drewN HBW0.out nq)
                have hszW : wq.heap.size + 1 ≤ (wr.drewN nq).heap.size := hNw
                have hm1 := (below_drewN (Below.refl _ wr) nq).cell (p := ⟨g2, off2 + j * 2, none⟩) hgw
                have hm2 := (below_drewN (Below.refl _ wr) nq).cell (p := ⟨g2, off2 + j * 2 + 1, none⟩) hgw
                rw [hq1] at hm1
                rw [hq2] at hm2
                clear hq1 hq2 b0 b1 b2 b3 hNw
                generalize wr.drewN nq = W at *
                have hfl := flatI_len rest
                go_wp2_with (at_builtin; go_must (refine wpList_append_own _ rfl _ _ 28 rfl (wq.heap.size + 1) 43 i0 (.agg #[.int .i64 0, .int .i64 0]) 2 16 Tryd.underlying28 hi hz0 hz1 hz2 rfl (by decide) _ _ _ rfl (World.ownsRow.alloc hOW _) ⟨W.heap.size, 0, none⟩ 1 1 [.int .i64 c, .int .i64 d] rfl rfl (new_rg W c d _) (fun u hu => by simp at hu; rcases hu with rfl | rfl <;> rfl) (by unfold maxLen; omega) (by omega) (by simp; omega) ?_); intro v' w5 hown' hgrow _)
                go_roundw
                case rel => exact ⟨j + 1, rest ++ [(c, d)], (a, b), by go_num, by omega, OwnsI.snoc hown', hTW.upto (below_appendI (Below.refl _ W) hszW (Below.refl _ _) hOW hgrow), by rw [HT3.out]; exact HPUT.out.keep HCAN.out (.inr h2), by simp; omega, HBW.out.trans ((below_appendI (Below.refl _ W) hszW (Below.refl _ _) hOW hgrow).mono (by omega)), Nat.le_trans HBW.out.size (below_appendI (Below.refl _ W) hszW (Below.refl _ _) hOW hgrow).size⟩
                case measure => simp [intOf]; omega
              · have hd2 : decide (b < c) = false := decide_eq_false h2
                go_wp2_with fail
                go_quiet (fail)
                go_wp2_with fail
                go_region
                go_wp2_with fail
                go_roundw
                case rel => exact ⟨j + 1, rest, (min a c, max b d), by go_num, by omega, (hO2.below (below_drewN (Below.refl _ _) (nq + 1))).beside (by omega) _ _, (HT2.out.drewN (nq + 1)).set _ _, by rw [HT3.out]; exact HPUT.out.join (q := (c, d)) (r := (a, b)) HCAN.out (by show a ≤ d; omega) (by show c ≤ b; omega), by omega, below_two (below_drewN HBW0.out (nq + 1)) (Nat.le_refl _) _ _, by simpa using hsz⟩
                case measure => simp [intOf]; omega
          · have hall2 := List.take_of_length_le (show ms.length ≤ j by omega)
            have HPD := Lib.hid (show Put ms (x, y) rest (a, b) from hall2 ▸ HPUT.out)
            clear hall2
            rename World => wp
            have hO2' := hO2
            have HO2 := Lib.hid hO2
            obtain ⟨ro, rc, rfl, hrc⟩ := hO2.reads
            have HRC := Lib.hid hrc
            have HBP := HBW0
            clear hO2' hO2 hrc
            have hOO := HO2.out
            rcases (show (ro = none ∧ rest = [] ∧ rc = 0) ∨ ∃ g6, ro = some ⟨g6, 0, none⟩ ∧ rest.length ≤ rc by
              rcases hOO with ⟨_, ⟨hv, hn⟩ | ⟨g6, cap6, cur, hv, _, _, hn, _⟩⟩
              · injection hv with h1 h2 h3; exact .inl ⟨h1, List.eq_nil_of_length_eq_zero hn, h3⟩
              · injection hv with h1 h2 h3; exact .inr ⟨g6, h1, by omega⟩) with ⟨rfl, rfl, rfl⟩ | ⟨g6, rfl, hcap⟩
            · clear hOO
              go_wp2_with fail
              go_loopw [8] (fun i wr => ∃ n : Nat, i = .int .i64 0 ∧ wr = wp.drewN n) (fun i _ => 0 - (intOf i).toNat)
              case atStart => exact ⟨0, rfl, rfl⟩
              case round =>
                obtain ⟨n, rfl, rfl⟩ := hrel
                go_wp2_with fail
                go_quiet (fail)
                go_wp2_with fail
                have hfin : Joins ([] ++ [] ++ [(a, b)] ++ []) (l.take (k + 1)) := by
                  rw [HT.out]
                  exact HPD.out.done (a := []) (b := []) HJ.out rfl (fun q hq => by cases hq) (fun q hq => by cases hq)
                have HFIN := Lib.hid hfin
                have HBW := Lib.hid (HBR.out.trans ((HBP.out.mono (by omega : w.heap.size ≤ wq.heap.size)).trans (below_drewN (below_drewN (Below.refl _ _) n) nq)))
                have hTW := (HT2.out.drewN n).drewN nq
                clear hfin
                generalize (wp.drewN n).drewN nq = W at *
                have HWW := Lib.hid HBW.out.size
                obtain ⟨c0, c1, f0, f1, hM⟩ := hTW
                clear f0 f1
                have HR1 := Lib.hid (show ReadsI W (.slice none 0 0) [] from readsI_none)
                have HR2 := HR1
                have HP1 := Lib.hid (show (Value.slice none 0 0 = .slice none 0 0 ∨ ∃ ad n c, Value.slice none 0 0 = .slice (some ad) n c) from .inl rfl)
                have HP2 := HP1
                go_region_law (first
                  | (refine step_appendI hi hz0 hz1 hz2 Tryd.underlying28 rfl (.tmp 87) (.tmp 90) (by rfl) _ _ (by rfl) (by rfl) (B := W.heap.size) (ps := []) (qs := []) (by first | exact OwnsI.below (own_emptyI (W := W) _ rfl (Nat.le_refl _)) (Below.refl _ _).drew | exact OwnsI.below (own_emptyI (W := W) _ rfl (Nat.le_refl _)) (bel_allocI (Below.refl _ _).drew) | exact OwnsI.below (own_emptyI (W := W) _ rfl (Nat.le_refl _)) (bel_allocI (Below.refl _ _).drew).drew | exact OwnsI.below (own_emptyI (W := W.alloc _) _ (by simp) (by simp)) (Below.refl _ _).drew | exact OwnsI.below (own_emptyI (W := (W.alloc _).drew) _ (by simp) (by simp)) (Below.refl _ _).drew | exact OwnsI.below (own_emptyI (W := W.drew) _ rfl (Nat.le_refl _)) (Below.refl _ _) | exact own_emptyI (W := W) _ rfl (Nat.le_refl _)) (HR1.out.below (by (repeat' (first | exact Below.refl _ _ | (with_reducible apply bel_allocI) | (with_reducible apply Below.drew))))) HP1.out (by (simp <;> omega)) (by (simp <;> omega)) ?_; intro v3 w5 hO5 hg5; have hb5 : Below W.heap.size W w5 := grownI (by (repeat' (first | exact Below.refl _ _ | (with_reducible apply bel_allocI) | (with_reducible apply Below.drew)))) hg5 (by (simp <;> omega)); have x0 := (hb5.cell (p := ⟨wq.heap.size, 0, none⟩) hM).trans c0; have x1 := (hb5.cell (p := ⟨wq.heap.size, 1, none⟩) hM).trans c1)
                  | (refine step_appendI hi hz0 hz1 hz2 Tryd.underlying28 rfl (.tmp 91) (.tmp 93) (by rfl) v3 _ (by rfl) (by rfl) (B := W.heap.size) (qs := [(a, b)]) (by first | exact hO5 | exact OwnsI.below hO5 (below_new _ _) | exact OwnsI.below hO5 (below_new _ _).drew) (by first | exact one_atI (by simp) _ _ _ | exact ReadsI.below (one_atI (by simp) _ _ _) (Below.refl _ _).drew | exact one_farI (one_atI (by simp) _ _ _) hg5 (by intro h; have := Option.some.inj h; simp at this <;> omega) | exact one_farI (ReadsI.below (one_atI (by simp) _ _ _) (Below.refl _ _).drew) hg5 (by intro h; have := Option.some.inj h; simp at this <;> omega) | exact one_farI (ReadsI.below (one_atI (by simp) _ _ _) (below_new _ _).drew) hg5 (by intro h; have := Option.some.inj h; simp at this <;> omega) | exact one_farI (ReadsI.below (one_atI (by simp) _ _ _) (bel_allocI (Below.refl _ _).drew).drew) hg5 (by intro h; have := Option.some.inj h; simp at this <;> omega)) (.inr ⟨_, _, _, rfl⟩) (by (simp <;> omega)) (by have := hb5.size; simp; try omega) ?_; intro v4 w6 hO6 hg6; have hb6 : Below W.heap.size W w6 := Below.grown (by (repeat' (first | exact hb5 | (with_reducible apply bel_allocI) | (with_reducible apply Below.drew)))) hg6 (by have := hb5.size; simp; try omega) (fun q hq => (World.ownsRow.lt hO5 q hq).1))
                  | (refine step_appendI hi hz0 hz1 hz2 Tryd.underlying28 rfl (.tmp 94) (.tmp 97) (by rfl) v4 _ (by rfl) (by rfl) (B := W.heap.size) (qs := []) (by first | exact hO6 | exact OwnsI.below hO6 (Below.refl _ _).drew) (HR2.out.below (by (repeat' (first | exact hb6 | (with_reducible apply Below.drew))))) HP2.out (by (simp <;> omega)) (by have := hb6.size; simp; try omega) ?_; intro v7 w7 hO7 hg7; have hb7 : Below W.heap.size W w7 := Below.grown (by (repeat' (first | exact hb6 | (with_reducible apply Below.drew)))) hg7 (by have := hb6.size; simp; try omega) (fun q hq => (World.ownsRow.lt hO6 q hq).1)))
                all_goals (try go_wp2_with fail)
                all_goals go_roundw
                all_goals (try (case measure => simp [intOf]; omega))
                all_goals exact ⟨k + 1, _, by go_num, by omega, hO7.mono HWW.out, HFIN.out, by (simp <;> omega), HBW.out.trans (hb7.mono HWW.out)⟩
            · clear hOO
              go_wp2_with fail
              go_loopw [8] (fun i wr => ∃ e n : Nat, i = .int .i64 e ∧ e ≤ rest.length ∧ (∀ q ∈ rest.take e, q.1 < a) ∧ wr = wp.drewN n) (fun i _ => rest.length - (intOf i).toNat)
              case atStart => exact ⟨0, 0, rfl, Nat.zero_le _, by simp, rfl⟩
              case round =>
                obtain ⟨e, n, rfl, he, hbe, rfl⟩ := hrel
                have HBE := Lib.hid hbe
                clear hbe
                by_cases hlt3 : e < rest.length
                · obtain ⟨q, hq⟩ : ∃ q, rest[e]? = some q := ⟨rest[e], by simp [hlt3]⟩
                  obtain ⟨g3, off3, hro, hg3, hq1, hq2⟩ := HRC.out e q hq
                  obtain ⟨rfl, rfl⟩ : g6 = g3 ∧ 0 = off3 := by simpa using hro
                  rw [Nat.zero_add] at hq1 hq2
                  have HQ := Lib.hid hq
                  clear hq hro
                  obtain ⟨c, d⟩ := q
                  simp only at hq1 hq2
                  by_cases hca : c < a
                  · have hd : decide (c < a) = true := decide_eq_true hca
                    have HN := Lib.hid (show ∀ q ∈ rest.take (e + 1), q.1 < a by
                      rw [take_succ_of HQ.out]
                      intro q hq
                      rcases List.mem_append.mp hq with hq | hq
                      · exact HBE.out q hq
                      · simp at hq; subst hq; exact hca)
                    go_wp2_with fail
                    go_quiet (fail)
                    go_wp2_with fail
                    go_roundw
                    case rel => exact ⟨e + 1, _, by go_num, by omega, HN.out, rfl⟩
                    case measure => simp [intOf]; omega
                  · have hd : decide (c < a) = false := decide_eq_false hca
                    have HEND : ∀ q, (rest.drop e).head? = some q → a ≤ q.1 := by
                      intro q hq
                      rw [List.head?_drop, HQ.out] at hq
                      simp at hq; subst hq; show a ≤ c; omega
                    have HEND := Lib.hid HEND
                    go_wp2_with fail
                    go_quiet (fail)
                    go_wp2_with fail
                    clear hq1 hq2 hd hca
                    have hfin : Joins ([] ++ rest.take e ++ [(a, b)] ++ rest.drop e) (l.take (k + 1)) := by
                      rw [HT.out, List.nil_append]
                      exact HPD.out.done HJ.out (List.take_append_drop e rest).symm HBE.out HEND.out
                    have HFIN := Lib.hid hfin
                    have HBW := Lib.hid (HBR.out.trans ((HBP.out.mono (by omega : w.heap.size ≤ wq.heap.size)).trans (below_drewN (below_drewN (Below.refl _ _) n) nq)))
                    have hOW := HO2.out.below (below_drewN (below_drewN (Below.refl _ wp) n) nq)
                    have hTW := (HT2.out.drewN n).drewN nq
                    clear hfin
                    generalize (wp.drewN n).drewN nq = W at *
                    have HWW := Lib.hid HBW.out.size
                    obtain ⟨c0, c1, f0, f1, hM⟩ := hTW
                    have hRW := hOW.reads
                    clear hOW f0 f1
                    have hle0 : (0 : Int) ≤ (e : Int) := by omega
                    have hle1 : (e : Int) ≤ (rest.length : Int) := by omega
                    have hle2 : (e : Int) ≤ (rc : Int) := by omega
                    have hle3 : e ≤ rc := by omega
                    have HR1 := Lib.hid (readsI_take hRW e rc he)
                    have HP1 := Lib.hid (show (Value.slice (some ⟨g6, 0, none⟩) e rc = .slice none 0 0 ∨ ∃ ad n c, Value.slice (some ⟨g6, 0, none⟩) e rc = .slice (some ad) n c) from .inr ⟨_, _, _, rfl⟩)
                    have hR2 := readsI_drop hRW e (rc - e) _ rfl
                    rw [Nat.zero_add] at hR2
                    obtain ⟨A, hA, hR2'⟩ : ∃ A : Addr, (if rc = e then (some ⟨g6, 0, none⟩ : Option Addr) else some ⟨g6, e * 2, none⟩) = some A ∧ ReadsI W (.slice (some A) (rest.length - e) (rc - e)) (rest.drop e) := by
                      by_cases h : rc = e
                      · refine ⟨_, if_pos h, ?_⟩
                        have h0 : rest.drop e = [] := List.drop_eq_nil_of_le (by omega)
                        have h1 : rest.length - e = 0 := by omega
                        rw [h0, h1]; exact readsI_none
                      · exact ⟨_, if_neg h, hR2⟩
                    have HR2 := Lib.hid hR2'
                    have HP2 := Lib.hid (show (Value.slice (some A) (rest.length - e) (rc - e) = .slice none 0 0 ∨ ∃ ad n c, Value.slice (some A) (rest.length - e) (rc - e) = .slice (some ad) n c) from .inr ⟨_, _, _, rfl⟩)
                    clear hRW hR2 hR2'
                    go_region_law (first
                      | (refine step_appendI hi hz0 hz1 hz2 Tryd.underlying28 rfl (.tmp 87) (.tmp 90) (by rfl) _ _ (by rfl) (by rfl) (B := W.heap.size) (ps := []) (qs := rest.take e) (by first | exact OwnsI.below (own_emptyI (W := W) _ rfl (Nat.le_refl _)) (Below.refl _ _).drew | exact OwnsI.below (own_emptyI (W := W) _ rfl (Nat.le_refl _)) (bel_allocI (Below.refl _ _).drew) | exact OwnsI.below (own_emptyI (W := W) _ rfl (Nat.le_refl _)) (bel_allocI (Below.refl _ _).drew).drew | exact OwnsI.below (own_emptyI (W := W.alloc _) _ (by simp) (by simp)) (Below.refl _ _).drew | exact OwnsI.below (own_emptyI (W := (W.alloc _).drew) _ (by simp) (by simp)) (Below.refl _ _).drew | exact OwnsI.below (own_emptyI (W := W.drew) _ rfl (Nat.le_refl _)) (Below.refl _ _) | exact own_emptyI (W := W) _ rfl (Nat.le_refl _)) (HR1.out.below (by (repeat' (first | exact Below.refl _ _ | (with_reducible apply bel_allocI) | (with_reducible apply Below.drew))))) HP1.out (by (simp <;> omega)) (by (simp <;> omega)) ?_; intro v3 w5 hO5 hg5; have hb5 : Below W.heap.size W w5 := grownI (by (repeat' (first | exact Below.refl _ _ | (with_reducible apply bel_allocI) | (with_reducible apply Below.drew)))) hg5 (by (simp <;> omega)); have x0 := (hb5.cell (p := ⟨wq.heap.size, 0, none⟩) hM).trans c0; have x1 := (hb5.cell (p := ⟨wq.heap.size, 1, none⟩) hM).trans c1)
                      | (refine step_appendI hi hz0 hz1 hz2 Tryd.underlying28 rfl (.tmp 91) (.tmp 93) (by rfl) v3 _ (by rfl) (by rfl) (B := W.heap.size) (qs := [(a, b)]) (by first | exact hO5 | exact OwnsI.below hO5 (below_new _ _) | exact OwnsI.below hO5 (below_new _ _).drew) (by first | exact one_atI (by simp) _ _ _ | exact ReadsI.below (one_atI (by simp) _ _ _) (Below.refl _ _).drew | exact one_farI (one_atI (by simp) _ _ _) hg5 (by intro h; have := Option.some.inj h; simp at this <;> omega) | exact one_farI (ReadsI.below (one_atI (by simp) _ _ _) (Below.refl _ _).drew) hg5 (by intro h; have := Option.some.inj h; simp at this <;> omega) | exact one_farI (ReadsI.below (one_atI (by simp) _ _ _) (below_new _ _).drew) hg5 (by intro h; have := Option.some.inj h; simp at this <;> omega) | exact one_farI (ReadsI.below (one_atI (by simp) _ _ _) (bel_allocI (Below.refl _ _).drew).drew) hg5 (by intro h; have := Option.some.inj h; simp at this <;> omega)) (.inr ⟨_, _, _, rfl⟩) (by (simp <;> omega)) (by have := hb5.size; simp; try omega) ?_; intro v4 w6 hO6 hg6; have hb6 : Below W.heap.size W w6 := Below.grown (by (repeat' (first | exact hb5 | (with_reducible apply bel_allocI) | (with_reducible apply Below.drew)))) hg6 (by have := hb5.size; simp; try omega) (fun q hq => (World.ownsRow.lt hO5 q hq).1))
                      | (refine step_appendI hi hz0 hz1 hz2 Tryd.underlying28 rfl (.tmp 94) (.tmp 97) (by rfl) v4 _ (by rfl) (by rfl) (B := W.heap.size) (qs := rest.drop e) (by first | exact hO6 | exact OwnsI.below hO6 (Below.refl _ _).drew) (HR2.out.below (by (repeat' (first | exact hb6 | (with_reducible apply Below.drew))))) HP2.out (by (simp <;> omega)) (by have := hb6.size; simp; try omega) ?_; intro v7 w7 hO7 hg7; have hb7 : Below W.heap.size W w7 := Below.grown (by (repeat' (first | exact hb6 | (with_reducible apply Below.drew)))) hg7 (by have := hb6.size; simp; try omega) (fun q hq => (World.ownsRow.lt hO6 q hq).1)))
                    all_goals (try go_wp2_with fail)
                    all_goals go_roundw
                    all_goals (try (case measure => simp [intOf]; omega))
                    all_goals exact ⟨k + 1, _, by go_num, by omega, hO7.mono HWW.out, HFIN.out, by (simp <;> omega), HBW.out.trans (hb7.mono HWW.out)⟩
                · have HEND := Lib.hid (show ∀ q, (rest.drop e).head? = some q → a ≤ q.1 by
                    intro q hq
                    rw [List.drop_eq_nil_of_le (by omega)] at hq; cases hq)
                  go_wp2_with fail
                  go_quiet (fail)
                  go_wp2_with fail
                  have hfin : Joins ([] ++ rest.take e ++ [(a, b)] ++ rest.drop e) (l.take (k + 1)) := by
                    rw [HT.out, List.nil_append]
                    exact HPD.out.done HJ.out (List.take_append_drop e rest).symm HBE.out HEND.out
                  have HFIN := Lib.hid hfin
                  have HBW := Lib.hid (HBR.out.trans ((HBP.out.mono (by omega : w.heap.size ≤ wq.heap.size)).trans (below_drewN (below_drewN (Below.refl _ _) n) nq)))
                  have hOW := HO2.out.below (below_drewN (below_drewN (Below.refl _ wp) n) nq)
                  have hTW := (HT2.out.drewN n).drewN nq
                  clear hfin
                  generalize (wp.drewN n).drewN nq = W at *
                  have HWW := Lib.hid HBW.out.size
                  obtain ⟨c0, c1, f0, f1, hM⟩ := hTW
                  have hRW := hOW.reads
                  clear hOW f0 f1
                  have hle0 : (0 : Int) ≤ (e : Int) := by omega
                  have hle1 : (e : Int) ≤ (rest.length : Int) := by omega
                  have hle2 : (e : Int) ≤ (rc : Int) := by omega
                  have hle3 : e ≤ rc := by omega
                  have HR1 := Lib.hid (readsI_take hRW e rc he)
                  have HP1 := Lib.hid (show (Value.slice (some ⟨g6, 0, none⟩) e rc = .slice none 0 0 ∨ ∃ ad n c, Value.slice (some ⟨g6, 0, none⟩) e rc = .slice (some ad) n c) from .inr ⟨_, _, _, rfl⟩)
                  have hR2 := readsI_drop hRW e (rc - e) _ rfl
                  rw [Nat.zero_add] at hR2
                  obtain ⟨A, hA, hR2'⟩ : ∃ A : Addr, (if rc = e then (some ⟨g6, 0, none⟩ : Option Addr) else some ⟨g6, e * 2, none⟩) = some A ∧ ReadsI W (.slice (some A) (rest.length - e) (rc - e)) (rest.drop e) := by
                    by_cases h : rc = e
                    · refine ⟨_, if_pos h, ?_⟩
                      have h0 : rest.drop e = [] := List.drop_eq_nil_of_le (by omega)
                      have h1 : rest.length - e = 0 := by omega
                      rw [h0, h1]; exact readsI_none
                    · exact ⟨_, if_neg h, hR2⟩
                  have HR2 := Lib.hid hR2'
                  have HP2 := Lib.hid (show (Value.slice (some A) (rest.length - e) (rc - e) = .slice none 0 0 ∨ ∃ ad n c, Value.slice (some A) (rest.length - e) (rc - e) = .slice (some ad) n c) from .inr ⟨_, _, _, rfl⟩)
                  clear hRW hR2 hR2'
                  go_region_law (first
                    | (refine step_appendI hi hz0 hz1 hz2 Tryd.underlying28 rfl (.tmp 87) (.tmp 90) (by rfl) _ _ (by rfl) (by rfl) (B := W.heap.size) (ps := []) (qs := rest.take e) (by first | exact OwnsI.below (own_emptyI (W := W) _ rfl (Nat.le_refl _)) (Below.refl _ _).drew | exact OwnsI.below (own_emptyI (W := W) _ rfl (Nat.le_refl _)) (bel_allocI (Below.refl _ _).drew) | exact OwnsI.below (own_emptyI (W := W) _ rfl (Nat.le_refl _)) (bel_allocI (Below.refl _ _).drew).drew | exact OwnsI.below (own_emptyI (W := W.alloc _) _ (by simp) (by simp)) (Below.refl _ _).drew | exact OwnsI.below (own_emptyI (W := (W.alloc _).drew) _ (by simp) (by simp)) (Below.refl _ _).drew | exact OwnsI.below (own_emptyI (W := W.drew) _ rfl (Nat.le_refl _)) (Below.refl _ _) | exact own_emptyI (W := W) _ rfl (Nat.le_refl _)) (HR1.out.below (by (repeat' (first | exact Below.refl _ _ | (with_reducible apply bel_allocI) | (with_reducible apply Below.drew))))) HP1.out (by (simp <;> omega)) (by (simp <;> omega)) ?_; intro v3 w5 hO5 hg5; have hb5 : Below W.heap.size W w5 := grownI (by (repeat' (first | exact Below.refl _ _ | (with_reducible apply bel_allocI) | (with_reducible apply Below.drew)))) hg5 (by (simp <;> omega)); have x0 := (hb5.cell (p := ⟨wq.heap.size, 0, none⟩) hM).trans c0; have x1 := (hb5.cell (p := ⟨wq.heap.size, 1, none⟩) hM).trans c1)
                    | (refine step_appendI hi hz0 hz1 hz2 Tryd.underlying28 rfl (.tmp 91) (.tmp 93) (by rfl) v3 _ (by rfl) (by rfl) (B := W.heap.size) (qs := [(a, b)]) (by first | exact hO5 | exact OwnsI.below hO5 (below_new _ _) | exact OwnsI.below hO5 (below_new _ _).drew) (by first | exact one_atI (by simp) _ _ _ | exact ReadsI.below (one_atI (by simp) _ _ _) (Below.refl _ _).drew | exact one_farI (one_atI (by simp) _ _ _) hg5 (by intro h; have := Option.some.inj h; simp at this <;> omega) | exact one_farI (ReadsI.below (one_atI (by simp) _ _ _) (Below.refl _ _).drew) hg5 (by intro h; have := Option.some.inj h; simp at this <;> omega) | exact one_farI (ReadsI.below (one_atI (by simp) _ _ _) (below_new _ _).drew) hg5 (by intro h; have := Option.some.inj h; simp at this <;> omega) | exact one_farI (ReadsI.below (one_atI (by simp) _ _ _) (bel_allocI (Below.refl _ _).drew).drew) hg5 (by intro h; have := Option.some.inj h; simp at this <;> omega)) (.inr ⟨_, _, _, rfl⟩) (by (simp <;> omega)) (by have := hb5.size; simp; try omega) ?_; intro v4 w6 hO6 hg6; have hb6 : Below W.heap.size W w6 := Below.grown (by (repeat' (first | exact hb5 | (with_reducible apply bel_allocI) | (with_reducible apply Below.drew)))) hg6 (by have := hb5.size; simp; try omega) (fun q hq => (World.ownsRow.lt hO5 q hq).1))
                    | (refine step_appendI hi hz0 hz1 hz2 Tryd.underlying28 rfl (.tmp 94) (.tmp 97) (by rfl) v4 _ (by rfl) (by rfl) (B := W.heap.size) (qs := rest.drop e) (by first | exact hO6 | exact OwnsI.below hO6 (Below.refl _ _).drew) (HR2.out.below (by (repeat' (first | exact hb6 | (with_reducible apply Below.drew))))) HP2.out (by (simp <;> omega)) (by have := hb6.size; simp; try omega) ?_; intro v7 w7 hO7 hg7; have hb7 : Below W.heap.size W w7 := Below.grown (by (repeat' (first | exact hb6 | (with_reducible apply Below.drew)))) hg7 (by have := hb6.size; simp; try omega) (fun q hq => (World.ownsRow.lt hO6 q hq).1)))
                  all_goals (try go_wp2_with fail)
                  all_goals go_roundw
                  all_goals (try (case measure => simp [intOf]; omega))
                  all_goals exact ⟨k + 1, _, by go_num, by omega, hO7.mono HWW.out, HFIN.out, by (simp <;> omega), HBW.out.trans (hb7.mono HWW.out)⟩
    · have hall := List.take_of_length_le (show l.length ≤ k by omega)
      have HJL := Lib.hid (show Joins ms l from hall ▸ HJ.out)
      clear hall
      go_wp2_with fail
      go_ret
      exact ⟨_, ms, rfl, hO, HJL.out, by omega, HBR.out⟩
end Go.Proofs.YtdcnoegnkopfdaaDoor
