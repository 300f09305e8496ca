import Derived.Test.YtoiampkdmjpljaaGreatDoorPa44
import Derived.Test.YtoiampkdmjpljaaGreatDoorPa36
import Derived.Test.YtoiampkdmjpljaaGreatDoorPa37
import Derived.BigRegion
import Derived.Deep.RegionLaw
import Derived.Deep.RegionWith
import Derived.Deep.AppendLies
/- slices.SortStableFunc and slices.Equal, for the code's lists of fields. -/
namespace Go.Proofs.YtoiampkdmjpljaaGreatDoor
open Go.RowKit

theorem insertion_nil (w : World) : Calls Tryz.prog 119 #[.slice none 0 0, .int .i64 0, .int .i64 0, cmpV] w fun e w' => e = .returned (.tuple #[]) ∧ Below w.heap.size w w' := by
  go_enter Tryz.func119, Tryz.ntmps119
  go_wp2_with fail
  go_loopw [8] (fun i wr => i = .int .i64 1 ∧ Below w.heap.size w wr) (fun _ _ => 0)
  case atStart => exact ⟨rfl, Below.refl _ _⟩
  case round =>
    obtain ⟨rfl, hB⟩ := hrel
    go_wp2_with fail
    go_end0
    exact ⟨rfl, hB⟩
set_option maxHeartbeats 1000000 in
theorem stable_nil (w : World) : Calls Tryz.prog 96 #[.slice none 0 0, .int .i64 0, cmpV] w fun e w' => e = .returned (.tuple #[]) ∧ Below w.heap.size w w' := by
  go_enter Tryz.func96, Tryz.ntmps96
  go_wp2_with fail
  go_loopw [7, 8] (fun u v wr => u = .int .i64 0 ∧ v = .int .i64 20 ∧ Below w.heap.size w wr) (fun _ _ _ => 0)
  case atStart => exact ⟨rfl, rfl, Below.refl _ _⟩
  case round =>
    obtain ⟨rfl, rfl, hB⟩ := hrel
    go_wp2_with fail
    refine (insertion_nil _).mono ?_
    rintro e w1 ⟨rfl, hB1⟩
    have hB2 := hB.trans (hB1.mono hB.size)
    go_wp2_with fail
    go_loopw [6] (fun u wr => u = .int .i64 20 ∧ Below w.heap.size w wr) (fun _ _ => 0)
    case atStart => exact ⟨rfl, hB2⟩
    case round =>
      obtain ⟨rfl, hB3⟩ := hrel
      go_wp2_with fail
      go_end0
      exact ⟨rfl, hB3⟩

theorem sortStable_any (B : Nat) (fv : Value) (D : Flds) (w : World) (h : OwnsP 58 B w fv D) (hB : B ≤ w.heap.size) (hl : D.length ≤ 1000000) :
    Calls Tryz.prog 73 #[fv, cmpV] w fun e w' => e = .returned (.tuple #[]) ∧ ∃ Z, Srt Z ∧ SameF Z D ∧ OwnsP 58 B w' fv Z ∧ Below B w w' := by
  rcases id h with ⟨hl0, ⟨hv, hn⟩ | ⟨g, cap, cur, hv, hb, hg, hn, _⟩⟩
  · have hD : D = [] := List.eq_nil_of_length_eq_zero hn
    subst hD
    subst hv
    go_enter Tryz.func73, Tryz.ntmps73
    go_wp2_with fail
    refine (stable_nil _).mono ?_
    rintro e w1 ⟨rfl, hB1⟩
    go_wp2_with fail
    go_end0
    exact ⟨rfl, [], srt_nil, SameF.refl _, OwnsP.nil _ _ _, hB1.mono hB⟩
  · subst hv
    have SR := stable_any B g D.length cap D w h hl
    clear h hl0
    go_enter Tryz.func73, Tryz.ntmps73
    go_wp2_with fail
    refine SR.mono ?_
    rintro e w1 ⟨rfl, Z, h1, h2, h3, h4⟩
    go_wp2_with fail
    go_end0
    exact ⟨rfl, Z, h1, h2, h3, h4⟩

set_option maxHeartbeats 4000000 in
set_option maxRecDepth 100000 in
theorem equal_any (va vb : Value) (la lb : Flds) (w : World) (ha : ReadsQ w va la) (hb : ReadsQ w vb lb) (hla : la.length ≤ 1000000) (_hlb : lb.length ≤ 1000000) :
    Calls Tryz.prog 48 #[va, vb] w fun e w' => e = .returned (.bool (decide (la = lb))) ∧ ∃ n, w' = w.drewN n := by
  obtain ⟨ao, ca, rfl, hca⟩ := ha
  obtain ⟨bo, cb, rfl, hcb⟩ := hb
  by_cases hne : la.length = lb.length
  · have hne1 : la.length ≤ lb.length := by omega
    have hne2 : lb.length ≤ la.length := by omega
    have Hne := Lib.hid hne
    have HA := Lib.hid hca
    have HB := Lib.hid hcb
    clear hne hca hcb
    go_enter Tryz.func48, Tryz.ntmps48
    go_wp2
    go_loopw [13] (fun i wr => ∃ k n : Nat, i = .int .i64 k ∧ k ≤ la.length ∧ la.take k = lb.take k ∧ wr = w.drewN n) (fun i _ => la.length - (intOf i).toNat)
    case atStart => exact ⟨0, 0, rfl, Nat.zero_le _, rfl, rfl⟩
    case round =>
      obtain ⟨k, n, rfl, hk, hs, rfl⟩ := hrel
      have HS := Lib.hid hs
      clear hs
      by_cases hlt : k < la.length
      · obtain ⟨l, hl⟩ : ∃ l, la[k]? = some l := ⟨la[k], by simp [hlt]⟩
        obtain ⟨m, hm⟩ : ∃ m, lb[k]? = some m := ⟨lb[k]'(by omega), by simp⟩
        obtain ⟨g, off, rfl, hg, hc1, hc2⟩ := HA.out k l hl
        obtain ⟨g', off', rfl, hg', hd1, hd2⟩ := HB.out k m hm
        have HL := Lib.hid hl
        have HM := Lib.hid hm
        clear hl hm
        by_cases h1 : l.1 = m.1
        · have heq := toList_same h1
          by_cases h2 : l.2 = m.2
          · have heq2 := toList_same h2
            have hlm : l = m := Prod.ext h1 h2
            have HLM := Lib.hid hlm
            clear hlm h1 h2
            go_wp2
            go_quiet (fail)
            go_wp2
            go_roundw
            case rel => exact ⟨k + 1, _, by go_num, by omega, same_step HS.out HL.out (by rw [HLM.out]; exact HM.out), rfl⟩
            case measure => simp [intOf]; omega
          · have heq2 := toList_other h2
            have hlm : l ≠ m := fun e => h2 (by rw [e])
            have HLM := Lib.hid hlm
            clear hlm h1 h2
            go_wp2
            go_quiet (fail)
            go_wp2
            go_ret
            exact ⟨ret_bool (same_no HL.out HM.out HLM.out), n + nq, by first | exact World.drewN_drewN .. | rfl⟩
        · have heq := toList_other h1
          have hlm : l ≠ m := fun e => h1 (by rw [e])
          have HLM := Lib.hid hlm
          clear hlm h1
          go_wp2
          go_quiet (fail)
          go_wp2
          go_ret
          exact ⟨ret_bool (same_no HL.out HM.out HLM.out), n + nq, by first | exact World.drewN_drewN .. | rfl⟩
      · go_wp2
        go_ret
        exact ⟨ret_bool (same_end HS.out (by omega) (by omega)), _, rfl⟩
  · go_enter Tryz.func48, Tryz.ntmps48
    have h0 : ((la.length : Int) != (lb.length : Int)) = true := by simp; omega
    go_wp2
    go_ret
    exact ⟨ret_bool (by simp; intro h; exact hne (by rw [h])), 0, rfl⟩
end Go.Proofs.YtoiampkdmjpljaaGreatDoor

/- What the reference's Set returns. -/
namespace Go.Proofs.YtoiampkdmjpljaaGreatDoor
open Go.RowKit

theorem readsQ_take {w : World} {g off cap : Nat} {ps : Flds} (h : ReadsQ w (.slice (some ⟨g, off, none⟩) ps.length cap) ps) (k c : Nat) (hk : k ≤ ps.length) : ReadsQ w (.slice (some ⟨g, off, none⟩) k c) (ps.take k) := by
  obtain ⟨ao, c', hv, hc⟩ := h
  simp only [Value.slice.injEq] at hv
  obtain ⟨rfl, _, rfl⟩ := hv
  have e : (ps.take k).length = k := by simp; omega
  refine ⟨_, c, by rw [e], fun j p hj => ?_⟩
  rw [List.getElem?_take] at hj
  split at hj
  · exact hc j p hj
  · cases hj
theorem readsQ_drop {w : World} {g off cap : Nat} {ps : Flds} (h : ReadsQ w (.slice (some ⟨g, off, none⟩) ps.length cap) ps) (k c m : Nat) (hm : m = ps.length - k) : ReadsQ w (.slice (some ⟨g, off + k * 2, none⟩) m c) (ps.drop k) := by
  obtain ⟨ao, c', hv, hc⟩ := h
  simp only [Value.slice.injEq] at hv
  obtain ⟨rfl, _, rfl⟩ := hv
  refine ⟨_, c, by rw [List.length_drop, hm], fun j p hj => ?_⟩
  rw [List.getElem?_drop] at hj
  obtain ⟨g', off', he, h1, h2, h3⟩ := hc _ p hj
  simp only [Option.some.injEq, Addr.mk.injEq, and_true] at he
  obtain ⟨rfl, rfl⟩ := he
  have e : off + k * 2 + j * 2 = off + (k + j) * 2 := by omega
  exact ⟨g, off + k * 2, rfl, h1, by rw [e]; exact h2, by rw [e]; exact h3⟩
theorem reads_none {w : World} {a : Option Addr} {c : Nat} : ReadsQ w (.slice a 0 c) [] := ⟨a, c, rfl, fun j p h => by simp at h⟩

/-- An append of one list of fields to another that the call made. -/
theorem step_appendP {T S : TypeId} {B : Nat} {i0 : TypeInfo} (hi : Tryz.prog.info? T = some i0) (hz0 : i0.zero = some (.agg #[.string ByteArray.empty, .string ByteArray.empty])) (hz1 : i0.size = 2) (hz2 : i0.bytes = 32) (ht : Tryz.prog.underlying S = some (.slice T))
    {w : World} {ops : Array Oper} {o : Oper} {a : Act} {K : Act → World → Prop} {Q : Exit → Act → World → Prop} {E : Prop} (hgd : o.guard = none) (s x : Operand)
    (ho : o.op = .call { callee := .builtin .append, args := #[s, x], argTypes := #[S, S] }) (v v2 : Value) (hs : a.eval s = v) (hx : a.eval x = v2) {ps qs : Flds} (hown : OwnsP T B w v ps) (hr : ReadsQ w v2 qs) (hp : Sane v2)
    (hn : ps.length + qs.length ≤ 100000) (hB : B ≤ w.heap.size) (h : ∀ v' w', OwnsP T B w' v' (ps ++ qs) → w.grownBy w' v.ownBlock → K (a.put o.dst v') w') :
    if Region.wanted o (yielded ops a.tmps) = true then Oper.wp Tryz.prog o a w K Q else E := by
  have hw : Region.wanted o (yielded ops a.tmps) = true := by simp [Region.wanted, hgd]
  rw [if_pos hw]
  obtain ⟨ao, cap, rfl, hc⟩ := id hr
  cases ao with
  | none =>
    obtain ⟨rfl, _⟩ := hr.none
    obtain rfl := (hp _ _ _ rfl).2 rfl
    have hrun := run_append_owned_none (P := Tryz.prog) (w := w) B S o.type T i0 2 ht hi v ps.length (flatP ps) hown
    unfold Oper.wp
    simp [execOp, ho, resolve, invoke, builtin, hs, hx, hrun, Result.andThen]
    exact h v w (by rw [List.append_nil]; exact hown) ⟨rfl, rfl, rfl, Nat.le_refl _, fun _ _ _ => rfl⟩
  | some ad =>
    obtain ⟨_, hs'⟩ := hr.src
    exact wp_append_own w s x S ho B T i0 _ 2 32 ht hi hz0 hz1 hz2 rfl (by decide) v ps.length (flatP ps) hs hown ad qs.length cap (flatP qs) hx (flatP_len qs) hs' (flatP_one qs) (by unfold maxLen; omega) (by omega) hB
      fun v' w' h1 h2 _ => h v' w' (own_app h1 rfl) h2

end Go.Proofs.YtoiampkdmjpljaaGreatDoor

/- The code's byName: the fields with their names in lower case, in the stable order. -/
namespace Go.Proofs.YtoiampkdmjpljaaGreatDoor
open Go.RowKit

theorem reads_oneP (w : World) (a b : List UInt8) (T : TypeId) : ReadsQ (w.alloc (.cells #[.string (strB a), .string (strB b)] T)) (.slice (some ⟨w.heap.size, 0, none⟩) 1 1) [(a, b)] := by
  refine ⟨_, 1, rfl, fun j p hj => ⟨w.heap.size, 0, rfl, by simp, ?_⟩⟩
  match j, hj with
  | 0, hj =>
    simp at hj; subst hj
    have h0 := two_new w a b T 0 _ rfl
    have h1 := two_new w a b T 1 _ rfl
    exact ⟨h0, h1⟩
  | j + 1, hj => simp at hj
theorem sane_one' (a : Addr) : Sane (.slice (some a) 1 1) := fun x n c e => by cases e; exact ⟨Nat.le_refl _, fun h => by cases h⟩
theorem below_box {B : Nat} {w0 w w' : World} {o : Obj} (hB : Below B w0 w) (hBs : B ≤ w.heap.size) (h : Below (w.alloc o).heap.size (w.alloc o) w') : Below B w0 w' :=
  hB.trans ((below_new w o).trans (h.mono (by simp)) |>.mono hBs)

set_option maxHeartbeats 4000000 in
set_option maxRecDepth 100000 in
theorem byName_any (fv : Value) (ps : Flds) (w : World) (hr : ReadsQ w fv ps) (hl : ps.length ≤ 100000) (hb : ∀ p ∈ ps, p.1.length + p.2.length ≤ 1000000) :
    Calls Tryz.prog 49 #[fv] w fun e w' => ∃ v Z, e = .returned v ∧ Srt Z ∧ SameF Z (lowF ps) ∧ OwnsP 58 w.heap.size w' v Z ∧ Below w.heap.size w w' := by
  obtain ⟨i0, hi, hz0, hz1, hz2⟩ := info_parts Tryz.infoF
  obtain ⟨ao, cap, rfl, hc⟩ := hr
  have HC := Lib.hid hc
  have HBig := Lib.hid hb
  clear hc hb
  go_enter Tryz.func49, Tryz.ntmps49
  go_wp2_with fail
  go_loopw [3, 8] (fun v i wr => ∃ k : Nat, i = .int .i64 k ∧ k ≤ ps.length ∧ OwnsP 58 w.heap.size wr v (lowF (ps.take k)) ∧ Below w.heap.size w wr) (fun _ i _ => ps.length - (intOf i).toNat)
  case atStart => exact ⟨0, rfl, Nat.zero_le _, OwnsP.nil _ _ _, Below.refl _ _⟩
  case round =>
    obtain ⟨k, rfl, hk, hO, hBr⟩ := hrel
    have hbr := hBr.size
    by_cases hlt : k < ps.length
    · obtain ⟨p, hp⟩ : ∃ p, ps[k]? = some p := ⟨ps[k], by simp [hlt]⟩
      obtain ⟨g, off, rfl, hg1, h1, h2⟩ := HC.out k p hp
      have hc1 : wr.cell? ⟨g, off + k * 2, none⟩ = some (.string (strB p.1)) := (hBr.cell (p := ⟨g, off + k * 2, none⟩) hg1).trans h1
      have hc2 : wr.cell? ⟨g, off + k * 2 + 1, none⟩ = some (.string (strB p.2)) := (hBr.cell (p := ⟨g, off + k * 2 + 1, none⟩) hg1).trans h2
      have hpl := HBig.out p (List.mem_of_getElem? hp)
      have hlen : (lowF (ps.take k)).length = k := by rw [lowF_len]; simp; omega
      have HP := Lib.hid hp
      have HLen := Lib.hid hlen
      have LN : ∀ w', Below (wr.alloc (.cells #[.string (strB p.1), .string (strB p.2)] 58)).heap.size (wr.alloc (.cells #[.string (strB p.1), .string (strB p.2)] 58)) w' →
          Calls Tryz.prog 47 #[.agg #[.string (strB p.1), .string (strB p.2)]] w' fun e w'' => e = .returned (.string (strB (lowS p.1))) ∧
            w''.cell? ⟨wr.heap.size, 1, none⟩ = some (.string (strB p.2)) ∧ OwnsP 58 w.heap.size w'' _ (lowF (ps.take k)) ∧ Below w.heap.size w w'' ∧ w.heap.size ≤ w''.heap.size := fun w' hB' =>
        (lowerName_any p.1 p.2 w' (by omega)).mono fun e w'' ⟨he, hb'⟩ => by
          have hB'' := hB'.trans (hb'.mono hB'.size)
          have := below_box hBr hbr hB''
          exact ⟨he, (pair_kept hB'').2, OwnsP.below (OwnsP.below hO (below_new wr _)) hB'', this, this.size⟩
      have hpn := new_pair wr (.string (strB p.1)) (.string (strB p.2)) 58
      have hn1 := hpn.1
      have hn2 := hpn.2
      clear hp h1 h2 hlen hpn
      go_wp2_with fail
      go_region_law (first
        | (refine step_appendP (qs := [(lowS p.1, p.2)]) hi hz0 hz1 hz2 Tryz.underlying37 rfl (.tmp 12) (.tmp 18) rfl u3 (.slice (some ⟨w2.heap.size, 0, none⟩) 1 1) (by simp [Act.eval]) (by simp [Act.eval]) (OwnsP.below hO1 (below_new _ _)) (reads_oneP _ _ _ _) (sane_one' _) (by rw [HLen.out]; simp; omega) (by simp; omega) ?_; intro v3 w5 hO5 hg5)
        | (go_simp; go_at_call 47; refine (LN _ (by first | exact Below.refl _ _ | exact (Below.refl _ _).drew)).mono ?_; rintro e w2 ⟨rfl, hd2, hO1, hB1, hs1⟩))
      all_goals
        go_wp2_with fail
        go_roundw
        case rel => exact ⟨k + 1, by go_num, by omega, by rw [lowF_more HP.out]; exact hO5, (hB1.alloc hs1 _).grown hg5 (by simp; omega) (fun q hq => (World.ownsRow.lt hO1 q hq).1)⟩
        case measure => simp [intOf]; omega
    · have htk : ps.take k = ps := List.take_of_length_le (by omega)
      rw [htk] at hO
      have SR := fun u hu => sortStable_any w.heap.size u (lowF ps) wr hu hbr (by rw [lowF_len]; omega)
      have SR := SR _ hO
      clear hO
      go_wp2_with fail
      refine SR.mono ?_
      rintro e w1 ⟨rfl, Z, h1, h2, h3, h4⟩
      go_wp2_with fail
      go_ret
      exact ⟨_, Z, rfl, h1, h2, h3, hBr.trans h4⟩
end Go.Proofs.YtoiampkdmjpljaaGreatDoor
