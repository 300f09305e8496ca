/- What the reference's Set returns. -/
import Derived.Test.YthpjemihbobjfaaFAdd
import Derived.BigRegion
import Derived.Deep.RegionLaw
import Derived.Deep.RegionWith
import Derived.Deep.AppendLies
namespace Go.Proofs.Ythpjemihbobjfaa
open Go.RowKit

theorem readsQ_take {w : World} {g off cap : Nat} {ps : Flds} (h : ReadsQ w (.slice (some ⟨g, off, none⟩) ps.length cap) ps) (k c : Nat) (hk : k ≤ ps.length) : ReadsQ w (.slice (some ⟨g, off, none⟩) k c) (ps.take k) := by
  obtain ⟨ao, c', hv, hc⟩ := h
  simp only [Value.slice.injEq] at hv
  obtain ⟨rfl, _, rfl⟩ := hv
  have e : (ps.take k).length = k := by simp; omega
  refine ⟨_, c, by rw [e], fun j p hj => ?_⟩
  rw [List.getElem?_take] at hj
  split at hj
  · exact hc j p hj
  · cases hj
theorem readsQ_drop {w : World} {g off cap : Nat} {ps : Flds} (h : ReadsQ w (.slice (some ⟨g, off, none⟩) ps.length cap) ps) (k c m : Nat) (hm : m = ps.length - k) : ReadsQ w (.slice (some ⟨g, off + k * 2, none⟩) m c) (ps.drop k) := by
  obtain ⟨ao, c', hv, hc⟩ := h
  simp only [Value.slice.injEq] at hv
  obtain ⟨rfl, _, rfl⟩ := hv
  refine ⟨_, c, by rw [List.length_drop, hm], fun j p hj => ?_⟩
  rw [List.getElem?_drop] at hj
  obtain ⟨g', off', he, h1, h2, h3⟩ := hc _ p hj
  simp only [Option.some.injEq, Addr.mk.injEq, and_true] at he
  obtain ⟨rfl, rfl⟩ := he
  have e : off + k * 2 + j * 2 = off + (k + j) * 2 := by omega
  exact ⟨g, off + k * 2, rfl, h1, by rw [e]; exact h2, by rw [e]; exact h3⟩
theorem reads_none {w : World} {a : Option Addr} {c : Nat} : ReadsQ w (.slice a 0 c) [] := ⟨a, c, rfl, fun j p h => by simp at h⟩

/-- An append of one list of fields to another that the call made. -/
theorem step_appendP {T S : TypeId} {B : Nat} {i0 : TypeInfo} (hi : Try.prog.info? T = some i0) (hz0 : i0.zero = some (.agg #[.string ByteArray.empty, .string ByteArray.empty])) (hz1 : i0.size = 2) (hz2 : i0.bytes = 32) (ht : Try.prog.underlying S = some (.slice T))
    {w : World} {ops : Array Oper} {o : Oper} {a : Act} {K : Act → World → Prop} {Q : Exit → Act → World → Prop} {E : Prop} (hgd : o.guard = none) (s x : Operand)
    (ho : o.op = .call { callee := .builtin .append, args := #[s, x], argTypes := #[S, S] }) (v v2 : Value) (hs : a.eval s = v) (hx : a.eval x = v2) {ps qs : Flds} (hown : OwnsP T B w v ps) (hr : ReadsQ w v2 qs) (hp : Sane v2)
    (hn : ps.length + qs.length ≤ 100000) (hB : B ≤ w.heap.size) (h : ∀ v' w', OwnsP T B w' v' (ps ++ qs) → w.grownBy w' v.ownBlock → K (a.put o.dst v') w') :
    if Region.wanted o (yielded ops a.tmps) = true then Oper.wp Try.prog o a w K Q else E := by
  have hw : Region.wanted o (yielded ops a.tmps) = true := by simp [Region.wanted, hgd]
  rw [if_pos hw]
  obtain ⟨ao, cap, rfl, hc⟩ := id hr
  cases ao with
  | none =>
    obtain ⟨rfl, _⟩ := hr.none
    obtain rfl := (hp _ _ _ rfl).2 rfl
    have hrun := run_append_owned_none (P := Try.prog) (w := w) B S o.type T i0 2 ht hi v ps.length (flatP ps) hown
    unfold Oper.wp
    simp [execOp, ho, resolve, invoke, builtin, hs, hx, hrun, Result.andThen]
    exact h v w (by rw [List.append_nil]; exact hown) ⟨rfl, rfl, rfl, Nat.le_refl _, fun _ _ _ => rfl⟩
  | some ad =>
    obtain ⟨_, hs'⟩ := hr.src
    exact wp_append_own w s x S ho B T i0 _ 2 32 ht hi hz0 hz1 hz2 rfl (by decide) v ps.length (flatP ps) hs hown ad qs.length cap (flatP qs) hx (flatP_len qs) hs' (flatP_one qs) (by unfold maxLen; omega) (by omega) hB
      fun v' w' h1 h2 _ => h v' w' (own_app h1 rfl) h2

set_option maxHeartbeats 4000000 in
set_option maxRecDepth 100000 in
theorem refSet_any (fv : Value) (ps : Flds) (n val : List UInt8) (w : World) (hr : ReadsQ w fv ps) (hp : Sane fv) (hn : n.length ≤ 1000000000) (hv : val.length ≤ 1000000000) (hl : ps.length ≤ 1000) (hb : ∀ p ∈ ps, p.1.length + p.2.length ≤ 1000000) :
    Calls Try.prog 20 #[fv, .string (strB n), .string (strB val)] w fun e w' => ∃ v, e = .returned v ∧ OwnsP 49 w.heap.size w' v (setL ps n val) ∧ Below w.heap.size w w' := by
  obtain ⟨i0, hi, hz0, hz1, hz2⟩ := info_parts Try.infoG
  have HR := Lib.hid hr
  obtain ⟨ao, cap, rfl, hc⟩ := hr
  have HC := Lib.hid hc
  have HBig := Lib.hid hb
  have HP' := Lib.hid hp
  clear hc hb hp
  go_enter Try.func20, Try.ntmps20
  go_wp2_with fail
  go_loopw [10] (fun i wr => ∃ k : Nat, i = .int .i64 k ∧ k ≤ ps.length ∧ (ps.take k).any (ofN n) = false ∧ Below w.heap.size w wr) (fun i _ => ps.length - (intOf i).toNat)
  case atStart => exact ⟨0, rfl, Nat.zero_le _, rfl, Below.refl _ _⟩
  case round =>
    obtain ⟨k, rfl, hk, hf, hBr⟩ := hrel
    have hbr := hBr.size
    have HF := Lib.hid hf
    clear hf
    by_cases hlt : k < ps.length
    · obtain ⟨p, hp⟩ : ∃ p, ps[k]? = some p := ⟨ps[k], by simp [hlt]⟩
      obtain ⟨g, off, rfl, hg1, h1, h2⟩ := HC.out k p hp
      have hc1 : wr.cell? ⟨g, off + k * 2, none⟩ = some (.string (strB p.1)) := (hBr.cell (p := ⟨g, off + k * 2, none⟩) hg1).trans h1
      have hc2 : wr.cell? ⟨g, off + k * 2 + 1, none⟩ = some (.string (strB p.2)) := (hBr.cell (p := ⟨g, off + k * 2 + 1, none⟩) hg1).trans h2
      have hpl := HBig.out p (List.mem_of_getElem? hp)
      have HP := Lib.hid hp
      have OF := fun w => of_any p.1 p.2 n w (by omega) hn
      clear hp h1 h2
      cases ho : ofN n p with
      | true =>
        have e : ofN n (p.1, p.2) = true := ho
        rw [e] at OF
        have HO := Lib.hid ho
        clear ho e
        go_wp2_with fail
        refine (OF _).mono ?_
        rintro e w2 ⟨rfl, hB2⟩
        clear OF
        have hB2' := hBr.trans (hB2.mono hbr)
        have hst := set_at (v := val) HP.out HO.out HF.out
        have hcp := (HP'.out _ _ _ rfl).1
        have hlt1 : (ps.take k).length = k := by simp; omega
        have hld : (ps.drop (k + 1)).length = ps.length - (k + 1) := List.length_drop ..
        have HST := Lib.hid hst
        have HLE := Lib.hid hlt1
        have HLD := Lib.hid hld
        have HA : ∀ w', Below w.heap.size w w' → Calls Try.prog 21 #[.slice (some ⟨g, off, none⟩) k cap, .string (strB n), .string (strB val)] w' fun e w'' => ∃ v, e = .returned v ∧ OwnsP 49 w.heap.size w'' v (addL (ps.take k) n val) ∧ Below w.heap.size w w'' := fun w' hB' =>
          (refAdd_any _ (ps.take k) n val w' (readsQ_take (HR.out.below hB') k cap (by omega)) (fun a m c e => by cases e; exact ⟨by omega, fun h => by cases h⟩) hn hv (by omega)).mono fun e w'' ⟨v, he, hO, hb'⟩ => ⟨v, he, OwnsP.mono hB'.size hO, hB'.trans (hb'.mono hB'.size)⟩
        have hbd : ∀ p ∈ ps.drop (k + 1), p.1.length + p.2.length ≤ 1000000 := fun p hp => HBig.out p (List.mem_of_mem_drop hp)
        have hRm : ∀ (ad : Addr) (c : Nat), (∀ w', Below w.heap.size w w' → ReadsQ w' (.slice (some ad) (ps.length - (k + 1)) c) (ps.drop (k + 1))) → ∀ w', Below w.heap.size w w' → ∀ v1, OwnsP 49 w.heap.size w' v1 (addL (ps.take k) n val) → Calls Try.prog 22 #[.slice (some ad) (ps.length - (k + 1)) c, .string (strB n)] w' fun e w'' => ∃ v, e = .returned v ∧ OwnsP 49 w.heap.size w'' v (remL (ps.drop (k + 1)) n) ∧ OwnsP 49 w.heap.size w'' v1 (addL (ps.take k) n val) ∧ Below w.heap.size w w'' := fun ad c hrd w' hB' v1 hO1 =>
          (refRemove_any _ (ps.drop (k + 1)) n w' (hrd w' hB') hn (by omega) hbd).mono fun e w'' ⟨v, he, hO, hb'⟩ => ⟨v, he, OwnsP.mono hB'.size hO, OwnsP.below hO1 hb', hB'.trans (hb'.mono hB'.size)⟩
        have hsum : (addL (ps.take k) n val).length + (remL (ps.drop (k + 1)) n).length ≤ 100000 := by
          have h1 := rem_len (ps.drop (k + 1)) n
          have h2 : (addL (ps.take k) n val).length = k + 1 := by unfold addL; rw [List.length_append, hlt1]; rfl
          omega
        have HSum := Lib.hid hsum
        clear hst hlt1 hld hbd hsum hc1 hc2 hB2 hBr
        obtain ⟨A, hA, HRm⟩ : ∃ A : Addr, (if cap = k + 1 then some (⟨g, off, none⟩ : Addr) else some ⟨g, off + (k + 1) * 2, none⟩) = some A ∧ ∀ w', Below w.heap.size w w' → ∀ v1, OwnsP 49 w.heap.size w' v1 (addL (ps.take k) n val) → Calls Try.prog 22 #[.slice (some A) (ps.length - (k + 1)) (cap - (k + 1)), .string (strB n)] w' fun e w'' => ∃ v, e = .returned v ∧ OwnsP 49 w.heap.size w'' v (remL (ps.drop (k + 1)) n) ∧ OwnsP 49 w.heap.size w'' v1 (addL (ps.take k) n val) ∧ Below w.heap.size w w'' := by
          by_cases h : cap = k + 1
          · refine ⟨_, if_pos h, hRm _ _ fun w' _ => ?_⟩
            have h0 : ps.drop (k + 1) = [] := List.drop_eq_nil_of_le (by omega)
            have h1 : ps.length - (k + 1) = 0 := by omega
            rw [h0, h1]; exact reads_none
          · exact ⟨_, if_neg h, hRm _ _ fun w' hB' => readsQ_drop (HR.out.below hB') (k + 1) _ _ rfl⟩
        clear hRm
        have hic : k ≤ cap := by omega
        have hwr : IntKind.i64.wrap ((k : Int) + 1) = (k : Int) + 1 := by rw [IntKind.wrap_i64]; omega
        have hp0 : (0 : Int) ≤ (k : Int) + 1 := by omega
        have hp1 : (k : Int) + 1 ≤ (ps.length : Int) := by omega
        have hp2 : ((k : Int) + 1).toNat = k + 1 := by omega
        go_wp2_with fail
        go_region_law (first
          | (refine step_appendP hi hz0 hz1 hz2 Try.underlying22 rfl (.tmp 24) (.tmp 30) rfl v1 v2 (by simp [Act.eval, Act.put]) (by simp [Act.eval, Act.put]) hO1 hO2.q hO2.sane HSum.out hB4.size ?_; intro v3 w5 hO5 hg5)
          | (go_simp; go_at_call 21; refine (HA _ (by first | assumption | exact hB2'.drew)).mono ?_; rintro e w3 ⟨v1, rfl, hO1, hB3⟩)
          | (go_simp; go_at_call 22; refine (HRm _ (by assumption) _ hO1).mono ?_; rintro e w4 ⟨v2, rfl, hO2, hO1, hB4⟩))
        all_goals
          go_wp2
          go_ret
          exact ⟨v3, rfl, by rw [HST.out]; exact hO5, hB4.grown hg5 hB4.size (fun q hq => (World.ownsRow.lt hO1 q hq).1)⟩
      | false =>
        have e : ofN n (p.1, p.2) = false := ho
        rw [e] at OF
        have HO := Lib.hid ho
        clear ho e
        go_wp2_with fail
        refine (OF _).mono ?_
        rintro e w2 ⟨rfl, hB2⟩
        clear OF
        go_wp2_with fail
        go_roundw
        case rel => exact ⟨k + 1, by go_num, by omega, by rw [any_more HP.out, HF.out, HO.out]; rfl, hBr.trans (hB2.mono hbr)⟩
        case measure => simp [intOf]; omega
    · have hf := HF.out
      rw [List.take_of_length_le (by omega)] at hf
      have hst := set_none (v := val) hf
      have HA := refAdd_any _ ps n val wr (HR.out.below hBr) HP'.out hn hv hl
      go_wp2_with fail
      refine HA.mono ?_
      rintro e w2 ⟨v, rfl, hO, hB2⟩
      go_wp2_with fail
      go_ret
      exact ⟨v, rfl, by rw [hst]; exact OwnsP.mono hbr hO, hBr.trans (hB2.mono hbr)⟩
end Go.Proofs.Ythpjemihbobjfaa
