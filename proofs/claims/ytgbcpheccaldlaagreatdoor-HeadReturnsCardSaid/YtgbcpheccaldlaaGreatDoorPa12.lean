import Derived.Test.YtgbcpheccaldlaaGreatDoorPa11
import Derived.Test.YtgbcpheccaldlaaGreatDoorPa10
import Derived.BigFrame
import Derived.Test.YtgbcpheccaldlaaGreatDoorPa4
import Derived.Deep.RegionLaw
import Derived.Deep.AppendLies
import Derived.Test.YtgbcpheccaldlaaGreatDoorPa1
/- What the statements' Response and lower return. -/
namespace Go.Proofs.YtgbcpheccaldlaaGreatDoor
open Go.RowKit

theorem ownsP_set2 {T : TypeId} {B C g : Nat} {w' : World} {v : Value} {ps : Fs} (h : OwnsP T B w' v ps) (hg : g < B) (hC : C ≤ B) (a b : Value) :
    OwnsP T C ((w'.setCell ⟨g, 0, none⟩ a).setCell ⟨g, 1, none⟩ b) v ps := by
  have hn : ∀ k, v.ownBlock ≠ some (⟨g, k, none⟩ : Addr).block := fun k hq => by have := (World.ownsRow.lt h _ hq).1; simp at this; omega
  exact OwnsP.mono hC (ownsRow_setCell_other (ownsRow_setCell_other h (hn 0) a) (hn 1) b)
theorem below_set2 {w w' : World} {g : Nat} (h : Below w.heap.size w w') (hg : w.heap.size ≤ g) (a b : Value) : Below w.heap.size w ((w'.setCell ⟨g, 0, none⟩ a).setCell ⟨g, 1, none⟩ b) :=
  (h.setCell (p := ⟨g, 0, none⟩) hg a).setCell (p := ⟨g, 1, none⟩) hg b
theorem flatP_get : ∀ (ps : Flds) (j : Nat) (u : Value), (flatP ps)[j]? = some u → ∃ i p, ps[i]? = some p ∧ ((j = i * 2 ∧ u = strV p.1) ∨ (j = i * 2 + 1 ∧ u = strV p.2)) := by
  intro ps
  induction ps with
  | nil => intro j u h; simp [flatP] at h
  | cons q r ih =>
    intro j u h
    have e : flatP (q :: r) = strV q.1 :: strV q.2 :: flatP r := rfl
    rw [e] at h
    match j, h with
    | 0, h => simp at h; exact ⟨0, q, rfl, .inl ⟨rfl, h.symm⟩⟩
    | 1, h => simp at h; exact ⟨0, q, rfl, .inr ⟨rfl, h.symm⟩⟩
    | j + 2, h =>
      obtain ⟨i, p, hi, hc⟩ := ih j u (by simpa using h)
      exact ⟨i + 1, p, by simpa using hi, by rcases hc with ⟨rfl, hu⟩ | ⟨rfl, hu⟩
                                             · exact .inl ⟨by omega, hu⟩
                                             · exact .inr ⟨by omega, hu⟩⟩
theorem flatP_one (ps : Flds) : ∀ u ∈ flatP ps, u.oneCell' = true := by
  intro u hu
  obtain ⟨j, hj⟩ := List.getElem?_of_mem hu
  obtain ⟨i, p, _, h | h⟩ := flatP_get ps j u hj <;> rw [h.2] <;> rfl
/-- The cells of a slice that is read, as the source of an append. -/
theorem ReadsQ.src {w : World} {ad : Addr} {n cap : Nat} {ps : Flds} (h : ReadsQ w (.slice (some ad) n cap) ps) : n = ps.length ∧ ∀ j u, (flatP ps)[j]? = some u → w.cell? (ad.add j) = some u := by
  obtain ⟨ao, c, hv, hc⟩ := h
  simp only [Value.slice.injEq] at hv
  obtain ⟨rfl, rfl, rfl⟩ := hv
  refine ⟨rfl, fun j u hj => ?_⟩
  obtain ⟨i, p, hi, hu⟩ := flatP_get ps j u hj
  obtain ⟨g, off, ha, _, h1, h2⟩ := hc i p hi
  obtain rfl : ad = ⟨g, off, none⟩ := Option.some.inj ha
  rcases hu with ⟨rfl, rfl⟩ | ⟨rfl, rfl⟩
  · rw [Addr.add_lit]; exact h1
  · rw [Addr.add_lit, ← Nat.add_assoc]; exact h2
theorem ReadsQ.none {w : World} {n cap : Nat} {ps : Flds} (h : ReadsQ w (.slice none n cap) ps) : ps = [] ∧ n = 0 := by
  obtain ⟨ao, c, hv, hc⟩ := h
  simp only [Value.slice.injEq] at hv
  obtain ⟨rfl, rfl, rfl⟩ := hv
  cases ps with
  | nil => exact ⟨rfl, rfl⟩
  | cons p r => obtain ⟨g, off, ha, _⟩ := hc 0 p rfl; cases ha

def WithoutRel (ps : Flds) (f : List UInt8 × List UInt8 → Bool) (w : World) (v i : Value) (wr : World) : Prop :=
  ∃ k : Nat, i = .int .i64 k ∧ k ≤ ps.length ∧ OwnsP 60 w.heap.size wr v ((ps.take k).filter f) ∧ Below w.heap.size w wr
theorem own_app {T : TypeId} {B : Nat} {w : World} {v : Value} {ps qs : Flds} {n : Nat} (h : w.ownsRow B T 2 v n (flatP ps ++ flatP qs)) (hn : n = ps.length + qs.length) : OwnsP T B w v (ps ++ qs) := by
  unfold OwnsP
  have e : flatP (ps ++ qs) = flatP ps ++ flatP qs := by simp [flatP]
  rw [e, List.length_append, ← hn]; exact h

/-- An append of one list of fields to another that the call made. -/
theorem step_appendP {T S : TypeId} {B : Nat} {i0 : TypeInfo} (hi : Tryz.prog.info? T = some i0) (hz0 : i0.zero = some (.agg #[.string ByteArray.empty, .string ByteArray.empty])) (hz1 : i0.size = 2) (hz2 : i0.bytes = 32) (ht : Tryz.prog.underlying S = some (.slice T))
    {w : World} {ops : Array Oper} {o : Oper} {a : Act} {K : Act → World → Prop} {Q : Exit → Act → World → Prop} {E : Prop} (hgd : o.guard = none) (s x : Operand)
    (ho : o.op = .call { callee := .builtin .append, args := #[s, x], argTypes := #[S, S] }) (v v2 : Value) (hs : a.eval s = v) (hx : a.eval x = v2) {ps qs : Flds} (hown : OwnsP T B w v ps) (hr : ReadsQ w v2 qs) (hp : Sane v2)
    (hn : ps.length + qs.length ≤ 100000) (hB : B ≤ w.heap.size) (h : ∀ v' w', OwnsP T B w' v' (ps ++ qs) → w.grownBy w' v.ownBlock → K (a.put o.dst v') w') :
    if Region.wanted o (yielded ops a.tmps) = true then Oper.wp Tryz.prog o a w K Q else E := by
  have hw : Region.wanted o (yielded ops a.tmps) = true := by simp [Region.wanted, hgd]
  rw [if_pos hw]
  obtain ⟨ao, cap, rfl, hc⟩ := id hr
  cases ao with
  | none =>
    obtain ⟨rfl, _⟩ := hr.none
    obtain rfl := (hp _ _ _ rfl).2 rfl
    have hrun := run_append_owned_none (P := Tryz.prog) (w := w) B S o.type T i0 2 ht hi v ps.length (flatP ps) hown
    unfold Oper.wp
    simp [execOp, ho, resolve, invoke, builtin, hs, hx, hrun, Result.andThen]
    exact h v w (by rw [List.append_nil]; exact hown) ⟨rfl, rfl, rfl, Nat.le_refl _, fun _ _ _ => rfl⟩
  | some ad =>
    obtain ⟨_, hs'⟩ := hr.src
    exact wp_append_own w s x S ho B T i0 _ 2 32 ht hi hz0 hz1 hz2 rfl (by decide) v ps.length (flatP ps) hs hown ad qs.length cap (flatP qs) hx (flatP_len qs) hs' (flatP_one qs) (by unfold maxLen; omega) (by omega) hB
      fun v' w' h1 h2 _ => h v' w' (own_app h1 rfl) h2

theorem reads_oneP (w : World) (a b : List UInt8) (T : TypeId) : ReadsQ (w.alloc (.cells #[.string (strB a), .string (strB b)] T)) (.slice (some ⟨w.heap.size, 0, none⟩) 1 1) [(a, b)] := by
  refine ⟨_, 1, rfl, fun j p hj => ⟨w.heap.size, 0, rfl, by simp, ?_⟩⟩
  match j, hj with
  | 0, hj =>
    simp at hj; subst hj
    have h0 := two_new w a b T 0 _ rfl
    have h1 := two_new w a b T 1 _ rfl
    exact ⟨h0, h1⟩
  | j + 1, hj => simp at hj
theorem sane_one' (a : Addr) : Sane (.slice (some a) 1 1) := fun x n c e => by cases e; exact ⟨Nat.le_refl _, fun h => by cases h⟩
theorem below_box {B : Nat} {w0 w w' : World} {o : Obj} (hB : Below B w0 w) (hBs : B ≤ w.heap.size) (h : Below (w.alloc o).heap.size (w.alloc o) w') : Below B w0 w' :=
  hB.trans ((below_new w o).trans (h.mono (by simp)) |>.mono hBs)

theorem low_more {ps : Fs} {k : Nat} {p : List UInt8 × List UInt8} (hp : ps[k]? = some p) : (ps.take (k + 1)).map low1 = (ps.take k).map low1 ++ [(lowS p.1, p.2)] := by
  rw [take_more hp, List.map_append]; rfl
set_option maxHeartbeats 4000000 in
set_option maxRecDepth 100000 in
theorem lowerF_any (fv : Value) (ps : Fs) (w : World) (hr : ReadsQ w fv ps) (hl : ps.length ≤ 1000) (hb : ∀ p ∈ ps, p.1.length + p.2.length ≤ 1000000) :
    Calls Tryz.prog 9 #[fv] w fun e w' => ∃ v, e = .returned v ∧ OwnsP 41 w.heap.size w' v (ps.map low1) ∧ Below w.heap.size w w' := by
  obtain ⟨i0, hi, hz0, hz1, hz2⟩ := info_parts Tryz.infoG
  obtain ⟨ao, cap, rfl, hc⟩ := hr
  have HC := Lib.hid hc
  have HBig := Lib.hid hb
  clear hc hb
  go_enter Tryz.func9, Tryz.ntmps9
  go_wp2_with fail
  go_loopw [3, 4] (fun v i wr => ∃ k : Nat, i = .int .i64 k ∧ k ≤ ps.length ∧ OwnsP 41 w.heap.size wr v ((ps.take k).map low1) ∧ Below w.heap.size w wr) (fun _ i _ => ps.length - (intOf i).toNat)
  case atStart => exact ⟨0, rfl, Nat.zero_le _, OwnsP.nil _ _ _, Below.refl _ _⟩
  case round =>
    obtain ⟨k, rfl, hk, hO, hBr⟩ := hrel
    have hbr := hBr.size
    by_cases hlt : k < ps.length
    · obtain ⟨p, hp⟩ : ∃ p, ps[k]? = some p := ⟨ps[k], by simp [hlt]⟩
      obtain ⟨g, off, rfl, hg1, h1, h2⟩ := HC.out k p hp
      have hgr : g < wr.heap.size := Nat.lt_of_lt_of_le hg1 hbr
      have hc1 : wr.cell? ⟨g, off + k * 2, none⟩ = some (.string (strB p.1)) := (hBr.cell (p := ⟨g, off + k * 2, none⟩) hg1).trans h1
      have hc2 : wr.cell? ⟨g, off + k * 2 + 1, none⟩ = some (.string (strB p.2)) := (hBr.cell (p := ⟨g, off + k * 2 + 1, none⟩) hg1).trans h2
      have hpl := HBig.out p (List.mem_of_getElem? hp)
      have hlen : ((ps.take k).map low1).length = k := by rw [List.length_map]; simp; omega
      have HP := Lib.hid hp
      have HLen := Lib.hid hlen
      have LN : ∀ w', Below wr.heap.size wr w' →
          Calls Tryz.prog 10 #[.string (strB p.1)] w' fun e w'' => e = .returned (.string (strB (lowS p.1))) ∧
            w''.cell? ⟨g, off + k * 2 + 1, none⟩ = some (.string (strB p.2)) ∧ OwnsP 41 w.heap.size w'' _ ((ps.take k).map low1) ∧ Below w.heap.size w w'' ∧ w.heap.size ≤ w''.heap.size := fun w' hB' => by
        have := refLower_any (strB p.1) w' (by rw [strB_size]; omega)
        rw [strB_list] at this
        refine this.mono fun e w'' ⟨he, hb'⟩ => ?_
        have hB'' := hB'.trans (hb'.mono hB'.size)
        have hf := hBr.trans (hB''.mono hbr)
        exact ⟨he, (hB''.cell (p := ⟨g, off + k * 2 + 1, none⟩) hgr).trans hc2, OwnsP.below hO hB'', hf, hf.size⟩
      clear hp h1 h2 hlen
      go_wp2_with fail
      go_region_law (first
        | (refine step_appendP (qs := [(lowS p.1, p.2)]) hi hz0 hz1 hz2 Tryz.underlying22 rfl (.tmp 11) (.tmp 24) rfl u3 (.slice (some ⟨w2.heap.size, 0, none⟩) 1 1) (by simp [Act.eval]) (by simp [Act.eval]) (OwnsP.below hO1 (below_new _ _)) (reads_oneP _ _ _ _) (sane_one' _) (by rw [HLen.out]; simp; omega) (by simp; omega) ?_; intro v3 w5 hO5 hg5)
        | (go_simp; go_at_call 10; refine (LN _ (by first | exact Below.refl _ _ | exact (Below.refl _ _).drew)).mono ?_; rintro e w2 ⟨rfl, hd2, hO1, hB1, hs1⟩))
      all_goals
        go_wp2_with fail
        go_roundw
        case rel => exact ⟨k + 1, by go_num, by omega, by rw [low_more HP.out]; exact hO5, (hB1.alloc hs1 _).grown hg5 (by simp; omega) (fun q hq => (World.ownsRow.lt hO1 q hq).1)⟩
        case measure => simp [intOf]; omega
    · have htk : ps.take k = ps := List.take_of_length_le (by omega)
      rw [htk] at hO
      go_wp2_with fail
      go_ret
      exact ⟨_, rfl, hO, hBr⟩
end Go.Proofs.YtgbcpheccaldlaaGreatDoor

/- What the reference's Of returns. -/
namespace Go.Proofs.YtgbcpheccaldlaaGreatDoor
open Go.RowKit

end Go.Proofs.YtgbcpheccaldlaaGreatDoor

/- What the reference's alnum, Cut and Host return. -/
namespace Go.Proofs.YtgbcpheccaldlaaGreatDoor
open Go.RowKit

/-- k bytes are read; the parts so far are out; the next part begins at x. -/
def CutTo (c : UInt8) (s : ByteArray) (x k : Nat) (out : List (List UInt8)) : Prop :=
  cutL c s.data.toList = out ++ cutL c (s.data.toList.drop x) ∧ c ∉ (s.data.toList.drop x).take (k - x) ∧ x ≤ k ∧ k ≤ s.size ∧ out.length ≤ k
theorem cutTo0 (c : UInt8) (s : ByteArray) : CutTo c s 0 0 [] := by
  refine ⟨?_, ?_, Nat.le_refl _, Nat.zero_le _, Nat.le_refl _⟩
  · rw [List.drop_zero]; rfl
  · rw [Nat.sub_zero, List.take_zero]; simp
theorem take_drop_snoc (s : ByteArray) (x k : Nat) (hx : x ≤ k) (hk : k < s.size) : (s.data.toList.drop x).take (k + 1 - x) = (s.data.toList.drop x).take (k - x) ++ [s[k]] := by
  rw [show k + 1 - x = (k - x) + 1 by omega, List.take_succ_eq_append_getElem (by rw [List.length_drop, Array.length_toList]; show k - x < s.size - x; omega)]
  rw [List.getElem_drop]
  congr 2
  simp only [show x + (k - x) = k by omega]; rfl
theorem cutTo_other {c : UInt8} {s : ByteArray} {x k : Nat} {out : List (List UInt8)} (h : CutTo c s x k out) (hk : k < s.size) (hc : s[k].toNat ≠ c.toNat) : CutTo c s x (k + 1) out := by
  obtain ⟨h1, h2, h3, h4, h5⟩ := h
  refine ⟨h1, ?_, by omega, by omega, by omega⟩
  rw [take_drop_snoc s x k h3 hk, List.mem_append, not_or]
  exact ⟨h2, by simp; intro e; exact hc (by rw [e])⟩
theorem cutTo_sep {c : UInt8} {s : ByteArray} {x k : Nat} {out : List (List UInt8)} (h : CutTo c s x k out) (hk : k < s.size) (hc : s[k].toNat = c.toNat) : CutTo c s (k + 1) (k + 1) (out ++ [(s.data.toList.drop x).take (k - x)]) := by
  obtain ⟨h1, h2, h3, h4, h5⟩ := h
  have e : s[k] = c := nat_of_u8 hc
  refine ⟨?_, by simp, Nat.le_refl _, by omega, by simp; omega⟩
  have hd : s.data.toList.drop x = (s.data.toList.drop x).take (k - x) ++ c :: s.data.toList.drop (k + 1) := by
    have h6 := List.take_append_drop (k - x) (s.data.toList.drop x)
    rw [List.drop_drop, show x + (k - x) = k by omega] at h6
    have h7 : s.data.toList.drop k = s[k] :: s.data.toList.drop (k + 1) := by
      rw [List.drop_eq_getElem_cons (by simpa using hk)]; rfl
    rw [h7, e] at h6
    exact h6.symm
  rw [h1, hd, cutL_app, cutL_none h2, ← hd]; simp
theorem cutTo_end {c : UInt8} {s : ByteArray} {x k : Nat} {out : List (List UInt8)} (h : CutTo c s x k out) (hk : s.size ≤ k) : cutL c s.data.toList = out ++ [s.data.toList.drop x] := by
  obtain ⟨h1, h2, h3, h4, h5⟩ := h
  rw [List.take_of_length_le (by rw [List.length_drop, Array.length_toList]; show s.size - x ≤ k - x; omega)] at h2
  rw [h1, cutL_none h2]
def CutRel (c : UInt8) (s : ByteArray) (w : World) (u f i : Value) (wr : World) : Prop :=
  ∃ (x k : Nat) (out : List (List UInt8)), f = .int .i64 x ∧ i = .int .i64 k ∧ CutTo c s x k out ∧ OwnsS w.heap.size wr u out ∧ Below w.heap.size w wr
theorem cutRel0 (c : UInt8) (s : ByteArray) (w : World) : CutRel c s w (.slice none 0 0) (.int .i64 0) (.int .i64 0) w :=
  ⟨0, 0, [], rfl, rfl, cutTo0 c s, World.ownsRow_nil _ _ _ _, Below.refl _ _⟩
theorem strV_seg (s : ByteArray) (x k : Nat) : Value.string (s.extract x k) = strV ((s.data.toList.drop x).take (k - x)) := by
  show _ = Value.string (strB _); rw [← seg_list, strB_of]
def refHostV (l : List UInt8) : Value := match hostO l with
  | none => .tuple #[.string (strB []), .bool false]
  | some h => .tuple #[.string (strB h), .bool true]
theorem refHostV_no {l : List UInt8} (h : hostO l = none) : refHostV l = .tuple #[.string (strB []), .bool false] := by unfold refHostV; rw [h]
theorem refHostV_yes {l h : List UInt8} (e : hostO l = some h) : refHostV l = .tuple #[.string (strB h), .bool true] := by unfold refHostV; rw [e]
end Go.Proofs.YtgbcpheccaldlaaGreatDoor

/- The reference's hosted. -/
namespace Go.Proofs.YtgbcpheccaldlaaGreatDoor
open Go.RowKit

section
variable {hs : List UInt8 → Option (List UInt8)} {lw : List UInt8 → List UInt8}
theorem hostF_app : ∀ (a b : Fs), hostF hs lw (a ++ b) = (hostF hs lw a).bind fun p => (hostF hs lw b).map fun q => (p.1 ++ q.1, p.2 + q.2) := by
  intro a
  induction a with
  | nil => intro b; simp [hostF]
  | cons f r ih =>
    intro b
    rw [List.cons_append, hostF, hostF, ih]
    by_cases hf : lw f.1 = hostN
    · rw [if_pos hf, if_pos hf]
      cases hs f.2 <;> cases hostF hs lw r <;> cases hostF hs lw b <;> simp
      omega
    · rw [if_neg hf, if_neg hf]
      cases hostF hs lw r <;> cases hostF hs lw b <;> simp
theorem hostF_len : ∀ (a : Fs) (q : Fs × Nat), hostF hs lw a = some q → q.1.length = a.length ∧ q.2 ≤ a.length := by
  intro a
  induction a with
  | nil => intro q h; simp [hostF] at h; subst h; simp
  | cons f r ih =>
    intro q h
    rw [hostF] at h
    cases e : hostF hs lw r with
    | none =>
      rw [e] at h
      by_cases hf : lw f.1 = hostN
      · rw [if_pos hf] at h; cases hs f.2 <;> simp at h
      · rw [if_neg hf] at h; simp at h
    | some p =>
      rw [e] at h
      obtain ⟨h1, h2⟩ := ih p e
      by_cases hf : lw f.1 = hostN
      · rw [if_pos hf] at h
        cases e2 : hs f.2 with
        | none => rw [e2] at h; simp at h
        | some y => rw [e2] at h; simp at h; subst h; simp; omega
      · rw [if_neg hf] at h; simp at h; subst h; simp; omega
end
/-- k fields are looked at: they are acc with their hosts, of which there are n. -/
def HostedTo (ps : Fs) (k : Nat) (acc : Fs) (n : Nat) : Prop := hostF hostO lowS (ps.take k) = some (acc, n)
theorem hostedTo0 (ps : Fs) : HostedTo ps 0 [] 0 := rfl
theorem hostedTo_other {ps acc : Fs} {k n : Nat} {p : List UInt8 × List UInt8} (h : HostedTo ps k acc n) (hp : ps[k]? = some p) (ho : lowS p.1 ≠ hostN) : HostedTo ps (k + 1) (acc ++ [p]) n := by
  unfold HostedTo at *
  rw [take_more hp, hostF_app, h]
  show Option.map _ (if lowS p.1 = hostN then _ else _) = _
  rw [if_neg ho]; rfl
theorem hostedTo_host {ps acc : Fs} {k n : Nat} {p : List UInt8 × List UInt8} {y : List UInt8} (h : HostedTo ps k acc n) (hp : ps[k]? = some p) (ho : lowS p.1 = hostN) (hy : hostO p.2 = some y) : HostedTo ps (k + 1) (acc ++ [(p.1, y)]) (n + 1) := by
  unfold HostedTo at *
  rw [take_more hp, hostF_app, h]
  show Option.map _ (if lowS p.1 = hostN then _ else _) = _
  rw [if_pos ho, hy]; rfl
theorem hostedTo_bad {ps : Fs} {k : Nat} {p : List UInt8 × List UInt8} (hp : ps[k]? = some p) (ho : lowS p.1 = hostN) (hy : hostO p.2 = none) : hosted hostO lowS ps = none := by
  have : hostF hostO lowS ps = none := hostF_none ps ⟨p.2, by
    unfold allL
    exact List.mem_map.2 ⟨p, List.mem_filter.2 ⟨List.mem_of_getElem? hp, by rw [ofN_host]; simpa using ho⟩, rfl⟩, hy⟩
  unfold hosted; rw [this]; rfl
theorem hostedTo_end {ps acc : Fs} {k n : Nat} (h : HostedTo ps k acc n) (hk : ps.length ≤ k) : hosted hostO lowS ps = if n = 1 then some acc else none := by
  unfold HostedTo at h
  rw [List.take_of_length_le hk] at h
  unfold hosted; rw [h]; rfl
def HostedPost (ps : Fs) (w : World) (e : Ending) (w' : World) : Prop :=
  ∃ v, e = .returned (.tuple #[v, .bool (hosted hostO lowS ps).isSome]) ∧ (∃ a n c, v = .slice a n c) ∧ (∀ q, hosted hostO lowS ps = some q → OwnsP 41 w.heap.size w' v q) ∧ Below w.heap.size w w'
theorem OwnsP.isSlice {T : TypeId} {B : Nat} {w : World} {v : Value} {ps : Fs} (h : OwnsP T B w v ps) : ∃ a n c, v = .slice a n c := by
  obtain ⟨ao, cap, rfl, _⟩ := h.reads; exact ⟨_, _, _, rfl⟩
end Go.Proofs.YtgbcpheccaldlaaGreatDoor
