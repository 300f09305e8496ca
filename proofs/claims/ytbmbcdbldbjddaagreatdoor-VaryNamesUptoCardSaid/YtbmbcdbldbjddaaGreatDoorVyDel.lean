/- What slices.IndexFunc and DeleteFunc of variants, and Remove of a set return. -/
import Derived.Test.YtbmbcdbldbjddaaGreatDoorVyFind
import Derived.Deep.RegionHeld3
import Derived.Deep.DeepCutAuto
import Derived.Deep.QuietTactic
import Derived.BigQuiet
import Derived.Laws.CopyRow
import Derived.Laws.CopyOwn
import Derived.Lib.SmallJoins
namespace Go.Proofs.YtbmbcdbldbjddaaGreatDoor
open Go.RowKit Go.Maps

theorem id_ {p : Prop} (h : p) : p := h
abbrev remV3 (ib : Nat) : Value := .func (.func 42) #[] #[.pointer (some ⟨ib, 0, none⟩)]
/-- What the closure asks of a world: the number in its box. -/
structure CloR (ib : Nat) (id : Int) (w : World) : Prop where
  m : w.cell? ⟨ib, 0, none⟩ = some (.int .i64 id)
  l : ib < w.heap.size
theorem CloR.below {ib : Nat} {id : Int} {w w' : World} (h : CloR ib id w) (hb : Below w.heap.size w w') : CloR ib id w' :=
  ⟨(hb.cell (p := ⟨ib, 0, none⟩) h.l).trans h.m, Nat.lt_of_lt_of_le h.l hb.size⟩
theorem CloR.only {ib : Nat} {id : Int} {w w' : World} {X : Nat → Prop} (h : CloR ib id w) (ho : Only X w w') (hx : ¬ X ib) : CloR ib id w' :=
  ⟨(ho.cell (p := ⟨ib, 0, none⟩) h.l hx).trans h.m, Nat.lt_of_lt_of_le h.l ho.size⟩
theorem id_eq (a b : Int) : (a == b) = decide (a = b) := by
  by_cases h : a = b
  · rw [decide_eq_true h, h]; simp
  · rw [decide_eq_false h]; simpa using h
set_option maxHeartbeats 1000000 in
set_option maxRecDepth 100000 in
theorem remC_any (e : Vr) (na : Option Addr) (nn nc : Nat) (ib : Nat) (id : Int) (w : World) (hC : CloR ib id w) :
    Calls Tryz.prog 42 #[.agg #[.slice na nn nc, .string (strB e.key), .int .i64 e.id], .pointer (some ⟨ib, 0, none⟩)] w fun x w' => x = .returned (.bool (decide (e.id = id))) ∧ Below w.heap.size w w' := by
  obtain ⟨k0, k1, k2⟩ := new_three w (.slice na nn nc) (.string (strB e.key)) (.int .i64 e.id) 62
  have hm := (hC.below (below_new w (.cells #[.slice na nn nc, .string (strB e.key), .int .i64 e.id] 62))).m
  have HE := Lib.hid (id_eq e.id id)
  clear hC
  go_enter Tryz.func42, Tryz.ntmps42
  go_wp2
  go_ret
  exact ⟨by rw [← HE.out]; rfl, below_new _ _⟩
theorem anyV_hit {l : List Vr} {f : Vr → Bool} {k : Nat} {p : Vr} (hk : l[k]? = some p) (h : (l.take k).any f = false) (hp : f p = true) : ∃ q, l[k]? = some q ∧ f q = true ∧ (l.take k).any f = false := ⟨p, hk, hp, h⟩
theorem anyV_step {l : List Vr} {f : Vr → Bool} {k : Nat} {p : Vr} (hk : l[k]? = some p) (h : (l.take k).any f = false) (hp : f p = false) : (l.take (k + 1)).any f = false := by
  rw [take_more hk, List.any_append, h]; simp [hp]
def IxV (l : List Vr) (f : Vr → Bool) (n : Int) : Prop :=
  (n = -1 ∧ l.any f = false) ∨ ∃ k : Nat, n = k ∧ ∃ q, l[k]? = some q ∧ f q = true ∧ (l.take k).any f = false
set_option maxHeartbeats 4000000 in
set_option maxRecDepth 100000 in
theorem indexV_any (fv : Value) (l : List Vr) (ib : Nat) (id : Int) (w : World) (hr : ReadsV (fun _ => True) w fv l) (hE : CloR ib id w) (hl : l.length ≤ 1000000) :
    Calls Tryz.prog 68 #[fv, remV3 ib] w fun e w' => ∃ i, e = .returned (.int .i64 i) ∧ IxV l (fun p => decide (p.id = id)) i ∧ Below w.heap.size w w' := by
  obtain ⟨ao, cap, rfl, hc⟩ := hr
  have HC := Lib.hid hc
  have HE := Lib.hid hE
  clear hc hE
  go_enter Tryz.func68, Tryz.ntmps68
  go_wp2
  go_loopw [8] (fun i wr => ∃ k : Nat, i = .int .i64 k ∧ k ≤ l.length ∧ (l.take k).any (fun p => decide (p.id = id)) = false ∧ Below w.heap.size w wr) (fun i _ => l.length - (intOf i).toNat)
  case atStart => exact ⟨0, rfl, Nat.zero_le _, rfl, Below.refl _ _⟩
  case round =>
    obtain ⟨k, rfl, hk, hs, hBr⟩ := hrel
    have hbr := hBr.size
    have HS := Lib.hid hs
    have HB := Lib.hid hBr
    clear hs hBr
    by_cases hlt : k < l.length
    · obtain ⟨p, hp⟩ : ∃ p, l[k]? = some p := ⟨l[k], by simp [hlt]⟩
      obtain ⟨g, n, rfl, hg, _, h0, h1, h2, hrn⟩ := HC.out k p hp
      obtain ⟨na, nc, rfl, _⟩ := id_ hrn
      have d0 := (HB.out.cell (p := ⟨g, k * 3, none⟩) hg).trans h0
      have d1 := (HB.out.cell (p := ⟨g, k * 3 + 1, none⟩) hg).trans h1
      have d2 := (HB.out.cell (p := ⟨g, k * 3 + 2, none⟩) hg).trans h2
      have HP := Lib.hid hp
      clear hp h0 h1 h2 hrn
      go_wp2_with fail
      refine (remC_any p _ _ _ ib id _ (HE.out.below HB.out)).mono ?_
      rintro e w2 ⟨rfl, hB2⟩
      have HB2 := Lib.hid (HB.out.trans (hB2.mono hbr))
      clear hB2
      cases hst : decide (p.id = id) with
      | true =>
        have HR := Lib.hid (anyV_hit (f := fun p => decide (p.id = id)) HP.out HS.out hst)
        clear hst
        go_wp2
        go_ret
        exact ⟨k, rfl, .inr ⟨k, rfl, HR.out⟩, HB2.out⟩
      | false =>
        have HR := Lib.hid (anyV_step (f := fun p => decide (p.id = id)) HP.out HS.out hst)
        clear hst
        go_wp2
        go_roundw
        case rel => exact ⟨k + 1, by go_num, by omega, HR.out, HB2.out⟩
        case measure => simp [intOf]; omega
    · have HR := Lib.hid (show l.any (fun p => decide (p.id = id)) = false by have := HS.out; rwa [List.take_of_length_le (by omega)] at this)
      go_wp2
      go_ret
      exact ⟨-1, rfl, .inl ⟨rfl, HR.out⟩, HB.out⟩

theorem flat3_set : ∀ (xs : List (List Value)), (∀ x ∈ xs, x.length = 3) → ∀ (i : Nat) (a b c : Value), (xs.set i [a, b, c]).flatten = ((xs.flatten.set (i * 3) a).set (i * 3 + 1) b).set (i * 3 + 2) c
  | [], _, i, a, b, c => by simp
  | y :: t, h, i, a, b, c => by
    have hy := h y (List.mem_cons_self ..)
    obtain ⟨p, q, r, rfl⟩ : ∃ p q r, y = [p, q, r] := by
      match y, hy with
      | [p, q, r], _ => exact ⟨p, q, r, rfl⟩
    cases i with
    | zero => simp
    | succ i =>
      have ih := flat3_set t (fun z hz => h z (List.mem_cons_of_mem _ hz)) i a b c
      rw [List.set_cons_succ, List.flatten_cons, ih, List.flatten_cons, show (i + 1) * 3 + 1 = i * 3 + 1 + 1 + 1 + 1 by omega, show (i + 1) * 3 + 2 = i * 3 + 2 + 1 + 1 + 1 by omega, show (i + 1) * 3 = i * 3 + 1 + 1 + 1 by omega]
      simp
/-- A variant put in the place of another one. -/
theorem OwnsV.put {T : TypeId} {B g n cap : Nat} {Y : Nat → Prop} {w : World} {es : List Vr} (h : OwnsV T B Y w (.slice (some ⟨g, 0, none⟩) n cap) es) (i : Nat) (e : Vr) (x : Value) (hx : ReadsG Y w x e.ns) :
    OwnsV T B Y (((w.setCell ⟨g, i * 3, none⟩ x).setCell ⟨g, i * 3 + 1, none⟩ (.string (strB e.key))).setCell ⟨g, i * 3 + 2, none⟩ (.int .i64 e.id)) (.slice (some ⟨g, 0, none⟩) n cap) (es.set i e) := by
  obtain ⟨xs, h1, h2, h3, h4, h5⟩ := h
  have hx3 := OwnsV.three h2 h3
  have hng := h4 g rfl
  have hO : Only (fun k => k = g) w (((w.setCell ⟨g, i * 3, none⟩ x).setCell ⟨g, i * 3 + 1, none⟩ (.string (strB e.key))).setCell ⟨g, i * 3 + 2, none⟩ (.int .i64 e.id)) :=
    ((Only.set (X := fun k => k = g) rfl w _ _).trans' (Only.set (X := fun k => k = g) rfl _ _ _)).trans' (Only.set (X := fun k => k = g) rfl _ _ _)
  have hYg : ∀ k, Y k → ¬ k = g := fun k hk e => hng (e ▸ hk)
  refine ⟨xs.set i (vrC e x), ?_, by rw [List.length_set, List.length_set]; exact h2, fun j y f hy hf => ?_, h4, fun k hk => Nat.lt_of_lt_of_le (h5 k hk) hO.size⟩
  · rcases h1 with ⟨hl, ⟨hv, _⟩ | ⟨g', cap', cur, hv, hb, hg, hn, hm, hs, ht⟩⟩
    · cases hv
    · cases hv
      rw [List.length_set]
      refine ⟨?_, .inr ⟨g, cap, _, rfl, hb, Go.Joins.block_setCell (Go.Joins.block_setCell (Go.Joins.block_setCell hg _) _) _, hn, hm, by simpa using hs, ?_⟩⟩
      · rw [flat3_set xs hx3, List.length_set, List.length_set, List.length_set]; exact hl
      · rw [Array.toList_setIfInBounds, Array.toList_setIfInBounds, Array.toList_setIfInBounds, List.take_set, List.take_set, List.take_set, ht, flat3_set xs hx3]
  · rw [List.getElem?_set] at hy hf
    by_cases hij : i = j
    · rw [if_pos hij] at hy hf
      split at hy
      · split at hf
        · obtain rfl := Option.some.inj hy
          obtain rfl := Option.some.inj hf
          exact ⟨x, rfl, hx.only hO (fun k _ hk => hYg k hk)⟩
        · cases hf
      · cases hy
    · rw [if_neg hij] at hy hf
      exact (h3 j y f hy hf).only hO hYg
theorem zeroW (w : World) : (zeroValue 62).run Tryz.prog w = .ok (.agg #[.slice none 0 0, .string ByteArray.empty, .int .i64 0]) w := by kernel_rfl
theorem zcells3 (n : Nat) : (Builtin.zeroCells (Value.agg #[.slice none 0 0, .string ByteArray.empty, .int .i64 0]).cells n).toList = (List.replicate n [Value.slice none 0 0, .string ByteArray.empty, .int .i64 0]).flatten := by
  have e : (Value.agg #[.slice none 0 0, .string ByteArray.empty, .int .i64 0]).cells = #[.slice none 0 0, .string ByteArray.empty, .int .i64 0] := rfl
  rw [e]
  have h3 : ∀ x ∈ List.replicate n [Value.slice none 0 0, .string ByteArray.empty, .int .i64 0], x.length = 3 := fun x hx => by rw [List.eq_of_mem_replicate hx]; rfl
  have hl := flat3_len _ h3
  rw [List.length_replicate] at hl
  apply List.ext_getElem?
  intro i
  by_cases hi : i < n * 3
  · have h := flat3_at _ h3 (i / 3) (i % 3) _ (by rw [List.getElem?_replicate, if_pos (by omega)]) (Nat.mod_lt _ (by omega))
    rw [show i / 3 * 3 + i % 3 = i by omega] at h
    rw [h]
    simp only [Builtin.zeroCells]
    rw [Array.getElem?_toList]
    have h0 : i % 3 = 0 ∨ i % 3 = 1 ∨ i % 3 = 2 := by omega
    rcases h0 with h0 | h0 | h0 <;> simp [h0, hi]
  · rw [List.getElem?_eq_none (l := (List.replicate n [Value.slice none 0 0, .string ByteArray.empty, .int .i64 0]).flatten) (by omega), List.getElem?_eq_none (by simp [Builtin.zeroCells]; omega)]
/-- 'clear' of the variants from the k-th on: the variants ahead of it stay. -/
theorem run_clearV {B g cap m k : Nat} {Y : Nat → Prop} {w : World} {es : List Vr} (hO : OwnsV 62 B Y w (.slice (some ⟨g, 0, none⟩) m cap) es) (hk : k < m) :
    ∃ cs, (∀ ty c, (Builtin.clear_ #[58] ty #[.slice (some ⟨g, k * 3, none⟩) (m - k) c]).run Tryz.prog w = .ok (.tuple #[]) (w.setRow g cs)) ∧ OwnsV 62 B Y (w.setRow g cs) (.slice (some ⟨g, 0, none⟩) k cap) (es.take k) := by
  obtain ⟨xs, h1, h2, h3, h4, h5⟩ := hO
  have hx3 := OwnsV.three h2 h3
  have hfl := flat3_len xs hx3
  have hng := h4 g rfl
  rcases h1 with ⟨hl, ⟨hv, _⟩ | ⟨g', cap', cur, hv, hb, hg, hn, hm, hs, ht⟩⟩
  · cases hv
  · cases hv
    have hst := run_storeCells_at Tryz.prog g (k * 3) 62 ((List.replicate (es.length - k) [Value.slice none 0 0, .string ByteArray.empty, .int .i64 0]).flatten) 0 cur w hg
      (by rw [flat3_len _ (fun x hx => by rw [List.eq_of_mem_replicate hx]; rfl), List.length_replicate]; omega)
      (fun v hv' => by
        obtain ⟨x, hx, hvx⟩ := List.mem_flatten.mp hv'
        rw [List.eq_of_mem_replicate hx] at hvx
        simp at hvx
        rcases hvx with rfl | rfl | rfl <;> rfl)
    obtain ⟨vs, hvs⟩ : ∃ vs : List Value, vs = (List.replicate (es.length - k) [Value.slice none 0 0, .string ByteArray.empty, .int .i64 0]).flatten := ⟨_, rfl⟩
    have hvl : vs.length = (es.length - k) * 3 := by rw [hvs, flat3_len _ (fun x hx => by rw [List.eq_of_mem_replicate hx]; rfl), List.length_replicate]
    have hO : Only (fun j => j = g) w (w.setRow g (cur.toList.take (k * 3 + 0) ++ vs ++ cur.toList.drop (k * 3 + 0 + vs.length)).toArray) := ⟨rfl, rfl, rfl, by simp, fun j _ hj => setRow_other w g j _ hj⟩
    have hYg : ∀ j, Y j → ¬ j = g := fun j hj e => hng (e ▸ hj)
    refine ⟨(cur.toList.take (k * 3 + 0) ++ vs ++ cur.toList.drop (k * 3 + 0 + vs.length)).toArray, fun ty c => ?_, xs.take k, ?_, by rw [List.length_take, List.length_take, h2], fun j y f hy hf => ?_, fun j hj hy => ?_, fun j hj => Nat.lt_of_lt_of_le (h5 j hj) hO.size⟩
    · obtain ⟨j, hj⟩ : ∃ j, es.length - k = j + 1 := ⟨es.length - k - 1, by omega⟩
      have hz := zcells3 (j + 1)
      rw [← hvs] at hst
      rw [hj] at hvs
      rw [hj]
      rw [← hvs] at hz
      have hz2 : (Builtin.zeroCells (Value.agg #[.slice none 0 0, .string ⟨#[]⟩, .int .i64 0]).cells (j + 1)).toList = vs := hz
      simp [Builtin.clear_, run_underlying Tryz.underlying58, hz2, hst]
    · refine ⟨?_, .inr ⟨g, cap, _, by rw [List.length_take, Nat.min_eq_left (by omega)], hb, setRow_heap w g cur _ _ _ hg, ?_, hm, ?_, ?_⟩⟩
      · rw [flat3_len _ (fun x hx => hx3 x (List.mem_of_mem_take hx)), List.length_take, List.length_take, h2]
      · rw [List.length_take]; omega
      · simp [hvl]; omega
      · rw [List.length_take, Nat.min_eq_left (by omega)]
        simp only [Nat.add_zero]
        have g1 : (cur.toList.take (k * 3)).length = k * 3 := by rw [List.length_take, Array.length_toList]; omega
        have e1 : ∀ x : List Value, (cur.toList.take (k * 3) ++ x).take (k * 3) = cur.toList.take (k * 3) := fun x => by
          rw [List.take_append_of_le_length (Nat.le_of_eq g1.symm), List.take_of_length_le (Nat.le_of_eq g1)]
        rw [List.append_assoc, e1]
        have g2 : cur.toList.take (k * 3) = xs.flatten.take (k * 3) := by rw [← ht, List.take_take, Nat.min_eq_left (by omega)]
        have g4 : (xs.take k).flatten.length = k * 3 := by rw [flat3_len _ (fun x hx => hx3 x (List.mem_of_mem_take hx)), List.length_take, h2, Nat.min_eq_left (by omega)]
        rw [g2]
        conv => lhs; rw [← List.take_append_drop k xs, List.flatten_append]
        rw [List.take_append_of_le_length (Nat.le_of_eq g4.symm), List.take_of_length_le (Nat.le_of_eq g4)]
    · rw [List.getElem?_take] at hy hf
      split at hy
      · rename_i hlt
        rw [if_pos hlt] at hf
        exact (h3 j y f hy hf).only hO hYg
      · cases hy
    · have e : g = j := Option.some.inj hj
      subst e; exact hng hy

/-- While variants are deleted: the first i are those of the first j that stay; from j on all is as it was. -/
structure DlI (l : List Vr) (f : Vr → Bool) (i j : Nat) (Z : List Vr) : Prop where
  len : Z.length = l.length
  pre : Z.take i = (l.take j).filter fun p => !f p
  suf : Z.drop j = l.drop j
  lt : i < j
  le : j ≤ l.length
theorem filV_no {l : List Vr} {f : Vr → Bool} {k : Nat} {p : Vr} (h : l[k]? = some p) (ho : f p = false) : (l.take (k + 1)).filter f = (l.take k).filter f := by
  rw [take_more h, List.filter_append]; simp [ho]
theorem filV_yes {l : List Vr} {f : Vr → Bool} {k : Nat} {p : Vr} (h : l[k]? = some p) (ho : f p = true) : (l.take (k + 1)).filter f = (l.take k).filter f ++ [p] := by
  rw [take_more h, List.filter_append]; simp [ho]
theorem DlI.at {l : List Vr} {f : Vr → Bool} {i j : Nat} {Z : List Vr} (h : DlI l f i j Z) {p : Vr} (hp : l[j]? = some p) : Z[j]? = some p := by
  have h1 : (Z.drop j)[0]? = (l.drop j)[0]? := by rw [h.suf]
  rw [List.getElem?_drop, List.getElem?_drop] at h1
  simpa [hp] using h1
theorem DlI.have_at {l : List Vr} {f : Vr → Bool} {i j : Nat} {Z : List Vr} (h : DlI l f i j Z) : ∃ z, Z[i]? = some z :=
  ⟨Z[i]'(by have := h.len; have := h.lt; have := h.le; omega), by simp⟩
theorem DlI.start {l : List Vr} {f : Vr → Bool} {k : Nat} {q : Vr} (hq : l[k]? = some q) (hf : f q = true) (hp : (l.take k).any f = false) : DlI l f k (k + 1) l := by
  have hk := (List.getElem?_eq_some_iff.mp hq).1
  refine ⟨rfl, ?_, rfl, Nat.lt_succ_self _, hk⟩
  rw [filV_no hq (by simp [hf])]
  refine (List.filter_eq_self.mpr fun p hm => ?_).symm
  rw [List.any_eq_false] at hp
  simpa using hp p hm
theorem dropV_one {a b : List Vr} {j : Nat} (h : a.drop j = b.drop j) : a.drop (j + 1) = b.drop (j + 1) := by
  have h1 := congrArg (List.drop 1) h
  rwa [List.drop_drop, List.drop_drop] at h1
theorem DlI.gone {l : List Vr} {f : Vr → Bool} {i j : Nat} {Z : List Vr} {p : Vr} (h : DlI l f i j Z) (hp : l[j]? = some p) (hf : f p = true) : DlI l f i (j + 1) Z :=
  ⟨h.len, by rw [filV_no hp (by simp [hf])]; exact h.pre, dropV_one h.suf, Nat.lt_succ_of_lt h.lt, (List.getElem?_eq_some_iff.mp hp).1⟩
theorem DlI.kept {l : List Vr} {f : Vr → Bool} {i j : Nat} {Z : List Vr} {p : Vr} (h : DlI l f i j Z) (hp : l[j]? = some p) (hf : f p = false) : DlI l f (i + 1) (j + 1) (Z.set i p) := by
  have hl := h.len
  have hj := (List.getElem?_eq_some_iff.mp hp).1
  have hi := h.lt
  refine ⟨by rw [List.length_set]; exact hl, ?_, ?_, Nat.succ_lt_succ hi, hj⟩
  · rw [filV_yes hp (by simp [hf]), ← h.pre, take_more (p := p) (by rw [List.getElem?_set_self (by omega)]), List.take_set_of_le (Nat.le_refl _)]
  · rw [List.drop_set_of_lt (by omega)]; exact dropV_one h.suf
theorem DlI.fin {l : List Vr} {f : Vr → Bool} {i j : Nat} {Z : List Vr} (h : DlI l f i j Z) (hj : l.length ≤ j) : Z.take i = l.filter fun p => !f p := by
  rw [h.pre, List.take_of_length_le hj]
theorem anyV_fil {l : List Vr} {f : Vr → Bool} (h : l.any f = false) : (l.filter fun p => !f p) = l := by
  rw [List.any_eq_false] at h
  exact List.filter_eq_self.mpr fun p hm => by simpa using h p hm
theorem other_fil (l : List Vr) (id : Int) : (l.filter fun p => !decide (p.id = id)) = otherV l id := by
  unfold otherV
  refine List.filter_congr fun p _ => ?_
  by_cases h : p.id = id <;> simp [h]
set_option maxHeartbeats 8000000 in
set_option maxRecDepth 100000 in
theorem deleteV_any (v : Value) (l : List Vr) (Y : Nat → Prop) (ib : Nat) (id : Int) (w : World) (hO : OwnsV 62 0 Y w v l) (hE : CloR ib id w) (hib : v.ownBlock ≠ some ib) (hl : l.length ≤ 1000000) :
    Calls Tryz.prog 41 #[v, remV3 ib] w fun e w' => ∃ v', e = .returned v' ∧ OwnsV 62 0 Y w' v' (otherV l id) ∧ Only (fun k => v.ownBlock = some k) w w' ∧ v'.ownBlock = v.ownBlock := by
  rw [← other_fil]
  have HI := Lib.hid (indexV_any v l ib id w (hO.reads (fun _ _ _ => trivial) (fun _ _ _ => trivial)) hE hl)
  have HO := Lib.hid hO
  have HE := Lib.hid hE
  have hv := hO.val
  clear hO hE
  rcases hv with ⟨rfl, rfl⟩ | ⟨g, cap, rfl, _, hgs, hcap⟩
  · go_enter Tryz.func41, Tryz.ntmps41
    go_wp2_with fail
    refine HI.out.mono ?_
    rintro e w1 ⟨i, rfl, hix, hB1⟩
    rcases hix with ⟨rfl, hany⟩ | ⟨k, rfl, q, hq, _⟩
    · have HO1 := Lib.hid (HO.out.below hB1)
      go_wp2_with fail
      go_ret
      exact ⟨_, rfl, HO1.out, Only.below hB1, rfl⟩
    · simp at hq
  · have hgi : ib ≠ g := fun e => hib (by rw [e]; rfl)
    clear hib
    go_enter Tryz.func41, Tryz.ntmps41
    go_wp2_with fail
    refine HI.out.mono ?_
    rintro e w1 ⟨i, rfl, hix, hB1⟩
    have HO1 := Lib.hid (OwnsV.below HO.out hB1)
    have HE1 := Lib.hid (HE.out.below hB1)
    have hs1 := hB1.size
    have HB1 := Lib.hid (Only.below (X := fun k => k = g) hB1)
    have hXg : ∀ k : Nat, k = g → (Value.slice (some ⟨g, 0, none⟩) l.length cap).ownBlock = some k := fun k hk => by rw [hk]; rfl
    clear hB1
    rcases hix with ⟨rfl, hany⟩ | ⟨k, rfl, q, hq, hf, hpre⟩
    · have HF := Lib.hid (anyV_fil hany)
      clear hany
      go_wp2_with fail
      go_ret
      exact ⟨_, rfl, by rw [HF.out]; exact HO1.out, HB1.out.mono hXg, rfl⟩
    · have HS := Lib.hid (DlI.start (f := fun p => decide (p.id = id)) hq hf hpre)
      have hk1 := (List.getElem?_eq_some_iff.mp hq).1
      have hkb : ((k : Int) == -1) = false := by first | (simp; done) | (simp; omega)
      clear hq hf hpre HO HE
      have HX := Lib.hid hXg
      clear hXg
      go_wp2_with fail
      go_loopw [5, 6] (fun u x wr => ∃ (i j : Nat) (Z : List Vr), u = .int .i64 i ∧ x = .int .i64 j ∧ DlI l (fun p => decide (p.id = id)) i j Z ∧ OwnsV 62 0 Y wr (.slice (some ⟨g, 0, none⟩) l.length cap) Z ∧ CloR ib id wr ∧ Only (fun k => k = g) w1 wr) (fun _ x _ => l.length - (intOf x).toNat)
      case atStart => exact ⟨k, k + 1, l, rfl, by first | rfl | go_num, HS.out, HO1.out, HE1.out, Only.refl _ _⟩
      case round =>
        obtain ⟨i, j, Z, rfl, rfl, hI, hO, hE, hOn⟩ := hrel
        have hjl := hI.le
        have hij := hI.lt
        have HI2 := Lib.hid hI
        have HO2 := Lib.hid hO
        have HE2 := Lib.hid hE
        have HN2 := Lib.hid hOn
        have hwr := hOn.size
        clear hI hO hE hOn HI
        by_cases hlt : j < l.length
        · obtain ⟨p, hp⟩ : ∃ p, l[j]? = some p := ⟨l[j], by simp [hlt]⟩
          obtain ⟨g', cap', n, e1, _, _, _, c0, c1, c2, hrn, _⟩ := HO2.out.at (HI2.out.at hp)
          simp only [Value.slice.injEq, Option.some.injEq, Addr.mk.injEq, and_true] at e1
          obtain ⟨rfl, he2, rfl⟩ := e1
          clear he2
          obtain ⟨na, nc, rfl, _⟩ := id_ hrn
          have HRn := Lib.hid hrn
          have HP := Lib.hid hp
          clear hp hrn
          go_wp2_with fail
          refine (remC_any p _ _ _ ib id _ (HE2.out.below (below_new _ _))).mono ?_
          rintro e w2 ⟨rfl, hB2⟩
          obtain ⟨k0, k1, k2⟩ := three_kept hB2
          have hB2' := below_three hB2
          have HO3 := Lib.hid (OwnsV.below HO2.out hB2')
          have HE3 := Lib.hid (HE2.out.below hB2')
          have HN3 := Lib.hid (HN2.out.trans' (Only.below hB2'))
          have HR3 := Lib.hid (HRn.out.only (Only.below (X := fun _ => False) hB2') (fun _ _ _ h => h))
          have hgw2 : g < w2.heap.size := by have := hB2'.size; omega
          clear hB2 hB2' c0 c1 c2
          cases hst : decide (p.id = id) with
          | true =>
            have HR := Lib.hid (HI2.out.gone HP.out hst)
            clear hst
            go_wp2_with fail
            go_roundw
            case rel => exact ⟨i, j + 1, Z, rfl, by go_num, HR.out, HO3.out, HE3.out, HN3.out⟩
            case measure => simp [intOf]; omega
          | false =>
            have HR := Lib.hid (HI2.out.kept HP.out hst)
            obtain ⟨z, hz⟩ := HI2.out.have_at
            obtain ⟨g', cap', n', e1, _, _, _, c0, c1, c2, _, f0, f1, f2⟩ := HO3.out.at hz
            simp only [Value.slice.injEq, Option.some.injEq, Addr.mk.injEq, and_true] at e1
            obtain ⟨rfl, he2, rfl⟩ := e1
            clear he2
            clear hst hz
            have hil : i < l.length := by omega
            go_wp2_with fail
            go_roundw
            case rel => exact ⟨i + 1, j + 1, Z.set i p, by go_num, by go_num, HR.out, HO3.out.put i p _ HR3.out, ((HE3.out.only (Only.set (X := fun k => k = g) rfl _ _ _) hgi).only (Only.set (X := fun k => k = g) rfl _ _ _) hgi).only (Only.set (X := fun k => k = g) rfl _ _ _) hgi, ((HN3.out.trans' (Only.set (X := fun k => k = g) rfl _ _ _)).trans' (Only.set (X := fun k => k = g) rfl _ _ _)).trans' (Only.set (X := fun k => k = g) rfl _ _ _)⟩
            case measure => simp [intOf]; omega
        · have hfin := HI2.out.fin (by omega)
          have hil : i < l.length := by omega
          obtain ⟨cs, hcl, hOc⟩ := run_clearV HO2.out hil
          rw [hfin] at hOc
          have HOc := Lib.hid hOc
          have HNc := Lib.hid ((HB1.out.trans' (HN2.out.trans' (show Only (fun k => k = g) wr (wr.setRow g cs) from ⟨rfl, rfl, rfl, by simp, fun k _ hk => setRow_other wr g k cs hk⟩))).mono HX.out)
          clear hOc hfin
          go_wp2_with fail
          go_ret
          exact ⟨_, rfl, HOc.out, HNc.out, rfl⟩
set_option maxHeartbeats 4000000 in
set_option maxRecDepth 100000 in
theorem setRemove_any (sa : Nat) (l : List Vr) (id : Int) (F : Nat → Prop) (w : World) (hS : SetO F w sa l) (hl : l.length ≤ 1000000) :
    Calls Tryz.prog 24 #[.pointer (some ⟨sa, 0, none⟩), .int .i64 id] w fun x w' => x = .returned (.bool (decide ((otherV l id).length < l.length))) ∧ SetO F w' sa (otherV l id) ∧ Only F w w' := by
  obtain ⟨⟨v, Y, hb, hO, hYs, hvs, hYF, hvF⟩, hme, hlt⟩ := hS
  obtain ⟨va, vc, hvv, _⟩ := id_ (hO.reads (G := fun _ => True) (fun _ _ _ => trivial) (fun _ _ _ => trivial))
  have hsl := hlt sa hme
  have hcs : (w.alloc (.cells #[.int .i64 id] 3)).cell? ⟨sa, 0, none⟩ = some (.slice va l.length vc) := by
    rw [(below_new w _).cell (p := ⟨sa, 0, none⟩) hsl, ← hvv]
    simp [World.cell?, hb]
  have HD := Lib.hid (deleteV_any v l Y w.heap.size id (w.alloc (.cells #[.int .i64 id] 3)) (hO.below (below_new _ _)) ⟨by rw [World.cell?_alloc_at _ _ _ _ rfl]; rfl, by simp⟩ (fun e => Nat.lt_irrefl _ (hlt _ (hvF _ e))) hl)
  rw [hvv] at HD
  have HB := Lib.hid hb
  have HYF := Lib.hid hYF
  have HVF := Lib.hid hvF
  have HLT := Lib.hid hlt
  have HYS := Lib.hid hYs
  have HVS := Lib.hid hvs
  have HME := Lib.hid hme
  have HVV := Lib.hid hvv
  clear hb hO hYF hvF hYs hvs hvv hlt hme
  go_enter Tryz.func24, Tryz.ntmps24
  go_wp2_with fail
  refine HD.out.mono ?_
  rintro x w1 ⟨v', rfl, hO1, hN1, hvb⟩
  rw [← HVV.out] at hN1 hvb
  have hNF : Only F w w1 := (Only.below (X := F) (below_new w (.cells #[.int .i64 id] 3))).trans' (hN1.mono HVF.out)
  have hsx : w1.heap[sa]? = some (.cells #[v] 60 (0, 0)) := by
    rw [hN1.block sa (by simp; omega) HVS.out, (below_new w _).block sa hsl]
    exact HB.out
  obtain ⟨va1, vc1, hv1, _⟩ := id_ (hO1.reads (G := fun _ => True) (fun _ _ _ => trivial) (fun _ _ _ => trivial))
  have hc1 : w1.cell? ⟨sa, 0, none⟩ = some v := by simp [World.cell?, hsx]
  have hf1 : w1.frozen? ⟨sa, 0, none⟩ = false := by simp [World.frozen?, hsx]
  have hsl1 : sa < w1.heap.size := (Array.getElem?_eq_some_iff.1 hsx).1
  have HFin := Lib.hid (show SetO F (w1.setCell ⟨sa, 0, none⟩ v') sa (otherV l id) from by
    have hset : Only (fun k => k = sa) w1 (w1.setCell ⟨sa, 0, none⟩ v') := Only.set (X := fun k => k = sa) rfl w1 0 v'
    refine ⟨⟨v', Y, ?_, hO1.only hset (fun k hk e => HYS.out (e ▸ hk)) (fun k hk e => HVS.out (by rw [← hvb, hk, e])), HYS.out, by rw [hvb]; exact HVS.out, HYF.out, fun k hk => HVF.out k (by rw [← hvb]; exact hk)⟩, HME.out, fun k hk => Nat.lt_of_lt_of_le (HLT.out k hk) (Nat.le_trans hNF.size hset.size)⟩
    have := Go.Joins.block_setCell (i := 0) hsx v'
    simpa using this)
  have HNF := Lib.hid (hNF.trans' (Only.set (X := F) HME.out w1 0 v'))
  have hcs2 : (w1.setCell ⟨sa, 0, none⟩ v').cell? ⟨sa, 0, none⟩ = some v' := World.cell?_setCell_same _ _ _ hc1
  clear hO1 hN1 hNF hsx
  subst hv1
  have hdl : decide (((otherV l id).length : Int) < (l.length : Int)) = decide ((otherV l id).length < l.length) := by
    by_cases h : (otherV l id).length < l.length
    · rw [decide_eq_true h, decide_eq_true (by omega)]
    · rw [decide_eq_false h, decide_eq_false (by omega)]
  have HDL := Lib.hid hdl
  clear hdl
  obtain ⟨m, hm⟩ : ∃ m, (otherV l id).length = m := ⟨_, rfl⟩
  rw [hm] at HDL hcs2 HFin HNF
  go_wp2_with fail
  go_ret
  exact ⟨by rw [hm, ← HDL.out]; rfl, HFin.out, HNF.out⟩
theorem nilRemove_any (id : Int) (w : World) :
    Calls Tryz.prog 24 #[.pointer none, .int .i64 id] w fun x w' => x = .returned (.bool false) ∧ Below w.heap.size w w' := by
  go_enter Tryz.func24, Tryz.ntmps24
  go_wp2
  go_ret
  exact ⟨rfl, below_new _ _⟩
end Go.Proofs.YtbmbcdbldbjddaaGreatDoor
