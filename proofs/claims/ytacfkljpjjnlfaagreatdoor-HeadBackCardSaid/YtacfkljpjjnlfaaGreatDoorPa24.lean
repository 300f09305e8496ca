import Derived.Test.YtacfkljpjjnlfaaGreatDoorPa23
import Derived.Test.YtacfkljpjjnlfaaGreatDoorPa12
import Derived.Test.YtacfkljpjjnlfaaGreatDoorPa14
import Derived.BigFrame
import Derived.Test.YtacfkljpjjnlfaaGreatDoorPa5
import Derived.Deep.RegionLaw
import Derived.Deep.AppendLies
import Derived.Test.YtacfkljpjjnlfaaGreatDoorPa4
import Derived.Lib.Hide
import Derived.Test.YtacfkljpjjnlfaaGreatDoorPa6
import Derived.Test.YtacfkljpjjnlfaaGreatDoorPa10
import Derived.Test.YtacfkljpjjnlfaaGreatDoorPa16
/- What the statements' Response and lower return. -/
namespace Go.Proofs.YtacfkljpjjnlfaaGreatDoor
open Go.RowKit

theorem ownsP_set2 {T : TypeId} {B C g : Nat} {w' : World} {v : Value} {ps : Fs} (h : OwnsP T B w' v ps) (hg : g < B) (hC : C ≤ B) (a b : Value) :
    OwnsP T C ((w'.setCell ⟨g, 0, none⟩ a).setCell ⟨g, 1, none⟩ b) v ps := by
  have hn : ∀ k, v.ownBlock ≠ some (⟨g, k, none⟩ : Addr).block := fun k hq => by have := (World.ownsRow.lt h _ hq).1; simp at this; omega
  exact OwnsP.mono hC (ownsRow_setCell_other (ownsRow_setCell_other h (hn 0) a) (hn 1) b)
theorem below_set2 {w w' : World} {g : Nat} (h : Below w.heap.size w w') (hg : w.heap.size ≤ g) (a b : Value) : Below w.heap.size w ((w'.setCell ⟨g, 0, none⟩ a).setCell ⟨g, 1, none⟩ b) :=
  (h.setCell (p := ⟨g, 0, none⟩) hg a).setCell (p := ⟨g, 1, none⟩) hg b
set_option maxHeartbeats 8000000 in
set_option maxRecDepth 100000 in
theorem response_any (z : Int) (lv : Value) (ps : Flds) (w : World) (hr : ReadsQ w lv ps) (hl : ps.length ≤ 1000) (hb : ∀ p ∈ ps, p.1.length + p.2.length ≤ 1000000) :
    Calls Tryz.prog 22 #[.agg #[.int .i64 z, lv]] w fun e w' => ∃ a n c, e = .returned (.agg #[.int .i64 z, .slice a n c]) ∧ OwnsP 91 w.heap.size w' (.slice a n c) ps ∧ Below w.heap.size w w' := by
  have F := Lib.hid (fun w (hr : ReadsQ w lv ps) => fields_any lv ps w hr hl hb)
  have HR := Lib.hid hr
  obtain ⟨ao, cap, rfl, hc⟩ := hr
  have hB0 : Below w.heap.size w (w.alloc (.cells #[.int .i64 z, .slice ao ps.length cap] 54)) := below_new _ _
  have hB1 : Below w.heap.size w ((w.alloc (.cells #[.int .i64 z, .slice ao ps.length cap] 54)).alloc (.cells #[.int .i64 0, .slice none 0 0] 57)) := hB0.alloc hB0.size _
  have hxa : ∀ j, ((w.alloc (.cells #[.int .i64 z, .slice ao ps.length cap] 54)).alloc (.cells #[.int .i64 0, .slice none 0 0] 57)).cell? ⟨w.heap.size, j, none⟩ = (#[.int .i64 z, .slice ao ps.length cap] : Array Value)[j]? := fun j => by
    have hb2 := below_new (w.alloc (.cells #[.int .i64 z, .slice ao ps.length cap] 54)) (.cells #[.int .i64 0, .slice none 0 0] 57)
    rw [hb2.cell (p := ⟨w.heap.size, j, none⟩) (by simp), World.cell?_alloc_at _ _ _ _ rfl]
  have hxb : ∀ j, ((w.alloc (.cells #[.int .i64 z, .slice ao ps.length cap] 54)).alloc (.cells #[.int .i64 0, .slice none 0 0] 57)).cell? ⟨w.heap.size + 1, j, none⟩ = (#[.int .i64 0, .slice none 0 0] : Array Value)[j]? := fun j => by
    rw [World.cell?_alloc_at _ _ _ _ (by simp)]
  have hfb : ∀ j, ((w.alloc (.cells #[.int .i64 z, .slice ao ps.length cap] 54)).alloc (.cells #[.int .i64 0, .slice none 0 0] 57)).frozen? ⟨w.heap.size + 1, j, none⟩ = false := fun j => World.frozen?_alloc_at _ _ _ _ (by simp)
  have hsz : ((w.alloc (.cells #[.int .i64 z, .slice ao ps.length cap] 54)).alloc (.cells #[.int .i64 0, .slice none 0 0] 57)).heap.size = w.heap.size + 2 := by simp
  have a0 := hxa 0
  have a1 := hxa 1
  have b0 := hxb 0
  have b1 := hxb 1
  have g0 := hfb 0
  have g1 := hfb 1
  clear hc hxa hxb hfb
  go_enter Tryz.func22, Tryz.ntmps22
  go_wp2_with fail
  generalize ((w.alloc (.cells #[.int .i64 z, .slice ao ps.length cap] 54)).alloc (.cells #[.int .i64 0, .slice none 0 0] 57)) = W at *
  have HF := Lib.hid (F.out _ (HR.out.below hB1))
  have HFd := Lib.hid (F.out _ (HR.out.below (hB1.trans ((Below.refl W.heap.size W).drew.mono hB1.size))))
  go_region_with (first
    | (go_at_call 40; refine HFd.out.mono ?_; rintro e w1 ⟨v1, rfl, hO1, hB2⟩; have c0 := (hB2.cell (p := ⟨w.heap.size, 0, none⟩) (by show w.heap.size < W.heap.size; omega)).trans a0; have c1 := (hB2.cell (p := ⟨w.heap.size, 1, none⟩) (by show w.heap.size < W.heap.size; omega)).trans a1; have d0 := (hB2.cell (p := ⟨w.heap.size + 1, 0, none⟩) (by show w.heap.size + 1 < W.heap.size; omega)).trans b0; have d1 := (hB2.cell (p := ⟨w.heap.size + 1, 1, none⟩) (by show w.heap.size + 1 < W.heap.size; omega)).trans b1; have f0 := (hB2.frozen (p := ⟨w.heap.size + 1, 0, none⟩) (by show w.heap.size + 1 < W.heap.size; omega)).trans g0; have f1 := (hB2.frozen (p := ⟨w.heap.size + 1, 1, none⟩) (by show w.heap.size + 1 < W.heap.size; omega)).trans g1; obtain ⟨ao1, cap1, rfl, hcc⟩ := hO1.reads; clear hcc))
  all_goals
    go_wp2_with fail
    refine bodyPost_ret (v := .agg #[.int .i64 z, .slice ao1 ps.length cap1]) (by simp [results, Tryz.results22, go_sem, d0, d1]) rfl ?_
    exact ⟨_, _, _, rfl, ownsP_set2 hO1 (by show w.heap.size + 1 < W.heap.size; omega) (by show w.heap.size ≤ W.heap.size; omega) _ _, below_set2 ((hB1.trans ((Below.refl W.heap.size W).drew.mono hB1.size)).trans (hB2.mono hB1.size)) (by omega) _ _⟩
theorem flatP_get : ∀ (ps : Flds) (j : Nat) (u : Value), (flatP ps)[j]? = some u → ∃ i p, ps[i]? = some p ∧ ((j = i * 2 ∧ u = strV p.1) ∨ (j = i * 2 + 1 ∧ u = strV p.2)) := by
  intro ps
  induction ps with
  | nil => intro j u h; simp [flatP] at h
  | cons q r ih =>
    intro j u h
    have e : flatP (q :: r) = strV q.1 :: strV q.2 :: flatP r := rfl
    rw [e] at h
    match j, h with
    | 0, h => simp at h; exact ⟨0, q, rfl, .inl ⟨rfl, h.symm⟩⟩
    | 1, h => simp at h; exact ⟨0, q, rfl, .inr ⟨rfl, h.symm⟩⟩
    | j + 2, h =>
      obtain ⟨i, p, hi, hc⟩ := ih j u (by simpa using h)
      exact ⟨i + 1, p, by simpa using hi, by rcases hc with ⟨rfl, hu⟩ | ⟨rfl, hu⟩
                                             · exact .inl ⟨by omega, hu⟩
                                             · exact .inr ⟨by omega, hu⟩⟩
theorem flatP_one (ps : Flds) : ∀ u ∈ flatP ps, u.oneCell' = true := by
  intro u hu
  obtain ⟨j, hj⟩ := List.getElem?_of_mem hu
  obtain ⟨i, p, _, h | h⟩ := flatP_get ps j u hj <;> rw [h.2] <;> rfl
/-- The cells of a slice that is read, as the source of an append. -/
theorem ReadsQ.src {w : World} {ad : Addr} {n cap : Nat} {ps : Flds} (h : ReadsQ w (.slice (some ad) n cap) ps) : n = ps.length ∧ ∀ j u, (flatP ps)[j]? = some u → w.cell? (ad.add j) = some u := by
  obtain ⟨ao, c, hv, hc⟩ := h
  simp only [Value.slice.injEq] at hv
  obtain ⟨rfl, rfl, rfl⟩ := hv
  refine ⟨rfl, fun j u hj => ?_⟩
  obtain ⟨i, p, hi, hu⟩ := flatP_get ps j u hj
  obtain ⟨g, off, ha, _, h1, h2⟩ := hc i p hi
  obtain rfl : ad = ⟨g, off, none⟩ := Option.some.inj ha
  rcases hu with ⟨rfl, rfl⟩ | ⟨rfl, rfl⟩
  · rw [Addr.add_lit]; exact h1
  · rw [Addr.add_lit, ← Nat.add_assoc]; exact h2
theorem ReadsQ.none {w : World} {n cap : Nat} {ps : Flds} (h : ReadsQ w (.slice none n cap) ps) : ps = [] ∧ n = 0 := by
  obtain ⟨ao, c, hv, hc⟩ := h
  simp only [Value.slice.injEq] at hv
  obtain ⟨rfl, rfl, rfl⟩ := hv
  cases ps with
  | nil => exact ⟨rfl, rfl⟩
  | cons p r => obtain ⟨g, off, ha, _⟩ := hc 0 p rfl; cases ha

def WithoutRel (ps : Flds) (f : List UInt8 × List UInt8 → Bool) (w : World) (v i : Value) (wr : World) : Prop :=
  ∃ k : Nat, i = .int .i64 k ∧ k ≤ ps.length ∧ OwnsP 91 w.heap.size wr v ((ps.take k).filter f) ∧ Below w.heap.size w wr
theorem own_app {T : TypeId} {B : Nat} {w : World} {v : Value} {ps qs : Flds} {n : Nat} (h : w.ownsRow B T 2 v n (flatP ps ++ flatP qs)) (hn : n = ps.length + qs.length) : OwnsP T B w v (ps ++ qs) := by
  unfold OwnsP
  have e : flatP (ps ++ qs) = flatP ps ++ flatP qs := by simp [flatP]
  rw [e, List.length_append, ← hn]; exact h

/-- An append of one list of fields to another that the call made. -/
theorem step_appendP {T S : TypeId} {B : Nat} {i0 : TypeInfo} (hi : Tryz.prog.info? T = some i0) (hz0 : i0.zero = some (.agg #[.string ByteArray.empty, .string ByteArray.empty])) (hz1 : i0.size = 2) (hz2 : i0.bytes = 32) (ht : Tryz.prog.underlying S = some (.slice T))
    {w : World} {ops : Array Oper} {o : Oper} {a : Act} {K : Act → World → Prop} {Q : Exit → Act → World → Prop} {E : Prop} (hgd : o.guard = none) (s x : Operand)
    (ho : o.op = .call { callee := .builtin .append, args := #[s, x], argTypes := #[S, S] }) (v v2 : Value) (hs : a.eval s = v) (hx : a.eval x = v2) {ps qs : Flds} (hown : OwnsP T B w v ps) (hr : ReadsQ w v2 qs) (hp : Sane v2)
    (hn : ps.length + qs.length ≤ 100000) (hB : B ≤ w.heap.size) (h : ∀ v' w', OwnsP T B w' v' (ps ++ qs) → w.grownBy w' v.ownBlock → K (a.put o.dst v') w') :
    if Region.wanted o (yielded ops a.tmps) = true then Oper.wp Tryz.prog o a w K Q else E := by
  have hw : Region.wanted o (yielded ops a.tmps) = true := by simp [Region.wanted, hgd]
  rw [if_pos hw]
  obtain ⟨ao, cap, rfl, hc⟩ := id hr
  cases ao with
  | none =>
    obtain ⟨rfl, _⟩ := hr.none
    obtain rfl := (hp _ _ _ rfl).2 rfl
    have hrun := run_append_owned_none (P := Tryz.prog) (w := w) B S o.type T i0 2 ht hi v ps.length (flatP ps) hown
    unfold Oper.wp
    simp [execOp, ho, resolve, invoke, builtin, hs, hx, hrun, Result.andThen]
    exact h v w (by rw [List.append_nil]; exact hown) ⟨rfl, rfl, rfl, Nat.le_refl _, fun _ _ _ => rfl⟩
  | some ad =>
    obtain ⟨_, hs'⟩ := hr.src
    exact wp_append_own w s x S ho B T i0 _ 2 32 ht hi hz0 hz1 hz2 rfl (by decide) v ps.length (flatP ps) hs hown ad qs.length cap (flatP qs) hx (flatP_len qs) hs' (flatP_one qs) (by unfold maxLen; omega) (by omega) hB
      fun v' w' h1 h2 _ => h v' w' (own_app h1 rfl) h2

theorem reads_oneP (w : World) (a b : List UInt8) (T : TypeId) : ReadsQ (w.alloc (.cells #[.string (strB a), .string (strB b)] T)) (.slice (some ⟨w.heap.size, 0, none⟩) 1 1) [(a, b)] := by
  refine ⟨_, 1, rfl, fun j p hj => ⟨w.heap.size, 0, rfl, by simp, ?_⟩⟩
  match j, hj with
  | 0, hj =>
    simp at hj; subst hj
    have h0 := two_new w a b T 0 _ rfl
    have h1 := two_new w a b T 1 _ rfl
    exact ⟨h0, h1⟩
  | j + 1, hj => simp at hj
theorem sane_one' (a : Addr) : Sane (.slice (some a) 1 1) := fun x n c e => by cases e; exact ⟨Nat.le_refl _, fun h => by cases h⟩
theorem below_box {B : Nat} {w0 w w' : World} {o : Obj} (hB : Below B w0 w) (hBs : B ≤ w.heap.size) (h : Below (w.alloc o).heap.size (w.alloc o) w') : Below B w0 w' :=
  hB.trans ((below_new w o).trans (h.mono (by simp)) |>.mono hBs)

theorem low_more {ps : Fs} {k : Nat} {p : List UInt8 × List UInt8} (hp : ps[k]? = some p) : (ps.take (k + 1)).map low1 = (ps.take k).map low1 ++ [(lowS p.1, p.2)] := by
  rw [take_more hp, List.map_append]; rfl
set_option maxHeartbeats 4000000 in
set_option maxRecDepth 100000 in
theorem lowerF_any (fv : Value) (ps : Fs) (w : World) (hr : ReadsQ w fv ps) (hl : ps.length ≤ 1000) (hb : ∀ p ∈ ps, p.1.length + p.2.length ≤ 1000000) :
    Calls Tryz.prog 18 #[fv] w fun e w' => ∃ v, e = .returned v ∧ OwnsP 49 w.heap.size w' v (ps.map low1) ∧ Below w.heap.size w w' := by
  obtain ⟨i0, hi, hz0, hz1, hz2⟩ := info_parts Tryz.infoG
  obtain ⟨ao, cap, rfl, hc⟩ := hr
  have HC := Lib.hid hc
  have HBig := Lib.hid hb
  clear hc hb
  go_enter Tryz.func18, Tryz.ntmps18
  go_wp2_with fail
  go_loopw [3, 4] (fun v i wr => ∃ k : Nat, i = .int .i64 k ∧ k ≤ ps.length ∧ OwnsP 49 w.heap.size wr v ((ps.take k).map low1) ∧ Below w.heap.size w wr) (fun _ i _ => ps.length - (intOf i).toNat)
  case atStart => exact ⟨0, rfl, Nat.zero_le _, OwnsP.nil _ _ _, Below.refl _ _⟩
  case round =>
    obtain ⟨k, rfl, hk, hO, hBr⟩ := hrel
    have hbr := hBr.size
    by_cases hlt : k < ps.length
    · obtain ⟨p, hp⟩ : ∃ p, ps[k]? = some p := ⟨ps[k], by simp [hlt]⟩
      obtain ⟨g, off, rfl, hg1, h1, h2⟩ := HC.out k p hp
      have hgr : g < wr.heap.size := Nat.lt_of_lt_of_le hg1 hbr
      have hc1 : wr.cell? ⟨g, off + k * 2, none⟩ = some (.string (strB p.1)) := (hBr.cell (p := ⟨g, off + k * 2, none⟩) hg1).trans h1
      have hc2 : wr.cell? ⟨g, off + k * 2 + 1, none⟩ = some (.string (strB p.2)) := (hBr.cell (p := ⟨g, off + k * 2 + 1, none⟩) hg1).trans h2
      have hpl := HBig.out p (List.mem_of_getElem? hp)
      have hlen : ((ps.take k).map low1).length = k := by rw [List.length_map]; simp; omega
      have HP := Lib.hid hp
      have HLen := Lib.hid hlen
      have LN : ∀ w', Below wr.heap.size wr w' →
          Calls Tryz.prog 19 #[.string (strB p.1)] w' fun e w'' => e = .returned (.string (strB (lowS p.1))) ∧
            w''.cell? ⟨g, off + k * 2 + 1, none⟩ = some (.string (strB p.2)) ∧ OwnsP 49 w.heap.size w'' _ ((ps.take k).map low1) ∧ Below w.heap.size w w'' ∧ w.heap.size ≤ w''.heap.size := fun w' hB' => by
        have := refLower_any (strB p.1) w' (by rw [strB_size]; omega)
        rw [strB_list] at this
        refine this.mono fun e w'' ⟨he, hb'⟩ => ?_
        have hB'' := hB'.trans (hb'.mono hB'.size)
        have hf := hBr.trans (hB''.mono hbr)
        exact ⟨he, (hB''.cell (p := ⟨g, off + k * 2 + 1, none⟩) hgr).trans hc2, OwnsP.below hO hB'', hf, hf.size⟩
      clear hp h1 h2 hlen
      go_wp2_with fail
      go_region_law (first
        | (refine step_appendP (qs := [(lowS p.1, p.2)]) hi hz0 hz1 hz2 Tryz.underlying32 rfl (.tmp 11) (.tmp 24) rfl u3 (.slice (some ⟨w2.heap.size, 0, none⟩) 1 1) (by simp [Act.eval]) (by simp [Act.eval]) (OwnsP.below hO1 (below_new _ _)) (reads_oneP _ _ _ _) (sane_one' _) (by rw [HLen.out]; simp; omega) (by simp; omega) ?_; intro v3 w5 hO5 hg5)
        | (go_simp; go_at_call 19; refine (LN _ (by first | exact Below.refl _ _ | exact (Below.refl _ _).drew)).mono ?_; rintro e w2 ⟨rfl, hd2, hO1, hB1, hs1⟩))
      all_goals
        go_wp2_with fail
        go_roundw
        case rel => exact ⟨k + 1, by go_num, by omega, by rw [low_more HP.out]; exact hO5, (hB1.alloc hs1 _).grown hg5 (by simp; omega) (fun q hq => (World.ownsRow.lt hO1 q hq).1)⟩
        case measure => simp [intOf]; omega
    · have htk : ps.take k = ps := List.take_of_length_le (by omega)
      rw [htk] at hO
      go_wp2_with fail
      go_ret
      exact ⟨_, rfl, hO, hBr⟩
end Go.Proofs.YtacfkljpjjnlfaaGreatDoor

/- What the code's Number returns, for every string. -/
namespace Go.Proofs.YtacfkljpjjnlfaaGreatDoor
open Go.RowKit

def allDig (s : ByteArray) (k : Nat) : Prop := (s.data.toList.take k).all digB = true
theorem allDig0 (s : ByteArray) : allDig s 0 := by simp [allDig]
theorem allDig_step {s : ByteArray} {k : Nat} (h : k < s.size) (hn : allDig s k) (hb : digB s[k] = true) : allDig s (k + 1) := by
  unfold allDig at *; rw [take_snoc s k h, List.all_append, hn]; simp [hb]
def numV (l : List UInt8) : Nat := l.foldl (fun n c => 10 * n + (c.toNat - 48)) 0
theorem numV_snoc (l : List UInt8) (c : UInt8) : numV (l ++ [c]) = 10 * numV l + (c.toNat - 48) := by simp [numV]
theorem fold_lt : ∀ (l : List UInt8) (a : Nat), l.all digB = true → l.foldl (fun n c => 10 * n + (c.toNat - 48)) a < (a + 1) * 10 ^ l.length := by
  intro l
  induction l with
  | nil => intro a _; simp
  | cons c t ih =>
    intro a h
    simp only [List.all_cons, Bool.and_eq_true] at h
    have hc := h.1
    simp [digB] at hc
    have := ih (10 * a + (c.toNat - 48)) h.2
    rw [List.foldl_cons, List.length_cons, Nat.pow_succ]
    refine Nat.lt_of_lt_of_le this ?_
    have e : (a + 1) * (10 ^ t.length * 10) = (10 * (a + 1)) * 10 ^ t.length := by
      rw [← Nat.mul_assoc, Nat.mul_right_comm, Nat.mul_comm (a + 1) 10]
    rw [e]
    exact Nat.mul_le_mul_right _ (by omega)
theorem numV_lt (l : List UInt8) (h : l.all digB = true) : numV l < 10 ^ l.length := by
  have := fold_lt l 0 h
  simpa [numV] using this
theorem numV_le (l : List UInt8) (h : l.all digB = true) (hl : l.length ≤ 15) : numV l < 1000000000000000 := by
  have h1 := numV_lt l h
  have h2 : 10 ^ l.length ≤ 10 ^ 15 := Nat.pow_le_pow_right (by omega) hl
  have h3 : (10 : Nat) ^ 15 = 1000000000000000 := by decide
  omega
theorem int_eq {k : IntKind} {a b : Int} (h : a = b) : Value.int k a = Value.int k b := by rw [h]
abbrev errForm' : Value := .iface 64 (.int .i64 2)
abbrev errLarge' : Value := .iface 64 (.int .i64 5)
def numR (s : ByteArray) : Value := if s.size ≤ 15 then .tuple #[.int .i64 (numV s.data.toList), .nilIface] else .tuple #[.int .i64 0, errLarge']
theorem numR_large {s : ByteArray} (h : 15 < s.size) : Ending.returned (.tuple #[.int .i64 0, errLarge']) = .returned (numR s) := by unfold numR; rw [if_neg (by omega)]
theorem numR_small {s : ByteArray} {l : List UInt8} (h : ¬ 15 < s.size) (hl : l = s.data.toList) : Ending.returned (.tuple #[.int .i64 (numV l), .nilIface]) = .returned (numR s) := by unfold numR; rw [if_pos (by omega), hl]
def numGood (s : ByteArray) : Prop := s.data.toList ≠ [] ∧ s.data.toList.all digB = true

theorem digit_not {s : ByteArray} {k : Nat} (h : k < s.size) (hb : ¬ digB s[k] = true) (hg : s.data.toList.all digB = true) : False := by
  rw [List.all_eq_true] at hg
  exact hb (hg _ (get_mem s k h))
theorem digB_of {s : ByteArray} {k : Nat} (h : k < s.size) (hg : s.data.toList.all digB = true) : 48 ≤ s[k].toNat ∧ s[k].toNat ≤ 57 := by
  rw [List.all_eq_true] at hg
  have := hg _ (get_mem s k h)
  simpa [digB] using this

set_option maxHeartbeats 1000000 in
theorem number_form (s : ByteArray) (w : World) (hs : s.size ≤ maxLen) (hg : ¬ numGood s) :
    Calls Tryz.prog 73 #[.string s] w fun e w' => e = .returned (.tuple #[.int .i64 0, errForm']) ∧ w = w' := by
  unfold maxLen at hs
  by_cases he : s.data.toList = []
  · have h1 : s.toList.isEmpty = true := by rw [ByteArray.toList_eq, he]; rfl
    have h2 : s.toList = [] := by rw [ByteArray.toList_eq, he]
    have HE := Lib.hid he
    have HG := Lib.hid hg
    clear he hg
    go_enter Tryz.func73, Tryz.ntmps73
    go_wp2
    go_ret2
    exact ⟨rfl, rfl⟩
  · have h1 : s.toList.isEmpty = false := by
      rw [ByteArray.toList_eq]
      cases h : s.data.toList with
      | nil => exact absurd h he
      | cons a t => rfl
    have HE := Lib.hid he
    have HG := Lib.hid hg
    clear he hg
    go_enter Tryz.func73, Tryz.ntmps73
    go_wp2
    go_loop [4] (fun i => ∃ k : Nat, k ≤ s.size ∧ i = .int .i64 k ∧ allDig s k) (fun i => s.size - (intOf i).toNat)
    case atStart => exact ⟨0, by omega, rfl, allDig0 s⟩
    case round =>
      obtain ⟨k, hk, rfl, hn⟩ := hrel
      by_cases hlt : k < s.size
      · by_cases hb : digB s[k] = true
        all_goals
          go_wp2_with (go_at_call 98; refine (isDigit_any _ _).mono ?_; rintro e w' ⟨rfl, rfl⟩)
        · go_round
          case rel => exact ⟨k + 1, by omega, by go_num, allDig_step hlt hn hb⟩
          case measure => simp [intOf]; omega
        · go_ret2
          exact ⟨rfl, rfl⟩
      · exfalso
        apply HG.out
        refine ⟨HE.out, ?_⟩
        unfold allDig at hn
        rwa [take_all s k (by omega)] at hn
set_option maxHeartbeats 1000000 in
theorem number_good (s : ByteArray) (w : World) (hs : s.size ≤ maxLen) (hg : numGood s) :
    Calls Tryz.prog 73 #[.string s] w fun e w' => e = .returned (numR s) ∧ w = w' := by
  unfold maxLen at hs
  obtain ⟨he, hg⟩ := hg
  have h1 : s.toList.isEmpty = false := by
    rw [ByteArray.toList_eq]
    cases h : s.data.toList with
    | nil => exact absurd h he
    | cons a t => rfl
  have HG := Lib.hid hg
  clear he hg
  go_enter Tryz.func73, Tryz.ntmps73
  go_wp2
  go_loop [4] (fun i => ∃ k : Nat, k ≤ s.size ∧ i = .int .i64 k) (fun i => s.size - (intOf i).toNat)
  case atStart => exact ⟨0, by omega, rfl⟩
  case round =>
    obtain ⟨k, hk, rfl⟩ := hrel
    by_cases hlt : k < s.size
    · by_cases hb : digB s[k] = true
      · go_wp2_with (go_at_call 98; refine (isDigit_any _ _).mono ?_; rintro e w' ⟨rfl, rfl⟩)
        go_round
        case rel => exact ⟨k + 1, by omega, by go_num⟩
        case measure => simp [intOf]; omega
      · exact (digit_not hlt hb HG.out).elim
    · by_cases h15 : 15 < s.size
      · go_wp2
        go_ret2
        exact ⟨numR_large h15, rfl⟩
      · go_wp2
        go_loop [5, 6] (fun n i => ∃ k : Nat, k ≤ s.size ∧ i = .int .i64 k ∧ n = .int .i64 (numV (s.data.toList.take k))) (fun _ i => s.size - (intOf i).toNat)
        case atStart => exact ⟨0, by omega, rfl, rfl⟩
        case round =>
          obtain ⟨j, hj, rfl, rfl⟩ := hrel
          by_cases hlj : j < s.size
          · have hd := digB_of hlj HG.out
            have hd1 := hd.1
            have hd2 := hd.2
            have hv : numV (s.data.toList.take j) < 1000000000000000 := numV_le _ (by
              rw [List.all_eq_true]; intro c hc
              have := HG.out; rw [List.all_eq_true] at this
              exact this c (List.mem_of_mem_take hc)) (by simp; omega)
            have hv2 : Hid (numV (s.data.toList.take (j + 1)) = 10 * numV (s.data.toList.take j) + (s[j].toNat - 48)) := by
              rw [take_snoc s j hlj]; exact numV_snoc _ _
            clear hd
            go_wp2
            go_round
            case rel => exact ⟨j + 1, by omega, by go_num, int_eq (by rw [hv2.out]; omega)⟩
            case measure => simp [intOf]; omega
          · go_wp2
            go_ret2
            exact ⟨numR_small h15 (take_all s j (by omega)), rfl⟩
theorem number_small (s : ByteArray) (w : World) (hg : numGood s) (h15 : s.size ≤ 15) :
    Calls Tryz.prog 73 #[.string s] w fun e w' => e = .returned (.tuple #[.int .i64 (numV s.data.toList), .nilIface]) ∧ w = w' := by
  refine (number_good s w (by unfold maxLen; omega) hg).mono ?_
  rintro e w' ⟨he, hw⟩
  exact ⟨by rw [he]; unfold numR; rw [if_pos h15], hw⟩
theorem number_large (s : ByteArray) (w : World) (hs : s.size ≤ maxLen) (hg : numGood s) (h15 : 15 < s.size) :
    Calls Tryz.prog 73 #[.string s] w fun e w' => e = .returned (.tuple #[.int .i64 0, errLarge']) ∧ w = w' := by
  refine (number_good s w hs hg).mono ?_
  rintro e w' ⟨he, hw⟩
  exact ⟨by rw [he]; unfold numR; rw [if_neg (by omega)], hw⟩
end Go.Proofs.YtacfkljpjjnlfaaGreatDoor

/- The status line: what the program's readStatusLine and the reference's status return. -/
namespace Go.Proofs.YtacfkljpjjnlfaaGreatDoor
open Go.RowKit

theorem statusN_eq (l : List UInt8) : statusN l = if 3 ≤ l.length ∧ (l.length = 3 ∨ l[3]? = some 32) ∧ (l.take 3).all digB = true ∧ (l.drop 3).any ctlB = false ∧ 100 ≤ numV (l.take 3) ∧ numV (l.take 3) ≤ 599 then numV (l.take 3) else 0 := by
  match l with
  | [] => rfl
  | [_] => rfl
  | [_, _] => rfl
  | a :: b :: c :: r =>
    have e1 : numV ((a :: b :: c :: r).take 3) = 100 * (a.toNat - 48) + 10 * (b.toNat - 48) + (c.toNat - 48) := by
      show 10 * (10 * (10 * 0 + (a.toNat - 48)) + (b.toNat - 48)) + (c.toNat - 48) = _
      omega
    have e2 : ((a :: b :: c :: r).take 3).all digB = (dgB a && (dgB b && (dgB c && true))) := rfl
    have e3 : ((a :: b :: c :: r).drop 3).any ctlB = r.any ctlG := rfl
    have e4 : 3 ≤ (a :: b :: c :: r).length := by simp
    have e5 : ((a :: b :: c :: r).length = 3 ∨ (a :: b :: c :: r)[3]? = some 32) ↔ (r = [] ∨ r.head? = some 32) := by
      cases r <;> simp
    simp only [statusN]
    rw [e1, e2, e3]
    generalize 100 * (a.toNat - 48) + 10 * (b.toNat - 48) + (c.toNat - 48) = n
    by_cases h1 : (r = [] ∨ r.head? = some 32) ∧ dgB a = true ∧ dgB b = true ∧ dgB c = true ∧ r.any ctlG = false
    · rw [if_pos h1]
      obtain ⟨x1, x2, x3, x4, x5⟩ := h1
      by_cases h2 : 100 ≤ n ∧ n ≤ 599
      · rw [if_pos h2, if_pos ⟨e4, e5.2 x1, by rw [x2, x3, x4]; rfl, x5, h2⟩]
      · rw [if_neg h2, if_neg (fun h => h2 h.2.2.2.2)]
    · rw [if_neg h1, if_neg]
      rintro ⟨_, x1, x2, x5, _⟩
      simp only [Bool.and_eq_true, and_true] at x2
      exact h1 ⟨e5.1 x1, x2.1, x2.2.1, x2.2.2, x5⟩
theorem cutG_no {c : UInt8} : ∀ {l : List UInt8}, c ∉ l → cutG c l = (l, []) := by
  intro l h
  unfold cutG
  have : cut1 c l = none := by
    induction l with
    | nil => rfl
    | cons x t ih =>
      simp only [List.mem_cons, not_or] at h
      rw [cut1, if_neg (fun e => h.1 e.symm), ih h.2]; rfl
  rw [this]; rfl
theorem dig_no32 {l : List UInt8} (h : l.all digB = true) : (32 : UInt8) ∉ l := fun hm => absurd (List.all_eq_true.1 h 32 hm) (by decide)
theorem status_cut (l : List UInt8) : statusN l = if (cutG 32 l).1.length = 3 ∧ (cutG 32 l).1.all digB = true ∧ (cutG 32 l).2.any ctlB = false ∧ 100 ≤ numV (cutG 32 l).1 ∧ numV (cutG 32 l).1 ≤ 599 then numV (cutG 32 l).1 else 0 := by
  rw [statusN_eq]
  by_cases h : 3 ≤ l.length ∧ (l.length = 3 ∨ l[3]? = some 32) ∧ (l.take 3).all digB = true
  · obtain ⟨h1, h2, h3⟩ := h
    have hl3 : (l.take 3).length = 3 := by rw [List.length_take]; omega
    have key : cutG 32 l = (l.take 3, (l.drop 3).tail) ∧ (l.drop 3).any ctlB = (l.drop 3).tail.any ctlB := by
      rcases h2 with h2 | h2
      · have e1 : l.take 3 = l := List.take_of_length_le (by omega)
        have e2 : l.drop 3 = [] := List.drop_of_length_le (by omega)
        rw [e1] at h3
        rw [e1, e2, cutG_no (dig_no32 h3)]
        exact ⟨rfl, rfl⟩
      · obtain ⟨hlt, he⟩ := List.getElem?_eq_some_iff.1 h2
        have e3 : l.drop 3 = 32 :: l.drop 4 := by rw [List.drop_eq_getElem_cons hlt, he]
        have e4 : l = l.take 3 ++ 32 :: l.drop 4 := by rw [← e3, List.take_append_drop]
        refine ⟨?_, ?_⟩
        · rw [e3]; conv => lhs; rw [e4]
          exact cutG_at (dig_no32 h3) _
        · rw [e3, List.any_cons]; rfl
    rw [key.1, key.2]
    simp only
    by_cases h5 : (l.drop 3).tail.any ctlB = false ∧ 100 ≤ numV (l.take 3) ∧ numV (l.take 3) ≤ 599
    · rw [if_pos ⟨h1, h2, h3, h5⟩, if_pos ⟨hl3, h3, h5⟩]
    · rw [if_neg (fun h => h5 h.2.2.2), if_neg (fun h => h5 h.2.2)]
  · rw [if_neg (fun h' => h ⟨h'.1, h'.2.1, h'.2.2.1⟩), if_neg]
    rintro ⟨h1, h2, _⟩
    apply h
    rcases cutG_or 32 l with e | ⟨_, e⟩
    · generalize cutG 32 l = p at *
      obtain ⟨a, b⟩ := p
      simp only at h1 h2 e
      subst e
      refine ⟨by simp; omega, .inr ?_, ?_⟩
      · rw [List.getElem?_append_right (by omega), h1]; rfl
      · rw [List.take_append_of_le_length (by omega), List.take_of_length_le (by omega)]; exact h2
    · rw [e] at h1 h2
      exact ⟨by omega, .inl h1, by rw [List.take_of_length_le (by omega)]; exact h2⟩
/-- The number of the error of a status line. -/
def statC (l : List UInt8) : Nat := if (cutG 32 l).1 ≠ verL then 28 else if statusN (cutG 32 l).2 = 0 then 2 else 0
def statV (l : List UInt8) : Value := if statC l = 0 then .tuple #[.int .i64 (statusN (cutG 32 l).2 : Int), .nilIface] else .tuple #[.int .i64 0, .iface 64 (.int .i64 (statC l))]
theorem statV_no {l : List UInt8} (h : statC l ≠ 0) : statV l = .tuple #[.int .i64 0, .iface 64 (.int .i64 (statC l))] := by unfold statV; rw [if_neg h]
theorem statV_yes {l : List UInt8} (h : statC l = 0) : statV l = .tuple #[.int .i64 (statusN (cutG 32 l).2 : Int), .nilIface] := by unfold statV; rw [if_pos h]
theorem statC_2 {l : List UInt8} (h : (cutG 32 l).1 = verL) (h2 : statusN (cutG 32 l).2 = 0) : statC l = 2 := by unfold statC; rw [if_neg (by simp [h]), if_pos h2]
theorem statC_28 {l : List UInt8} (h : (cutG 32 l).1 ≠ verL) : statC l = 28 := by unfold statC; rw [if_pos h]
theorem statC_0 {l : List UInt8} (h : (cutG 32 l).1 = verL) (h2 : statusN (cutG 32 l).2 ≠ 0) : statC l = 0 := by unfold statC; rw [if_neg (by simp [h]), if_neg h2]
theorem statV_2 {l : List UInt8} (h : (cutG 32 l).1 = verL) (h2 : statusN (cutG 32 l).2 = 0) : statV l = .tuple #[.int .i64 0, .iface 64 (.int .i64 2)] := by
  rw [statV_no (by rw [statC_2 h h2]; decide), statC_2 h h2]; rfl
set_option maxHeartbeats 8000000 in
set_option maxRecDepth 100000 in
theorem readStatus_any (l : List UInt8) (w : World) (hM : HasMax w) (hs : l.length ≤ 1000000) :
    Calls Tryz.prog 45 #[.string (strB l)] w fun e w' => e = .returned (statV l) ∧ Below w.heap.size w w' := by
  have hl1 := cutG_len 32 l
  have hl2 := cutG_len 32 (cutG 32 l).2
  have C1 := Lib.hid (fun w hM => cutGM_any l w hM hs)
  have C2 := Lib.hid (fun w hM => cutGM_any (cutG 32 l).2 w hM (by omega))
  have HM := Lib.hid hM
  have SC := status_cut (cutG 32 l).2
  clear hM
  by_cases h1 : (cutG 32 l).1 = verL
  · have q := list_yes h1
    unfold verL at q
    have E2 := Lib.hid (fun h => statV_2 (l := l) h1 h)
    have E0 := Lib.hid (fun h => (statV_yes (l := l) (statC_0 h1 h)))
    have hcs : (strB (cutG 32 (cutG 32 l).2).1).size = (cutG 32 (cutG 32 l).2).1.length := strB_size _
    have hcl : (strB (cutG 32 (cutG 32 l).2).1).data.toList = (cutG 32 (cutG 32 l).2).1 := strB_list _
    have hct := hasControl_any (strB (cutG 32 (cutG 32 l).2).2)
    rw [strB_list, strB_size] at hct
    have HC := Lib.hid (fun w => hct w (by unfold maxLen; omega))
    have hle : (cutG 32 (cutG 32 l).2).1.length ≤ 1000000 := by omega
    clear h1 hct hl1 hl2 hs
    rw [← hcl] at SC
    generalize strB (cutG 32 (cutG 32 l).2).1 = sc at *
    generalize (cutG 32 (cutG 32 l).2).2 = rs at *
    have hsz : sc.data.toList.length = sc.size := by rw [Array.length_toList]; rfl
    rw [hsz] at SC
    have hle : sc.size ≤ 1000000 := by omega
    clear hsz hcl hcs
    by_cases hg : numGood sc
    · by_cases h15 : sc.size ≤ 15
      · have NU := Lib.hid (fun w => number_small sc w hg h15)
        have hdig := hg.2
        generalize hn : numV sc.data.toList = n at *
        by_cases h3 : sc.size = 3
        · cases h4 : stB (n : Int) with
          | false =>
            have HE := Lib.hid (E2.out (by
              rw [SC, if_neg]
              rintro ⟨_, _, _, a, b⟩
              unfold stB at h4
              rw [decide_eq_true (show (100 : Int) ≤ n by omega), decide_eq_true (show (n : Int) ≤ 599 by omega)] at h4
              cases h4))
            have ST := Lib.hid (fun w => isStatus_any (n : Int) w)
            rw [h4] at ST
            clear h4 SC hg hdig hn
            go_enter Tryz.func45, Tryz.ntmps45
            go_wp2_with fail
            refine (C1.out _ HM.out).mono ?_
            rintro e w1 ⟨b1, rfl, hB1⟩
            go_wp2_with fail
            refine (C2.out _ (HM.out.below hB1)).mono ?_
            rintro e w2 ⟨b2, rfl, hB2⟩
            have hB2' := hB1.trans (hB2.mono hB1.size)
            go_wp2_with fail
            refine (NU.out _).mono ?_
            rintro e w3 ⟨rfl, rfl⟩
            go_wp2_with fail
            refine (ST.out _).mono ?_
            rintro e w3 ⟨rfl, rfl⟩
            go_wp2_with fail
            refine bodyPost_ret (v := .tuple #[.int .i64 0, .iface 64 (.int .i64 2)]) (by simp [results, Tryz.results45, go_sem]) rfl ?_
            exact ⟨by rw [HE.out], hB2'⟩
          | true =>
            have ST := Lib.hid (fun w => isStatus_any (n : Int) w)
            rw [h4] at ST
            unfold stB at h4
            simp only [Bool.and_eq_true, decide_eq_true_eq] at h4
            cases h5 : ctlS rs with
            | true =>
              rw [h5] at HC
              have HE := Lib.hid (E2.out (by
                rw [SC, if_neg]
                rintro ⟨_, _, a, _⟩
                rw [show rs.any ctlB = true from h5] at a
                cases a))
              clear h4 h5 SC hg hdig hn
              go_enter Tryz.func45, Tryz.ntmps45
              go_wp2_with fail
              refine (C1.out _ HM.out).mono ?_
              rintro e w1 ⟨b1, rfl, hB1⟩
              go_wp2_with fail
              refine (C2.out _ (HM.out.below hB1)).mono ?_
              rintro e w2 ⟨b2, rfl, hB2⟩
              have hB2' := hB1.trans (hB2.mono hB1.size)
              go_wp2_with fail
              refine (NU.out _).mono ?_
              rintro e w3 ⟨rfl, rfl⟩
              go_wp2_with fail
              refine (ST.out _).mono ?_
              rintro e w3 ⟨rfl, rfl⟩
              go_wp2_with fail
              refine (HC.out _).mono ?_
              rintro e w3 ⟨rfl, rfl⟩
              go_wp2_with fail
              refine bodyPost_ret (v := .tuple #[.int .i64 0, .iface 64 (.int .i64 2)]) (by simp [results, Tryz.results45, go_sem]) rfl ?_
              exact ⟨by rw [HE.out], hB2'⟩
            | false =>
              rw [h5] at HC
              have e0 : statusN (cutG 32 l).2 = n := by rw [SC, if_pos ⟨h3, hdig, h5, by omega, by omega⟩]
              have HE := Lib.hid (E0.out (by rw [e0]; omega))
              rw [e0] at HE
              clear h4 h5 SC hg hdig hn
              go_enter Tryz.func45, Tryz.ntmps45
              go_wp2_with fail
              refine (C1.out _ HM.out).mono ?_
              rintro e w1 ⟨b1, rfl, hB1⟩
              go_wp2_with fail
              refine (C2.out _ (HM.out.below hB1)).mono ?_
              rintro e w2 ⟨b2, rfl, hB2⟩
              have hB2' := hB1.trans (hB2.mono hB1.size)
              go_wp2_with fail
              refine (NU.out _).mono ?_
              rintro e w3 ⟨rfl, rfl⟩
              go_wp2_with fail
              refine (ST.out _).mono ?_
              rintro e w3 ⟨rfl, rfl⟩
              go_wp2_with fail
              refine (HC.out _).mono ?_
              rintro e w3 ⟨rfl, rfl⟩
              go_wp2_with fail
              refine bodyPost_ret (v := .tuple #[.int .i64 (n : Int), .nilIface]) (by simp [results, Tryz.results45, go_sem]) rfl ?_
              exact ⟨by rw [HE.out], hB2'⟩
        · have HE := Lib.hid (E2.out (by rw [SC, if_neg]; rintro ⟨a, _⟩; exact h3 a))
          clear SC hg hdig hn
          go_enter Tryz.func45, Tryz.ntmps45
          go_wp2_with fail
          refine (C1.out _ HM.out).mono ?_
          rintro e w1 ⟨b1, rfl, hB1⟩
          go_wp2_with fail
          refine (C2.out _ (HM.out.below hB1)).mono ?_
          rintro e w2 ⟨b2, rfl, hB2⟩
          have hB2' := hB1.trans (hB2.mono hB1.size)
          go_wp2_with fail
          refine (NU.out _).mono ?_
          rintro e w3 ⟨rfl, rfl⟩
          go_wp2_with fail
          refine bodyPost_ret (v := .tuple #[.int .i64 0, .iface 64 (.int .i64 2)]) (by simp [results, Tryz.results45, go_sem]) rfl ?_
          exact ⟨by rw [HE.out], hB2'⟩
      · have HE := Lib.hid (E2.out (by rw [SC, if_neg]; rintro ⟨a, _⟩; omega))
        have NU := Lib.hid (fun w => number_large sc w (by unfold maxLen; omega) hg (by omega))
        clear SC hg
        go_enter Tryz.func45, Tryz.ntmps45
        go_wp2_with fail
        refine (C1.out _ HM.out).mono ?_
        rintro e w1 ⟨b1, rfl, hB1⟩
        go_wp2_with fail
        refine (C2.out _ (HM.out.below hB1)).mono ?_
        rintro e w2 ⟨b2, rfl, hB2⟩
        have hB2' := hB1.trans (hB2.mono hB1.size)
        go_wp2_with fail
        refine (NU.out _).mono ?_
        rintro e w3 ⟨rfl, rfl⟩
        go_wp2_with fail
        refine bodyPost_ret (v := .tuple #[.int .i64 0, .iface 64 (.int .i64 2)]) (by simp [results, Tryz.results45, go_sem]) rfl ?_
        exact ⟨by rw [HE.out], hB2'⟩
    · have HE := Lib.hid (E2.out (by
        rw [SC, if_neg]
        rintro ⟨a, b, _⟩
        refine hg ⟨fun h0 => ?_, b⟩
        have : sc.data.toList.length = sc.size := by rw [Array.length_toList]; rfl
        rw [h0] at this
        simp at this
        omega))
      have NU := Lib.hid (fun w => number_form sc w (by unfold maxLen; omega) hg)
      clear SC hg
      go_enter Tryz.func45, Tryz.ntmps45
      go_wp2_with fail
      refine (C1.out _ HM.out).mono ?_
      rintro e w1 ⟨b1, rfl, hB1⟩
      go_wp2_with fail
      refine (C2.out _ (HM.out.below hB1)).mono ?_
      rintro e w2 ⟨b2, rfl, hB2⟩
      have hB2' := hB1.trans (hB2.mono hB1.size)
      go_wp2_with fail
      refine (NU.out _).mono ?_
      rintro e w3 ⟨rfl, rfl⟩
      go_wp2_with fail
      refine bodyPost_ret (v := .tuple #[.int .i64 0, .iface 64 (.int .i64 2)]) (by simp [results, Tryz.results45, go_sem]) rfl ?_
      exact ⟨by rw [HE.out], hB2'⟩
  · have q := list_no h1
    unfold verL at q
    have HE := Lib.hid (show statV l = .tuple #[.int .i64 0, .iface 64 (.int .i64 28)] by rw [statV_no (by rw [statC_28 h1]; decide), statC_28 h1]; rfl)
    clear h1 SC
    go_enter Tryz.func45, Tryz.ntmps45
    go_wp2_with fail
    refine (C1.out _ HM.out).mono ?_
    rintro e w1 ⟨b1, rfl, hB1⟩
    go_wp2_with fail
    refine bodyPost_ret (v := .tuple #[.int .i64 0, .iface 64 (.int .i64 28)]) (by simp [results, Tryz.results45, go_sem]) rfl ?_
    exact ⟨by rw [HE.out], hB1⟩
end Go.Proofs.YtacfkljpjjnlfaaGreatDoor
