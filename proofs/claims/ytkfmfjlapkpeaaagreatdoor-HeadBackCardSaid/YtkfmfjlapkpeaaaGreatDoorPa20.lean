import Derived.Test.YtkfmfjlapkpeaaaGreatDoorPa18
import Derived.Test.YtkfmfjlapkpeaaaGreatDoorPa9
import Derived.Test.YtkfmfjlapkpeaaaGreatDoorPa10
import Derived.BigFrame
import Derived.Test.YtkfmfjlapkpeaaaGreatDoorPa4
import Derived.Deep.RegionLaw
import Derived.Deep.AppendLies
import Derived.Test.YtkfmfjlapkpeaaaGreatDoorPa15
import Derived.Test.YtkfmfjlapkpeaaaGreatDoorPa17
import Derived.Lib.AppendStr
import Derived.Deep.RegionHeld3
import Derived.Deep.Cut
import Derived.Test.YtkfmfjlapkpeaaaGreatDoorPa19
/- What the statements' Response and lower return. -/
namespace Go.Proofs.YtkfmfjlapkpeaaaGreatDoor
open Go.RowKit

theorem ownsP_set2 {T : TypeId} {B C g : Nat} {w' : World} {v : Value} {ps : Fs} (h : OwnsP T B w' v ps) (hg : g < B) (hC : C ≤ B) (a b : Value) :
    OwnsP T C ((w'.setCell ⟨g, 0, none⟩ a).setCell ⟨g, 1, none⟩ b) v ps := by
  have hn : ∀ k, v.ownBlock ≠ some (⟨g, k, none⟩ : Addr).block := fun k hq => by have := (World.ownsRow.lt h _ hq).1; simp at this; omega
  exact OwnsP.mono hC (ownsRow_setCell_other (ownsRow_setCell_other h (hn 0) a) (hn 1) b)
theorem below_set2 {w w' : World} {g : Nat} (h : Below w.heap.size w w') (hg : w.heap.size ≤ g) (a b : Value) : Below w.heap.size w ((w'.setCell ⟨g, 0, none⟩ a).setCell ⟨g, 1, none⟩ b) :=
  (h.setCell (p := ⟨g, 0, none⟩) hg a).setCell (p := ⟨g, 1, none⟩) hg b
set_option maxHeartbeats 8000000 in
set_option maxRecDepth 100000 in
theorem response_any (z : Int) (lv : Value) (ps : Flds) (w : World) (hr : ReadsQ w lv ps) (hl : ps.length ≤ 1000) (hb : ∀ p ∈ ps, p.1.length + p.2.length ≤ 1000000) :
    Calls Tryz.prog 26 #[.agg #[.int .i64 z, lv]] w fun e w' => ∃ a n c, e = .returned (.agg #[.int .i64 z, .slice a n c]) ∧ OwnsP 97 w.heap.size w' (.slice a n c) ps ∧ Below w.heap.size w w' := by
  have F := Lib.hid (fun w (hr : ReadsQ w lv ps) => fields_any lv ps w hr hl hb)
  have HR := Lib.hid hr
  obtain ⟨ao, cap, rfl, hc⟩ := hr
  have hB0 : Below w.heap.size w (w.alloc (.cells #[.int .i64 z, .slice ao ps.length cap] 45)) := below_new _ _
  have hB1 : Below w.heap.size w ((w.alloc (.cells #[.int .i64 z, .slice ao ps.length cap] 45)).alloc (.cells #[.int .i64 0, .slice none 0 0] 41)) := hB0.alloc hB0.size _
  have hxa : ∀ j, ((w.alloc (.cells #[.int .i64 z, .slice ao ps.length cap] 45)).alloc (.cells #[.int .i64 0, .slice none 0 0] 41)).cell? ⟨w.heap.size, j, none⟩ = (#[.int .i64 z, .slice ao ps.length cap] : Array Value)[j]? := fun j => by
    have hb2 := below_new (w.alloc (.cells #[.int .i64 z, .slice ao ps.length cap] 45)) (.cells #[.int .i64 0, .slice none 0 0] 41)
    rw [hb2.cell (p := ⟨w.heap.size, j, none⟩) (by simp), World.cell?_alloc_at _ _ _ _ rfl]
  have hxb : ∀ j, ((w.alloc (.cells #[.int .i64 z, .slice ao ps.length cap] 45)).alloc (.cells #[.int .i64 0, .slice none 0 0] 41)).cell? ⟨w.heap.size + 1, j, none⟩ = (#[.int .i64 0, .slice none 0 0] : Array Value)[j]? := fun j => by
    rw [World.cell?_alloc_at _ _ _ _ (by simp)]
  have hfb : ∀ j, ((w.alloc (.cells #[.int .i64 z, .slice ao ps.length cap] 45)).alloc (.cells #[.int .i64 0, .slice none 0 0] 41)).frozen? ⟨w.heap.size + 1, j, none⟩ = false := fun j => World.frozen?_alloc_at _ _ _ _ (by simp)
  have hsz : ((w.alloc (.cells #[.int .i64 z, .slice ao ps.length cap] 45)).alloc (.cells #[.int .i64 0, .slice none 0 0] 41)).heap.size = w.heap.size + 2 := by simp
  have a0 := hxa 0
  have a1 := hxa 1
  have b0 := hxb 0
  have b1 := hxb 1
  have g0 := hfb 0
  have g1 := hfb 1
  clear hc hxa hxb hfb
  go_enter Tryz.func26, Tryz.ntmps26
  go_wp2_with fail
  generalize ((w.alloc (.cells #[.int .i64 z, .slice ao ps.length cap] 45)).alloc (.cells #[.int .i64 0, .slice none 0 0] 41)) = W at *
  have HF := Lib.hid (F.out _ (HR.out.below hB1))
  have HFd := Lib.hid (F.out _ (HR.out.below (hB1.trans ((Below.refl W.heap.size W).drew.mono hB1.size))))
  go_region_with (first
    | (go_at_call 45; refine HFd.out.mono ?_; rintro e w1 ⟨v1, rfl, hO1, hB2⟩; have c0 := (hB2.cell (p := ⟨w.heap.size, 0, none⟩) (by show w.heap.size < W.heap.size; omega)).trans a0; have c1 := (hB2.cell (p := ⟨w.heap.size, 1, none⟩) (by show w.heap.size < W.heap.size; omega)).trans a1; have d0 := (hB2.cell (p := ⟨w.heap.size + 1, 0, none⟩) (by show w.heap.size + 1 < W.heap.size; omega)).trans b0; have d1 := (hB2.cell (p := ⟨w.heap.size + 1, 1, none⟩) (by show w.heap.size + 1 < W.heap.size; omega)).trans b1; have f0 := (hB2.frozen (p := ⟨w.heap.size + 1, 0, none⟩) (by show w.heap.size + 1 < W.heap.size; omega)).trans g0; have f1 := (hB2.frozen (p := ⟨w.heap.size + 1, 1, none⟩) (by show w.heap.size + 1 < W.heap.size; omega)).trans g1; obtain ⟨ao1, cap1, rfl, hcc⟩ := hO1.reads; clear hcc))
  all_goals
    go_wp2_with fail
    refine bodyPost_ret (v := .agg #[.int .i64 z, .slice ao1 ps.length cap1]) (by simp [results, Tryz.results26, go_sem, d0, d1]) rfl ?_
    exact ⟨_, _, _, rfl, ownsP_set2 hO1 (by show w.heap.size + 1 < W.heap.size; omega) (by show w.heap.size ≤ W.heap.size; omega) _ _, below_set2 ((hB1.trans ((Below.refl W.heap.size W).drew.mono hB1.size)).trans (hB2.mono hB1.size)) (by omega) _ _⟩
theorem flatP_get : ∀ (ps : Flds) (j : Nat) (u : Value), (flatP ps)[j]? = some u → ∃ i p, ps[i]? = some p ∧ ((j = i * 2 ∧ u = strV p.1) ∨ (j = i * 2 + 1 ∧ u = strV p.2)) := by
  intro ps
  induction ps with
  | nil => intro j u h; simp [flatP] at h
  | cons q r ih =>
    intro j u h
    have e : flatP (q :: r) = strV q.1 :: strV q.2 :: flatP r := rfl
    rw [e] at h
    match j, h with
    | 0, h => simp at h; exact ⟨0, q, rfl, .inl ⟨rfl, h.symm⟩⟩
    | 1, h => simp at h; exact ⟨0, q, rfl, .inr ⟨rfl, h.symm⟩⟩
    | j + 2, h =>
      obtain ⟨i, p, hi, hc⟩ := ih j u (by simpa using h)
      exact ⟨i + 1, p, by simpa using hi, by rcases hc with ⟨rfl, hu⟩ | ⟨rfl, hu⟩
                                             · exact .inl ⟨by omega, hu⟩
                                             · exact .inr ⟨by omega, hu⟩⟩
theorem flatP_one (ps : Flds) : ∀ u ∈ flatP ps, u.oneCell' = true := by
  intro u hu
  obtain ⟨j, hj⟩ := List.getElem?_of_mem hu
  obtain ⟨i, p, _, h | h⟩ := flatP_get ps j u hj <;> rw [h.2] <;> rfl
/-- The cells of a slice that is read, as the source of an append. -/
theorem ReadsQ.src {w : World} {ad : Addr} {n cap : Nat} {ps : Flds} (h : ReadsQ w (.slice (some ad) n cap) ps) : n = ps.length ∧ ∀ j u, (flatP ps)[j]? = some u → w.cell? (ad.add j) = some u := by
  obtain ⟨ao, c, hv, hc⟩ := h
  simp only [Value.slice.injEq] at hv
  obtain ⟨rfl, rfl, rfl⟩ := hv
  refine ⟨rfl, fun j u hj => ?_⟩
  obtain ⟨i, p, hi, hu⟩ := flatP_get ps j u hj
  obtain ⟨g, off, ha, _, h1, h2⟩ := hc i p hi
  obtain rfl : ad = ⟨g, off, none⟩ := Option.some.inj ha
  rcases hu with ⟨rfl, rfl⟩ | ⟨rfl, rfl⟩
  · rw [Addr.add_lit]; exact h1
  · rw [Addr.add_lit, ← Nat.add_assoc]; exact h2
theorem ReadsQ.none {w : World} {n cap : Nat} {ps : Flds} (h : ReadsQ w (.slice none n cap) ps) : ps = [] ∧ n = 0 := by
  obtain ⟨ao, c, hv, hc⟩ := h
  simp only [Value.slice.injEq] at hv
  obtain ⟨rfl, rfl, rfl⟩ := hv
  cases ps with
  | nil => exact ⟨rfl, rfl⟩
  | cons p r => obtain ⟨g, off, ha, _⟩ := hc 0 p rfl; cases ha

def WithoutRel (ps : Flds) (f : List UInt8 × List UInt8 → Bool) (w : World) (v i : Value) (wr : World) : Prop :=
  ∃ k : Nat, i = .int .i64 k ∧ k ≤ ps.length ∧ OwnsP 97 w.heap.size wr v ((ps.take k).filter f) ∧ Below w.heap.size w wr
theorem own_app {T : TypeId} {B : Nat} {w : World} {v : Value} {ps qs : Flds} {n : Nat} (h : w.ownsRow B T 2 v n (flatP ps ++ flatP qs)) (hn : n = ps.length + qs.length) : OwnsP T B w v (ps ++ qs) := by
  unfold OwnsP
  have e : flatP (ps ++ qs) = flatP ps ++ flatP qs := by simp [flatP]
  rw [e, List.length_append, ← hn]; exact h

/-- An append of one list of fields to another that the call made. -/
theorem step_appendP {T S : TypeId} {B : Nat} {i0 : TypeInfo} (hi : Tryz.prog.info? T = some i0) (hz0 : i0.zero = some (.agg #[.string ByteArray.empty, .string ByteArray.empty])) (hz1 : i0.size = 2) (hz2 : i0.bytes = 32) (ht : Tryz.prog.underlying S = some (.slice T))
    {w : World} {ops : Array Oper} {o : Oper} {a : Act} {K : Act → World → Prop} {Q : Exit → Act → World → Prop} {E : Prop} (hgd : o.guard = none) (s x : Operand)
    (ho : o.op = .call { callee := .builtin .append, args := #[s, x], argTypes := #[S, S] }) (v v2 : Value) (hs : a.eval s = v) (hx : a.eval x = v2) {ps qs : Flds} (hown : OwnsP T B w v ps) (hr : ReadsQ w v2 qs) (hp : Sane v2)
    (hn : ps.length + qs.length ≤ 100000) (hB : B ≤ w.heap.size) (h : ∀ v' w', OwnsP T B w' v' (ps ++ qs) → w.grownBy w' v.ownBlock → K (a.put o.dst v') w') :
    if Region.wanted o (yielded ops a.tmps) = true then Oper.wp Tryz.prog o a w K Q else E := by
  have hw : Region.wanted o (yielded ops a.tmps) = true := by simp [Region.wanted, hgd]
  rw [if_pos hw]
  obtain ⟨ao, cap, rfl, hc⟩ := id hr
  cases ao with
  | none =>
    obtain ⟨rfl, _⟩ := hr.none
    obtain rfl := (hp _ _ _ rfl).2 rfl
    have hrun := run_append_owned_none (P := Tryz.prog) (w := w) B S o.type T i0 2 ht hi v ps.length (flatP ps) hown
    unfold Oper.wp
    simp [execOp, ho, resolve, invoke, builtin, hs, hx, hrun, Result.andThen]
    exact h v w (by rw [List.append_nil]; exact hown) ⟨rfl, rfl, rfl, Nat.le_refl _, fun _ _ _ => rfl⟩
  | some ad =>
    obtain ⟨_, hs'⟩ := hr.src
    exact wp_append_own w s x S ho B T i0 _ 2 32 ht hi hz0 hz1 hz2 rfl (by decide) v ps.length (flatP ps) hs hown ad qs.length cap (flatP qs) hx (flatP_len qs) hs' (flatP_one qs) (by unfold maxLen; omega) (by omega) hB
      fun v' w' h1 h2 _ => h v' w' (own_app h1 rfl) h2

theorem reads_oneP (w : World) (a b : List UInt8) (T : TypeId) : ReadsQ (w.alloc (.cells #[.string (strB a), .string (strB b)] T)) (.slice (some ⟨w.heap.size, 0, none⟩) 1 1) [(a, b)] := by
  refine ⟨_, 1, rfl, fun j p hj => ⟨w.heap.size, 0, rfl, by simp, ?_⟩⟩
  match j, hj with
  | 0, hj =>
    simp at hj; subst hj
    have h0 := two_new w a b T 0 _ rfl
    have h1 := two_new w a b T 1 _ rfl
    exact ⟨h0, h1⟩
  | j + 1, hj => simp at hj
theorem sane_one' (a : Addr) : Sane (.slice (some a) 1 1) := fun x n c e => by cases e; exact ⟨Nat.le_refl _, fun h => by cases h⟩
theorem below_box {B : Nat} {w0 w w' : World} {o : Obj} (hB : Below B w0 w) (hBs : B ≤ w.heap.size) (h : Below (w.alloc o).heap.size (w.alloc o) w') : Below B w0 w' :=
  hB.trans ((below_new w o).trans (h.mono (by simp)) |>.mono hBs)

theorem low_more {ps : Fs} {k : Nat} {p : List UInt8 × List UInt8} (hp : ps[k]? = some p) : (ps.take (k + 1)).map low1 = (ps.take k).map low1 ++ [(lowS p.1, p.2)] := by
  rw [take_more hp, List.map_append]; rfl
set_option maxHeartbeats 4000000 in
set_option maxRecDepth 100000 in
theorem lowerF_any (fv : Value) (ps : Fs) (w : World) (hr : ReadsQ w fv ps) (hl : ps.length ≤ 1000) (hb : ∀ p ∈ ps, p.1.length + p.2.length ≤ 1000000) :
    Calls Tryz.prog 22 #[fv] w fun e w' => ∃ v, e = .returned v ∧ OwnsP 58 w.heap.size w' v (ps.map low1) ∧ Below w.heap.size w w' := by
  obtain ⟨i0, hi, hz0, hz1, hz2⟩ := info_parts Tryz.infoG
  obtain ⟨ao, cap, rfl, hc⟩ := hr
  have HC := Lib.hid hc
  have HBig := Lib.hid hb
  clear hc hb
  go_enter Tryz.func22, Tryz.ntmps22
  go_wp2_with fail
  go_loopw [3, 4] (fun v i wr => ∃ k : Nat, i = .int .i64 k ∧ k ≤ ps.length ∧ OwnsP 58 w.heap.size wr v ((ps.take k).map low1) ∧ Below w.heap.size w wr) (fun _ i _ => ps.length - (intOf i).toNat)
  case atStart => exact ⟨0, rfl, Nat.zero_le _, OwnsP.nil _ _ _, Below.refl _ _⟩
  case round =>
    obtain ⟨k, rfl, hk, hO, hBr⟩ := hrel
    have hbr := hBr.size
    by_cases hlt : k < ps.length
    · obtain ⟨p, hp⟩ : ∃ p, ps[k]? = some p := ⟨ps[k], by simp [hlt]⟩
      obtain ⟨g, off, rfl, hg1, h1, h2⟩ := HC.out k p hp
      have hgr : g < wr.heap.size := Nat.lt_of_lt_of_le hg1 hbr
      have hc1 : wr.cell? ⟨g, off + k * 2, none⟩ = some (.string (strB p.1)) := (hBr.cell (p := ⟨g, off + k * 2, none⟩) hg1).trans h1
      have hc2 : wr.cell? ⟨g, off + k * 2 + 1, none⟩ = some (.string (strB p.2)) := (hBr.cell (p := ⟨g, off + k * 2 + 1, none⟩) hg1).trans h2
      have hpl := HBig.out p (List.mem_of_getElem? hp)
      have hlen : ((ps.take k).map low1).length = k := by rw [List.length_map]; simp; omega
      have HP := Lib.hid hp
      have HLen := Lib.hid hlen
      have LN : ∀ w', Below wr.heap.size wr w' →
          Calls Tryz.prog 23 #[.string (strB p.1)] w' fun e w'' => e = .returned (.string (strB (lowS p.1))) ∧
            w''.cell? ⟨g, off + k * 2 + 1, none⟩ = some (.string (strB p.2)) ∧ OwnsP 58 w.heap.size w'' _ ((ps.take k).map low1) ∧ Below w.heap.size w w'' ∧ w.heap.size ≤ w''.heap.size := fun w' hB' => by
        have := refLower_any (strB p.1) w' (by rw [strB_size]; omega)
        rw [strB_list] at this
        refine this.mono fun e w'' ⟨he, hb'⟩ => ?_
        have hB'' := hB'.trans (hb'.mono hB'.size)
        have hf := hBr.trans (hB''.mono hbr)
        exact ⟨he, (hB''.cell (p := ⟨g, off + k * 2 + 1, none⟩) hgr).trans hc2, OwnsP.below hO hB'', hf, hf.size⟩
      clear hp h1 h2 hlen
      go_wp2_with fail
      go_region_law (first
        | (refine step_appendP (qs := [(lowS p.1, p.2)]) hi hz0 hz1 hz2 Tryz.underlying32 rfl (.tmp 11) (.tmp 24) rfl u3 (.slice (some ⟨w2.heap.size, 0, none⟩) 1 1) (by simp [Act.eval]) (by simp [Act.eval]) (OwnsP.below hO1 (below_new _ _)) (reads_oneP _ _ _ _) (sane_one' _) (by rw [HLen.out]; simp; omega) (by simp; omega) ?_; intro v3 w5 hO5 hg5)
        | (go_simp; go_at_call 23; refine (LN _ (by first | exact Below.refl _ _ | exact (Below.refl _ _).drew)).mono ?_; rintro e w2 ⟨rfl, hd2, hO1, hB1, hs1⟩))
      all_goals
        go_wp2_with fail
        go_roundw
        case rel => exact ⟨k + 1, by go_num, by omega, by rw [low_more HP.out]; exact hO5, (hB1.alloc hs1 _).grown hg5 (by simp; omega) (fun q hq => (World.ownsRow.lt hO1 q hq).1)⟩
        case measure => simp [intOf]; omega
    · have htk : ps.take k = ps := List.take_of_length_le (by omega)
      rw [htk] at hO
      go_wp2_with fail
      go_ret
      exact ⟨_, rfl, hO, hBr⟩
end Go.Proofs.YtkfmfjlapkpeaaaGreatDoor

/- HeadBack: for every response and text the statement's function returns true: the walk. -/
namespace Go.Proofs.YtkfmfjlapkpeaaaGreatDoor
open Go.RowKit

theorem Tryz.infoU8 : (Tryz.prog.info? 5).map (fun i => (i.zero, i.size, i.bytes)) = some (some (.int .u8 0), 1, 1) := by kernel_rfl
theorem wrP_none {z : Int} {fs : Fs} (h : (wrP z fs).1 ≠ 0) : (wrP z fs).2 = [] := by
  unfold wrP writeP at h ⊢
  split
  · rfl
  · rename_i h1
    rw [if_neg h1] at h
    split
    · rfl
    · rename_i h2
      rw [if_neg h2] at h
      split
      · rfl
      · rename_i h3
        rw [if_neg h3] at h
        exact absurd rfl h
theorem wrP_ne {z : Int} {fs : Fs} {b : List UInt8} (h : wrP z fs = (0, b)) : b ≠ [] := by
  unfold wrP writeP at h
  split at h
  · exact absurd (congrArg Prod.fst h) (by simp)
  · split at h
    · exact absurd (congrArg Prod.fst h) (by simp)
    · split at h
      · exact absurd (congrArg Prod.fst h) (by simp)
      · have := congrArg Prod.snd h
        simp only at this
        rw [← this, enc_cons]; simp
theorem wrP_le {z : Int} {fs : Fs} {b : List UInt8} (h : wrP z fs = (0, b)) : b.length ≤ 8192 := by
  unfold wrP writeP at h
  split at h
  · exact absurd (congrArg Prod.fst h) (by simp)
  · rename_i h1
    split at h
    · exact absurd (congrArg Prod.fst h) (by simp)
    · split at h
      · exact absurd (congrArg Prod.fst h) (by simp)
      · have := congrArg Prod.snd h
        simp only at this
        rw [← this]; omega
theorem cells_at {w : World} {g : Nat} {b : List UInt8} (hc : ∀ i (h : i < b.length), w.cell? ⟨g, i, none⟩ = some (.int .u8 ((b[i]'h).toNat : Int))) (o : Obj) (hg : g < w.heap.size) :
    ∀ j u, (Lib.byteCells b)[j]? = some u → (w.alloc o).cell? ((⟨g, 0, none⟩ : Addr).add j) = some u := by
  intro j u hj
  have hl : j < b.length := by have := (List.getElem?_eq_some_iff.1 hj).1; rw [Lib.byteCells_length] at this; exact this
  have e : (Lib.byteCells b)[j]? = some (.int .u8 ((b[j]'hl).toNat : Int)) := by unfold Lib.byteCells; rw [List.getElem?_map, List.getElem?_eq_getElem hl]; rfl
  rw [e] at hj
  rw [Addr.add_lit, Nat.zero_add, (below_new w o).cell (p := ⟨g, j, none⟩) hg, hc j hl]; exact hj
theorem one_cells (b : List UInt8) : ∀ u ∈ Lib.byteCells b, u.oneCell' = true := by
  intro u hu
  unfold Lib.byteCells at hu
  obtain ⟨c, _, rfl⟩ := List.mem_map.1 hu
  rfl
theorem str_cells (r : ByteArray) : Lib.strCells r = Lib.byteCells r.data.toList := rfl
/-- Two responses lie in their variables, and their fields are read. -/
def BkS (M N : Nat) (z : Int) (v1 v2 : Value) (fs gs : Fs) (w w' : World) : Prop :=
  w'.cell? ⟨M, 0, none⟩ = some (.int .i64 z) ∧ w'.cell? ⟨M, 1, none⟩ = some v1 ∧ w'.cell? ⟨N, 0, none⟩ = some (.int .i64 z) ∧ w'.cell? ⟨N, 1, none⟩ = some v2 ∧ M < w'.heap.size ∧ N < w'.heap.size ∧ ReadsQ w' v1 fs ∧ ReadsQ w' v2 gs ∧ Below w.heap.size w w'
theorem BkS.below {M N : Nat} {z : Int} {v1 v2 : Value} {fs gs : Fs} {w w1 w2 : World} (h : BkS M N z v1 v2 fs gs w w1) (hb : Below w1.heap.size w1 w2) : BkS M N z v1 v2 fs gs w w2 := by
  obtain ⟨a0, a1, b0, b1, hM, hN, r1, r2, hB⟩ := h
  exact ⟨(hb.cell (p := ⟨M, 0, none⟩) hM).trans a0, (hb.cell (p := ⟨M, 1, none⟩) hM).trans a1, (hb.cell (p := ⟨N, 0, none⟩) hN).trans b0, (hb.cell (p := ⟨N, 1, none⟩) hN).trans b1,
    Nat.lt_of_lt_of_le hM hb.size, Nat.lt_of_lt_of_le hN hb.size, r1.below hb, r2.below hb, hB.trans (hb.mono hB.size)⟩
theorem lower_bk {M N : Nat} {z : Int} {v1 v2 : Value} {fs gs : Fs} {w w1 : World} (h : BkS M N z v1 v2 fs gs w w1) (hl : fs.length ≤ 1000) (hb : ∀ p ∈ fs, p.1.length + p.2.length ≤ 1000000) :
    Calls Tryz.prog 22 #[v1] w1 fun e w' => ∃ v, e = .returned v ∧ ReadsQ w' v (fs.map low1) ∧ BkS M N z v1 v2 fs gs w w' := by
  refine (lowerF_any v1 fs w1 h.2.2.2.2.2.2.1 hl hb).mono ?_
  rintro e w' ⟨v, rfl, hO, hB⟩
  exact ⟨v, rfl, hO.q, h.below hB⟩
theorem are_bk {M N : Nat} {z : Int} {v1 v2 v : Value} {fs gs : Fs} {w w1 : World} (h : BkS M N z v1 v2 fs gs w w1) (hv : ReadsQ w1 v gs) (hl : gs.length ≤ 1000) :
    Calls Tryz.prog 24 #[v2, v] w1 fun e w' => e = .returned (.bool true) ∧ BkS M N z v1 v2 fs gs w w' := by
  refine (are_below v2 v gs gs w1 h.2.2.2.2.2.2.2.1 hv (by omega) (by omega)).mono ?_
  rintro e w' ⟨rfl, hB⟩
  exact ⟨by rw [decide_eq_true rfl], h.below hB⟩
set_option maxHeartbeats 8000000 in
set_option maxRecDepth 100000 in
theorem back_walk (z : Int) (v : Value) (ps : List (List UInt8 × List UInt8)) (r : ByteArray) (w : World) (hM : HasMax w) (hT : HasTab w)
    (hg : ReadsQ w v ps ∧ ps.length ≤ maxLen ∧ (∀ q ∈ ps, q.1.length ≤ 140737488355328 ∧ q.2.length ≤ 140737488355328)) (hrs : r.size ≤ 140737488355328) :
    Calls Tryz.prog 7 #[.agg #[.int .i64 z, v], .string r] w fun e w' => e = .returned (.bool true) ∧ Below w.heap.size w w' := by
  obtain ⟨hr, hpl, hpb⟩ := hg
  have HM := Lib.hid hM
  have HT := Lib.hid hT
  have HR := Lib.hid hr
  have F := Lib.hid (fun W (hr : ReadsQ W v ps) => fits_any v ps W hr (by unfold maxLen at hpl; omega) hpb)
  obtain ⟨ao, cap, rfl, hc⟩ := hr
  have hB0 : Below w.heap.size w (w.alloc (.cells #[.int .i64 z, .slice ao ps.length cap] 45)) := below_new _ _
  clear hM hT hc hpl hpb
  go_enter Tryz.func7, Tryz.ntmps7
  go_wp2_with fail
  refine (awake_any _ (HT.out.below hB0)).mono ?_
  rintro e w1 ⟨rfl, hB1⟩
  obtain ⟨b0, b1, bf0, bf1, bz⟩ := box_kept w hB1
  have hBx := hB0.trans (hB1.mono hB0.size)
  go_wp2_with fail
  refine (F.out _ (HR.out.below hBx)).mono ?_
  rintro e w2 ⟨rfl, hB2⟩
  have hB12 := hB1.trans (hB2.mono hB1.size)
  have hBy := hB0.trans (hB12.mono hB0.size)
  clear b0 b1 bf0 bf1 bz hB1 hB2 hBx
  obtain ⟨b0, b1, bf0, bf1, bz⟩ := box_kept w hB12
  cases hfit : fitsB ps with
  | false =>
    go_wp2_with fail
    refine (awake_any _ (HT.out.below hBy)).mono ?_
    rintro e w3 ⟨rfl, hB3⟩
    go_wp2_with fail
    go_ret
    exact ⟨rfl, hBy.trans (hB3.mono hBy.size)⟩
  | true =>
    by_cases hbig : 20000 < r.size
    · go_wp2_with fail
      refine (awake_any _ (HT.out.below hBy)).mono ?_
      rintro e w3 ⟨rfl, hB3⟩
      go_wp2_with fail
      go_ret
      exact ⟨rfl, hBy.trans (hB3.mono hBy.size)⟩
    · obtain ⟨hl80, hq⟩ := fits_yes hfit
      have hb : ∀ p ∈ ps, p.1.length + p.2.length ≤ 1000000 := fun p hp => Nat.le_trans (hq p hp) (by decide)
      have HPB := Lib.hid hb
      have HL := Lib.hid (show ps.length ≤ 1000 by omega)
      have Q := Lib.hid (fun W (hr : ReadsQ W (.slice ao ps.length cap) ps) => response_any z (.slice ao ps.length cap) ps W hr (by omega) hb)
      have WR := Lib.hid (fun v W (hr : ReadsQ W v ps) hT => writeResponse_any z v ps W hr hT (by omega) hb)
      unfold RespPost at WR
      have WN := Lib.hid (wrP_none (z := z) (fs := ps))
      have WB := Lib.hid (fun b (h : wrP z ps = (0, b)) => writeP_read flk h r.data.toList)
      have HNE := Lib.hid (fun b (h : wrP z ps = (0, b)) => wrP_ne h)
      have HLB := Lib.hid (fun b (h : wrP z ps = (0, b)) => wrP_le h)
      generalize wrP z ps = q at *
      obtain ⟨c, b⟩ := q
      clear hq hb hl80 hfit
      go_wp2_with fail
      refine (Q.out _ (HR.out.below hBy)).mono ?_
      rintro e w3 ⟨a3, n3, c3, rfl, hO3, hB3⟩
      have hB13 := hB12.trans (hB3.mono hB12.size)
      have hBz := hB0.trans (hB13.mono hB0.size)
      clear b0 b1 bf0 bf1 bz hB12 hB3 hBy
      have WR := WR.out _ _ hO3.q (HT.out.below hBz)
      go_wp2_with fail
      refine WR.mono ?_
      rintro e w4 ⟨v4, he4, hO4, hB4⟩
      have hB14 := hB13.trans (hB4.mono hB13.size)
      have hBw := hB0.trans (hB14.mono hB0.size)
      clear WR hO3 hB13 hB4 hBz
      obtain ⟨b0, b1, bf0, bf1, bz⟩ := box_kept w hB14
      by_cases hc0 : c = 0
      · subst hc0
        obtain ⟨hst, hrd⟩ := WB.out b rfl
        obtain ⟨k, rfl⟩ : ∃ k : Nat, z = (k : Int) := ⟨z.toNat, by omega⟩
        have hbne : b ≠ [] := HNE.out b rfl
        obtain ⟨g4, cp4, rfl, hg4, hc4⟩ : ∃ g4 cp4, v4 = .slice (some ⟨g4, 0, none⟩) b.length cp4 ∧ g4 < w4.heap.size ∧ ∀ i (h : i < b.length), w4.cell? ⟨g4, i, none⟩ = some (.int .u8 ((b[i]'h).toNat : Int)) := by
          rcases hO4.isSlice with ⟨_, e⟩ | ⟨g, cap, rfl, _, _, h2, h3⟩
          · exact absurd e hbne
          · exact ⟨g, cap, rfl, h2, h3⟩
        obtain ⟨i0, hi, hz0, hz1, hz2⟩ := info_parts Tryz.infoU8
        have hcell := cells_at hc4 (.cells #[] 5) hg4
        have hown0 : (w4.alloc (.cells #[] 5)).ownsRow w4.heap.size 5 1 (.slice (some ⟨w4.heap.size, 0, none⟩) 0 0) 0 [] := World.ownsRow_made w4 #[] 0 (Nat.le_refl _) (Nat.zero_le _) (by simp)
        have hlb : (Lib.byteCells b).length = b.length * 1 := by rw [Lib.byteCells_length, Nat.mul_one]
        have hbl : b.length ≤ 8192 := HLB.out b rfl
        have HB14 := Lib.hid hB14
        have HC4 := Lib.hid hcell
        have he4' : e = .returned (.tuple #[.slice (some ⟨g4, 0, none⟩) b.length cp4, .nilIface]) := he4
        subst he4'
        clear he4 hc4 hcell hO4
        go_wp2_with (at_builtin; first
          | (refine wpList_append_own _ rfl _ _ 23 rfl w4.heap.size 5 i0 (.int .u8 0) 1 1 Tryz.underlying23 hi hz0 hz1 hz2 rfl (by decide) _ _ _ rfl hown0 ⟨g4, 0, none⟩ b.length cp4 (Lib.byteCells b) rfl hlb HC4.out (one_cells b) (by unfold maxLen; omega) (by omega) (by simp) ?_; intro v6 w6 hown6 hgrow6 _)
          | (refine Lib.wpList_append_own_string _ rfl _ _ 23 9 rfl w4.heap.size 5 i0 Tryz.underlying23 Tryz.underlying9 hi hz0 hz1 hz2 _ _ _ rfl hown6 r rfl (by unfold maxLen; omega) (by omega) (by have := hgrow6.size; simp at this; omega) ?_; intro v7 w7 hown7 hgrow7 _))
        have hsr : r.data.toList.length = r.size := by rw [Array.length_toList]; rfl
        have hB46 : Below w4.heap.size w4 w6 := (below_new w4 (.cells #[] 5)).grown hgrow6 (by simp) (fun q hq => by have := Option.some.inj hq; simp at this; omega)
        have hB47 : Below w4.heap.size w4 w7 := hB46.grown hgrow7 hB46.size (fun q hq => (World.ownsRow.lt hown6 q hq).1)
        have hO7 : OwnsB w4.heap.size w7 v7 (b ++ r.data.toList) := by
          unfold OwnsB
          rw [List.length_append, hsr, ← cellsB_app, ← str_cells]
          simpa using hown7
        obtain ⟨g7, c7, rfl, hR7⟩ := hO7.readsB (by simp [hbne])
        have hBv := hBw.trans (hB47.mono hBw.size)
        have R := readResponse_any _ (b ++ r.data.toList) w7 hR7 (HM.out.below hBv) (by rw [List.length_append]; omega)
        unfold ResPost at R
        rw [show rdP (b ++ r.data.toList) = (0, ((k : Int).toNat, ps.map fun f => (lowS f.1, f.2)), b.length) from hrd] at R
        clear hR7 hO7 hown7 hown6 hown0 hgrow6 hgrow7 hB46 hrd WN WB HNE HLB
        refine R.mono ?_
        rintro e w8 ⟨v8, he8, hO8, hB8⟩
        have hO8' : OwnsP 97 w7.heap.size w8 v8 (ps.map low1) := hO8
        obtain ⟨a8, c8, rfl, _⟩ := hO8'.reads
        rw [List.length_map] at hO8' he8
        have he8' : e = .returned (.tuple #[.agg #[.int .i64 (k : Int), .slice a8 ps.length c8], .int .i64 (b.length : Int), .nilIface]) := he8
        subst he8'
        have hB48 := hB14.trans ((hB47.trans (hB8.mono hB47.size)).mono hB14.size)
        have hBu := hB0.trans (hB48.mono hB0.size)
        clear R hB47 hBv hB8 hB14 b0 b1 bf0 bf1 bz he8 hO8 HB14
        obtain ⟨b0, b1, bf0, bf1, bz⟩ := box_kept w hB48
        go_upto_region 7 with fail
        have hbn := below_new w8 (.cells #[.int .i64 (k : Int), .slice a8 ps.length c8] 41)
        have hx : ∀ j, (w8.alloc (.cells #[.int .i64 (k : Int), .slice a8 ps.length c8] 41)).cell? ⟨w8.heap.size, j, none⟩ = (#[.int .i64 (k : Int), .slice a8 ps.length c8] : Array Value)[j]? := fun j => by rw [World.cell?_alloc_at _ _ _ _ rfl]
        have hS0 : BkS w.heap.size w8.heap.size (k : Int) (.slice ao ps.length cap) (.slice a8 ps.length c8) ps (ps.map low1) w (w8.alloc (.cells #[.int .i64 (k : Int), .slice a8 ps.length c8] 41)) :=
          ⟨(hbn.cell (p := ⟨w.heap.size, 0, none⟩) bz).trans b0, (hbn.cell (p := ⟨w.heap.size, 1, none⟩) bz).trans b1, hx 0, hx 1, by simp; omega, by simp, (HR.out.below hBu).below hbn, (OwnsP.below hO8' hbn).q, hBu.trans (hbn.mono hBu.size)⟩
        generalize (w8.alloc (.cells #[.int .i64 (k : Int), .slice a8 ps.length c8] 41)) = w9 at *
        clear hbn hx b0 b1 bf0 bf1 bz hO8' hBu hB48
        generalize w8.heap.size = N at *
        have hSd := hS0.below (Below.refl _ _).drew
        go_region_held3 (fun w' => w'.cell? ⟨w.heap.size, 0, none⟩ = some (.int .i64 (k : Int)) ∧ w'.cell? ⟨w.heap.size, 1, none⟩ = some (.slice ao ps.length cap) ∧ w'.cell? ⟨N, 0, none⟩ = some (.int .i64 (k : Int)) ∧ w'.cell? ⟨N, 1, none⟩ = some (.slice a8 ps.length c8) ∧ w.heap.size < w'.heap.size ∧ N < w'.heap.size ∧ ReadsQ w' (.slice ao ps.length cap) ps ∧ ReadsQ w' (.slice a8 ps.length c8) (ps.map low1) ∧ Below w.heap.size w w')
          (first | exact hK | exact hK1 | exact hSd)
          (first
            | (go_at_call 22; refine (lower_bk (by first | exact hSd | assumption) HL.out HPB.out).mono ?_; rintro e w10 ⟨vr, rfl, hvr, hK1⟩)
            | (go_at_call 24; refine (are_bk hK1 hvr (by rw [List.length_map]; exact HL.out)).mono ?_; rintro e w11 ⟨rfl, hK⟩))
        have hBf := hK.2.2.2.2.2.2.2.2
        go_wp2_with fail
        go_ret
        exact ⟨rfl, hBf⟩
      · have hbn := WN.out hc0
        have hbn' : b = [] := hbn
        subst hbn'
        rw [errV_no hc0] at he4
        obtain ⟨a4, c4, rfl⟩ : ∃ a c, v4 = .slice a 0 c := by
          rcases hO4.isSlice with ⟨rfl, _⟩ | ⟨g, cap, rfl, _⟩
          · exact ⟨_, _, rfl⟩
          · exact ⟨_, _, rfl⟩
        subst he4
        clear hbn hc0 WN WB hO4
        go_wp2_with fail
        go_ret
        exact ⟨rfl, hBw⟩
end Go.Proofs.YtkfmfjlapkpeaaaGreatDoor

/- A response of the reference among the arguments, opened. -/
namespace Go.Proofs.YtkfmfjlapkpeaaaGreatDoor
open Go.ChangeShapes Go.WideShapes Go.ChangeAt Go.RowKit

section
variable {H : Type} {enc : TypeId × Value → H} {P : Program} {w : World} {base : Nat} {spare : Nat → Bool} {held : Bool}
theorem trod_struct2 {t : TypeId} {f0 f1 : Field} {fuel : Nat} {cs : List Value} {x : DataW H × List MemPlace} (ht : P.underlying t = some (.struct #[f0, f1])) (h : DataW.trod enc P w base spare held fuel t cs = some x) :
    ∃ y0 y1 n, x = (.agg [y0.1, y1.1], y0.2 ++ y1.2) ∧ cs.length = P.cellsOf t ∧ DataW.trod enc P w base spare held n f0.type ((cs.drop f0.offset).take (P.cellsOf f0.type)) = some y0 ∧
      DataW.trod enc P w base spare held n f1.type ((cs.drop f1.offset).take (P.cellsOf f1.type)) = some y1 := by
  obtain ⟨xs, n, _, rfl, hl, hlen, hf⟩ := DataW.trod_struct ht h
  match xs, hlen with
  | [y0, y1], _ => exact ⟨y0, y1, n, by simp, hl, by simpa using hf 0 f0 rfl, by simpa using hf 1 f1 rfl⟩
end
set_option maxRecDepth 100000 in
theorem open_resp {H : Type} {enc : TypeId × Value → H} {w : World} {v : Value} {d : DataW H} {p : List MemPlace} {base : Nat} (hv : Value.okWide Tryz.prog w .any base 45 v)
    (h : DataW.Trod enc Tryz.prog w 0 (fun _ => true) true 45 v d p) (hw : ∀ n ∈ d.weights Tryz.prog 45, n ≤ reachBytes) :
    ∃ (z : Int) (v' : Value) (ps : List (List UInt8 × List UInt8)), v = .agg #[.int .i64 z, v'] ∧
      ReadsQ w v' ps ∧ ps.length ≤ maxLen ∧ (∀ q ∈ ps, q.1.length ≤ 140737488355328 ∧ q.2.length ≤ 140737488355328) := by
  obtain ⟨cs, rfl, hsz, hall⟩ : ∃ cs, v = .agg cs ∧ cs.size = 2 ∧ True := by
    simp only [Value.okWide, Tryz.underlying45] at hv
    obtain ⟨cs, h1, h2, _⟩ := hv
    exact ⟨cs, h1, h2.trans (by kernel_rfl), trivial⟩
  obtain ⟨c0, c1, rfl⟩ : ∃ c0 c1, cs = #[c0, c1] := by
    obtain ⟨l⟩ := cs
    match l, hsz with
    | [a, b], _ => exact ⟨a, b, rfl⟩
    | [], hz => simp at hz
    | [_], hz => simp at hz
    | _ :: _ :: _ :: _, hz => simp at hz
  obtain ⟨fuel, hf⟩ := h
  have hf' : DataW.trod enc Tryz.prog w 0 (fun _ => true) true fuel 45 [c0, c1] = some (d, p) := by simpa [Value.cells] using hf
  obtain ⟨y0, y1, n, hx, _, g0, g1⟩ := trod_struct2 Tryz.underlying45 hf'
  have hce : Tryz.prog.cellsOf 3 = 1 := by kernel_rfl
  have hcb : Tryz.prog.cellsOf 32 = 1 := by kernel_rfl
  simp only [hce, hcb, List.drop_zero, List.drop_succ_cons, List.take_succ_cons, List.take_zero] at g0 g1
  obtain ⟨z, e0, _, _⟩ := DataW.trod_int Tryz.underlying3 g0
  simp only [List.cons.injEq, and_true] at e0
  simp only [Prod.mk.injEq] at hx
  rw [hx.1] at hw
  have key := hw
  unfold DataW.weights at key
  rw [Tryz.underlying45] at key
  simp only [DataW.weightsEach, List.map_cons, List.map_nil, List.mem_append, List.mem_cons, List.not_mem_nil, or_false] at key
  have k2 : ∀ n ∈ y1.1.weights Tryz.prog 32, n ≤ reachBytes := fun n hn => key n (.inr hn)
  obtain ⟨ps, q1, q2, q3⟩ := open_fields ⟨n, g1⟩ k2
  exact ⟨z, c1, ps, by rw [e0], q1, q2, q3⟩
end Go.Proofs.YtkfmfjlapkpeaaaGreatDoor
