/- What the reference's ended returns. -/
import Derived.Test.YtikkaakgehaenaaDoorKRefL
import Derived.Test.YtikkaakgehaenaaDoorKRef0
import Derived.Deep.RegionLaw
import Derived.Deep.RegionHeld3
import Derived.Deep.AppendLies
import Derived.Deep.DeepCutAuto
import Derived.Test.YtikkaakgehaenaaDoorJAppF
namespace Go.Proofs.YtikkaakgehaenaaDoor
open Go.RowKit

/-- What a step of the reference leaves: the state r', whose fields are read. -/
def StPost (fv : Value) (r' : Rs) (w : World) (e : Ending) (w' : World) : Prop :=
  ∃ fa fn fc, e = .returned (stV r' (.slice fa fn fc)) ∧ ReadsQ w' (.slice fa fn fc) r'.fs ∧ Sane (.slice fa fn fc) ∧ (∀ j, (Value.slice fa fn fc).ownBlock = some j → fv.ownBlock = some j ∨ (w.heap.size ≤ j ∧ j < w'.heap.size)) ∧ Below w.heap.size w w'
theorem StPost.same {r r' : Rs} {fa : Option Addr} {fn fc : Nat} {w w' : World} {e : Ending} (hr : ReadsQ w (.slice fa fn fc) r.fs) (hs : Sane (.slice fa fn fc)) (he : e = .returned (stV r' (.slice fa fn fc))) (hf : r'.fs = r.fs) (hb : Below w.heap.size w w') : StPost (.slice fa fn fc) r' w e w' :=
  ⟨fa, fn, fc, he, by rw [hf]; exact hr.below hb, hs, fun j hj => .inl hj, hb⟩
theorem step_appendE {T S : TypeId} {B : Nat} {i0 : TypeInfo} (hi : Tryd.prog.info? T = some i0) (hz0 : i0.zero = some (.agg #[.string ByteArray.empty, .string ByteArray.empty])) (hz1 : i0.size = 2) (hz2 : i0.bytes = 32) (ht : Tryd.prog.underlying S = some (.slice T))
    {w : World} {ops : Array Oper} {o : Oper} {a : Act} {K : Act → World → Prop} {Q : Exit → Act → World → Prop} {E : Prop} (hgd : o.guard = none) (s x : Operand)
    (ho : o.op = .call { callee := .builtin .append, args := #[s, x], argTypes := #[S, S] }) (v v2 : Value) (hs : a.eval s = v) (hx : a.eval x = v2) {ps qs : Flds} (hown : OwnsP T B w v ps) (hr : ReadsQ w v2 qs) (hp : Sane v2)
    (hn : ps.length + qs.length ≤ 100000) (hB : B ≤ w.heap.size) (h : ∀ v' w', OwnsP T B w' v' (ps ++ qs) → w.grownBy w' v.ownBlock → K (a.put o.dst v') w') :
    if Region.wanted o (yielded ops a.tmps) = true then Oper.wp Tryd.prog o a w K Q else E := by
  have hw : Region.wanted o (yielded ops a.tmps) = true := by simp [Region.wanted, hgd]
  rw [if_pos hw]
  obtain ⟨ao, cap, rfl, hc⟩ := id hr
  cases ao with
  | none =>
    obtain ⟨rfl, _⟩ := readsF_none hr
    obtain rfl := (hp _ _ _ rfl).2 rfl
    have hrun := run_append_owned_none (P := Tryd.prog) (w := w) B S o.type T i0 2 ht hi v ps.length (flatP ps) hown
    unfold Oper.wp
    simp [execOp, ho, resolve, invoke, builtin, hs, hx, hrun, Result.andThen]
    exact h v w (by rw [List.append_nil]; exact hown) ⟨rfl, rfl, rfl, Nat.le_refl _, fun _ _ _ => rfl⟩
  | some ad =>
    obtain ⟨_, hs'⟩ := readsF_src hr
    exact wp_append_own w s x S ho B T i0 _ 2 32 ht hi hz0 hz1 hz2 rfl (by decide) v ps.length (flatP ps) hs hown ad qs.length cap (flatP qs) hx (flatP_len qs) hs' (flatF_one qs) (by unfold maxLen; omega) (by omega) hB
      fun v' w' h1 h2 _ => h v' w' (own_appF h1) h2

theorem bel_allocE {Z w : World} {o : Obj} (h : Below Z.heap.size Z w) : Below Z.heap.size Z (w.alloc o) := h.alloc h.size o
theorem sane_oneE (a : Addr) : Sane (.slice (some a) 1 1) := fun x n c e => by cases e; exact ⟨Nat.le_refl _, fun h => by cases h⟩
theorem bel_setE {w w1 : World} {j : Nat} {u : Value} (h : Below w.heap.size w w1) : Below w.heap.size w (w1.setCell ⟨w.heap.size, j, none⟩ u) := h.setCell (p := ⟨w.heap.size, j, none⟩) (Nat.le_refl _) u
theorem grownE {Z w w5 : World} {g n c : Nat} (h : Below Z.heap.size Z w) (hg : w.grownBy w5 (Value.slice (some ⟨g, 0, none⟩) n c).ownBlock) (hZ : Z.heap.size ≤ g) : Below Z.heap.size Z w5 :=
  h.grown hg h.size (fun q hq => by cases hq; exact hZ)
theorem own_slice {T : TypeId} {B : Nat} {w : World} {v : Value} {ps : Flds} (h : OwnsP T B w v ps) : ∃ a c, v = .slice a ps.length c := by
  obtain ⟨a, c, hv, _⟩ := OwnsP.q h
  exact ⟨a, c, hv⟩
theorem cell_set_far {w : World} {a b j k : Nat} (h : a ≠ b) (u : Value) : (w.setCell ⟨b, k, none⟩ u).cell? ⟨a, j, none⟩ = w.cell? ⟨a, j, none⟩ := World.cell?_of_block (Below.heap_setCell _ _ _ _ h)
theorem pair_reads {w : World} {g : Nat} {nm vl : List UInt8} (hg : g < w.heap.size) (h0 : w.cell? ⟨g, 0, none⟩ = some (.string (strB nm))) (h1 : w.cell? ⟨g, 1, none⟩ = some (.string (strB vl))) : ReadsQ w (.slice (some ⟨g, 0, none⟩) 1 1) [(nm, vl)] := by
  refine ⟨_, 1, rfl, fun j p hj => ?_⟩
  cases j with
  | zero => cases hj; exact ⟨g, 0, rfl, hg, h0, h1⟩
  | succ j => simp at hj
theorem pair_at (W : World) (nm vl : List UInt8) (t : TypeId) : ReadsQ (W.alloc (.cells #[.string (strB nm), .string (strB vl)] t)) (.slice (some ⟨W.heap.size, 0, none⟩) 1 1) [(nm, vl)] :=
  pair_reads (by simp) (by rw [World.cell?_alloc_at _ _ _ _ rfl]; rfl) (by rw [World.cell?_alloc_at _ _ _ _ rfl]; rfl)
theorem pair_atE {W : World} {g : Nat} (hg : g = W.heap.size) (nm vl : List UInt8) (t : TypeId) : ReadsQ (W.alloc (.cells #[.string (strB nm), .string (strB vl)] t)) (.slice (some ⟨g, 0, none⟩) 1 1) [(nm, vl)] := by rw [hg]; exact pair_at W nm vl t
theorem own_emptyE {W : World} {g : Nat} (T : TypeId) {B : Nat} (hg : g = W.heap.size) (hB : B ≤ W.heap.size) : OwnsP T B (W.alloc (.cells #[] T)) (.slice (some ⟨g, 0, none⟩) 0 0) [] := by rw [hg]; exact World.ownsRow_made W #[] 0 hB (Nat.zero_le _) (by simp)
theorem pair_far {w w5 : World} {g : Nat} {row : Option Nat} {nm vl : List UInt8} (hr : ReadsQ w (.slice (some ⟨g, 0, none⟩) 1 1) [(nm, vl)]) (hg : w.grownBy w5 row) (hne : row ≠ some g) : ReadsQ w5 (.slice (some ⟨g, 0, none⟩) 1 1) [(nm, vl)] := by
  obtain ⟨ao, c, hv, hc⟩ := hr
  simp only [Value.slice.injEq] at hv
  obtain ⟨rfl, _, rfl⟩ := hv
  refine ⟨_, 1, rfl, fun j p hj => ?_⟩
  obtain ⟨g', off, ha, h1, h2, h3⟩ := hc j p hj
  obtain ⟨rfl, rfl⟩ : g = g' ∧ 0 = off := by simpa using ha
  have hb := hg.block g h1 (fun e => hne e.symm)
  exact ⟨g, 0, rfl, Nat.lt_of_lt_of_le h1 hg.size, (World.cell?_of_block hb).trans h2, (World.cell?_of_block hb).trans h3⟩
theorem own_empty (W : World) (T : TypeId) {B : Nat} (hB : B ≤ W.heap.size) : OwnsP T B (W.alloc (.cells #[] T)) (.slice (some ⟨W.heap.size, 0, none⟩) 0 0) [] := World.ownsRow_made W #[] 0 hB (Nat.zero_le _) (by simp)
theorem lineV_no {l : List UInt8} (h : (cutC 58 l).2.2 = false ∨ trB (cutC 58 l).1 (cutC 58 l).2.1 = false) : ∃ a b, lineV l = .tuple #[.agg #[.string a, .string b], .bool false] := by
  unfold lineV
  by_cases h1 : (cutC 58 l).2.2 = true
  · rw [if_pos h1]
    rcases h with h | h
    · rw [h] at h1; cases h1
    · rw [h]; exact ⟨_, _, rfl⟩
  · rw [if_neg h1]; exact ⟨_, _, rfl⟩
theorem lineV_yes {l : List UInt8} (h : ¬ ((cutC 58 l).2.2 = false ∨ trB (cutC 58 l).1 (cutC 58 l).2.1 = false)) : lineV l = .tuple #[.agg #[.string (strB (nameR (cutC 58 l).1)), .string (strB (valueR (cutC 58 l).2.1))], .bool true] := by
  unfold lineV
  rw [not_or, Bool.not_eq_false, Bool.not_eq_false] at h
  rw [if_pos h.1, h.2]
/-- A state's box is as it was behind calls that leave what was there. -/
theorem box_kept10 (w : World) {a0 a1 a2 a3 a4 a5 a6 a7 a8 a9 : Value} {t : TypeId} {o : Obj} {w1 : World} (h : Below ((w.alloc (.cells #[a0, a1, a2, a3, a4, a5, a6, a7, a8, a9] t)).alloc o).heap.size ((w.alloc (.cells #[a0, a1, a2, a3, a4, a5, a6, a7, a8, a9] t)).alloc o) w1) :
    w1.cell? ⟨w.heap.size, 0, none⟩ = some a0 ∧ w1.frozen? ⟨w.heap.size, 0, none⟩ = false ∧ w1.cell? ⟨w.heap.size, 1, none⟩ = some a1 ∧ w1.frozen? ⟨w.heap.size, 1, none⟩ = false ∧ w1.cell? ⟨w.heap.size, 2, none⟩ = some a2 ∧ w1.frozen? ⟨w.heap.size, 2, none⟩ = false ∧ w1.cell? ⟨w.heap.size, 3, none⟩ = some a3 ∧ w1.frozen? ⟨w.heap.size, 3, none⟩ = false ∧ w1.cell? ⟨w.heap.size, 4, none⟩ = some a4 ∧ w1.frozen? ⟨w.heap.size, 4, none⟩ = false ∧
    w1.cell? ⟨w.heap.size, 5, none⟩ = some a5 ∧ w1.frozen? ⟨w.heap.size, 5, none⟩ = false ∧ w1.cell? ⟨w.heap.size, 6, none⟩ = some a6 ∧ w1.frozen? ⟨w.heap.size, 6, none⟩ = false ∧ w1.cell? ⟨w.heap.size, 7, none⟩ = some a7 ∧ w1.frozen? ⟨w.heap.size, 7, none⟩ = false ∧ w1.cell? ⟨w.heap.size, 8, none⟩ = some a8 ∧ w1.frozen? ⟨w.heap.size, 8, none⟩ = false ∧ w1.cell? ⟨w.heap.size, 9, none⟩ = some a9 ∧ w1.frozen? ⟨w.heap.size, 9, none⟩ = false := by
  have hs : w.heap.size < ((w.alloc (.cells #[a0, a1, a2, a3, a4, a5, a6, a7, a8, a9] t)).alloc o).heap.size := by simp; omega
  have hh : ((w.alloc (.cells #[a0, a1, a2, a3, a4, a5, a6, a7, a8, a9] t)).alloc o).heap[w.heap.size]? = some (.cells #[a0, a1, a2, a3, a4, a5, a6, a7, a8, a9] t (0, 0)) := by
    rw [(below_new (w.alloc (.cells #[a0, a1, a2, a3, a4, a5, a6, a7, a8, a9] t)) o).block _ (by simp)]; exact heap_alloc_new w _
  have key : ∀ j, w1.cell? ⟨w.heap.size, j, none⟩ = (#[a0, a1, a2, a3, a4, a5, a6, a7, a8, a9] : Array Value)[j]? ∧ w1.frozen? ⟨w.heap.size, j, none⟩ = false := fun j =>
    ⟨(h.cell (p := ⟨w.heap.size, j, none⟩) hs).trans (by rw [Lib.cell_of_heap hh]), (h.frozen (p := ⟨w.heap.size, j, none⟩) hs).trans (Lib.frozen_of_heap hh j)⟩
  exact ⟨(key 0).1, (key 0).2, (key 1).1, (key 1).2, (key 2).1, (key 2).2, (key 3).1, (key 3).2, (key 4).1, (key 4).2, (key 5).1, (key 5).2, (key 6).1, (key 6).2, (key 7).1, (key 7).2, (key 8).1, (key 8).2, (key 9).1, (key 9).2⟩
/-- What ended leaves behind a field. -/
theorem ended_post {fv : Value} {r : Rs} {nm vl : List UInt8} {w W0 w6 wF : World} {va : Option Addr} {vc n : Nat} (hO : OwnsP 67 W0.heap.size w6 (.slice va n vc) (r.fs ++ [(nm, vl)])) (hs : Below w.heap.size w w6) (hlt : w.heap.size + 1 < W0.heap.size) (hF : Only (fun k => k = w.heap.size ∨ k = w.heap.size + 1) w6 wF) :
    StPost fv { r with fs := r.fs ++ [(nm, vl)], p := 6, tx := [], se := r.se + 1 } w (.returned (stV { r with fs := r.fs ++ [(nm, vl)], p := 6, tx := [], se := r.se + 1 } (.slice va n vc))) wF := by
  have hO' : OwnsP 67 W0.heap.size wF (.slice va n vc) (r.fs ++ [(nm, vl)]) := hF.owns hO (fun k hk h => by have := (World.ownsRow.lt hO k hk).1; omega)
  exact ⟨va, n, vc, rfl, OwnsP.q hO', OwnsP.sane hO', fun j hj => .inr ⟨by have := (World.ownsRow.lt hO' j hj).1; omega, (World.ownsRow.lt hO' j hj).2⟩, hs.trans (hF.to (fun k hk => by omega) hs.size)⟩
theorem only_ended (W : World) (A : Nat) (a0 a1 a2 a3 a4 a5 a6 a7 a8 a9 a10 a11 a12 a13 : Value) : Only (fun k => k = A ∨ k = A + 1) W ((((((((((((((W.setCell ⟨A, 8, none⟩ a0).setCell ⟨A, 0, none⟩ a1).setCell ⟨A, 7, none⟩ a2).setCell ⟨A, 6, none⟩ a3).setCell ⟨A + 1, 0, none⟩ a4).setCell ⟨A + 1, 1, none⟩ a5).setCell ⟨A + 1, 2, none⟩ a6).setCell ⟨A + 1, 3, none⟩ a7).setCell ⟨A + 1, 4, none⟩ a8).setCell ⟨A + 1, 5, none⟩ a9).setCell ⟨A + 1, 6, none⟩ a10).setCell ⟨A + 1, 7, none⟩ a11).setCell ⟨A + 1, 8, none⟩ a12).setCell ⟨A + 1, 9, none⟩ a13) :=
  ((((((((((((((Only.set (X := fun k => k = A ∨ k = A + 1) (b := A) (Or.inl rfl) _ 8 a0).trans' (Only.set (X := fun k => k = A ∨ k = A + 1) (b := A) (Or.inl rfl) _ 0 a1)).trans' (Only.set (X := fun k => k = A ∨ k = A + 1) (b := A) (Or.inl rfl) _ 7 a2)).trans' (Only.set (X := fun k => k = A ∨ k = A + 1) (b := A) (Or.inl rfl) _ 6 a3)).trans' (Only.set (X := fun k => k = A ∨ k = A + 1) (b := A + 1) (Or.inr rfl) _ 0 a4)).trans' (Only.set (X := fun k => k = A ∨ k = A + 1) (b := A + 1) (Or.inr rfl) _ 1 a5)).trans' (Only.set (X := fun k => k = A ∨ k = A + 1) (b := A + 1) (Or.inr rfl) _ 2 a6)).trans' (Only.set (X := fun k => k = A ∨ k = A + 1) (b := A + 1) (Or.inr rfl) _ 3 a7)).trans' (Only.set (X := fun k => k = A ∨ k = A + 1) (b := A + 1) (Or.inr rfl) _ 4 a8)).trans' (Only.set (X := fun k => k = A ∨ k = A + 1) (b := A + 1) (Or.inr rfl) _ 5 a9)).trans' (Only.set (X := fun k => k = A ∨ k = A + 1) (b := A + 1) (Or.inr rfl) _ 6 a10)).trans' (Only.set (X := fun k => k = A ∨ k = A + 1) (b := A + 1) (Or.inr rfl) _ 7 a11)).trans' (Only.set (X := fun k => k = A ∨ k = A + 1) (b := A + 1) (Or.inr rfl) _ 8 a12)).trans' (Only.set (X := fun k => k = A ∨ k = A + 1) (b := A + 1) (Or.inr rfl) _ 9 a13))
theorem byte_str (l : List UInt8) (c : UInt8) : strB l ++ (⟨#[c]⟩ : ByteArray) = strB (l ++ [c]) := strB_snoc l c
set_option maxHeartbeats 8000000 in
set_option maxRecDepth 100000 in
theorem ended_any (r : Rs) (fa : Option Addr) (fn fc : Nat) (c : UInt8) (w : World) (h : RsOk r) (hr : ReadsQ w (.slice fa fn fc) r.fs) (hs : Sane (.slice fa fn fc)) :
    Calls Tryd.prog 70 #[stV r (.slice fa fn fc), .int .u8 (c.toNat : Int)] w (StPost (.slice fa fn fc) (endedR r c) w) := by
  have b1 := h.p
  have b6 := h.se
  have b7 := h.tx
  have b8 := h.fs
  have hfn : fn = r.fs.length := by obtain ⟨_, _, hv, _⟩ := hr; simp only [Value.slice.injEq] at hv; exact hv.2.1
  have HFN := Lib.hid hfn
  have hfl : fn ≤ 64 := by omega
  clear hfn
  have hzx : (strB r.tx).size ≤ 8192 := by rw [strB_size]; omega
  have HR := Lib.hid hr
  have HS := Lib.hid hs
  clear h hr hs
  have BAD := fun r n W => badK_any r fa fn fc n W
  have hq3 : ((c.toNat : Int) == 10) = decide (c.toNat = 10) := by
    by_cases h : c.toNat = 10
    · rw [h]; rfl
    · rw [decide_eq_false h, beq_eq_false_iff_ne]; omega
  have hq4 : ((r.p : Int) == 7) = decide (r.p = 7) := by
    by_cases h : r.p = 7
    · rw [h]; rfl
    · rw [decide_eq_false h, beq_eq_false_iff_ne]; omega
  by_cases q1 : r.se = 8192 ∨ c.toNat = 0 ∨ ((decide (c.toNat = 10)) != decide (r.p = 7)) = true
  · have e1 : endedR r c = badR r 34 := by unfold endedR; rw [if_pos q1]
    rw [e1]
    have Z : ((r.se : Int) == 8192) = true ∨ (((r.se : Int) == 8192) = false ∧ ((c.toNat : Int) == 0) = true) ∨ (((r.se : Int) == 8192) = false ∧ ((c.toNat : Int) == 0) = false ∧ ((c.toNat : Int) == 10) = true ∧ ((r.p : Int) == 7) = false) ∨ (((r.se : Int) == 8192) = false ∧ ((c.toNat : Int) == 0) = false ∧ ((c.toNat : Int) == 10) = false ∧ ((r.p : Int) == 7) = true) := by
      rw [hq3, hq4]
      by_cases y1 : r.se = 8192
      · exact .inl (by rw [y1]; rfl)
      · have x1 : ((r.se : Int) == 8192) = false := by rw [beq_eq_false_iff_ne]; omega
        by_cases y2 : c.toNat = 0
        · exact .inr (.inl ⟨x1, by rw [y2]; rfl⟩)
        · have x2 : ((c.toNat : Int) == 0) = false := by rw [beq_eq_false_iff_ne]; omega
          rcases q1 with q | q | q
          · exact absurd q y1
          · exact absurd q y2
          · by_cases y3 : c.toNat = 10
            · rw [decide_eq_true y3] at q ⊢
              by_cases y4 : r.p = 7
              · rw [decide_eq_true y4] at q; cases q
              · exact .inr (.inr (.inl ⟨x1, x2, rfl, decide_eq_false y4⟩))
            · rw [decide_eq_false y3] at q ⊢
              by_cases y4 : r.p = 7
              · exact .inr (.inr (.inr ⟨x1, x2, rfl, decide_eq_true y4⟩))
              · rw [decide_eq_false y4] at q; cases q
    clear q1 hq3 hq4 e1
    rcases Z with z1 | ⟨z1, z2⟩ | ⟨z1, z2, z3, z4⟩ | ⟨z1, z2, z3, z4⟩
    all_goals
      go_enter Tryd.func70, Tryd.ntmps70
      go_wp2_with fail
      refine (BAD r 34 _).mono ?_
      rintro e w1 ⟨rfl, hB1⟩
      obtain ⟨c0, f0, c1, f1, c2, f2, c3, f3, c4, f4, c5, f5, c6, f6, c7, f7, c8, f8, c9, f9⟩ := ten_kept w hB1
      have hBB := (((Below.refl _ w).alloc (Nat.le_refl _) _).alloc (by simp) _).trans (hB1.mono (by simp; omega))
      go_wp2_with fail
      refine bodyPost_ret (v := stV (badR r 34) (.slice fa fn fc)) (by simp [results, Tryd.results70, go_sem, badR, c0, c1, c2, c3, c4, c5, c6, c7, c8, c9]) rfl ?_
      exact .same HR.out HS.out rfl rfl (below_ten hBB _ _ _ _ _ _ _ _ _ _)
  · have E1 : endedR r c = if c.toNat = 13 then { r with p := 7, se := r.se + 1 }
      else if c.toNat ≠ 10 then { r with tx := r.tx ++ [c], se := r.se + 1 }
      else if r.tx = [] then { r with p := 8, se := r.se + 1 }
      else if ((cutC 58 r.tx).2.2 = false ∨ trB (cutC 58 r.tx).1 (cutC 58 r.tx).2.1 = false) ∨ r.fs.length = 64 then badR r 34
      else { r with fs := r.fs ++ [(nameR (cutC 58 r.tx).1, valueR (cutC 58 r.tx).2.1)], p := 6, tx := [], se := r.se + 1 } := by unfold endedR; rw [if_neg q1]
    have z1 : ((r.se : Int) == 8192) = false := by rw [beq_eq_false_iff_ne]; exact fun e => q1 (.inl (by omega))
    have z2 : ((c.toNat : Int) == 0) = false := by rw [beq_eq_false_iff_ne]; exact fun e => q1 (.inr (.inl (by omega)))
    have hse : r.se ≠ 8192 := fun e => q1 (.inl e)
    by_cases q10 : c.toNat = 10
    · have hp7 : r.p = 7 := by
        by_cases h : r.p = 7
        · exact h
        · exact absurd (.inr (.inr (by rw [decide_eq_true q10, decide_eq_false h]; rfl))) q1
      have z3 : ((c.toNat : Int) == 10) = true := by rw [q10]; rfl
      have z4 : ((r.p : Int) == 7) = true := by rw [hp7]; rfl
      have z5 : ((c.toNat : Int) == 13) = false := by rw [q10]; rfl
      rw [if_neg (by omega), if_neg (by simp [q10])] at E1
      by_cases q2 : r.tx = []
      · rw [if_pos q2] at E1
        rw [E1]
        have z6 : ((strB r.tx).toList == ([] : List UInt8)) = true := by rw [ByteArray.toList_eq, strB_list, q2]; rfl
        clear E1 q1 q10 hq3 hq4 q2 hp7
        go_enter Tryd.func70, Tryd.ntmps70
        go_wp2_with fail
        refine bodyPost_ret (v := stV { r with p := 8, se := r.se + 1 } (.slice fa fn fc)) (by simp [results, Tryd.results70, go_sem]) rfl ?_
        exact .same HR.out HS.out rfl rfl (((Below.refl _ _).alloc (Nat.le_refl _) _).alloc (by simp) _)
      · rw [if_neg q2] at E1
        have z6 : ((strB r.tx).toList == ([] : List UInt8)) = false := by rw [ByteArray.toList_eq, strB_list, beq_eq_false_iff_ne]; exact q2
        have LN := fun W => line_any (strB r.tx) W (by omega)
        rw [strB_list] at LN
        by_cases q3 : (cutC 58 r.tx).2.2 = false ∨ trB (cutC 58 r.tx).1 (cutC 58 r.tx).2.1 = false
        · obtain ⟨a, b, hl⟩ := lineV_no q3
          rw [hl] at LN
          rw [if_pos (.inl q3)] at E1
          rw [E1]
          have HLN := Lib.hid LN
          clear E1 q1 q10 hq3 hq4 q2 hp7 q3 hl LN
          go_enter Tryd.func70, Tryd.ntmps70
          go_wp2_with fail
          refine (HLN.out _).mono ?_
          rintro e w1 ⟨rfl, hB1⟩
          have hs1 := hB1.size
          obtain ⟨d0, g0, d1, g1, d2, g2, d3, g3, d4, g4, d5, g5, d6, g6, d7, g7, d8, g8, d9, g9⟩ := box_kept10 w (hB1.alloc hs1 (.cells #[.string a, .string b] 67))
          clear hs1
          go_wp2_with fail
          refine (BAD r 34 _).mono ?_
          rintro e w2 ⟨rfl, hB2⟩
          have hB12 := hB1.trans ((((below_new w1 _).trans (hB2.mono (by simp))).mono hB1.size))
          obtain ⟨c0, f0, c1, f1, c2, f2, c3, f3, c4, f4, c5, f5, c6, f6, c7, f7, c8, f8, c9, f9⟩ := ten_kept w hB12
          have hBB := (((Below.refl _ w).alloc (Nat.le_refl _) _).alloc (by simp) _).trans (hB12.mono (by simp; omega))
          go_wp2_with fail
          refine bodyPost_ret (v := stV (badR r 34) (.slice fa fn fc)) (by simp [results, Tryd.results70, go_sem, badR, c0, c1, c2, c3, c4, c5, c6, c7, c8, c9]) rfl ?_
          exact .same HR.out HS.out rfl rfl (below_ten hBB _ _ _ _ _ _ _ _ _ _)
        · have hl := lineV_yes q3
          rw [hl] at LN
          have HLN := Lib.hid LN
          by_cases q4 : r.fs.length = 64
          · rw [if_pos (.inr q4)] at E1
            rw [E1]
            have z7 : ((fn : Int) == 64) = true := by rw [HFN.out, q4]; rfl
            generalize strB (nameR (cutC 58 r.tx).1) = a at *
            generalize strB (valueR (cutC 58 r.tx).2.1) = b at *
            clear E1 q1 q10 hq3 hq4 q2 hp7 q3 q4 hl LN
            go_enter Tryd.func70, Tryd.ntmps70
            go_wp2_with fail
            refine (HLN.out _).mono ?_
            rintro e w1 ⟨rfl, hB1⟩
            have hs1 := hB1.size
            obtain ⟨d0, g0, d1, g1, d2, g2, d3, g3, d4, g4, d5, g5, d6, g6, d7, g7, d8, g8, d9, g9⟩ := box_kept10 w (hB1.alloc hs1 (.cells #[.string a, .string b] 67))
            clear hs1
            go_wp2_with fail
            refine (BAD r 34 _).mono ?_
            rintro e w2 ⟨rfl, hB2⟩
            have hB12 := hB1.trans ((((below_new w1 _).trans (hB2.mono (by simp))).mono hB1.size))
            obtain ⟨c0, f0, c1, f1, c2, f2, c3, f3, c4, f4, c5, f5, c6, f6, c7, f7, c8, f8, c9, f9⟩ := ten_kept w hB12
            have hBB := (((Below.refl _ w).alloc (Nat.le_refl _) _).alloc (by simp) _).trans (hB12.mono (by simp; omega))
            go_wp2_with fail
            refine bodyPost_ret (v := stV (badR r 34) (.slice fa fn fc)) (by simp [results, Tryd.results70, go_sem, badR, c0, c1, c2, c3, c4, c5, c6, c7, c8, c9]) rfl ?_
            exact .same HR.out HS.out rfl rfl (below_ten hBB _ _ _ _ _ _ _ _ _ _)
          · rw [if_neg (by rintro (h | h); exact q3 h; exact q4 h)] at E1
            rw [E1]
            have z7 : ((fn : Int) == 64) = false := by rw [beq_eq_false_iff_ne, HFN.out]; omega
            generalize nameR (cutC 58 r.tx).1 = nm at *
            generalize valueR (cutC 58 r.tx).2.1 = vl at *
            clear E1 q1 q10 hq3 hq4 q2 hp7 q3 q4 hl LN
            obtain ⟨i0, hi, hz0, hz1, hz2⟩ := info_parts Tryd.infoGK
            go_enter Tryd.func70, Tryd.ntmps70
            go_wp2_with fail
            refine (HLN.out _).mono ?_
            rintro e w1 ⟨rfl, hB1⟩
            have hs1 := hB1.size
            have hBx := hB1.alloc hs1 (.cells #[.string (strB nm), .string (strB vl)] 67)
            have hb0 : Below w.heap.size w (w1.alloc (.cells #[.string (strB nm), .string (strB vl)] 67)) := (((Below.refl _ w).alloc (Nat.le_refl _) _).alloc (by simp) _).trans (hBx.mono (by simp; omega))
            obtain ⟨d0, g0, d1, g1, d2, g2, d3, g3, d4, g4, d5, g5, d6, g6, d7, g7, d8, g8, d9, g9⟩ := box_kept10 w hBx
            have x0 : (w1.alloc (.cells #[.string (strB nm), .string (strB vl)] 67)).cell? ⟨w1.heap.size, 0, none⟩ = some (.string (strB nm)) := by rw [World.cell?_alloc_at _ _ _ _ rfl]; rfl
            have x1 : (w1.alloc (.cells #[.string (strB nm), .string (strB vl)] 67)).cell? ⟨w1.heap.size, 1, none⟩ = some (.string (strB vl)) := by rw [World.cell?_alloc_at _ _ _ _ rfl]; rfl
            have hr0 := HR.out.below hb0
            have HB0 := Lib.hid hb0
            have HBX := Lib.hid hBx
            have HR0 := Lib.hid hr0
            clear hr0
            have hM : w1.heap.size < (w1.alloc (.cells #[.string (strB nm), .string (strB vl)] 67)).heap.size := by simp
            have hA : w.heap.size < w1.heap.size := by simp at hs1; omega
            generalize hW0 : w1.alloc (.cells #[.string (strB nm), .string (strB vl)] 67) = W0 at *
            clear hs1 hb0 hB1 hBx
            go_wp2_with fail
            have hAW : w.heap.size < W0.heap.size := Nat.lt_trans hA hM
            have hAW1 : w.heap.size + 1 < W0.heap.size := by omega
            go_cut [5] (fun u5 wx => ∃ va vc w6, u5 = .pointer (some ⟨w1.heap.size, 0, none⟩) ∧ wx = w6.setCell ⟨w.heap.size, 8, none⟩ (.slice va ([] ++ r.fs ++ [(nm, vl)]).length vc) ∧ Below W0.heap.size W0 w6 ∧ OwnsP 67 W0.heap.size w6 (.slice va ([] ++ r.fs ++ [(nm, vl)]).length vc) ([] ++ r.fs ++ [(nm, vl)]))
            case first =>
              go_region_law (first
                  | (refine step_appendE hi hz0 hz1 hz2 Tryd.underlying22 rfl (.tmp 40) (.tmp 42) (by rfl) _ (.slice fa fn fc) (by rfl) (by rfl) (B := W0.heap.size) (ps := []) (by first | exact OwnsP.below (own_emptyE (W := W0) _ rfl (Nat.le_refl _)) (Below.refl _ _).drew | exact OwnsP.below (own_emptyE (W := W0) _ rfl (Nat.le_refl _)) (bel_allocE (Below.refl _ _).drew) | exact OwnsP.below (own_emptyE (W := W0) _ rfl (Nat.le_refl _)) (bel_allocE (Below.refl _ _).drew).drew | exact OwnsP.below (own_emptyE (W := W0.alloc _) _ (by simp) (by simp)) (Below.refl _ _).drew | exact OwnsP.below (own_emptyE (W := (W0.alloc _).drew) _ (by simp) (by simp)) (Below.refl _ _).drew) (HR0.out.below (by (repeat' (first | exact Below.refl _ _ | (with_reducible apply bel_allocE) | (with_reducible apply Below.drew))))) HS.out (by (simp <;> omega)) (by (simp <;> omega)) ?_; intro v3 w5 hO5 hg5; have hb5 : Below W0.heap.size W0 w5 := grownE (by (repeat' (first | exact Below.refl _ _ | (with_reducible apply bel_allocE) | (with_reducible apply Below.drew)))) hg5 (by (simp <;> omega)); have y0 := (hb5.cell (p := ⟨w1.heap.size, 0, none⟩) hM).trans x0; have y1 := (hb5.cell (p := ⟨w1.heap.size, 1, none⟩) hM).trans x1)
                  | (refine step_appendE hi hz0 hz1 hz2 Tryd.underlying22 rfl (.tmp 43) (.tmp 45) (by rfl) v3 _ (by rfl) (by rfl) (B := W0.heap.size) (qs := [(nm, vl)]) (by first | exact hO5 | exact OwnsP.below hO5 (below_new _ _) | exact OwnsP.below hO5 (below_new _ _).drew) (by first | exact pair_atE (by simp) _ _ _ | exact ReadsQ.below (pair_atE (by simp) _ _ _) (Below.refl _ _).drew | exact pair_far (pair_atE (by simp) _ _ _) hg5 (by intro h; have := Option.some.inj h; simp at this <;> omega) | exact pair_far (ReadsQ.below (pair_atE (by simp) _ _ _) (Below.refl _ _).drew) hg5 (by intro h; have := Option.some.inj h; simp at this <;> omega) | exact pair_far (ReadsQ.below (pair_atE (by simp) _ _ _) (below_new _ _).drew) hg5 (by intro h; have := Option.some.inj h; simp at this <;> omega) | exact pair_far (ReadsQ.below (pair_atE (by simp) _ _ _) (bel_allocE (Below.refl _ _).drew).drew) hg5 (by intro h; have := Option.some.inj h; simp at this <;> omega)) (sane_oneE _) (by simp; omega) (by have := hb5.size; simp; try omega) ?_; intro v4 w6 hO6 hg6; have hb6 : Below W0.heap.size W0 w6 := Below.grown (by (repeat' (first | exact hb5 | (with_reducible apply bel_allocE) | (with_reducible apply Below.drew)))) hg6 (by have := hb5.size; simp; try omega) (fun q hq => (World.ownsRow.lt hO5 q hq).1); have hs6 : Below w.heap.size w w6 := HB0.out.trans (hb6.mono HB0.out.size); have k8 := (hb6.cell (p := ⟨w.heap.size, 8, none⟩) hAW).trans d8; have q8 := (hb6.frozen (p := ⟨w.heap.size, 8, none⟩) hAW).trans g8; have q0f := (hb6.frozen (p := ⟨w.heap.size, 0, none⟩) hAW).trans g0; have q6f := (hb6.frozen (p := ⟨w.heap.size, 6, none⟩) hAW).trans g6; have q7f := (hb6.frozen (p := ⟨w.heap.size, 7, none⟩) hAW).trans g7; obtain ⟨va, vc, rfl⟩ := own_slice hO6))
              all_goals (try go_wp2_with fail)
              all_goals go_meet
              all_goals exact ⟨va, vc, w6, rfl, by simp, hb6, hO6⟩
            case rest =>
              obtain ⟨va, vc, w6, rfl, rfl, hb6, hO6⟩ := hcut
              have hs6 : Below w.heap.size w w6 := HB0.out.trans (hb6.mono HB0.out.size)
              have hB6 := HBX.out.trans (hb6.mono HBX.out.size)
              clear d0 g0 d1 g1 d2 g2 d3 g3 d4 g4 d5 g5 d6 g6 d7 g7 d8 g8 d9 g9 x0 x1
              obtain ⟨d0, g0, d1, g1, d2, g2, d3, g3, d4, g4, d5, g5, d6, g6, d7, g7, d8, g8, d9, g9⟩ := box_kept10 w hB6
              obtain ⟨c0, f0, c1, f1, c2, f2, c3, f3, c4, f4, c5, f5, c6, f6, c7, f7, c8, f8, c9, f9⟩ := ten_kept w hB6
              rw [List.nil_append] at hO6
              rw [show (r.fs ++ [(nm, vl)]).length = r.fs.length + 1 by simp] at hO6
              have HO6 := Lib.hid hO6
              have HS6 := Lib.hid hs6
              clear hO6 hs6 hb6 hB6
              go_wp2_with fail
              refine bodyPost_ret (v := stV { r with fs := r.fs ++ [(nm, vl)], p := 6, tx := [], se := r.se + 1 } (.slice va (r.fs.length + 1) vc)) (by simp [results, Tryd.results70, go_sem, strB, c0, c1, c2, c3, c4, c5, c6, c7, c8, c9]) rfl ?_
              have h := fun wF hF => ended_post (fv := .slice fa fn fc) (wF := wF) (r := r) HO6.out HS6.out hAW1 hF
              exact h _ (only_ended _ _ _ _ _ _ _ _ _ _ _ _ _ _ _ _)
    · have hp7 : r.p ≠ 7 := fun h => q1 (.inr (.inr (by rw [decide_eq_false q10, decide_eq_true h]; rfl)))
      have z3 : ((c.toNat : Int) == 10) = false := by rw [beq_eq_false_iff_ne]; omega
      have z4 : ((r.p : Int) == 7) = false := by rw [beq_eq_false_iff_ne]; omega
      by_cases q13 : c.toNat = 13
      · rw [if_pos q13] at E1
        rw [E1]
        have z5 : ((c.toNat : Int) == 13) = true := by rw [q13]; rfl
        clear E1 q1 q10 hq3 hq4 q13 hp7
        go_enter Tryd.func70, Tryd.ntmps70
        go_wp2_with fail
        refine bodyPost_ret (v := stV { r with p := 7, se := r.se + 1 } (.slice fa fn fc)) (by simp [results, Tryd.results70, go_sem]) rfl ?_
        exact .same HR.out HS.out rfl rfl (((Below.refl _ _).alloc (Nat.le_refl _) _).alloc (by simp) _)
      · rw [if_neg q13, if_pos q10] at E1
        rw [E1]
        have z5 : ((c.toNat : Int) == 13) = false := by rw [beq_eq_false_iff_ne]; omega
        have hcv : (convert 27 9 (.slice (some ⟨w.heap.size + 1 + 1, 0, none⟩) 1 1)).run Tryd.prog (((w.alloc (.cells #[.int .i64 (r.p : Int), .int .i64 (r.d : Int), .int .i64 (r.n : Int), .int .i64 (r.ln : Int), .int .i64 (r.tt : Int), .int .i64 (r.lf : Int), .int .i64 (r.se : Int), .string (strB r.tx), .slice fa fn fc, .int .i64 (r.bad : Int)] 47)).alloc (.cells #[.int .i64 0, .int .i64 0, .int .i64 0, .int .i64 0, .int .i64 0, .int .i64 0, .int .i64 0, .string ⟨#[]⟩, .slice none 0 0, .int .i64 0] 47)).alloc (.cells #[.int .u8 (c.toNat : Int)] 5)) = .ok (.string ⟨#[c]⟩) (((w.alloc (.cells #[.int .i64 (r.p : Int), .int .i64 (r.d : Int), .int .i64 (r.n : Int), .int .i64 (r.ln : Int), .int .i64 (r.tt : Int), .int .i64 (r.lf : Int), .int .i64 (r.se : Int), .string (strB r.tx), .slice fa fn fc, .int .i64 (r.bad : Int)] 47)).alloc (.cells #[.int .i64 0, .int .i64 0, .int .i64 0, .int .i64 0, .int .i64 0, .int .i64 0, .int .i64 0, .string ⟨#[]⟩, .slice none 0 0, .int .i64 0] 47)).alloc (.cells #[.int .u8 (c.toNat : Int)] 5)) := by
          have := conv_one (c.toNat : Int) c rfl ((w.alloc (.cells #[.int .i64 (r.p : Int), .int .i64 (r.d : Int), .int .i64 (r.n : Int), .int .i64 (r.ln : Int), .int .i64 (r.tt : Int), .int .i64 (r.lf : Int), .int .i64 (r.se : Int), .string (strB r.tx), .slice fa fn fc, .int .i64 (r.bad : Int)] 47)).alloc (.cells #[.int .i64 0, .int .i64 0, .int .i64 0, .int .i64 0, .int .i64 0, .int .i64 0, .int .i64 0, .string ⟨#[]⟩, .slice none 0 0, .int .i64 0] 47))
          rw [show ((w.alloc (.cells #[.int .i64 (r.p : Int), .int .i64 (r.d : Int), .int .i64 (r.n : Int), .int .i64 (r.ln : Int), .int .i64 (r.tt : Int), .int .i64 (r.lf : Int), .int .i64 (r.se : Int), .string (strB r.tx), .slice fa fn fc, .int .i64 (r.bad : Int)] 47)).alloc (.cells #[.int .i64 0, .int .i64 0, .int .i64 0, .int .i64 0, .int .i64 0, .int .i64 0, .int .i64 0, .string ⟨#[]⟩, .slice none 0 0, .int .i64 0] 47)).heap.size = w.heap.size + 1 + 1 by simp] at this
          exact this
        have hbs := byte_str r.tx c
        have HBS := Lib.hid hbs
        clear E1 q1 q10 hq3 hq4 q13 hp7 hbs
        go_enter Tryd.func70, Tryd.ntmps70
        go_wp2_with fail
        rw [HBS.out]
        refine bodyPost_ret (v := stV { r with tx := r.tx ++ [c], se := r.se + 1 } (.slice fa fn fc)) (by simp [results, Tryd.results70, go_sem]) rfl ?_
        exact .same HR.out HS.out rfl rfl ((((Below.refl _ _).alloc (Nat.le_refl _) _).alloc (by simp) _).alloc (by simp; omega) _)
end Go.Proofs.YtikkaakgehaenaaDoor
