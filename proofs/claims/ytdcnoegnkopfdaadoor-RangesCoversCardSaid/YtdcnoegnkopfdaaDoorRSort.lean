/- slices.Clone and slices.SortFunc at slices of ranges, in plain words. -/
import Derived.Test.YtdcnoegnkopfdaaDoorGen
import Derived.Test.YtdcnoegnkopfdaaDoorRParse
import Derived.Shelf.SlSortCmp.NoneTotal
namespace Go.Proofs.YtdcnoegnkopfdaaDoor
open Go.RowKit Go.Shelf Go.Lib Go.Sort

theorem flatI_one (ps : List Rg) : ∀ u ∈ flatI ps, u.oneCell' = true := by
  intro u hu
  obtain ⟨p, _, hp⟩ := List.mem_flatMap.mp hu
  simp [encR] at hp
  rcases hp with rfl | rfl <;> rfl
set_option maxHeartbeats 1000000 in
set_option maxRecDepth 100000 in
theorem rclone_any (v : Value) (l : List Rg) (B : Nat) (w : World) (hO : OwnsI 46 B w v l) (hl : l.length ≤ 1000000) :
    Calls Tryd.prog 52 #[v] w fun e w' => ∃ v', e = .returned v' ∧ OwnsI 46 w.heap.size w' v' l ∧ Below w.heap.size w w' := by
  obtain ⟨i0, hi, hz0, hz1, hz2⟩ := info_parts Tryd.infoR
  have h0 := hO
  rcases hO with ⟨hlen, ⟨rfl, hn⟩ | ⟨g, cap, cur, rfl, hb, hg, hn, hm, hs, ht⟩⟩
  · have : l = [] := List.eq_nil_of_length_eq_zero hn
    subst this
    refine (AnyE.slices_Clone_nil Tryd.cloneR 0 0 w).mono ?_
    rintro e w' ⟨rfl, rfl⟩
    exact ⟨_, rfl, OwnsI.nil _ _ _, Below.refl _ _⟩
  · refine (AnyE.slices_Clone Tryd.cloneR i0 (.agg #[.int .i64 0, .int .i64 0]) 2 16 hi hz0 hz1 hz2 rfl (by decide) Tryd.sizeOf46 g 0 l.length cap (flatI l) w (by rw [flatI_len]) (by unfold maxLen; omega) (by omega) (fun j u hj => ?_) (flatI_one l)).mono ?_
    · have hj' : j < l.length * 2 := by
        have := (List.getElem?_eq_some_iff.mp hj).1
        rw [flatI_len] at this; exact this
      rw [Nat.zero_add, World.ownsRow.cellAt h0 j hj', hj]
    · rintro e w' ⟨v', rfl, ho, _, hB⟩
      exact ⟨v', rfl, ho, hB⟩
theorem flat_flatK (l : List Rg) (t : Nat) (h : t < l.length * 2) : (flatI l)[t]? = some (flatK encR 2 l.toArray)[t]! := by
  obtain ⟨q, r, hr, rfl⟩ : ∃ q r, r < 2 ∧ t = q * 2 + r := ⟨t / 2, t % 2, by omega, by omega⟩
  have hq : q < l.length := by omega
  have hp : l[q]? = some l[q] := by simp [hq]
  have hf := flatI_at l q _ hp
  rw [get_flatK _ _ _ _ (by simpa using h)]
  have e1 : (q * 2 + r) / 2 = q := by omega
  have e2 : (q * 2 + r) % 2 = r := by omega
  have e3 : l.toArray[q]! = l[q] := by rw [getElem!_pos _ q (by simpa using hq)]; simp
  rw [e1, e2, e3]
  match r, hr with
  | 0, _ => rw [Nat.add_zero, hf.1]; rfl
  | 1, _ => rw [hf.2]; rfl
theorem holdsR {B g cap : Nat} {w : World} {l : List Rg} (h : OwnsI 46 B w (.slice (some ⟨g, 0, none⟩) l.length cap) l) : HoldsK encR 2 w g 0 l.toArray := by
  intro j hj
  have hj' : j < l.length * 2 := by simpa using hj
  refine ⟨?_, ?_⟩
  · rw [Nat.zero_add, World.ownsRow.cellAt h j hj', flat_flatK l j hj']; rfl
  · rw [Nat.zero_add]; exact World.ownsRow.frozenAt h j
theorem grownBy_sortR {w : World} {g n : Nat} {os : Array Obj} (d : Array Rg) : w.grownBy (sortWorldK encR 2 w g 0 n d os) (some g) := by
  refine ⟨rfl, rfl, rfl, by simp [sortWorldK, putRowK, putRow, mapBlock, Sort.ahead, grow], fun k hk hne => ?_⟩
  unfold sortWorldK putRowK
  rw [heap_grow_old _ _ (by simpa [putRow, mapBlock, Sort.ahead] using hk)]
  have : g ≠ k := fun e => hne (by rw [e])
  simp [putRow, mapBlock, Sort.ahead, Array.getElem?_modify, this]
theorem ltFrom (x y : Rg) : ltOf (fun x y : Rg => Lib.compareInt x.1 y.1) x y = decide (x.1 < y.1) := by
  unfold ltOf Lib.compareInt
  by_cases h1 : x.1 < y.1
  · simp [h1]
  · by_cases h2 : y.1 < x.1 <;> simp [h1, h2]
theorem swoFrom : SWO (ltOf fun x y : Rg => Lib.compareInt x.1 y.1) where
  irrefl x := by rw [ltFrom]; simp
  trans x y z h1 h2 := by rw [ltFrom] at *; simp at *; omega
  ntrans x y z h1 h2 := by rw [ltFrom] at *; simp at *; omega
set_option maxHeartbeats 1000000 in
set_option maxRecDepth 100000 in
theorem cmpFrom (x y : Rg) (W : World) : Calls Tryd.prog 54 #[.agg (encR x).toArray, .agg (encR y).toArray] W fun e w' => e = .returned (.int .i64 (Lib.compareInt x.1 y.1)) ∧ ∃ q os', w' = grow (W.drewN q) os' := by
  have hcon := fun W' => Tryd.cmp_Compare_int x.1 y.1 W'
  generalize Lib.compareInt x.1 y.1 = r at hcon ⊢
  obtain ⟨a, b⟩ := x
  obtain ⟨c, d⟩ := y
  show Calls Tryd.prog 54 #[.agg #[.int .i64 a, .int .i64 b], .agg #[.int .i64 c, .int .i64 d]] W _
  go_enter Tryd.func54, Tryd.ntmps54
  go_wp2_with fail
  refine (hcon _).mono ?_
  rintro e w' ⟨rfl, rfl⟩
  go_wp2_with fail
  go_ret
  exact ⟨rfl, 0, _, by rw [alloc_eq_grow, alloc_eq_grow, grow_grow]; rfl⟩
def SortPost (B : Nat) (v : Value) (l : List Rg) (w : World) (e : Ending) (w' : World) : Prop :=
  e = .returned (.tuple #[]) ∧ ∃ qs : List Rg, (∀ r, r ∈ l ↔ r ∈ qs) ∧ qs.length = l.length ∧ qs.Pairwise (fun a b => a.1 ≤ b.1) ∧ ReadsI w' v qs ∧ Below B w w'
set_option maxHeartbeats 1000000 in
set_option maxRecDepth 100000 in
theorem rsort_any (v : Value) (l : List Rg) (B : Nat) (w : World) (hB : B ≤ w.heap.size) (hO : OwnsI 46 B w v l) (hl : l.length ≤ 1000000) :
    Calls Tryd.prog 53 #[v, .func (.func 54) #[] #[]] w (SortPost B v l w) := by
  have h0 := hO
  rcases hO with ⟨hlen, ⟨rfl, hn⟩ | ⟨g, cap, cur, rfl, hb, hg, hn, hm, hs, ht⟩⟩
  · have : l = [] := List.eq_nil_of_length_eq_zero hn
    subst this
    refine (AnyF.slices_SortFunc_none Tryd.sortR none 0 (.func (.func 54) #[] #[]) w).mono ?_
    rintro e w' ⟨rfl, rfl⟩
    exact ⟨rfl, [], fun _ => Iff.rfl, rfl, List.Pairwise.nil, (OwnsI.nil 46 0 _).reads, Below.refl _ _⟩
  · have eg : ∀ args w, (callFunc 54 args).run Tryd.prog w = .ok (.enter 54 args) w := enters_of Tryd.func54 (by kernel_rfl) rfl
    have hgs := (World.ownsRow.lt h0 g rfl).2
    have hcon := AnyQ.slices_SortFunc Tryd.sortR 2 Tryd.isAgg46 Tryd.sizeOf46 encR (fun _ => rfl) (fun x v hv => by simp [encR] at hv; rcases hv with rfl | rfl <;> rfl) (fun x y => Lib.compareInt x.1 y.1) swoFrom 54 #[] g 0 cap l.toArray w eg (fun _ _ _ _ x y => cmpFrom x y _) (holdsR h0) hgs (by simp; omega)
    have hsz : l.toArray.size = l.length := by simp
    rw [hsz] at hcon
    refine Calls.mono hcon ?_
    rintro e w' ⟨rfl, d', n, os, hp, hsd, rfl⟩
    obtain ⟨hp1, _, hp3⟩ := hp
    have hd : d'.size = l.length := by rw [hp1]; simp
    have hperm : d'.toList.Perm l := by
      have h3 := hp3
      rw [show l.length = d'.size from hd.symm] at h3
      have e1 : d'.extract 0 d'.size = d' := by simp
      have e2 : l.toArray.extract 0 d'.size = l.toArray := by rw [hd, ← hsz]; simp
      rw [e1, e2] at h3
      exact h3
    have hH := holdsK_sortWorldK encR 2 w g 0 n l.toArray d' os hgs (holdsR h0) (by rw [hd]; simp)
    refine ⟨rfl, d'.toList, fun r => hperm.mem_iff.symm, by simpa using hd, ?_, ⟨_, cap, by rw [show d'.toList.length = l.length by simpa using hd], fun j p hj => ?_⟩, (Below.refl B w).grown (grownBy_sortR d') hB (fun k hk => by injection hk with hk; omega)⟩
    · rw [List.pairwise_iff_getElem]
      intro i j hi hj hij
      have h1 := hsd i j (Nat.zero_le _) hij (by simpa [hd] using hj)
      rw [ltFrom] at h1
      have ei : d'[i]! = d'.toList[i] := by rw [getElem!_pos _ i (by simpa using hi)]; simp
      have ej : d'[j]! = d'.toList[j] := by rw [getElem!_pos _ j (by simpa using hj)]; simp
      rw [ei, ej] at h1
      simp only [decide_eq_false_iff_not] at h1
      omega
    · have hj' : j < d'.size := by simpa using (List.getElem?_eq_some_iff.mp hj).1
      have e : d'[j]! = p := by
        have := (List.getElem?_eq_some_iff.mp hj).2
        rw [getElem!_pos _ j hj', ← this]; simp
      have c0 := (hH.cell (c := 0) hj' (by decide)).1
      have c1 := (hH.cell (c := 1) hj' (by decide)).1
      rw [e] at c0 c1
      exact ⟨g, 0, rfl, lt_sortWorldK encR 2 w g 0 n d' os hgs, c0, c1⟩
end Go.Proofs.YtdcnoegnkopfdaaDoor
