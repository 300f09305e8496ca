/- What flags, durations and Format return: the canonical text of directives. -/
import Derived.Test.YtnjjjfbklgdgpaaDoorDNormal
import Derived.Test.YtnjjjfbklgdgpaaDoorTabIs
import Derived.Test.YtnjjjfbklgdgpaaDoorShelfI
import Derived.Test.YtnjjjfbklgdgpaaDoorFGet
import Derived.Test.YtnjjjfbklgdgpaaDoorJApp
import Derived.Test.YtnjjjfbklgdgpaaDoorKOnly
import Derived.Test.YtnjjjfbklgdgpaaDoorDFew
import Derived.Deep.RegionHeld3
namespace Go.Proofs.YtnjjjfbklgdgpaaDoor
open Go.RowKit

theorem itoaD_any (n : Int) (h1 : 0 ≤ n) (h2 : n ≤ 9223372036854775807) (w : World) (hT : HasTab w) :
    Calls Tryd.prog 34 #[.int .i64 n] w fun e w' => e = .returned (.string (strB (decT n))) ∧ Below w.heap.size w w' := by
  refine (Tryd.strconv_Itoa n (by omega) h2 w hT).mono ?_
  rintro e w' ⟨rfl, k, os, rfl⟩
  refine ⟨?_, Lib.below_grow _ _ (Nat.le_refl _) _ _⟩
  obtain ⟨m, rfl⟩ : ∃ m : Nat, n = m := ⟨n.toNat, by omega⟩
  rw [Lib.itoa_nonneg]; rfl
theorem flags_new (d : Dv) (w : World) (E : TypeId) : ∀ j p, (flagsD d)[j]? = some p → (w.alloc (.cells #[.string (strB nNS), .bool d.ns, .string (strB nNC), .bool d.nc, .string (strB nPR), .bool d.pr, .string (strB nPU), .bool d.pu, .string (strB nMR), .bool d.mr, .string (strB nOC), .bool d.oc] E)).cell? ⟨w.heap.size, j * 2, none⟩ = some (.string (strB p.1)) ∧ (w.alloc (.cells #[.string (strB nNS), .bool d.ns, .string (strB nNC), .bool d.nc, .string (strB nPR), .bool d.pr, .string (strB nPU), .bool d.pu, .string (strB nMR), .bool d.mr, .string (strB nOC), .bool d.oc] E)).cell? ⟨w.heap.size, j * 2 + 1, none⟩ = some (.bool p.2) := by
  intro j p h
  match j, h with
    | 0, h => simp [flagsD] at h; subst h; exact ⟨by rw [World.cell?_alloc_at _ _ _ _ rfl]; rfl, by rw [World.cell?_alloc_at _ _ _ _ rfl]; rfl⟩
    | 1, h => simp [flagsD] at h; subst h; exact ⟨by rw [World.cell?_alloc_at _ _ _ _ rfl]; rfl, by rw [World.cell?_alloc_at _ _ _ _ rfl]; rfl⟩
    | 2, h => simp [flagsD] at h; subst h; exact ⟨by rw [World.cell?_alloc_at _ _ _ _ rfl]; rfl, by rw [World.cell?_alloc_at _ _ _ _ rfl]; rfl⟩
    | 3, h => simp [flagsD] at h; subst h; exact ⟨by rw [World.cell?_alloc_at _ _ _ _ rfl]; rfl, by rw [World.cell?_alloc_at _ _ _ _ rfl]; rfl⟩
    | 4, h => simp [flagsD] at h; subst h; exact ⟨by rw [World.cell?_alloc_at _ _ _ _ rfl]; rfl, by rw [World.cell?_alloc_at _ _ _ _ rfl]; rfl⟩
    | 5, h => simp [flagsD] at h; subst h; exact ⟨by rw [World.cell?_alloc_at _ _ _ _ rfl]; rfl, by rw [World.cell?_alloc_at _ _ _ _ rfl]; rfl⟩
    | j + 6, h => simp [flagsD] at h
set_option maxHeartbeats 2000000 in
set_option maxRecDepth 100000 in
theorem flags_any (d : Dv) (w : World) :
    Calls Tryd.prog 32 #[dvV d] w fun e w' => ∃ g, e = .returned (.slice (some ⟨g, 0, none⟩) 6 6) ∧ g < w'.heap.size ∧ w.heap.size ≤ g ∧ w'.heap[g]? = some (.cells #[.string (strB nNS), .bool d.ns, .string (strB nNC), .bool d.nc, .string (strB nPR), .bool d.pr, .string (strB nPU), .bool d.pu, .string (strB nMR), .bool d.mr, .string (strB nOC), .bool d.oc] 61 (0, 0)) ∧ (∀ j p, (flagsD d)[j]? = some p → w'.cell? ⟨g, j * 2, none⟩ = some (.string (strB p.1)) ∧ w'.cell? ⟨g, j * 2 + 1, none⟩ = some (.bool p.2)) ∧ Below w.heap.size w w' := by
  have HB := Lib.hid (below_new w (.cells (dvC d) 28))
  have HD := Lib.hid (dvB_new w d 28)
  have hz : (w.alloc (.cells (dvC d) 28)).heap.size = w.heap.size + 1 := by simp
  go_enter Tryd.func32, Tryd.ntmps32
  go_upto_region 1 with fail
  change Code.wp _ _ _ _ (w.alloc (.cells (dvC d) 28))
  generalize (w.alloc (.cells (dvC d) 28)) = W at *
  obtain ⟨c0, c1, c2, c3, c4, c5, c6, c7, c8, c9, c10, c11, fr, lt⟩ := HD.out
  go_wp2_with fail
  go_ret
  have hN := flags_new d W 61
  have hH := heap_alloc_new W (.cells #[.string (strB nNS), .bool d.ns, .string (strB nNC), .bool d.nc, .string (strB nPR), .bool d.pr, .string (strB nPU), .bool d.pu, .string (strB nMR), .bool d.mr, .string (strB nOC), .bool d.oc] 61)
  rw [hz] at hN hH
  exact ⟨w.heap.size + 1, rfl, by simp; omega, by omega, hH, hN, HB.out.alloc (by omega) _⟩

theorem durations_new (d : Dv) (w : World) (E : TypeId) : ∀ j p, (timesD d)[j]? = some p → (w.alloc (.cells #[.string (strB nMA), .int .i64 d.ma, .string (strB nSA), .int .i64 d.sa, .string (strB nWS), .int .i64 d.ws, .string (strB nOE), .int .i64 d.oe, .string (strB nMS), .int .i64 d.ms, .string (strB nMF), .int .i64 d.mf] E)).cell? ⟨w.heap.size, j * 2, none⟩ = some (.string (strB p.1)) ∧ (w.alloc (.cells #[.string (strB nMA), .int .i64 d.ma, .string (strB nSA), .int .i64 d.sa, .string (strB nWS), .int .i64 d.ws, .string (strB nOE), .int .i64 d.oe, .string (strB nMS), .int .i64 d.ms, .string (strB nMF), .int .i64 d.mf] E)).cell? ⟨w.heap.size, j * 2 + 1, none⟩ = some (.int .i64 p.2) := by
  intro j p h
  match j, h with
    | 0, h => simp [timesD] at h; subst h; exact ⟨by rw [World.cell?_alloc_at _ _ _ _ rfl]; rfl, by rw [World.cell?_alloc_at _ _ _ _ rfl]; rfl⟩
    | 1, h => simp [timesD] at h; subst h; exact ⟨by rw [World.cell?_alloc_at _ _ _ _ rfl]; rfl, by rw [World.cell?_alloc_at _ _ _ _ rfl]; rfl⟩
    | 2, h => simp [timesD] at h; subst h; exact ⟨by rw [World.cell?_alloc_at _ _ _ _ rfl]; rfl, by rw [World.cell?_alloc_at _ _ _ _ rfl]; rfl⟩
    | 3, h => simp [timesD] at h; subst h; exact ⟨by rw [World.cell?_alloc_at _ _ _ _ rfl]; rfl, by rw [World.cell?_alloc_at _ _ _ _ rfl]; rfl⟩
    | 4, h => simp [timesD] at h; subst h; exact ⟨by rw [World.cell?_alloc_at _ _ _ _ rfl]; rfl, by rw [World.cell?_alloc_at _ _ _ _ rfl]; rfl⟩
    | 5, h => simp [timesD] at h; subst h; exact ⟨by rw [World.cell?_alloc_at _ _ _ _ rfl]; rfl, by rw [World.cell?_alloc_at _ _ _ _ rfl]; rfl⟩
    | j + 6, h => simp [timesD] at h
set_option maxHeartbeats 2000000 in
set_option maxRecDepth 100000 in
theorem durations_any (d : Dv) (w : World) :
    Calls Tryd.prog 33 #[dvV d] w fun e w' => ∃ g, e = .returned (.slice (some ⟨g, 0, none⟩) 6 6) ∧ g < w'.heap.size ∧ w.heap.size ≤ g ∧ w'.heap[g]? = some (.cells #[.string (strB nMA), .int .i64 d.ma, .string (strB nSA), .int .i64 d.sa, .string (strB nWS), .int .i64 d.ws, .string (strB nOE), .int .i64 d.oe, .string (strB nMS), .int .i64 d.ms, .string (strB nMF), .int .i64 d.mf] 65 (0, 0)) ∧ (∀ j p, (timesD d)[j]? = some p → w'.cell? ⟨g, j * 2, none⟩ = some (.string (strB p.1)) ∧ w'.cell? ⟨g, j * 2 + 1, none⟩ = some (.int .i64 p.2)) ∧ Below w.heap.size w w' := by
  have HB := Lib.hid (below_new w (.cells (dvC d) 28))
  have HD := Lib.hid (dvB_new w d 28)
  have hz : (w.alloc (.cells (dvC d) 28)).heap.size = w.heap.size + 1 := by simp
  go_enter Tryd.func33, Tryd.ntmps33
  go_upto_region 1 with fail
  change Code.wp _ _ _ _ (w.alloc (.cells (dvC d) 28))
  generalize (w.alloc (.cells (dvC d) 28)) = W at *
  obtain ⟨c0, c1, c2, c3, c4, c5, c6, c7, c8, c9, c10, c11, fr, lt⟩ := HD.out
  go_wp2_with fail
  go_ret
  have hN := durations_new d W 65
  have hH := heap_alloc_new W (.cells #[.string (strB nMA), .int .i64 d.ma, .string (strB nSA), .int .i64 d.sa, .string (strB nWS), .int .i64 d.ws, .string (strB nOE), .int .i64 d.oe, .string (strB nMS), .int .i64 d.ms, .string (strB nMF), .int .i64 d.mf] 65)
  rw [hz] at hN hH
  exact ⟨w.heap.size + 1, rfl, by simp; omega, by omega, hH, hN, HB.out.alloc (by omega) _⟩

theorem flagI_yes {l : List (List UInt8 × Bool)} {k : Nat} {p : List UInt8 × Bool} (h : l[k]? = some p) (hp : p.2 = true) : flagI (l.take (k + 1)) = flagI (l.take k) ++ [p.1] := by
  unfold flagI; rw [List.take_add_one, h, List.filter_append, List.map_append]; simp [hp]
theorem flagI_no {l : List (List UInt8 × Bool)} {k : Nat} {p : List UInt8 × Bool} (h : l[k]? = some p) (hp : p.2 = false) : flagI (l.take (k + 1)) = flagI (l.take k) := by
  unfold flagI; rw [List.take_add_one, h, List.filter_append, List.map_append]; simp [hp]
theorem timeI_yes {l : List (List UInt8 × Int)} {k : Nat} {p : List UInt8 × Int} (h : l[k]? = some p) (hp : p.2 ≠ -1) : timeI (l.take (k + 1)) = timeI (l.take k) ++ [timeL p.1 p.2] := by
  unfold timeI; rw [List.take_add_one, h, List.filter_append, List.map_append]; simp [hp]
theorem timeI_no {l : List (List UInt8 × Int)} {k : Nat} {p : List UInt8 × Int} (h : l[k]? = some p) (hp : p.2 = -1) : timeI (l.take (k + 1)) = timeI (l.take k) := by
  unfold timeI; rw [List.take_add_one, h, List.filter_append, List.map_append]; simp [hp]
theorem flagI_le (l : List (List UInt8 × Bool)) : (flagI l).length ≤ l.length := by unfold flagI; rw [List.length_map]; exact List.length_filter_le _ _
theorem timeI_le (l : List (List UInt8 × Int)) : (timeI l).length ≤ l.length := by unfold timeI; rw [List.length_map]; exact List.length_filter_le _ _
theorem decT_len (n : Int) (_h1 : 0 ≤ n) (h2 : n ≤ 2147483647) : (decT n).length ≤ 10 := by
  unfold decT
  obtain ⟨m, rfl⟩ : ∃ m : Nat, m = n.toNat := ⟨_, rfl⟩
  generalize hm : n.toNat = m at *
  have hm2 : m ≤ 2147483647 := by omega
  rw [Lib.decDigits_length]
  rcases Nat.lt_or_ge 10 (Lib.nDigits m) with h | h
  · exfalso
    have h3 : ∀ (k u : Nat), k < Lib.nDigits u → 10 ^ k ≤ u ∨ k = 0 := by
      intro k
      induction k with
      | zero => intro u _; exact .inr rfl
      | succ k ih =>
        intro u hu
        by_cases h10 : u < 10
        · rw [Lib.nDigits_small h10] at hu; omega
        · rw [Lib.nDigits_big h10] at hu
          rcases ih (u / 10) (by omega) with h4 | rfl
          · refine .inl ?_
            rw [Nat.pow_succ]; omega
          · refine .inl ?_
            show 10 ^ 1 ≤ u
            omega
    rcases h3 10 m h with h4 | h4
    · have : (10 : Nat) ^ 10 = 10000000000 := by decide
      omega
    · omega
  · exact h
theorem times_small {d : Dv} {j : Nat} {p : List UInt8 × Int} (h : (timesD d)[j]? = some p) (hd : Nor d) : p.1.length ≤ 22 ∧ -1 ≤ p.2 ∧ p.2 ≤ 2147483647 := by
  unfold timesD at h
  match j, h with
  | 0, h => simp at h; subst h; exact ⟨by show nMA.length ≤ 22; decide, hd.ma⟩
  | 1, h => simp at h; subst h; exact ⟨by show nSA.length ≤ 22; decide, hd.sa⟩
  | 2, h => simp at h; subst h; exact ⟨by show nWS.length ≤ 22; decide, hd.ws⟩
  | 3, h => simp at h; subst h; exact ⟨by show nOE.length ≤ 22; decide, hd.oe⟩
  | 4, h => simp at h; subst h; exact ⟨by show nMS.length ≤ 22; decide, hd.ms⟩
  | 5, h => simp at h; subst h; exact ⟨by show nMF.length ≤ 22; decide, hd.mf⟩
  | j + 6, h => simp at h
theorem items_small {d : Dv} (hd : Nor d) : ∀ l ∈ itemsD d, l.length ≤ 1000000 := by
  intro l hl
  unfold itemsD at hl
  rcases List.mem_append.1 hl with h | h
  · unfold flagI at h
    obtain ⟨p, hp, rfl⟩ := List.mem_map.1 h
    have hp := (List.mem_filter.1 hp).1
    have : ∀ p ∈ flagsD d, p.1.length ≤ 20 := by unfold flagsD; simp [nNS, nNC, nPR, nPU, nMR, nOC]
    have := this p hp
    omega
  · unfold timeI at h
    obtain ⟨p, hp, rfl⟩ := List.mem_map.1 h
    obtain ⟨hp1, hp2⟩ := List.mem_filter.1 hp
    obtain ⟨j, hj⟩ := List.getElem?_of_mem hp1
    have ht := times_small hj hd
    have hne : p.2 ≠ -1 := by simpa using hp2
    have hdl := decT_len p.2 (by omega) (by omega)
    unfold timeL
    split
    · omega
    · simp only [List.length_append, List.length_cons]; omega
theorem fmt_items (d : Dv) : fmtD d = getL (flagI (flagsD (normD d)) ++ timeI (timesD (normD d))) := rfl
/-- The loop over the durations: the list so far, and the block that is read. -/
def DurRel (B : Nat) (w0 : World) (g : Nat) (L : List (List UInt8)) (x : Dv) (w4 : World) (v i : Value) (wr : World) : Prop :=
  ∃ k : Nat, i = .int .i64 k ∧ k ≤ 6 ∧ OwnsS B wr v (L ++ timeI ((timesD x).take k)) ∧ Below B w0 wr ∧ wr.heap[g]? = w4.heap[g]? ∧ g < wr.heap.size
theorem dur_own {B g : Nat} {w : World} {v : Value} {ls : List (List UInt8)} {cs : Array Value} (hO : OwnsS B w v ls) (hg : w.heap[g]? = some (.cells cs 65 (0, 0))) : v.ownBlock ≠ some g :=
  ownBlock_other hO hg (by decide)
theorem dur_kept {B g : Nat} {w w1 w2 : World} {v : Value} {ls : List (List UInt8)} {cs : Array Value} {o : Obj} (hO : OwnsS B w v ls) (hg : w.heap[g]? = some (.cells cs 65 (0, 0))) (hl : g < w.heap.size) (hb : Below w.heap.size w w1) (hgrow : (w1.alloc o).grownBy w2 v.ownBlock) : w2.heap[g]? = w.heap[g]? ∧ g < w2.heap.size := by
  have h1 : (w1.alloc o).heap[g]? = w.heap[g]? := ((below_new w1 o).block g (Nat.lt_of_lt_of_le hl hb.size)).trans (hb.block g hl)
  have hl1 : g < (w1.alloc o).heap.size := Nat.lt_of_lt_of_le (Nat.lt_of_lt_of_le hl hb.size) (below_new w1 o).size
  have hn := dur_own hO hg
  exact ⟨(hgrow.block g hl1 (fun e => hn e.symm)).trans h1, Nat.lt_of_lt_of_le hl1 hgrow.size⟩

end Go.Proofs.YtnjjjfbklgdgpaaDoor
