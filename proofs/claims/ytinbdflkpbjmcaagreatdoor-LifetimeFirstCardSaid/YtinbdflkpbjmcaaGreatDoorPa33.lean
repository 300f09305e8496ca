import Derived.Test.YtinbdflkpbjmcaaGreatDoorPa13
import Derived.Test.YtinbdflkpbjmcaaGreatDoorPa6
import Derived.Test.YtinbdflkpbjmcaaGreatDoorPa32
import Derived.Test.YtinbdflkpbjmcaaGreatDoorPa18
import Derived.Test.YtinbdflkpbjmcaaGreatDoorPa12
import Derived.Test.YtinbdflkpbjmcaaGreatDoorPa20
import Derived.Deep.RegionHeld3
import Derived.Test.YtinbdflkpbjmcaaGreatDoorPa0
/- What flags, durations and Format return: the canonical text of directives. -/
namespace Go.Proofs.YtinbdflkpbjmcaaGreatDoor
open Go.RowKit

theorem itoaD_any (n : Int) (h1 : 0 ≤ n) (h2 : n ≤ 9223372036854775807) (w : World) (hT : HasTab w) :
    Calls Tryz.prog 46 #[.int .i64 n] w fun e w' => e = .returned (.string (strB (decTD n))) ∧ Below w.heap.size w w' := by
  refine (Tryz.strconv_Itoa n (by omega) h2 w hT).mono ?_
  rintro e w' ⟨rfl, k, os, rfl⟩
  refine ⟨?_, Lib.below_grow _ _ (Nat.le_refl _) _ _⟩
  obtain ⟨m, rfl⟩ : ∃ m : Nat, n = m := ⟨n.toNat, by omega⟩
  rw [Lib.itoa_nonneg]; rfl
theorem flags_new (d : Dv) (w : World) (E : TypeId) : ∀ j p, (flagsD d)[j]? = some p → (w.alloc (.cells #[.string (strB nNS), .bool d.ns, .string (strB nNC), .bool d.nc, .string (strB nPR), .bool d.pr, .string (strB nPU), .bool d.pu, .string (strB nMR), .bool d.mr, .string (strB nOC), .bool d.oc] E)).cell? ⟨w.heap.size, j * 2, none⟩ = some (.string (strB p.1)) ∧ (w.alloc (.cells #[.string (strB nNS), .bool d.ns, .string (strB nNC), .bool d.nc, .string (strB nPR), .bool d.pr, .string (strB nPU), .bool d.pu, .string (strB nMR), .bool d.mr, .string (strB nOC), .bool d.oc] E)).cell? ⟨w.heap.size, j * 2 + 1, none⟩ = some (.bool p.2) := by
  intro j p h
  match j, h with
    | 0, h => simp [flagsD] at h; subst h; exact ⟨by rw [World.cell?_alloc_at _ _ _ _ rfl]; rfl, by rw [World.cell?_alloc_at _ _ _ _ rfl]; rfl⟩
    | 1, h => simp [flagsD] at h; subst h; exact ⟨by rw [World.cell?_alloc_at _ _ _ _ rfl]; rfl, by rw [World.cell?_alloc_at _ _ _ _ rfl]; rfl⟩
    | 2, h => simp [flagsD] at h; subst h; exact ⟨by rw [World.cell?_alloc_at _ _ _ _ rfl]; rfl, by rw [World.cell?_alloc_at _ _ _ _ rfl]; rfl⟩
    | 3, h => simp [flagsD] at h; subst h; exact ⟨by rw [World.cell?_alloc_at _ _ _ _ rfl]; rfl, by rw [World.cell?_alloc_at _ _ _ _ rfl]; rfl⟩
    | 4, h => simp [flagsD] at h; subst h; exact ⟨by rw [World.cell?_alloc_at _ _ _ _ rfl]; rfl, by rw [World.cell?_alloc_at _ _ _ _ rfl]; rfl⟩
    | 5, h => simp [flagsD] at h; subst h; exact ⟨by rw [World.cell?_alloc_at _ _ _ _ rfl]; rfl, by rw [World.cell?_alloc_at _ _ _ _ rfl]; rfl⟩
    | j + 6, h => simp [flagsD] at h
set_option maxHeartbeats 2000000 in
set_option maxRecDepth 100000 in
theorem flags_any (d : Dv) (w : World) :
    Calls Tryz.prog 44 #[dvV d] w fun e w' => ∃ g, e = .returned (.slice (some ⟨g, 0, none⟩) 6 6) ∧ g < w'.heap.size ∧ w.heap.size ≤ g ∧ w'.heap[g]? = some (.cells #[.string (strB nNS), .bool d.ns, .string (strB nNC), .bool d.nc, .string (strB nPR), .bool d.pr, .string (strB nPU), .bool d.pu, .string (strB nMR), .bool d.mr, .string (strB nOC), .bool d.oc] 78 (0, 0)) ∧ (∀ j p, (flagsD d)[j]? = some p → w'.cell? ⟨g, j * 2, none⟩ = some (.string (strB p.1)) ∧ w'.cell? ⟨g, j * 2 + 1, none⟩ = some (.bool p.2)) ∧ Below w.heap.size w w' := by
  have HB := Lib.hid (below_new w (.cells (dvC d) 45))
  have HD := Lib.hid (dvB_new w d 45)
  have hz : (w.alloc (.cells (dvC d) 45)).heap.size = w.heap.size + 1 := by simp
  go_enter Tryz.func44, Tryz.ntmps44
  go_upto_region 1 with fail
  change Code.wp _ _ _ _ (w.alloc (.cells (dvC d) 45))
  generalize (w.alloc (.cells (dvC d) 45)) = W at *
  obtain ⟨c0, c1, c2, c3, c4, c5, c6, c7, c8, c9, c10, c11, fr, lt⟩ := HD.out
  go_wp2_with fail
  go_ret
  have hN := flags_new d W 78
  have hH := heap_alloc_new W (.cells #[.string (strB nNS), .bool d.ns, .string (strB nNC), .bool d.nc, .string (strB nPR), .bool d.pr, .string (strB nPU), .bool d.pu, .string (strB nMR), .bool d.mr, .string (strB nOC), .bool d.oc] 78)
  rw [hz] at hN hH
  exact ⟨w.heap.size + 1, rfl, by simp; omega, by omega, hH, hN, HB.out.alloc (by omega) _⟩

theorem durations_new (d : Dv) (w : World) (E : TypeId) : ∀ j p, (timesD d)[j]? = some p → (w.alloc (.cells #[.string (strB nMA), .int .i64 d.ma, .string (strB nSA), .int .i64 d.sa, .string (strB nWS), .int .i64 d.ws, .string (strB nOE), .int .i64 d.oe, .string (strB nMS), .int .i64 d.ms, .string (strB nMF), .int .i64 d.mf] E)).cell? ⟨w.heap.size, j * 2, none⟩ = some (.string (strB p.1)) ∧ (w.alloc (.cells #[.string (strB nMA), .int .i64 d.ma, .string (strB nSA), .int .i64 d.sa, .string (strB nWS), .int .i64 d.ws, .string (strB nOE), .int .i64 d.oe, .string (strB nMS), .int .i64 d.ms, .string (strB nMF), .int .i64 d.mf] E)).cell? ⟨w.heap.size, j * 2 + 1, none⟩ = some (.int .i64 p.2) := by
  intro j p h
  match j, h with
    | 0, h => simp [timesD] at h; subst h; exact ⟨by rw [World.cell?_alloc_at _ _ _ _ rfl]; rfl, by rw [World.cell?_alloc_at _ _ _ _ rfl]; rfl⟩
    | 1, h => simp [timesD] at h; subst h; exact ⟨by rw [World.cell?_alloc_at _ _ _ _ rfl]; rfl, by rw [World.cell?_alloc_at _ _ _ _ rfl]; rfl⟩
    | 2, h => simp [timesD] at h; subst h; exact ⟨by rw [World.cell?_alloc_at _ _ _ _ rfl]; rfl, by rw [World.cell?_alloc_at _ _ _ _ rfl]; rfl⟩
    | 3, h => simp [timesD] at h; subst h; exact ⟨by rw [World.cell?_alloc_at _ _ _ _ rfl]; rfl, by rw [World.cell?_alloc_at _ _ _ _ rfl]; rfl⟩
    | 4, h => simp [timesD] at h; subst h; exact ⟨by rw [World.cell?_alloc_at _ _ _ _ rfl]; rfl, by rw [World.cell?_alloc_at _ _ _ _ rfl]; rfl⟩
    | 5, h => simp [timesD] at h; subst h; exact ⟨by rw [World.cell?_alloc_at _ _ _ _ rfl]; rfl, by rw [World.cell?_alloc_at _ _ _ _ rfl]; rfl⟩
    | j + 6, h => simp [timesD] at h
set_option maxHeartbeats 2000000 in
set_option maxRecDepth 100000 in
theorem durations_any (d : Dv) (w : World) :
    Calls Tryz.prog 45 #[dvV d] w fun e w' => ∃ g, e = .returned (.slice (some ⟨g, 0, none⟩) 6 6) ∧ g < w'.heap.size ∧ w.heap.size ≤ g ∧ w'.heap[g]? = some (.cells #[.string (strB nMA), .int .i64 d.ma, .string (strB nSA), .int .i64 d.sa, .string (strB nWS), .int .i64 d.ws, .string (strB nOE), .int .i64 d.oe, .string (strB nMS), .int .i64 d.ms, .string (strB nMF), .int .i64 d.mf] 82 (0, 0)) ∧ (∀ j p, (timesD d)[j]? = some p → w'.cell? ⟨g, j * 2, none⟩ = some (.string (strB p.1)) ∧ w'.cell? ⟨g, j * 2 + 1, none⟩ = some (.int .i64 p.2)) ∧ Below w.heap.size w w' := by
  have HB := Lib.hid (below_new w (.cells (dvC d) 45))
  have HD := Lib.hid (dvB_new w d 45)
  have hz : (w.alloc (.cells (dvC d) 45)).heap.size = w.heap.size + 1 := by simp
  go_enter Tryz.func45, Tryz.ntmps45
  go_upto_region 1 with fail
  change Code.wp _ _ _ _ (w.alloc (.cells (dvC d) 45))
  generalize (w.alloc (.cells (dvC d) 45)) = W at *
  obtain ⟨c0, c1, c2, c3, c4, c5, c6, c7, c8, c9, c10, c11, fr, lt⟩ := HD.out
  go_wp2_with fail
  go_ret
  have hN := durations_new d W 82
  have hH := heap_alloc_new W (.cells #[.string (strB nMA), .int .i64 d.ma, .string (strB nSA), .int .i64 d.sa, .string (strB nWS), .int .i64 d.ws, .string (strB nOE), .int .i64 d.oe, .string (strB nMS), .int .i64 d.ms, .string (strB nMF), .int .i64 d.mf] 82)
  rw [hz] at hN hH
  exact ⟨w.heap.size + 1, rfl, by simp; omega, by omega, hH, hN, HB.out.alloc (by omega) _⟩

theorem flagI_yes {l : List (List UInt8 × Bool)} {k : Nat} {p : List UInt8 × Bool} (h : l[k]? = some p) (hp : p.2 = true) : flagI (l.take (k + 1)) = flagI (l.take k) ++ [p.1] := by
  unfold flagI; rw [List.take_add_one, h, List.filter_append, List.map_append]; simp [hp]
theorem flagI_no {l : List (List UInt8 × Bool)} {k : Nat} {p : List UInt8 × Bool} (h : l[k]? = some p) (hp : p.2 = false) : flagI (l.take (k + 1)) = flagI (l.take k) := by
  unfold flagI; rw [List.take_add_one, h, List.filter_append, List.map_append]; simp [hp]
theorem timeI_yes {l : List (List UInt8 × Int)} {k : Nat} {p : List UInt8 × Int} (h : l[k]? = some p) (hp : p.2 ≠ -1) : timeI (l.take (k + 1)) = timeI (l.take k) ++ [timeL p.1 p.2] := by
  unfold timeI; rw [List.take_add_one, h, List.filter_append, List.map_append]; simp [hp]
theorem timeI_no {l : List (List UInt8 × Int)} {k : Nat} {p : List UInt8 × Int} (h : l[k]? = some p) (hp : p.2 = -1) : timeI (l.take (k + 1)) = timeI (l.take k) := by
  unfold timeI; rw [List.take_add_one, h, List.filter_append, List.map_append]; simp [hp]
theorem flagI_le (l : List (List UInt8 × Bool)) : (flagI l).length ≤ l.length := by unfold flagI; rw [List.length_map]; exact List.length_filter_le _ _
theorem timeI_le (l : List (List UInt8 × Int)) : (timeI l).length ≤ l.length := by unfold timeI; rw [List.length_map]; exact List.length_filter_le _ _
theorem decT_len (n : Int) (_h1 : 0 ≤ n) (h2 : n ≤ 2147483647) : (decTD n).length ≤ 10 := by
  unfold decTD
  obtain ⟨m, rfl⟩ : ∃ m : Nat, m = n.toNat := ⟨_, rfl⟩
  generalize hm : n.toNat = m at *
  have hm2 : m ≤ 2147483647 := by omega
  rw [Lib.decDigits_length]
  rcases Nat.lt_or_ge 10 (Lib.nDigits m) with h | h
  · exfalso
    have h3 : ∀ (k u : Nat), k < Lib.nDigits u → 10 ^ k ≤ u ∨ k = 0 := by
      intro k
      induction k with
      | zero => intro u _; exact .inr rfl
      | succ k ih =>
        intro u hu
        by_cases h10 : u < 10
        · rw [Lib.nDigits_small h10] at hu; omega
        · rw [Lib.nDigits_big h10] at hu
          rcases ih (u / 10) (by omega) with h4 | rfl
          · refine .inl ?_
            rw [Nat.pow_succ]; omega
          · refine .inl ?_
            show 10 ^ 1 ≤ u
            omega
    rcases h3 10 m h with h4 | h4
    · have : (10 : Nat) ^ 10 = 10000000000 := by decide
      omega
    · omega
  · exact h
theorem times_small {d : Dv} {j : Nat} {p : List UInt8 × Int} (h : (timesD d)[j]? = some p) (hd : Nor d) : p.1.length ≤ 22 ∧ -1 ≤ p.2 ∧ p.2 ≤ 2147483647 := by
  unfold timesD at h
  match j, h with
  | 0, h => simp at h; subst h; exact ⟨by show nMA.length ≤ 22; decide, hd.ma⟩
  | 1, h => simp at h; subst h; exact ⟨by show nSA.length ≤ 22; decide, hd.sa⟩
  | 2, h => simp at h; subst h; exact ⟨by show nWS.length ≤ 22; decide, hd.ws⟩
  | 3, h => simp at h; subst h; exact ⟨by show nOE.length ≤ 22; decide, hd.oe⟩
  | 4, h => simp at h; subst h; exact ⟨by show nMS.length ≤ 22; decide, hd.ms⟩
  | 5, h => simp at h; subst h; exact ⟨by show nMF.length ≤ 22; decide, hd.mf⟩
  | j + 6, h => simp at h
theorem items_small {d : Dv} (hd : Nor d) : ∀ l ∈ itemsD d, l.length ≤ 1000000 := by
  intro l hl
  unfold itemsD at hl
  rcases List.mem_append.1 hl with h | h
  · unfold flagI at h
    obtain ⟨p, hp, rfl⟩ := List.mem_map.1 h
    have hp := (List.mem_filter.1 hp).1
    have : ∀ p ∈ flagsD d, p.1.length ≤ 20 := by unfold flagsD; simp [nNS, nNC, nPR, nPU, nMR, nOC]
    have := this p hp
    omega
  · unfold timeI at h
    obtain ⟨p, hp, rfl⟩ := List.mem_map.1 h
    obtain ⟨hp1, hp2⟩ := List.mem_filter.1 hp
    obtain ⟨j, hj⟩ := List.getElem?_of_mem hp1
    have ht := times_small hj hd
    have hne : p.2 ≠ -1 := by simpa using hp2
    have hdl := decT_len p.2 (by omega) (by omega)
    unfold timeL
    split
    · omega
    · simp only [List.length_append, List.length_cons]; omega
theorem fmt_items (d : Dv) : fmtD d = getL (flagI (flagsD (normD d)) ++ timeI (timesD (normD d))) := rfl
/-- The loop over the durations: the list so far, and the block that is read. -/
def DurRel (B : Nat) (w0 : World) (g : Nat) (L : List (List UInt8)) (x : Dv) (w4 : World) (v i : Value) (wr : World) : Prop :=
  ∃ k : Nat, i = .int .i64 k ∧ k ≤ 6 ∧ OwnsS B wr v (L ++ timeI ((timesD x).take k)) ∧ Below B w0 wr ∧ wr.heap[g]? = w4.heap[g]? ∧ g < wr.heap.size
theorem dur_own {B g : Nat} {w : World} {v : Value} {ls : List (List UInt8)} {cs : Array Value} (hO : OwnsS B w v ls) (hg : w.heap[g]? = some (.cells cs 82 (0, 0))) : v.ownBlock ≠ some g :=
  ownBlock_other hO hg (by decide)
theorem dur_kept {B g : Nat} {w w1 w2 : World} {v : Value} {ls : List (List UInt8)} {cs : Array Value} {o : Obj} (hO : OwnsS B w v ls) (hg : w.heap[g]? = some (.cells cs 82 (0, 0))) (hl : g < w.heap.size) (hb : Below w.heap.size w w1) (hgrow : (w1.alloc o).grownBy w2 v.ownBlock) : w2.heap[g]? = w.heap[g]? ∧ g < w2.heap.size := by
  have h1 : (w1.alloc o).heap[g]? = w.heap[g]? := ((below_new w1 o).block g (Nat.lt_of_lt_of_le hl hb.size)).trans (hb.block g hl)
  have hl1 : g < (w1.alloc o).heap.size := Nat.lt_of_lt_of_le (Nat.lt_of_lt_of_le hl hb.size) (below_new w1 o).size
  have hn := dur_own hO hg
  exact ⟨(hgrow.block g hl1 (fun e => hn e.symm)).trans h1, Nat.lt_of_lt_of_le hl1 hgrow.size⟩

end Go.Proofs.YtinbdflkpbjmcaaGreatDoor

/- What Format returns: the canonical text of directives. -/
namespace Go.Proofs.YtinbdflkpbjmcaaGreatDoor
open Go.RowKit

theorem one_new2 (w : World) (o : Obj) (l : List UInt8) (T : TypeId) : ∀ j u, [strV l][j]? = some u → ((w.alloc o).alloc (.cells #[.string (strB l)] T)).cell? ((⟨w.heap.size + 1, 0, none⟩ : Addr).add j) = some u := by
  intro j u h
  have h1 := cell_one_new (w.alloc o) (strV l) T j u h
  have h2 : (w.alloc o).heap.size = w.heap.size + 1 := by simp
  rw [h2] at h1
  exact h1
set_option maxHeartbeats 16000000 in
set_option maxRecDepth 100000 in
theorem format_any (d : Dv) (w : World) (hd : FitD d) (hT : HasTab w) :
    Calls Tryz.prog 25 #[dvV d] w fun e w' => e = .returned (strV (fmtD d)) ∧ Below w.heap.size w w' := by
  obtain ⟨i0, hi, hz0, hz1, hz2⟩ := info_parts Tryz.infoS
  have HN := Lib.hid (fun w => normal_any d w hd)
  have HT := Lib.hid hT
  have HNor := Lib.hid (nor_norm d)
  have HFm := Lib.hid (fmt_items d)
  have HSm := Lib.hid (show ∀ l ∈ flagI (flagsD (normD d)) ++ timeI (timesD (normD d)), l.length ≤ 1000000 from items_small (nor_norm d))
  generalize fmtD d = text at *
  generalize normD d = x at *
  have HB0 := Lib.hid (below_new w (.cells (dvC d) 45))
  have HD0 := Lib.hid (dvB_new w d 45)
  clear hd hT
  go_enter Tryz.func25, Tryz.ntmps25
  go_upto_region 1 with fail
  change Code.wp _ _ _ _ (w.alloc (.cells (dvC d) 45))
  generalize w.alloc (.cells (dvC d) 45) = W0 at *
  obtain ⟨c0, c1, c2, c3, c4, c5, c6, c7, c8, c9, c10, c11, fr, lt⟩ := HD0.out
  go_wp2_with fail
  refine (HN.out _).mono ?_
  rintro e w1 ⟨rfl, hB1⟩
  have HB1 := Lib.hid (below_dv (HB0.out.trans (hB1.mono HB0.out.size)) (Nat.le_refl _) (.bool x.ns) (.bool x.nc) (.bool x.pr) (.bool x.pu) (.bool x.mr) (.bool x.oc) (.int .i64 x.ma) (.int .i64 x.sa) (.int .i64 x.ws) (.int .i64 x.oe) (.int .i64 x.ms) (.int .i64 x.mf))
  have hD1 := HD0.out.below hB1
  have HD1 := Lib.hid (hD1.set x)
  clear hB1 c0 c1 c2 c3 c4 c5 c6 c7 c8 c9 c10 c11 fr lt HB0 HD0 HN
  obtain ⟨c0, c1, c2, c3, c4, c5, c6, c7, c8, c9, c10, c11, fr, lt⟩ := hD1
  go_upto_region 2 with fail
  generalize ((((((((((((w1).setCell ⟨w.heap.size, 0, none⟩ (.bool x.ns)).setCell ⟨w.heap.size, 1, none⟩ (.bool x.nc)).setCell ⟨w.heap.size, 2, none⟩ (.bool x.pr)).setCell ⟨w.heap.size, 3, none⟩ (.bool x.pu)).setCell ⟨w.heap.size, 4, none⟩ (.bool x.mr)).setCell ⟨w.heap.size, 5, none⟩ (.bool x.oc)).setCell ⟨w.heap.size, 6, none⟩ (.int .i64 x.ma)).setCell ⟨w.heap.size, 7, none⟩ (.int .i64 x.sa)).setCell ⟨w.heap.size, 8, none⟩ (.int .i64 x.ws)).setCell ⟨w.heap.size, 9, none⟩ (.int .i64 x.oe)).setCell ⟨w.heap.size, 10, none⟩ (.int .i64 x.ms)).setCell ⟨w.heap.size, 11, none⟩ (.int .i64 x.mf) = W1 at *
  clear c0 c1 c2 c3 c4 c5 c6 c7 c8 c9 c10 c11 fr lt
  obtain ⟨c0, c1, c2, c3, c4, c5, c6, c7, c8, c9, c10, c11, fr, lt⟩ := HD1.out
  go_wp2_with fail
  refine (flags_any x _).mono ?_
  rintro e w3 ⟨g, rfl, hg1, hg2, _, hgc, hB3⟩
  have HGC := Lib.hid hgc
  have HD3 := Lib.hid (HD1.out.below hB3)
  have HB3 := Lib.hid (HB1.out.trans (hB3.mono HB1.out.size))
  clear hgc hB3 HD1 HB1 c0 c1 c2 c3 c4 c5 c6 c7 c8 c9 c10 c11 fr lt
  go_wp2_with fail
  go_loopw [3, 13] (fun v i wr => ∃ k : Nat, i = .int .i64 k ∧ k ≤ 6 ∧ OwnsS w3.heap.size wr v (flagI ((flagsD x).take k)) ∧ Below w3.heap.size w3 wr) (fun _ i _ => 6 - (intOf i).toNat)
  case atStart => exact ⟨0, rfl, Nat.zero_le _, World.ownsRow_nil _ _ _ _, Below.refl _ _⟩
  case round =>
    obtain ⟨k, rfl, hk, hO, hBr⟩ := hrel
    have hbr := hBr.size
    have hfl := flagI_le ((flagsD x).take k)
    have htl := List.length_take_le k (flagsD x)
    by_cases hlt : k < 6
    · obtain ⟨p, hp⟩ : ∃ p, (flagsD x)[k]? = some p := ⟨(flagsD x)[k]'hlt, List.getElem?_eq_getElem hlt⟩
      obtain ⟨h1, h2⟩ := HGC.out k p hp
      have hc1 : wr.cell? ⟨g, k * 2, none⟩ = some (.string (strB p.1)) := (hBr.cell (p := ⟨g, k * 2, none⟩) hg1).trans h1
      have hc2 : wr.cell? ⟨g, k * 2 + 1, none⟩ = some (.bool p.2) := (hBr.cell (p := ⟨g, k * 2 + 1, none⟩) hg1).trans h2
      have HP := Lib.hid hp
      have hn1 := (new_pair wr (.string (strB p.1)) (.bool p.2) 78).1
      have hn2 := (new_pair wr (.string (strB p.1)) (.bool p.2) 78).2
      clear hp h1 h2
      cases hpb : p.2 with
      | true =>
        rw [hpb] at hc2 hn1 hn2
        have HS := Lib.hid (flagI_yes HP.out hpb)
        clear hpb
        go_wp2_with (at_builtin; refine wpList_append_own _ rfl _ _ 50 rfl w3.heap.size 9 i0 (.string ByteArray.empty) 1 16 Tryz.underlying50 hi hz0 hz1 hz2 rfl (by decide) _ _ _ rfl (World.ownsRow.alloc (OwnsS.below hO (below_new wr (.cells #[.string (strB p.1), .bool true] 78))) _) ⟨wr.heap.size + 1, 0, none⟩ 1 1 [strV p.1] rfl rfl (one_new2 wr _ p.1 _) (fun u hu => by simp at hu; subst hu; rfl) (by unfold maxLen; omega) (by omega) (by simp; omega) ?_; intro v' w9 hown' hgrow _)
        go_roundw
        case rel => exact ⟨k + 1, by go_num, by omega, by rw [HS.out]; exact OwnsS.snoc hown', below_append hBr hbr (below_new wr _) hO hgrow⟩
        case measure => simp [intOf]; omega
      | false =>
        rw [hpb] at hc2 hn1 hn2
        have HS := Lib.hid (flagI_no HP.out hpb)
        clear hpb
        go_wp2_with fail
        go_roundw
        case rel => exact ⟨k + 1, by go_num, by omega, by rw [HS.out]; exact OwnsS.below hO (below_new wr _), hBr.alloc hbr _⟩
        case measure => simp [intOf]; omega
    · have htk : (flagsD x).take k = flagsD x := List.take_of_length_le (show 6 ≤ k by omega)
      rw [htk] at hO hfl
      have HL := Lib.hid (show (flagI (flagsD x)).length ≤ 6 from flagI_le (flagsD x))
      have HD4 := Lib.hid (HD3.out.below hBr)
      have HB4 := Lib.hid (HB3.out.trans (hBr.mono HB3.out.size))
      have HO4 := Lib.hid (OwnsS.mono HB3.out.size hO)
      generalize flagI (flagsD x) = L at *
      clear hO hBr htk hfl HD3 HB3
      obtain ⟨c0, c1, c2, c3, c4, c5, c6, c7, c8, c9, c10, c11, fr, lt⟩ := HD4.out
      go_wp2_with fail
      refine (durations_any x _).mono ?_
      rintro e w4 ⟨g2, rfl, hg3, hg4, hh, hgc, hB4⟩
      have HGD := Lib.hid hgc
      have HH := Lib.hid hh
      have HB5 := Lib.hid (HB4.out.trans (hB4.mono HB4.out.size))
      have HO5 := Lib.hid (OwnsS.below HO4.out hB4)
      clear hgc hh hB4 HD4 HB4 HO4 c0 c1 c2 c3 c4 c5 c6 c7 c8 c9 c10 c11 fr lt
      go_wp2_with fail
      go_loopw [3, 28] (fun v i wr => DurRel w.heap.size w g2 L x w4 v i wr) (fun _ i _ => 6 - (intOf i).toNat)
      case atStart => exact ⟨0, rfl, Nat.zero_le _, by simpa [timeI] using HO5.out, HB5.out, rfl, hg3⟩
      case round =>
        obtain ⟨k, rfl, hk, hO, hBw, hgk, hgl⟩ := hrel
        have HBw := Lib.hid hBw
        have hbw := hBw.size
        have htl := timeI_le ((timesD x).take k)
        have htk := List.length_take_le k (timesD x)
        have hll : (L ++ timeI ((timesD x).take k)).length ≤ 12 := by rw [List.length_append]; have := HL.out; omega
        by_cases hlt : k < 6
        · obtain ⟨p, hp⟩ : ∃ p, (timesD x)[k]? = some p := ⟨(timesD x)[k]'hlt, List.getElem?_eq_getElem hlt⟩
          obtain ⟨h1, h2⟩ := HGD.out k p hp
          have hc1 : wr.cell? ⟨g2, k * 2, none⟩ = some (.string (strB p.1)) := (World.cell?_of_block hgk).trans h1
          have hc2 : wr.cell? ⟨g2, k * 2 + 1, none⟩ = some (.int .i64 p.2) := (World.cell?_of_block hgk).trans h2
          have HP := Lib.hid hp
          have HGK := Lib.hid hgk
          have HHg := Lib.hid (hgk.trans HH.out)
          obtain ⟨hps, hpl, hpm⟩ := times_small hp HNor.out
          have hpz : (strB p.1).size = p.1.length := strB_size _
          have hdz : (strB (decTD p.2)).size = (decTD p.2).length := strB_size _
          have hn1 := (new_pair wr (.string (strB p.1)) (.int .i64 p.2) 82).1
          have hn2 := (new_pair wr (.string (strB p.1)) (.int .i64 p.2) 82).2
          have hsw : ((strB p.1).toList == [109, 97, 120, 45, 115, 116, 97, 108, 101]) = decide (p.1 = nMS) := sw_any p.1 nMS
          clear hp h1 h2 hgk hBw
          by_cases hms : p.1 = nMS
          · by_cases hlg : p.2 = 2147483647
            · have HS := Lib.hid (show timeI ((timesD x).take (k + 1)) = timeI ((timesD x).take k) ++ [nMS] by rw [timeI_yes HP.out (by omega)]; unfold timeL; rw [if_pos ⟨hms, hlg⟩, hms])
              rw [decide_eq_true hms] at hsw
              have hle : (p.2 == 2147483647) = true := by simpa using hlg
              clear hms hlg
              go_wp2_with (at_builtin; refine wpList_append_own _ rfl _ _ 50 rfl w.heap.size 9 i0 (.string ByteArray.empty) 1 16 Tryz.underlying50 hi hz0 hz1 hz2 rfl (by decide) _ _ _ rfl (World.ownsRow.alloc (OwnsS.below hO (below_new wr (.cells #[.string (strB p.1), .int .i64 p.2] 82))) _) ⟨wr.heap.size + 1, 0, none⟩ 1 1 [strV nMS] rfl rfl (one_new2 wr _ nMS _) (fun u hu => by simp at hu; subst hu; rfl) (by unfold maxLen; omega) (by omega) (by simp; omega) ?_; intro v' w9 hown' hgrow _)
              go_roundw
              case rel =>
                have hkp := dur_kept hO HHg.out hgl (below_new wr (.cells #[.string (strB p.1), .int .i64 p.2] 82)) hgrow
                exact ⟨k + 1, by go_num, by omega, by rw [HS.out, ← List.append_assoc]; exact OwnsS.snoc hown', below_append HBw.out hbw (below_new wr _) hO hgrow, hkp.1.trans HGK.out, hkp.2⟩
              case measure => simp [intOf]; omega
            · rw [decide_eq_true hms] at hsw
              have hle : (p.2 == 2147483647) = false := by simpa using hlg
              by_cases hab : p.2 = -1
              · have HS := Lib.hid (timeI_no HP.out hab)
                have hne : (p.2 != -1) = false := by simpa using hab
                clear hms hlg hab
                go_wp2_with fail
                go_roundw
                case rel => exact ⟨k + 1, by go_num, by omega, by rw [HS.out]; exact OwnsS.below hO (below_new wr _), HBw.out.alloc hbw _, ((below_new wr _).block g2 hgl).trans HGK.out, Nat.lt_of_lt_of_le hgl (below_new wr _).size⟩
                case measure => simp [intOf]; omega
              · have HS := Lib.hid (show timeI ((timesD x).take (k + 1)) = timeI ((timesD x).take k) ++ [p.1 ++ 61 :: decTD p.2] by rw [timeI_yes HP.out hab]; unfold timeL; rw [if_neg (fun h => hlg h.2)])
                have hne : (p.2 != -1) = true := by simpa using hab
                have hp0 : 0 ≤ p.2 := by omega
                have hdl := decT_len p.2 hp0 hpm
                clear hms hlg hab
                go_upto_region 15 with fail
                have hcx := new_pair wr (.string (strB p.1)) (.int .i64 p.2) 82
                have hb1 := below_new wr (.cells #[.string (strB p.1), .int .i64 p.2] 82)
                have hz1 : (wr.alloc (.cells #[.string (strB p.1), .int .i64 p.2] 82)).heap.size = wr.heap.size + 1 := by simp
                change Code.wp _ _ _ _ (wr.alloc (.cells #[.string (strB p.1), .int .i64 p.2] 82))
                generalize wr.alloc (.cells #[.string (strB p.1), .int .i64 p.2] 82) = W1 at *
                have hS0 : W1.drew.cell? ⟨wr.heap.size, 0, none⟩ = some (.string (strB p.1)) ∧ W1.drew.cell? ⟨wr.heap.size, 1, none⟩ = some (.int .i64 p.2) := by simpa using hcx
                have hb2 : Below wr.heap.size wr W1.drew := hb1.drew
                have hz2' : W1.drew.heap.size = wr.heap.size + 1 := by simpa using hz1
                clear hcx hb1 hz1
                refine wp_region_held_drew (S := (fun w' => w'.cell? ⟨wr.heap.size, 0, none⟩ = some (.string (strB p.1)) ∧ w'.cell? ⟨wr.heap.size, 1, none⟩ = some (.int .i64 p.2))) (by kernel_rfl) hS0 (fun hHeld => ?_)
                generalize W1.drew = V0 at *
                refine wpAnyH_take (i := 0) (oi := { dst := some 48, op := _, type := _, pos := _, after := _, guard := _ }) (v := ?_) rfl (by kernel_rfl) (by kernel_rfl) (by kernel_rfl) (fun _ _ _ h => h) (Or.inl ⟨by rfl, ?_⟩) (by assumption) ?_
                rotate_left
                focus (intro w hSw; (try dsimp only at hSw); first | (go_simp; done) | (go_simp; with_reducible rfl) | (go_simp; rw [if_neg (by omega)]))
                (try simp only [Act.put, List.setIfInBounds_toArray, List.set_cons_zero, List.set_cons_succ])
                refine wpAnyH_take (i := 1) (oi := { dst := some 49, op := _, type := _, pos := _, after := _, guard := _ }) (v := ?_) rfl (by kernel_rfl) (by kernel_rfl) (by kernel_rfl) (fun _ _ _ h => h) (Or.inl ⟨by rfl, ?_⟩) (by assumption) ?_
                rotate_left
                focus (intro w hSw; (try dsimp only at hSw); first | (go_simp; done) | (go_simp; with_reducible rfl) | (go_simp; rw [if_neg (by omega)]))
                (try simp only [Act.put, List.setIfInBounds_toArray, List.set_cons_zero, List.set_cons_succ])
                refine wpAnyH_take (i := 2) (oi := { dst := some 50, op := _, type := _, pos := _, after := _, guard := _ }) (v := ?_) rfl (by kernel_rfl) (by kernel_rfl) (by kernel_rfl) (fun _ _ _ h => h) (Or.inl ⟨by rfl, ?_⟩) (by assumption) ?_
                rotate_left
                focus (intro w hSw; (try dsimp only at hSw); first | (go_simp; done) | (go_simp; with_reducible rfl) | (go_simp; rw [if_neg (by omega)]))
                (try simp only [Act.put, List.setIfInBounds_toArray, List.set_cons_zero, List.set_cons_succ])
                refine wpAnyH_take (i := 3) (oi := { dst := some 51, op := _, type := _, pos := _, after := _, guard := _ }) (v := ?_) rfl (by kernel_rfl) (by kernel_rfl) (by kernel_rfl) (fun _ _ _ h => h) (Or.inl ⟨by rfl, ?_⟩) (by assumption) ?_
                rotate_left
                focus (intro w hSw; (try dsimp only at hSw); first | (go_simp; done) | (go_simp; with_reducible rfl) | (go_simp; rw [if_neg (by omega)]))
                (try simp only [Act.put, List.setIfInBounds_toArray, List.set_cons_zero, List.set_cons_succ])
                refine wpAnyH_take (i := 4) (oi := { dst := some 52, op := _, type := _, pos := _, after := _, guard := _ }) (v := ?_) rfl (by kernel_rfl) (by kernel_rfl) (by kernel_rfl) (fun _ _ _ h => h) (Or.inl ⟨by rfl, ?_⟩) (by assumption) ?_
                rotate_left
                focus (intro w hSw; (try dsimp only at hSw); first | (go_simp; done) | (go_simp; with_reducible rfl) | (go_simp; rw [if_neg (by omega)]))
                (try simp only [Act.put, List.setIfInBounds_toArray, List.set_cons_zero, List.set_cons_succ])
                refine wpAnyH_take (i := 5) (oi := { dst := some 53, op := _, type := _, pos := _, after := _, guard := _ }) (v := ?_) rfl (by kernel_rfl) (by kernel_rfl) (by kernel_rfl) (fun _ _ _ h => h) (Or.inl ⟨by rfl, ?_⟩) (by assumption) ?_
                rotate_left
                focus (intro w hSw; (try dsimp only at hSw); first | (go_simp; done) | (go_simp; with_reducible rfl) | (go_simp; rw [if_neg (by omega)]))
                (try simp only [Act.put, List.setIfInBounds_toArray, List.set_cons_zero, List.set_cons_succ])
                refine wpAnyH_ready (rs := [6]) (by kernel_rfl) (by simp) ?_
                refine AllReadyH.cons (o := { dst := some 54, op := _, type := _, pos := _, after := _, guard := _ }) rfl (fun K hK => ?_) AllReadyH.nil
                go_simp
                refine (itoaD_any p.2 (by omega) (by omega) _ (HT.out.below (HBw.out.trans (hb2.mono HBw.out.size)))).mono ?_
                rintro en V1 ⟨rfl, hBc⟩
                have hS1 : V1.cell? ⟨wr.heap.size, 0, none⟩ = some (.string (strB p.1)) ∧ V1.cell? ⟨wr.heap.size, 1, none⟩ = some (.int .i64 p.2) := ⟨(hBc.cell (p := ⟨wr.heap.size, 0, none⟩) (by show wr.heap.size < V0.heap.size; omega)).trans hS0.1, (hBc.cell (p := ⟨wr.heap.size, 1, none⟩) (by show wr.heap.size < V0.heap.size; omega)).trans hS0.2⟩
                have hb3 := hb2.trans (hBc.mono (by omega))
                have hz3 := hBc.size
                refine hK.out _ _ hS1 (fun hH1 => ?_)
                clear hK K hHeld hS0 hb2 hBc
                (try simp only [Act.put, List.setIfInBounds_toArray, List.set_cons_zero, List.set_cons_succ])
                refine wpAnyH_take (i := 7) (oi := { dst := some 55, op := _, type := _, pos := _, after := _, guard := _ }) (v := ?_) rfl (by kernel_rfl) (by kernel_rfl) (by kernel_rfl) (fun _ _ _ h => h) (Or.inl ⟨by rfl, ?_⟩) (by assumption) ?_
                rotate_left
                focus (intro w hSw; (try dsimp only at hSw); first | (go_simp; done) | (go_simp; with_reducible rfl) | (go_simp; rw [if_neg (by omega)]))
                (try simp only [Act.put, List.setIfInBounds_toArray, List.set_cons_zero, List.set_cons_succ])
                have HTX := Lib.hid (show strB p.1 ++ ⟨#[61]⟩ ++ strB (decTD p.2) = strB (p.1 ++ 61 :: decTD p.2) by apply strB_ext; simp [strB])
                rw [HTX.out]
                have hcn := cell_one_new V1 (strV (p.1 ++ 61 :: decTD p.2)) 9
                refine wpAnyH_ready (rs := [8]) (by kernel_rfl) (by simp) ?_
                refine AllReadyH.cons (o := { dst := some 56, op := _, type := _, pos := _, after := _, guard := _ }) rfl (fun K hK => ?_) AllReadyH.nil
                go_simp
                have hS2 : (V1.alloc (.cells #[.string (strB (p.1 ++ 61 :: decTD p.2))] 9)).cell? ⟨wr.heap.size, 0, none⟩ = some (.string (strB p.1)) ∧ (V1.alloc (.cells #[.string (strB (p.1 ++ 61 :: decTD p.2))] 9)).cell? ⟨wr.heap.size, 1, none⟩ = some (.int .i64 p.2) := ⟨((below_new V1 _).cell (p := ⟨wr.heap.size, 0, none⟩) (by show wr.heap.size < V1.heap.size; omega)).trans hS1.1, ((below_new V1 _).cell (p := ⟨wr.heap.size, 1, none⟩) (by show wr.heap.size < V1.heap.size; omega)).trans hS1.2⟩
                refine hK.out _ _ hS2 (fun hH2 => ?_)
                clear hK K hH1 hS1
                (try simp only [Act.put, List.setIfInBounds_toArray, List.set_cons_zero, List.set_cons_succ])
                refine wpAnyH_ready (rs := [9]) (by kernel_rfl) (by simp) ?_
                refine AllReadyH.cons (o := { dst := some 57, op := _, type := _, pos := _, after := _, guard := _ }) rfl (fun K hK => ?_) AllReadyH.nil
                rw [if_pos (by rfl)]
                have hO3 := OwnsS.below hO hb3
                refine wp_append_own _ _ _ 50 rfl w.heap.size 9 i0 (.string ByteArray.empty) 1 16 Tryz.underlying50 hi hz0 hz1 hz2 rfl (by decide) u3 _ _ rfl (World.ownsRow.alloc hO3 _) ⟨V1.heap.size, 0, none⟩ 1 1 [strV (p.1 ++ 61 :: decTD p.2)] rfl rfl hcn (fun u hu => by simp at hu; subst hu; rfl) (by unfold maxLen; omega) (by omega) (by simp; omega) (fun v' w9 hown' hgrow _ => ?_)
                have hvb : ∀ q, u3.ownBlock = some q → q < wr.heap.size := fun q hq => (World.ownsRow.lt hO q hq).2
                have hS3 : w9.cell? ⟨wr.heap.size, 0, none⟩ = some (.string (strB p.1)) ∧ w9.cell? ⟨wr.heap.size, 1, none⟩ = some (.int .i64 p.2) := ⟨hgrow.cell hS2.1 (fun e => by have := hvb _ e.symm; simp at this), hgrow.cell hS2.2 (fun e => by have := hvb _ e.symm; simp at this)⟩
                refine hK.out _ _ hS3 (fun hH3 => ?_)
                clear hK K hH2 hS2
                (try simp only [Act.put, List.setIfInBounds_toArray, List.set_cons_zero, List.set_cons_succ])
                refine wpAnyH_take (i := 10) (oi := { dst := some 3, op := _, type := _, pos := _, after := _, guard := _ }) (v := ?_) rfl (by kernel_rfl) (by kernel_rfl) (by kernel_rfl) (fun _ _ _ h => h) (Or.inl ⟨by rfl, ?_⟩) (by assumption) ?_
                rotate_left
                focus (intro w hSw; (try dsimp only at hSw); first | (go_simp; done) | (go_simp; with_reducible rfl) | (go_simp; rw [if_neg (by omega)]))
                (try simp only [Act.put, List.setIfInBounds_toArray, List.set_cons_zero, List.set_cons_succ])
                refine wpAnyH_done (by kernel_rfl) ?_ _
                (try simp only [Exit.inBlock, Exit.then])
                go_wp2_with fail
                go_roundw
                case rel =>
                  have hkp := dur_kept hO HHg.out hgl hb3 hgrow
                  exact ⟨k + 1, by go_num, by omega, by rw [HS.out, ← List.append_assoc]; exact OwnsS.snoc hown', below_append HBw.out hbw hb3 hO hgrow, hkp.1.trans HGK.out, hkp.2⟩
                case measure => simp [intOf]; omega
          · rw [decide_eq_false hms] at hsw
            by_cases hab : p.2 = -1
            · have HS := Lib.hid (timeI_no HP.out hab)
              have hne : (p.2 != -1) = false := by simpa using hab
              clear hms hab
              go_wp2_with fail
              go_roundw
              case rel => exact ⟨k + 1, by go_num, by omega, by rw [HS.out]; exact OwnsS.below hO (below_new wr _), HBw.out.alloc hbw _, ((below_new wr _).block g2 hgl).trans HGK.out, Nat.lt_of_lt_of_le hgl (below_new wr _).size⟩
              case measure => simp [intOf]; omega
            · have HS := Lib.hid (show timeI ((timesD x).take (k + 1)) = timeI ((timesD x).take k) ++ [p.1 ++ 61 :: decTD p.2] by rw [timeI_yes HP.out hab]; unfold timeL; rw [if_neg (fun h => hms h.1)])
              have hne : (p.2 != -1) = true := by simpa using hab
              have hp0 : 0 ≤ p.2 := by omega
              have hdl := decT_len p.2 hp0 hpm
              clear hms hab
              go_upto_region 15 with fail
              have hcx := new_pair wr (.string (strB p.1)) (.int .i64 p.2) 82
              have hb1 := below_new wr (.cells #[.string (strB p.1), .int .i64 p.2] 82)
              have hz1 : (wr.alloc (.cells #[.string (strB p.1), .int .i64 p.2] 82)).heap.size = wr.heap.size + 1 := by simp
              change Code.wp _ _ _ _ (wr.alloc (.cells #[.string (strB p.1), .int .i64 p.2] 82))
              generalize wr.alloc (.cells #[.string (strB p.1), .int .i64 p.2] 82) = W1 at *
              have hS0 : W1.drew.cell? ⟨wr.heap.size, 0, none⟩ = some (.string (strB p.1)) ∧ W1.drew.cell? ⟨wr.heap.size, 1, none⟩ = some (.int .i64 p.2) := by simpa using hcx
              have hb2 : Below wr.heap.size wr W1.drew := hb1.drew
              have hz2' : W1.drew.heap.size = wr.heap.size + 1 := by simpa using hz1
              clear hcx hb1 hz1
              refine wp_region_held_drew (S := (fun w' => w'.cell? ⟨wr.heap.size, 0, none⟩ = some (.string (strB p.1)) ∧ w'.cell? ⟨wr.heap.size, 1, none⟩ = some (.int .i64 p.2))) (by kernel_rfl) hS0 (fun hHeld => ?_)
              generalize W1.drew = V0 at *
              refine wpAnyH_take (i := 0) (oi := { dst := some 48, op := _, type := _, pos := _, after := _, guard := _ }) (v := ?_) rfl (by kernel_rfl) (by kernel_rfl) (by kernel_rfl) (fun _ _ _ h => h) (Or.inl ⟨by rfl, ?_⟩) (by assumption) ?_
              rotate_left
              focus (intro w hSw; (try dsimp only at hSw); first | (go_simp; done) | (go_simp; with_reducible rfl) | (go_simp; rw [if_neg (by omega)]))
              (try simp only [Act.put, List.setIfInBounds_toArray, List.set_cons_zero, List.set_cons_succ])
              refine wpAnyH_take (i := 1) (oi := { dst := some 49, op := _, type := _, pos := _, after := _, guard := _ }) (v := ?_) rfl (by kernel_rfl) (by kernel_rfl) (by kernel_rfl) (fun _ _ _ h => h) (Or.inl ⟨by rfl, ?_⟩) (by assumption) ?_
              rotate_left
              focus (intro w hSw; (try dsimp only at hSw); first | (go_simp; done) | (go_simp; with_reducible rfl) | (go_simp; rw [if_neg (by omega)]))
              (try simp only [Act.put, List.setIfInBounds_toArray, List.set_cons_zero, List.set_cons_succ])
              refine wpAnyH_take (i := 2) (oi := { dst := some 50, op := _, type := _, pos := _, after := _, guard := _ }) (v := ?_) rfl (by kernel_rfl) (by kernel_rfl) (by kernel_rfl) (fun _ _ _ h => h) (Or.inl ⟨by rfl, ?_⟩) (by assumption) ?_
              rotate_left
              focus (intro w hSw; (try dsimp only at hSw); first | (go_simp; done) | (go_simp; with_reducible rfl) | (go_simp; rw [if_neg (by omega)]))
              (try simp only [Act.put, List.setIfInBounds_toArray, List.set_cons_zero, List.set_cons_succ])
              refine wpAnyH_take (i := 3) (oi := { dst := some 51, op := _, type := _, pos := _, after := _, guard := _ }) (v := ?_) rfl (by kernel_rfl) (by kernel_rfl) (by kernel_rfl) (fun _ _ _ h => h) (Or.inl ⟨by rfl, ?_⟩) (by assumption) ?_
              rotate_left
              focus (intro w hSw; (try dsimp only at hSw); first | (go_simp; done) | (go_simp; with_reducible rfl) | (go_simp; rw [if_neg (by omega)]))
              (try simp only [Act.put, List.setIfInBounds_toArray, List.set_cons_zero, List.set_cons_succ])
              refine wpAnyH_take (i := 4) (oi := { dst := some 52, op := _, type := _, pos := _, after := _, guard := _ }) (v := ?_) rfl (by kernel_rfl) (by kernel_rfl) (by kernel_rfl) (fun _ _ _ h => h) (Or.inl ⟨by rfl, ?_⟩) (by assumption) ?_
              rotate_left
              focus (intro w hSw; (try dsimp only at hSw); first | (go_simp; done) | (go_simp; with_reducible rfl) | (go_simp; rw [if_neg (by omega)]))
              (try simp only [Act.put, List.setIfInBounds_toArray, List.set_cons_zero, List.set_cons_succ])
              refine wpAnyH_take (i := 5) (oi := { dst := some 53, op := _, type := _, pos := _, after := _, guard := _ }) (v := ?_) rfl (by kernel_rfl) (by kernel_rfl) (by kernel_rfl) (fun _ _ _ h => h) (Or.inl ⟨by rfl, ?_⟩) (by assumption) ?_
              rotate_left
              focus (intro w hSw; (try dsimp only at hSw); first | (go_simp; done) | (go_simp; with_reducible rfl) | (go_simp; rw [if_neg (by omega)]))
              (try simp only [Act.put, List.setIfInBounds_toArray, List.set_cons_zero, List.set_cons_succ])
              refine wpAnyH_ready (rs := [6]) (by kernel_rfl) (by simp) ?_
              refine AllReadyH.cons (o := { dst := some 54, op := _, type := _, pos := _, after := _, guard := _ }) rfl (fun K hK => ?_) AllReadyH.nil
              go_simp
              refine (itoaD_any p.2 (by omega) (by omega) _ (HT.out.below (HBw.out.trans (hb2.mono HBw.out.size)))).mono ?_
              rintro en V1 ⟨rfl, hBc⟩
              have hS1 : V1.cell? ⟨wr.heap.size, 0, none⟩ = some (.string (strB p.1)) ∧ V1.cell? ⟨wr.heap.size, 1, none⟩ = some (.int .i64 p.2) := ⟨(hBc.cell (p := ⟨wr.heap.size, 0, none⟩) (by show wr.heap.size < V0.heap.size; omega)).trans hS0.1, (hBc.cell (p := ⟨wr.heap.size, 1, none⟩) (by show wr.heap.size < V0.heap.size; omega)).trans hS0.2⟩
              have hb3 := hb2.trans (hBc.mono (by omega))
              have hz3 := hBc.size
              refine hK.out _ _ hS1 (fun hH1 => ?_)
              clear hK K hHeld hS0 hb2 hBc
              (try simp only [Act.put, List.setIfInBounds_toArray, List.set_cons_zero, List.set_cons_succ])
              refine wpAnyH_take (i := 7) (oi := { dst := some 55, op := _, type := _, pos := _, after := _, guard := _ }) (v := ?_) rfl (by kernel_rfl) (by kernel_rfl) (by kernel_rfl) (fun _ _ _ h => h) (Or.inl ⟨by rfl, ?_⟩) (by assumption) ?_
              rotate_left
              focus (intro w hSw; (try dsimp only at hSw); first | (go_simp; done) | (go_simp; with_reducible rfl) | (go_simp; rw [if_neg (by omega)]))
              (try simp only [Act.put, List.setIfInBounds_toArray, List.set_cons_zero, List.set_cons_succ])
              have HTX := Lib.hid (show strB p.1 ++ ⟨#[61]⟩ ++ strB (decTD p.2) = strB (p.1 ++ 61 :: decTD p.2) by apply strB_ext; simp [strB])
              rw [HTX.out]
              have hcn := cell_one_new V1 (strV (p.1 ++ 61 :: decTD p.2)) 9
              refine wpAnyH_ready (rs := [8]) (by kernel_rfl) (by simp) ?_
              refine AllReadyH.cons (o := { dst := some 56, op := _, type := _, pos := _, after := _, guard := _ }) rfl (fun K hK => ?_) AllReadyH.nil
              go_simp
              have hS2 : (V1.alloc (.cells #[.string (strB (p.1 ++ 61 :: decTD p.2))] 9)).cell? ⟨wr.heap.size, 0, none⟩ = some (.string (strB p.1)) ∧ (V1.alloc (.cells #[.string (strB (p.1 ++ 61 :: decTD p.2))] 9)).cell? ⟨wr.heap.size, 1, none⟩ = some (.int .i64 p.2) := ⟨((below_new V1 _).cell (p := ⟨wr.heap.size, 0, none⟩) (by show wr.heap.size < V1.heap.size; omega)).trans hS1.1, ((below_new V1 _).cell (p := ⟨wr.heap.size, 1, none⟩) (by show wr.heap.size < V1.heap.size; omega)).trans hS1.2⟩
              refine hK.out _ _ hS2 (fun hH2 => ?_)
              clear hK K hH1 hS1
              (try simp only [Act.put, List.setIfInBounds_toArray, List.set_cons_zero, List.set_cons_succ])
              refine wpAnyH_ready (rs := [9]) (by kernel_rfl) (by simp) ?_
              refine AllReadyH.cons (o := { dst := some 57, op := _, type := _, pos := _, after := _, guard := _ }) rfl (fun K hK => ?_) AllReadyH.nil
              rw [if_pos (by rfl)]
              have hO3 := OwnsS.below hO hb3
              refine wp_append_own _ _ _ 50 rfl w.heap.size 9 i0 (.string ByteArray.empty) 1 16 Tryz.underlying50 hi hz0 hz1 hz2 rfl (by decide) u3 _ _ rfl (World.ownsRow.alloc hO3 _) ⟨V1.heap.size, 0, none⟩ 1 1 [strV (p.1 ++ 61 :: decTD p.2)] rfl rfl hcn (fun u hu => by simp at hu; subst hu; rfl) (by unfold maxLen; omega) (by omega) (by simp; omega) (fun v' w9 hown' hgrow _ => ?_)
              have hvb : ∀ q, u3.ownBlock = some q → q < wr.heap.size := fun q hq => (World.ownsRow.lt hO q hq).2
              have hS3 : w9.cell? ⟨wr.heap.size, 0, none⟩ = some (.string (strB p.1)) ∧ w9.cell? ⟨wr.heap.size, 1, none⟩ = some (.int .i64 p.2) := ⟨hgrow.cell hS2.1 (fun e => by have := hvb _ e.symm; simp at this), hgrow.cell hS2.2 (fun e => by have := hvb _ e.symm; simp at this)⟩
              refine hK.out _ _ hS3 (fun hH3 => ?_)
              clear hK K hH2 hS2
              (try simp only [Act.put, List.setIfInBounds_toArray, List.set_cons_zero, List.set_cons_succ])
              refine wpAnyH_take (i := 10) (oi := { dst := some 3, op := _, type := _, pos := _, after := _, guard := _ }) (v := ?_) rfl (by kernel_rfl) (by kernel_rfl) (by kernel_rfl) (fun _ _ _ h => h) (Or.inl ⟨by rfl, ?_⟩) (by assumption) ?_
              rotate_left
              focus (intro w hSw; (try dsimp only at hSw); first | (go_simp; done) | (go_simp; with_reducible rfl) | (go_simp; rw [if_neg (by omega)]))
              (try simp only [Act.put, List.setIfInBounds_toArray, List.set_cons_zero, List.set_cons_succ])
              refine wpAnyH_done (by kernel_rfl) ?_ _
              (try simp only [Exit.inBlock, Exit.then])
              go_wp2_with fail
              go_roundw
              case rel =>
                have hkp := dur_kept hO HHg.out hgl hb3 hgrow
                exact ⟨k + 1, by go_num, by omega, by rw [HS.out, ← List.append_assoc]; exact OwnsS.snoc hown', below_append HBw.out hbw hb3 hO hgrow, hkp.1.trans HGK.out, hkp.2⟩
              case measure => simp [intOf]; omega
        · have htt : (timesD x).take k = timesD x := List.take_of_length_le (show 6 ≤ k by omega)
          rw [htt] at hO hll
          have HIt := Lib.hid hO
          go_wp2_with fail
          refine (join_any _ (L ++ timeI (timesD x)) _ _ HIt.out (by omega) HSm.out).mono ?_
          rintro e w9 ⟨rfl, hB9⟩
          go_wp2_with fail
          go_ret
          exact ⟨by first | (rw [HFm.out]; rfl) | rw [HFm.out], HBw.out.trans (hB9.mono hbw)⟩
end Go.Proofs.YtinbdflkpbjmcaaGreatDoor

/- A region that draws its order and at last writes the cells that it reads ('x, y = f(x), g(y)'): what it reads holds until the first of its stores comes up. -/
namespace Go.Proofs.YtinbdflkpbjmcaaGreatDoor
open Go.RowKit

section
variable {P : Program} {ops : Array Oper} {Q : Exit → Act → World → Prop} {md : Region.Mode} {S : World → Prop} {s : Nat}

/-- Until number s has come up S holds behind each operation; from then on nothing is asked but the end. -/
def heldU (P : Program) (md : Region.Mode) (ops : Array Oper) (Q : Exit → Act → World → Prop) (S : World → Prop) (s : Nat) : Nat → Array Bool → Act → World → Prop
  | 0, done, a, w => Region.ready md ops done = [] ∧ Q .normal a w
  | n + 1, done, a, w => (Region.ready md ops done = [] → Q .normal a w) ∧
      ∀ i ∈ Region.ready md ops done, wpOp P ops Q i (fun a' w' => if i = s then wpAny P md ops Q n (done.setIfInBounds i true) a' w' else S w' ∧ heldU P md ops Q S s n (done.setIfInBounds i true) a' w') a w
theorem heldU.any : ∀ (n : Nat) (done : Array Bool) (a : Act) (w : World), heldU P md ops Q S s n done a w → wpAny P md ops Q n done a w
  | 0, _, _, _, h => h
  | n + 1, _, _, _, h => ⟨h.1, fun i hi => wpOp_mono (fun a' w' h' => by
      by_cases his : i = s
      · rw [if_pos his] at h'; exact h'
      · rw [if_neg his] at h'; exact heldU.any n _ _ _ h'.2) (h.2 i hi)⟩
/-- Number j waits for number i, by itself. -/
def waitsB (md : Region.Mode) (ops : Array Oper) (j i : Nat) : Bool := match ops[j]? with
  | some o => o.after.toList.any fun e => Region.binds md e && e.on == i
  | none => false
theorem waits_not {j i : Nat} {done : Array Bool} (h : waitsB md ops j i = true) (hi : done.getD i true = false) : j ∉ Region.ready md ops done := by
  intro hj
  obtain ⟨_, o, ho, hall⟩ := mem_ready.1 hj
  unfold waitsB at h
  rw [ho] at h
  obtain ⟨e, he, hb⟩ := List.any_eq_true.1 h
  rw [Bool.and_eq_true, beq_iff_eq] at hb
  have h1 := hall e (by simpa using he) hb.1
  rw [hb.2] at h1
  rcases Nat.lt_or_ge i done.size with h' | h'
  · simp [h'] at hi h1; rw [hi] at h1; cases h1
  · simp [Array.getElem?_eq_none h'] at h1
/-- An operation that the first store waits for (or that one waits for which it waits for) may be taken first. -/
theorem heldU_first {i k : Nat} {oi : Oper} {v : Value} (hi : ops[i]? = some oi) (hsel : ∀ (j : Nat) (o : Oper) cs b, ops[j]? = some o → o.op ≠ .select cs b)
    (hQ : ∀ c a w, Q (.panic c) (a.put oi.dst v) w → Q (.panic c) a w) (hsk : waitsB md ops s k = true) (hki : k = i ∨ waitsB md ops k i = true) :
    ∀ (n : Nat) (done : Array Bool) (a : Act) (w : World),
      (∀ j oj, ops[j]? = some oj → j ≠ i → done.getD j true = false → (∀ e ∈ oj.after, Region.binds md e = true → e.on ≠ i) → oi.apart ops oj = true) →
      done.getD k true = false → i ∈ Region.ready md ops done → YieldsIf P ops S oi v a → S w →
      heldU P md ops Q S s n (done.setIfInBounds i true) (a.put oi.dst v) w → heldU P md ops Q S s (n + 1) done a w := by
  have his : ∀ done : Array Bool, done.getD k true = false → i ∈ Region.ready md ops done → i ≠ s := by
    intro done hk hr e
    subst e
    exact waits_not hsk hk hr
  intro n
  induction n with
  | zero =>
    intro done a w _ hk hr hy hS H
    refine ⟨fun h => (by rw [h] at hr; cases hr), fun j hj => ?_⟩
    by_cases hji : j = i
    · subst hji
      refine hy.wpOp hi hS ?_
      rw [if_neg (his _ hk hr)]
      exact ⟨hS, H⟩
    · have := ready_mono hj hji
      rw [H.1] at this
      cases this
  | succ n ih =>
    intro done a w hfree hk hr hy hS H
    refine ⟨fun h => (by rw [h] at hr; cases hr), fun j hj => ?_⟩
    by_cases hji : j = i
    · subst hji
      refine hy.wpOp hi hS ?_
      rw [if_neg (his _ hk hr)]
      exact ⟨hS, H⟩
    · have hjs : j ≠ s := by
        intro e
        subst e
        exact waits_not hsk hk hj
      have hjk : j ≠ k := by
        intro e
        subst e
        rcases hki with e | e
        · exact hji e
        · exact waits_not e (mem_ready.1 hr).1 hj
      have h1 := H.2 j (ready_mono hj hji)
      obtain ⟨hjun, oj, hoj, hall⟩ := mem_ready.1 hj
      have hnot : ∀ e ∈ oj.after, Region.binds md e = true → e.on ≠ i := fun e he hb heq => by
        have g1 := hall e he hb
        have g0 := (mem_ready.1 hr).1
        rw [heq] at g1
        rcases Nat.lt_or_ge i done.size with h' | h'
        · simp [h'] at g0 g1; rw [g0] at g1; cases g1
        · simp [Array.getElem?_eq_none h'] at g1
      have h2 := wpOp_putIf hoj (hfree j oj hoj hji hjun hnot) (fun cs b => hsel i oi cs b hi) (fun cs b => hsel j oj cs b hoj) hQ hy h1
      have hfree' : ∀ m om, ops[m]? = some om → m ≠ i → (done.setIfInBounds j true).getD m true = false →
          (∀ e ∈ om.after, Region.binds md e = true → e.on ≠ i) → oi.apart ops om = true := fun m om hm hmi hun hno => by
        refine hfree m om hm hmi ?_ hno
        by_cases hjm : j = m
        · subst hjm; exact hjun
        · rw [getD_set_ne true hjm] at hun; exact hun
      refine wpOp_mono (fun a' w' h3 => ?_) h2
      rw [if_neg hjs] at h3 ⊢
      refine ⟨h3.2.1, ih (done.setIfInBounds j true) a' w' hfree' (by rw [getD_set_ne true hjk]; exact hk) (ready_mono hr (Ne.symm hji)) h3.1 h3.2.1 ?_⟩
      rw [Array.setIfInBounds_comm _ _ hji]
      exact h3.2.2
/-- Take number i first. -/
theorem heldU_take {i k : Nat} {oi : Oper} {v : Value} {n : Nat} {done : Array Bool} {a : Act} {w : World} (hi : ops[i]? = some oi)
    (hs : Region.noSelect ops = true) (hf : Region.free md ops done i = true) (hr : (Region.ready md ops done).contains i = true)
    (hsk : waitsB md ops s k = true) (hki : (decide (k = i) || waitsB md ops k i) = true) (hk : done.getD k true = false)
    (hQ : ∀ c a w, Q (.panic c) (a.put oi.dst v) w → Q (.panic c) a w) (hy : YieldsIf P ops S oi v a) (hS : S w)
    (h : heldU P md ops Q S s n (done.setIfInBounds i true) (a.put oi.dst v) w) : heldU P md ops Q S s (n + 1) done a w :=
  heldU_first hi (Region.noSelect_spec hs) hQ hsk (by simpa using hki) n done a w (Region.free_spec hi hf) hk (by simpa using hr) hy hS h
/-- The one that may come up comes up; it is not the first store. -/
theorem heldU_one {i : Nat} {o : Oper} {n : Nat} {done : Array Bool} {a : Act} {w : World} (hr : Region.ready md ops done = [i]) (ho : ops[i]? = some o) (hs : i ≠ s)
    (h : ∀ K' : Act → World → Prop, Shut (∀ a w, S w → (S w → heldU P md ops Q S s n (done.setIfInBounds i true) a w) → K' a w) → if Region.wanted o (yielded ops a.tmps) = true then Oper.wp P o a w K' Q else K' (a.put o.dst undef) w) :
    heldU P md ops Q S s (n + 1) done a w := by
  refine ⟨fun h0 => (by rw [hr] at h0; cases h0), fun j hj => ?_⟩
  rw [hr] at hj
  obtain rfl := List.mem_singleton.1 hj
  refine wpOp_step ho (fun K' hK => h K' (fun a w hS hW => hK a w ?_))
  rw [if_neg hs]
  exact ⟨hS, hW hS⟩
/-- The first store comes up: what follows is a region of which nothing is held. -/
theorem heldU_store {o : Oper} {n : Nat} {done : Array Bool} {a : Act} {w : World} (hr : Region.ready md ops done = [s]) (ho : ops[s]? = some o)
    (h : ∀ K' : Act → World → Prop, Shut (∀ a w, wpAnyH P md ops Q (fun _ => True) n (done.setIfInBounds s true) a w → K' a w) → if Region.wanted o (yielded ops a.tmps) = true then Oper.wp P o a w K' Q else K' (a.put o.dst undef) w) :
    heldU P md ops Q S s (n + 1) done a w := by
  refine ⟨fun h0 => (by rw [hr] at h0; cases h0), fun j hj => ?_⟩
  rw [hr] at hj
  obtain rfl := List.mem_singleton.1 hj
  refine wpOp_step ho (fun K' hK => h K' (fun a w hW => hK a w ?_))
  rw [if_pos rfl]
  exact wpAny_of_held _ _ _ _ hW
/-- The beginning. -/
theorem heldU_begin {id : Nat} {a : Act} {w : World} (s : Nat) (hm : P.follows .mixedOrders = true) (hS : S w.drew)
    (h : S w.drew → heldU P .any ops Q S s ops.size (Array.replicate ops.size false) a w.drew) : (Code.region id ops true).wp P Q a w :=
  wp_region_any hm (heldU.any _ _ _ _ (h hS))
end
end Go.Proofs.YtinbdflkpbjmcaaGreatDoor
