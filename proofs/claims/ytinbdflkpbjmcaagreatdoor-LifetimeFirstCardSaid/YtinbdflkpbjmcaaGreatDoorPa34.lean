import Derived.Test.YtinbdflkpbjmcaaGreatDoorPa13
import Derived.Test.YtinbdflkpbjmcaaGreatDoorPa33
import Derived.Test.YtinbdflkpbjmcaaGreatDoorPa4
/- What the reference's time and Normal return. -/
namespace Go.Proofs.YtinbdflkpbjmcaaGreatDoor
open Go.RowKit

/-- What the region reads, and what else is there. -/
structure NoS (N M : Nat) (d : Dv) (w w' : World) : Prop where
  a : DvB N w' d
  r : DvB M w' zD
  b : Below w.heap.size w w'
theorem NoS.below {N M : Nat} {d : Dv} {w w1 w2 : World} (h : NoS N M d w w1) (hb : Below w1.heap.size w1 w2) : NoS N M d w w2 := ⟨h.a.below hb, h.r.below hb, h.b.trans (hb.mono h.b.size)⟩
theorem noS_all {N M : Nat} {d : Dv} {w w' : World} (h : NoS N M d w w') : w'.cell? ⟨N, 6, none⟩ = some (.int .i64 d.ma) ∧ w'.cell? ⟨N, 7, none⟩ = some (.int .i64 d.sa) ∧ w'.cell? ⟨N, 8, none⟩ = some (.int .i64 d.ws) ∧ w'.cell? ⟨N, 9, none⟩ = some (.int .i64 d.oe) ∧ w'.cell? ⟨N, 10, none⟩ = some (.int .i64 d.ms) ∧ w'.cell? ⟨N, 11, none⟩ = some (.int .i64 d.mf) ∧ NoS N M d w w' := ⟨h.a.c6, h.a.c7, h.a.c8, h.a.c9, h.a.c10, h.a.c11, h⟩
end Go.Proofs.YtinbdflkpbjmcaaGreatDoor

/- What the reference's digits and Format return. -/
namespace Go.Proofs.YtinbdflkpbjmcaaGreatDoor
open Go.RowKit

/-! ### Digits -/
def dgU (m : Nat) : UInt8 := UInt8.ofNat (48 + m % 10)
theorem dgU_nat (m : Nat) : (dgU m).toNat = 48 + m % 10 := by unfold dgU; rw [UInt8.toNat_ofNat']; omega
/-- s is the end of the digits of n, m what is left. -/
def DgRelD (n m : Nat) (s : List UInt8) : Prop := (s = [] ∧ m = n) ∨ (s ≠ [] ∧ Lib.decDigits n = if m = 0 then s else Lib.decDigits m ++ s)
theorem dg_step {n m : Nat} {s : List UInt8} (h : DgRelD n m s) (hm : s = [] ∨ 0 < m) : DgRelD n (m / 10) (dgU m :: s) := by
  refine .inr ⟨by simp, ?_⟩
  have h1 : Lib.decDigits n = Lib.decDigits m ++ s := by
    rcases h with ⟨rfl, rfl⟩ | ⟨hs, hd⟩
    · simp
    · rcases hm with rfl | hm
      · exact absurd rfl hs
      · rw [if_neg (by omega)] at hd; exact hd
  rw [h1]
  by_cases h10 : m < 10
  · have hz : m / 10 = 0 := by omega
    rw [if_pos hz, Lib.decDigits_one h10]
    have : dgU m = UInt8.ofNat (48 + m) := by unfold dgU; rw [Nat.mod_eq_of_lt h10]
    rw [this]; rfl
  · rw [if_neg (by omega), Lib.decDigits, dif_neg h10]
    unfold dgU
    simp
theorem dg_len {n m : Nat} {s : List UInt8} (h : DgRelD n m s) : s.length ≤ (Lib.decDigits n).length := by
  rcases h with ⟨rfl, _⟩ | ⟨_, hd⟩
  · simp
  · rw [hd]; split <;> simp
theorem dg_done {n : Nat} {s : List UInt8} (h : DgRelD n 0 s) (hs : s ≠ []) : Lib.decDigits n = s := by
  rcases h with ⟨h1, _⟩ | ⟨_, hd⟩
  · exact absurd h1 hs
  · rw [hd, if_pos rfl]
theorem convD_one (z : Int) (c : UInt8) (hz : z = (c.toNat : Int)) (W : World) :
    (convert 103 9 (.slice (some ⟨W.heap.size, 0, none⟩) 1 1)).run Tryz.prog (W.alloc (.cells #[.int .u8 z] 5)) = .ok (.string ⟨#[c]⟩) (W.alloc (.cells #[.int .u8 z] 5)) :=
  run_convert_bytes_back _ _ _ 5 ⟨W.heap.size, 0, none⟩ 1 [c] Tryz.underlying103 Tryz.underlying5 Tryz.underlying9 (fun j hj => by
    have : j = 0 := by simp at hj; omega
    subst this
    subst hz
    simp [Addr.add])
theorem cons_strB (c : UInt8) (s : List UInt8) : (⟨#[c]⟩ : ByteArray) ++ strB s = strB (c :: s) := by apply strB_ext; simp [strB]
/-! ### The rows that Format goes through -/
def rowsD (x : Dv) : List (List UInt8 × Bool × Int) := [(nNS, x.ns, -1), (nNC, x.nc, -1), (nPR, x.pr, -1), (nPU, x.pu, -1), (nMR, x.mr, -1), (nOC, x.oc, -1), (nMA, false, x.ma), (nSA, false, x.sa), (nWS, false, x.ws), (nOE, false, x.oe), (nMS, false, x.ms), (nMF, false, x.mf)]
def rowI (p : List UInt8 × Bool × Int) : List (List UInt8) := if p.2.1 = false ∧ p.2.2 < 0 then [] else [if 0 ≤ p.2.2 ∧ (p.1 ≠ nMS ∨ p.2.2 < 2147483647) then p.1 ++ 61 :: decTD p.2.2 else p.1]
theorem rowI_flag (n : List UInt8) (b : Bool) : rowI (n, b, -1) = flagI [(n, b)] := by cases b <;> rfl
theorem rowI_time (n : List UInt8) (s : Int) (h1 : -1 ≤ s) (h2 : s ≤ 2147483647) : rowI (n, false, s) = timeI [(n, s)] := by
  by_cases hs : s = -1
  · subst hs; rfl
  · have ht : timeI [(n, s)] = [timeL n s] := by
      unfold timeI; rw [List.filter_cons_of_pos (by simpa using hs)]; rfl
    have hr : rowI (n, false, s) = [if 0 ≤ s ∧ (n ≠ nMS ∨ s < 2147483647) then n ++ 61 :: decTD s else n] := by
      unfold rowI
      rw [if_neg (by rintro ⟨_, h⟩; have h' : s < 0 := h; omega)]
    rw [ht, hr]
    unfold timeL
    by_cases hc : n = nMS ∧ s = 2147483647
    · rw [if_pos hc, if_neg]
      rintro ⟨_, h | h⟩
      · exact h hc.1
      · omega
    · rw [if_neg hc, if_pos]
      refine ⟨by omega, ?_⟩
      by_cases hn : n = nMS
      · exact .inr (by have : s ≠ 2147483647 := fun h => hc ⟨hn, h⟩; omega)
      · exact .inl hn
theorem flagI_cons (p : List UInt8 × Bool) (r : List (List UInt8 × Bool)) : flagI (p :: r) = flagI [p] ++ flagI r := by
  unfold flagI; rw [← List.map_append, ← List.filter_append]; rfl
theorem timeI_cons (p : List UInt8 × Int) (r : List (List UInt8 × Int)) : timeI (p :: r) = timeI [p] ++ timeI r := by
  unfold timeI; rw [← List.map_append, ← List.filter_append]; rfl
theorem flagI6 (a b c d e f : List UInt8 × Bool) : flagI [a, b, c, d, e, f] = flagI [a] ++ (flagI [b] ++ (flagI [c] ++ (flagI [d] ++ (flagI [e] ++ flagI [f])))) := by
  rw [flagI_cons a [b, c, d, e, f], flagI_cons b [c, d, e, f], flagI_cons c [d, e, f], flagI_cons d [e, f], flagI_cons e [f]]
theorem timeI6 (a b c d e f : List UInt8 × Int) : timeI [a, b, c, d, e, f] = timeI [a] ++ (timeI [b] ++ (timeI [c] ++ (timeI [d] ++ (timeI [e] ++ timeI [f])))) := by
  rw [timeI_cons a [b, c, d, e, f], timeI_cons b [c, d, e, f], timeI_cons c [d, e, f], timeI_cons d [e, f], timeI_cons e [f]]
theorem rows_items {x : Dv} (hx : Nor x) : (rowsD x).flatMap rowI = flagI (flagsD x) ++ timeI (timesD x) := by
  unfold rowsD flagsD timesD
  simp only [List.flatMap_cons, List.flatMap_nil, rowI_flag, rowI_time _ _ hx.ma.1 hx.ma.2, rowI_time _ _ hx.sa.1 hx.sa.2, rowI_time _ _ hx.ws.1 hx.ws.2, rowI_time _ _ hx.oe.1 hx.oe.2, rowI_time _ _ hx.ms.1 hx.ms.2, rowI_time _ _ hx.mf.1 hx.mf.2]
  rw [flagI6, timeI6]
  simp only [List.append_assoc, List.append_nil]
/-- A row is a name of at most 22 bytes, with a flag or with a time. -/
def RowOk (p : List UInt8 × Bool × Int) : Prop := p.1 ≠ [] ∧ p.1.length ≤ 22 ∧ -1 ≤ p.2.2 ∧ p.2.2 ≤ 2147483647 ∧ (p.2.1 = true → p.2.2 = -1)
theorem ok_flag (n : List UInt8) (b : Bool) (h1 : n ≠ []) (h2 : n.length ≤ 22) : RowOk (n, b, -1) := ⟨h1, h2, by show (-1 : Int) ≤ -1; omega, by show (-1 : Int) ≤ 2147483647; omega, fun _ => rfl⟩
theorem ok_time (n : List UInt8) (s : Int) (h : -1 ≤ s ∧ s ≤ 2147483647) (h1 : n ≠ []) (h2 : n.length ≤ 22) : RowOk (n, false, s) := ⟨h1, h2, h.1, h.2, fun h => by cases h⟩
theorem rows_ok {x : Dv} (hx : Nor x) : ∀ p ∈ rowsD x, RowOk p := by
  intro p hp
  unfold rowsD at hp
  simp only [List.mem_cons, List.not_mem_nil, or_false] at hp
  rcases hp with rfl | rfl | rfl | rfl | rfl | rfl | rfl | rfl | rfl | rfl | rfl | rfl
  · exact ok_flag nNS _ (by decide) (by decide)
  · exact ok_flag nNC _ (by decide) (by decide)
  · exact ok_flag nPR _ (by decide) (by decide)
  · exact ok_flag nPU _ (by decide) (by decide)
  · exact ok_flag nMR _ (by decide) (by decide)
  · exact ok_flag nOC _ (by decide) (by decide)
  · exact ok_time nMA _ hx.ma (by decide) (by decide)
  · exact ok_time nSA _ hx.sa (by decide) (by decide)
  · exact ok_time nWS _ hx.ws (by decide) (by decide)
  · exact ok_time nOE _ hx.oe (by decide) (by decide)
  · exact ok_time nMS _ hx.ms (by decide) (by decide)
  · exact ok_time nMF _ hx.mf (by decide) (by decide)
theorem rowI_ok {p : List UInt8 × Bool × Int} (h : RowOk p) : ∀ t ∈ rowI p, t ≠ [] ∧ t.length ≤ 40 := by
  intro t ht
  unfold rowI at ht
  split at ht
  · cases ht
  · obtain rfl := List.mem_singleton.1 ht
    split
    · rename_i h1
      have := decT_len p.2.2 h1.1 h.2.2.2.1
      exact ⟨by simp, by simp only [List.length_append, List.length_cons]; have := h.2.1; omega⟩
    · exact ⟨h.1, by have := h.2.1; omega⟩
theorem rowI_len (p : List UInt8 × Bool × Int) : (rowI p).length ≤ 1 := by unfold rowI; split <;> simp
theorem getD_snoc : ∀ (ls : List (List UInt8)) (t : List UInt8), ls ≠ [] → getL (ls ++ [t]) = getL ls ++ 44 :: 32 :: t := by
  intro ls
  induction ls with
  | nil => intro t h; exact absurd rfl h
  | cons a r ih =>
    intro t _
    cases r with
    | nil => rfl
    | cons b q =>
      show a ++ 44 :: 32 :: getL (b :: (q ++ [t])) = (a ++ 44 :: 32 :: getL (b :: q)) ++ 44 :: 32 :: t
      have := ih t (by simp)
      rw [List.cons_append] at this
      rw [this]; simp
theorem getD_nil {ls : List (List UInt8)} (h : ∀ t ∈ ls, t ≠ []) (h0 : getL ls = []) : ls = [] := by
  cases ls with
  | nil => rfl
  | cons a r =>
    exfalso
    cases r with
    | nil => exact h a (by simp) h0
    | cons b q => simp [getL] at h0
theorem flat_ok {l : List (List UInt8 × Bool × Int)} (h : ∀ p ∈ l, RowOk p) : ∀ t ∈ l.flatMap rowI, t ≠ [] ∧ t.length ≤ 40 := by
  intro t ht
  obtain ⟨p, hp, h1⟩ := List.mem_flatMap.1 ht
  exact rowI_ok (h p hp) t h1
theorem flat_len (l : List (List UInt8 × Bool × Int)) : (l.flatMap rowI).length ≤ l.length := by
  induction l with
  | nil => simp
  | cons p r ih => rw [List.flatMap_cons, List.length_append, List.length_cons]; have := rowI_len p; omega
theorem flat_more {l : List (List UInt8 × Bool × Int)} {k : Nat} {p : List UInt8 × Bool × Int} (h : l[k]? = some p) : (l.take (k + 1)).flatMap rowI = (l.take k).flatMap rowI ++ rowI p := by
  rw [List.take_add_one, h, List.flatMap_append]; simp
theorem rows_new (x : Dv) (w : World) (E : TypeId) : ∀ j p, (rowsD x)[j]? = some p → (w.alloc (.cells #[.string (strB nNS), .bool x.ns, .int .i64 (-1), .string (strB nNC), .bool x.nc, .int .i64 (-1), .string (strB nPR), .bool x.pr, .int .i64 (-1), .string (strB nPU), .bool x.pu, .int .i64 (-1), .string (strB nMR), .bool x.mr, .int .i64 (-1), .string (strB nOC), .bool x.oc, .int .i64 (-1), .string (strB nMA), .bool false, .int .i64 x.ma, .string (strB nSA), .bool false, .int .i64 x.sa, .string (strB nWS), .bool false, .int .i64 x.ws, .string (strB nOE), .bool false, .int .i64 x.oe, .string (strB nMS), .bool false, .int .i64 x.ms, .string (strB nMF), .bool false, .int .i64 x.mf] E)).cell? ⟨w.heap.size, j * 3, none⟩ = some (.string (strB p.1)) ∧ (w.alloc (.cells #[.string (strB nNS), .bool x.ns, .int .i64 (-1), .string (strB nNC), .bool x.nc, .int .i64 (-1), .string (strB nPR), .bool x.pr, .int .i64 (-1), .string (strB nPU), .bool x.pu, .int .i64 (-1), .string (strB nMR), .bool x.mr, .int .i64 (-1), .string (strB nOC), .bool x.oc, .int .i64 (-1), .string (strB nMA), .bool false, .int .i64 x.ma, .string (strB nSA), .bool false, .int .i64 x.sa, .string (strB nWS), .bool false, .int .i64 x.ws, .string (strB nOE), .bool false, .int .i64 x.oe, .string (strB nMS), .bool false, .int .i64 x.ms, .string (strB nMF), .bool false, .int .i64 x.mf] E)).cell? ⟨w.heap.size, j * 3 + 1, none⟩ = some (.bool p.2.1) ∧ (w.alloc (.cells #[.string (strB nNS), .bool x.ns, .int .i64 (-1), .string (strB nNC), .bool x.nc, .int .i64 (-1), .string (strB nPR), .bool x.pr, .int .i64 (-1), .string (strB nPU), .bool x.pu, .int .i64 (-1), .string (strB nMR), .bool x.mr, .int .i64 (-1), .string (strB nOC), .bool x.oc, .int .i64 (-1), .string (strB nMA), .bool false, .int .i64 x.ma, .string (strB nSA), .bool false, .int .i64 x.sa, .string (strB nWS), .bool false, .int .i64 x.ws, .string (strB nOE), .bool false, .int .i64 x.oe, .string (strB nMS), .bool false, .int .i64 x.ms, .string (strB nMF), .bool false, .int .i64 x.mf] E)).cell? ⟨w.heap.size, j * 3 + 2, none⟩ = some (.int .i64 p.2.2) := by
  intro j p h
  match j, h with
    | 0, h => simp [rowsD] at h; subst h; exact ⟨by rw [World.cell?_alloc_at _ _ _ _ rfl]; rfl, by rw [World.cell?_alloc_at _ _ _ _ rfl]; rfl, by rw [World.cell?_alloc_at _ _ _ _ rfl]; rfl⟩
    | 1, h => simp [rowsD] at h; subst h; exact ⟨by rw [World.cell?_alloc_at _ _ _ _ rfl]; rfl, by rw [World.cell?_alloc_at _ _ _ _ rfl]; rfl, by rw [World.cell?_alloc_at _ _ _ _ rfl]; rfl⟩
    | 2, h => simp [rowsD] at h; subst h; exact ⟨by rw [World.cell?_alloc_at _ _ _ _ rfl]; rfl, by rw [World.cell?_alloc_at _ _ _ _ rfl]; rfl, by rw [World.cell?_alloc_at _ _ _ _ rfl]; rfl⟩
    | 3, h => simp [rowsD] at h; subst h; exact ⟨by rw [World.cell?_alloc_at _ _ _ _ rfl]; rfl, by rw [World.cell?_alloc_at _ _ _ _ rfl]; rfl, by rw [World.cell?_alloc_at _ _ _ _ rfl]; rfl⟩
    | 4, h => simp [rowsD] at h; subst h; exact ⟨by rw [World.cell?_alloc_at _ _ _ _ rfl]; rfl, by rw [World.cell?_alloc_at _ _ _ _ rfl]; rfl, by rw [World.cell?_alloc_at _ _ _ _ rfl]; rfl⟩
    | 5, h => simp [rowsD] at h; subst h; exact ⟨by rw [World.cell?_alloc_at _ _ _ _ rfl]; rfl, by rw [World.cell?_alloc_at _ _ _ _ rfl]; rfl, by rw [World.cell?_alloc_at _ _ _ _ rfl]; rfl⟩
    | 6, h => simp [rowsD] at h; subst h; exact ⟨by rw [World.cell?_alloc_at _ _ _ _ rfl]; rfl, by rw [World.cell?_alloc_at _ _ _ _ rfl]; rfl, by rw [World.cell?_alloc_at _ _ _ _ rfl]; rfl⟩
    | 7, h => simp [rowsD] at h; subst h; exact ⟨by rw [World.cell?_alloc_at _ _ _ _ rfl]; rfl, by rw [World.cell?_alloc_at _ _ _ _ rfl]; rfl, by rw [World.cell?_alloc_at _ _ _ _ rfl]; rfl⟩
    | 8, h => simp [rowsD] at h; subst h; exact ⟨by rw [World.cell?_alloc_at _ _ _ _ rfl]; rfl, by rw [World.cell?_alloc_at _ _ _ _ rfl]; rfl, by rw [World.cell?_alloc_at _ _ _ _ rfl]; rfl⟩
    | 9, h => simp [rowsD] at h; subst h; exact ⟨by rw [World.cell?_alloc_at _ _ _ _ rfl]; rfl, by rw [World.cell?_alloc_at _ _ _ _ rfl]; rfl, by rw [World.cell?_alloc_at _ _ _ _ rfl]; rfl⟩
    | 10, h => simp [rowsD] at h; subst h; exact ⟨by rw [World.cell?_alloc_at _ _ _ _ rfl]; rfl, by rw [World.cell?_alloc_at _ _ _ _ rfl]; rfl, by rw [World.cell?_alloc_at _ _ _ _ rfl]; rfl⟩
    | 11, h => simp [rowsD] at h; subst h; exact ⟨by rw [World.cell?_alloc_at _ _ _ _ rfl]; rfl, by rw [World.cell?_alloc_at _ _ _ _ rfl]; rfl, by rw [World.cell?_alloc_at _ _ _ _ rfl]; rfl⟩
    | j + 12, h => simp [rowsD] at h
end Go.Proofs.YtinbdflkpbjmcaaGreatDoor

/- Plain mathematics of chapter 11: values joined by commas, values in upper case, values that are no list, and the text of directives read again. -/
namespace Go.Proofs.YtinbdflkpbjmcaaGreatDoor

/-! ### Lists -/
theorem scan_comma {b : UInt8} (hb : b ≠ 34) : ∀ (l : List UInt8) (st : St) (cur : List UInt8) (ps : List (List UInt8)) (r : List UInt8), scan b st cur l = some ps → scan b st cur (l ++ b :: r) = (scan b .out [] r).map (ps ++ ·) := by
  intro l
  induction l with
  | nil =>
    intro st cur ps r h
    cases st
    · simp only [scan, Option.some.injEq] at h
      subst h
      simp [scan, hb]
    · simp [scan] at h
    · simp [scan] at h
  | cons c t ih =>
    intro st cur ps r h
    cases st
    · rw [List.cons_append, scan]
      rw [scan] at h
      by_cases h34 : c = 34
      · rw [if_pos h34] at h ⊢; exact ih _ _ _ _ h
      · rw [if_neg h34] at h ⊢
        by_cases hc : c = b
        · rw [if_pos hc] at h ⊢
          cases hr : scan b .out [] t with
          | none => rw [hr] at h; cases h
          | some qs =>
            rw [hr] at h
            simp only [Option.map_some, Option.some.injEq] at h
            subst h
            rw [ih _ _ _ r hr, Option.map_map]; rfl
        · rw [if_neg hc] at h ⊢; exact ih _ _ _ _ h
    · rw [List.cons_append, scan]
      rw [scan] at h
      by_cases h34 : c = 34
      · rw [if_pos h34] at h ⊢; exact ih _ _ _ _ h
      · rw [if_neg h34] at h ⊢
        by_cases h92 : c = 92
        · rw [if_pos h92] at h ⊢; exact ih _ _ _ _ h
        · rw [if_neg h92] at h ⊢; exact ih _ _ _ _ h
    · rw [List.cons_append, scan]
      rw [scan] at h
      exact ih _ _ _ _ h
theorem list_some {l : List UInt8} {ls : List (List UInt8)} (h : listO l = some ls) : ctlS l = false ∧ ∃ ps, scan 44 .out [] l = some ps ∧ ls = (ps.map trimB).filter (!·.isEmpty) := by
  unfold listO partsO at h
  cases hc : ctlS l with
  | true => rw [hc] at h; cases h
  | false =>
    rw [hc] at h
    cases hs : scan 44 .out [] l with
    | none => rw [hs] at h; cases h
    | some ps =>
      rw [hs] at h
      simp only [Bool.false_eq_true, if_false, Option.map_some, Option.some.injEq] at h
      exact ⟨rfl, ps, rfl, h.symm⟩
theorem list_of {l : List UInt8} {ps : List (List UInt8)} (hc : ctlS l = false) (hs : scan 44 .out [] l = some ps) : listO l = some ((ps.map trimB).filter (!·.isEmpty)) := by
  unfold listO partsO; rw [hc, hs]; rfl
theorem ctl_app (l r : List UInt8) : ctlS (l ++ r) = (ctlS l || ctlS r) := by unfold ctlS; rw [List.any_append]
theorem ctl_cons (c : UInt8) (r : List UInt8) : ctlS (c :: r) = (ctlB c || ctlS r) := rfl
theorem list_join {v r : List UInt8} {ls : List (List UInt8)} (h : listO v = some ls) : listO (v ++ 44 :: r) = (listO r).map (ls ++ ·) := by
  obtain ⟨hc, ps, hs, rfl⟩ := list_some h
  have e := scan_comma (b := 44) (by decide) _ _ _ _ r hs
  have ec : ctlS (v ++ 44 :: r) = ctlS r := by rw [ctl_app, hc, ctl_cons]; rfl
  unfold listO partsO
  rw [ec, e]
  cases ctlS r
  · cases scan 44 .out [] r with
    | none => rfl
    | some qs => simp
  · rfl
/-- The values, with a comma between them. -/
def joinC : List (List UInt8) → List UInt8
  | [] => []
  | [v] => v
  | v :: u :: r => v ++ 44 :: joinC (u :: r)
theorem joinC_snoc : ∀ (vs : List (List UInt8)) (v : List UInt8), vs ≠ [] → joinC (vs ++ [v]) = joinC vs ++ 44 :: v := by
  intro vs
  induction vs with
  | nil => intro v h; exact absurd rfl h
  | cons u r ih =>
    intro v _
    cases r with
    | nil => rfl
    | cons t q =>
      show u ++ 44 :: joinC (t :: (q ++ [v])) = (u ++ 44 :: joinC (t :: q)) ++ 44 :: v
      have := ih v (by simp)
      rw [List.cons_append] at this
      rw [this]; simp
theorem vals_flat : ∀ (vs : List (List UInt8)) (d : Dv), (∀ v ∈ vs, listO v ≠ none) → vs.foldl valD d = (vs.flatMap fun v => (listO v).getD []).foldl elemD d := by
  intro vs
  induction vs with
  | nil => intro d _; rfl
  | cons v r ih =>
    intro d h
    rw [List.foldl_cons, List.flatMap_cons, List.foldl_append, ih _ fun u hu => h u (by simp [hu])]
    congr 1
    unfold valD
    cases hv : listO v with
    | none => exact absurd hv (h v (by simp))
    | some ls => rfl
theorem list_joinC : ∀ vs : List (List UInt8), (∀ v ∈ vs, listO v ≠ none) → listO (joinC vs) = some (vs.flatMap fun v => (listO v).getD []) := by
  intro vs
  induction vs with
  | nil => intro _; decide +kernel
  | cons v r ih =>
    intro h
    cases hv : listO v with
    | none => exact absurd hv (h v (by simp))
    | some ls =>
      cases r with
      | nil => show listO v = _; rw [hv]; simp [hv]
      | cons u q =>
        show listO (v ++ 44 :: joinC (u :: q)) = _
        rw [list_join hv, ih fun x hx => h x (by simp [hx])]
        simp [hv]
theorem parse_joinC {vs : List (List UInt8)} (h : ∀ v ∈ vs, listO v ≠ none) : parseD [joinC vs] = parseD vs := by
  unfold parseD
  rw [vals_flat vs _ h, vals_flat [joinC vs] _ (fun v hv => by
    obtain rfl := List.mem_singleton.1 hv
    rw [list_joinC vs h]; simp)]
  simp [list_joinC vs h]

/-! ### Upper case -/
def upB (c : UInt8) : UInt8 := if 97 ≤ c.toNat ∧ c.toNat ≤ 122 then c - 32 else c
def upS (l : List UInt8) : List UInt8 := l.map upB
theorem all_u8 {p : UInt8 → Bool} (h : (List.range 256).all (fun n => p (UInt8.ofNat n)) = true) (c : UInt8) : p c = true := by
  have := List.all_eq_true.1 h c.toNat (List.mem_range.2 (UInt8.toNat_lt c))
  simp at this; exact this
theorem up_eq (c : UInt8) : (upB c = 34 ↔ c = 34) ∧ (upB c = 92 ↔ c = 92) ∧ (upB c = 44 ↔ c = 44) ∧ (upB c = 61 ↔ c = 61) := by
  have h := all_u8 (p := fun c => (decide (upB c = 34) == decide (c = 34)) && (decide (upB c = 92) == decide (c = 92)) && (decide (upB c = 44) == decide (c = 44)) && (decide (upB c = 61) == decide (c = 61))) (by decide +kernel) c
  simp only [Bool.and_eq_true, beq_iff_eq, decide_eq_decide] at h
  exact ⟨h.1.1.1, h.1.1.2, h.1.2, h.2⟩
theorem up_ctl (c : UInt8) : ctlB (upB c) = ctlB c := by
  have h := all_u8 (p := fun c => ctlB (upB c) == ctlB c) (by decide +kernel) c
  simpa using h
theorem up_blank (c : UInt8) : blank (upB c) = blank c := by
  have h := all_u8 (p := fun c => blank (upB c) == blank c) (by decide +kernel) c
  simpa using h
theorem up_low (c : UInt8) : lowB (upB c) = lowB c := by
  have h := all_u8 (p := fun c => lowB (upB c) == lowB c) (by decide +kernel) c
  simpa using h
theorem up_dig (c : UInt8) : (48 ≤ c.toNat ∧ c.toNat ≤ 57 → upB c = c) ∧ ((48 ≤ (upB c).toNat ∧ (upB c).toNat ≤ 57) ↔ (48 ≤ c.toNat ∧ c.toNat ≤ 57)) := by
  have h := all_u8 (p := fun c => (!(decide (48 ≤ c.toNat ∧ c.toNat ≤ 57)) || decide (upB c = c)) && (decide (48 ≤ (upB c).toNat ∧ (upB c).toNat ≤ 57) == decide (48 ≤ c.toNat ∧ c.toNat ≤ 57))) (by decide +kernel) c
  simp only [Bool.and_eq_true, Bool.or_eq_true, Bool.not_eq_true', decide_eq_false_iff_not, decide_eq_true_eq, beq_iff_eq, decide_eq_decide] at h
  refine ⟨fun hd => ?_, h.2⟩
  rcases h.1 with h1 | h1
  · exact absurd hd h1
  · exact h1
theorem upS_app (l r : List UInt8) : upS (l ++ r) = upS l ++ upS r := by simp [upS]
theorem upS_cons (c : UInt8) (r : List UInt8) : upS (c :: r) = upB c :: upS r := rfl
theorem upS_nil (l : List UInt8) : upS l = [] ↔ l = [] := by simp [upS]
theorem up_ctlS (l : List UInt8) : ctlS (upS l) = ctlS l := by
  unfold ctlS upS; rw [List.any_map]
  congr 1; funext c; exact up_ctl c
theorem up_lowS (l : List UInt8) : lowS (upS l) = lowS l := by
  unfold lowS upS; rw [List.map_map]
  exact List.map_congr_left fun c _ => up_low c
theorem up_scan : ∀ (l : List UInt8) (st : St) (cur : List UInt8), scan 44 st (upS cur) (upS l) = (scan 44 st cur l).map (·.map upS) := by
  intro l
  induction l with
  | nil => intro st cur; cases st <;> simp [scan, upS]
  | cons c r ih =>
    intro st cur
    have h := up_eq c
    have e : upS cur ++ [upB c] = upS (cur ++ [c]) := by simp [upS]
    rw [upS_cons]
    cases st
    · rw [scan, scan, e]
      by_cases h34 : c = 34
      · rw [if_pos h34, if_pos (h.1.2 h34)]; exact ih _ _
      · rw [if_neg h34, if_neg (fun x => h34 (h.1.1 x))]
        by_cases h44 : c = 44
        · rw [if_pos h44, if_pos (h.2.2.1.2 h44)]
          have := ih .out []
          rw [show upS [] = [] from rfl] at this
          rw [this, Option.map_map, Option.map_map]; rfl
        · rw [if_neg h44, if_neg (fun x => h44 (h.2.2.1.1 x))]; exact ih _ _
    · rw [scan, scan, e]
      by_cases h34 : c = 34
      · rw [if_pos h34, if_pos (h.1.2 h34)]; exact ih _ _
      · rw [if_neg h34, if_neg (fun x => h34 (h.1.1 x))]
        by_cases h92 : c = 92
        · rw [if_pos h92, if_pos (h.2.1.2 h92)]; exact ih _ _
        · rw [if_neg h92, if_neg (fun x => h92 (h.2.1.1 x))]; exact ih _ _
    · rw [scan, scan, e]; exact ih _ _
theorem up_drop : ∀ l : List UInt8, (upS l).dropWhile blank = upS (l.dropWhile blank) := by
  intro l
  induction l with
  | nil => rfl
  | cons c r ih =>
    rw [upS_cons, List.dropWhile_cons, List.dropWhile_cons, up_blank]
    split
    · exact ih
    · rfl
theorem up_rev (l : List UInt8) : (upS l).reverse = upS l.reverse := by simp [upS]
theorem up_trim (l : List UInt8) : trimB (upS l) = upS (trimB l) := by
  rw [trimB_eq, trimB_eq]
  unfold tR tL
  rw [up_drop, up_rev, up_drop, up_rev]
theorem up_list (l : List UInt8) : listO (upS l) = (listO l).map (·.map upS) := by
  unfold listO partsO
  rw [up_ctlS]
  cases ctlS l
  · have := up_scan l .out []
    rw [show upS [] = [] from rfl] at this
    rw [this]
    cases scan 44 .out [] l with
    | none => rfl
    | some ps =>
      simp only [Bool.false_eq_true, if_false, Option.map_some, List.map_map, Option.some.injEq]
      have e1 : trimB ∘ upS = upS ∘ trimB := by funext x; exact up_trim x
      rw [e1, ← List.map_map, List.filter_map]
      congr 2
      funext x
      show (!(upS x).isEmpty) = !x.isEmpty
      cases x <;> rfl
  · rfl
theorem up_cut : ∀ l : List UInt8, cutE (upS l) = (cutE l).map fun p => (upS p.1, upS p.2) := by
  intro l
  induction l with
  | nil => rfl
  | cons c r ih =>
    have h := (up_eq c).2.2.2
    rw [upS_cons, cutE, cutE]
    by_cases h61 : c = 61
    · rw [if_pos h61, if_pos (h.2 h61)]; rfl
    · rw [if_neg h61, if_neg (fun x => h61 (h.1 x)), ih, Option.map_map, Option.map_map]; rfl
theorem up_rq : ∀ (l : List UInt8) (e : Bool), rq e (upS l) = (rq e l).map upS := by
  intro l
  induction l with
  | nil => intro e; cases e <;> rfl
  | cons c r ih =>
    intro e
    have h := up_eq c
    rw [upS_cons]
    cases e
    · rw [rq, rq]
      by_cases h34 : c = 34
      · rw [if_pos h34, if_pos (h.1.2 h34)]
        by_cases hr : r = []
        · subst hr; rfl
        · rw [if_neg hr, if_neg (fun x => hr ((upS_nil r).1 x))]; rfl
      · rw [if_neg h34, if_neg (fun x => h34 (h.1.1 x))]
        by_cases h92 : c = 92
        · rw [if_pos h92, if_pos (h.2.1.2 h92)]; exact ih _
        · rw [if_neg h92, if_neg (fun x => h92 (h.2.1.1 x)), ih, Option.map_map, Option.map_map]; rfl
    · rw [rq, rq, ih, Option.map_map, Option.map_map]; rfl
theorem up_head (l : List UInt8) : (upS l).headD 0 = 34 ↔ l.headD 0 = 34 := by
  cases l with
  | nil => rfl
  | cons c r => exact (up_eq c).1
theorem up_unq (l : List UInt8) : unqO (upS l) = (unqO l).map upS := by
  have hl : (upS l).length = l.length := by simp [upS]
  have hd : (upS l).drop 1 = upS (l.drop 1) := by simp [upS]
  unfold unqO
  by_cases h : ctlS l = true ∨ l.length < 2 ∨ l.headD 0 ≠ 34
  · rw [if_pos h, if_pos]
    · rfl
    · rw [up_ctlS, hl]
      rcases h with h | h | h
      · exact .inl h
      · exact .inr (.inl h)
      · exact .inr (.inr fun x => h ((up_head l).1 x))
  · rw [if_neg h, if_neg, hd, up_rq]
    rw [up_ctlS, hl]
    rintro (x | x | x)
    · exact h (.inl x)
    · exact h (.inr (.inl x))
    · exact h (.inr (.inr fun y => x ((up_head l).2 y)))
theorem up_arg (a : List UInt8) : argL (upS a) = upS (argL a) := by
  unfold argL
  by_cases h : a.headD 0 = 34
  · rw [if_pos h, if_pos ((up_head a).2 h), up_unq]
    cases unqO a <;> rfl
  · rw [if_neg h, if_neg (fun x => h ((up_head a).1 x))]
theorem up_num : ∀ (l : List UInt8) (n : Int), numA (upS l) n = numA l n := by
  intro l
  induction l with
  | nil => intro n; rfl
  | cons c r ih =>
    intro n
    have h := up_dig c
    rw [upS_cons, numA, numA]
    by_cases hd : 48 ≤ c.toNat ∧ c.toNat ≤ 57
    · rw [if_pos hd, if_pos (h.2.2 hd), h.1 hd]; exact ih _
    · rw [if_neg hd, if_neg (fun x => hd (h.2.1 x))]
theorem up_sec (a : List UInt8) : secL (upS a) = secL a := by
  unfold secL
  rw [up_arg, up_num]
  by_cases h : argL a = []
  · rw [if_pos h, if_pos ((upS_nil _).2 h)]
  · rw [if_neg h, if_neg (fun x => h ((upS_nil _).1 x))]
theorem up_elem (d : Dv) (e : List UInt8) : elemD d (upS e) = elemD d e := by
  unfold elemD
  rw [up_cut]
  cases cutE e with
  | none => show putD d (lowS (upS e)) none = _; rw [up_lowS]
  | some p =>
    show putD d (lowS (upS p.1)) (some (upS p.2)) = putD d (lowS p.1) (some p.2)
    rw [up_lowS]
    unfold putD argX argY argZ
    simp only [Option.bind_some, up_sec]
theorem up_elems : ∀ (ls : List (List UInt8)) (d : Dv), (ls.map upS).foldl elemD d = ls.foldl elemD d := by
  intro ls
  induction ls with
  | nil => intro d; rfl
  | cons e r ih => intro d; rw [List.map_cons, List.foldl_cons, List.foldl_cons, up_elem, ih]
theorem up_val (d : Dv) (v : List UInt8) : valD d (upS v) = valD d v := by
  unfold valD
  rw [up_list]
  cases listO v with
  | none => rfl
  | some ls => exact up_elems ls d
theorem up_parse (vs : List (List UInt8)) : parseD (vs.map upS) = parseD vs := by
  have : ∀ (vs : List (List UInt8)) (d : Dv), (vs.map upS).foldl valD d = vs.foldl valD d := by
    intro vs
    induction vs with
    | nil => intro d; rfl
    | cons v r ih => intro d; rw [List.map_cons, List.foldl_cons, List.foldl_cons, up_val, ih]
  exact this vs noneD

/-! ### An unknown directive -/
def more0 : List UInt8 := [120, 45, 109, 111, 114, 101, 61, 34, 97, 44, 32, 110, 111, 45, 115, 116, 111, 114, 101, 34, 32]
def immL : List UInt8 := [105, 109, 109, 117, 116, 97, 98, 108, 101]
theorem list_more0 : listO more0 = some [[120, 45, 109, 111, 114, 101, 61, 34, 97, 44, 32, 110, 111, 45, 115, 116, 111, 114, 101, 34]] := by decide +kernel
theorem list_imm : listO immL = some [immL] := by decide +kernel
theorem elem_more0 (d : Dv) : elemD d [120, 45, 109, 111, 114, 101, 61, 34, 97, 44, 32, 110, 111, 45, 115, 116, 111, 114, 101, 34] = d := by
  have h : cutE [120, 45, 109, 111, 114, 101, 61, 34, 97, 44, 32, 110, 111, 45, 115, 116, 111, 114, 101, 34] = some ([120, 45, 109, 111, 114, 101], [34, 97, 44, 32, 110, 111, 45, 115, 116, 111, 114, 101, 34]) := by decide +kernel
  have hk : kindL (lowS [120, 45, 109, 111, 114, 101]) = 12 := by decide +kernel
  unfold elemD; rw [h]
  show putD d _ _ = d
  unfold putD; rw [hk]; rfl
theorem elem_imm (d : Dv) : elemD d immL = d := by
  have h : cutE immL = none := by decide +kernel
  have hk : kindL (lowS immL) = 12 := by decide +kernel
  unfold elemD; rw [h]
  show putD d _ _ = d
  unfold putD; rw [hk]; rfl
theorem val_more (d : Dv) (v : List UInt8) : valD d (more0 ++ 44 :: v) = valD d v := by
  unfold valD
  rw [list_join list_more0]
  cases listO v with
  | none => rfl
  | some ls => show List.foldl elemD d (_ :: ls) = _; rw [List.foldl_cons, elem_more0]
theorem val_imm (d : Dv) : valD d immL = d := by
  unfold valD; rw [list_imm]
  show elemD d immL = d
  exact elem_imm d
def moreV (vs : List (List UInt8)) : List (List UInt8) := vs.flatMap fun v => [more0 ++ 44 :: v, immL]
theorem parse_more (vs : List (List UInt8)) : parseD (moreV vs) = parseD vs := by
  have : ∀ (vs : List (List UInt8)) (d : Dv), (moreV vs).foldl valD d = vs.foldl valD d := by
    intro vs
    induction vs with
    | nil => intro d; rfl
    | cons v r ih =>
      intro d
      show (moreV r).foldl valD (valD (valD d (more0 ++ 44 :: v)) immL) = _
      rw [val_more, val_imm, ih]; rfl
  exact this vs noneD

/-! ### A value with a quoted string that does not end -/
theorem scan_open (b : UInt8) : ∀ (t cur : List UInt8), (∀ c ∈ t, c ≠ 34 ∧ c ≠ 92) → scan b .inn cur t = none := by
  intro t
  induction t with
  | nil => intro cur _; rfl
  | cons c r ih =>
    intro cur h
    have hc := h c (by simp)
    rw [scan, if_neg hc.1, if_neg hc.2]
    exact ih _ fun x hx => h x (by simp [hx])
theorem scan_none (b : UInt8) (t : List UInt8) (ht : ∀ c ∈ t, c ≠ 34 ∧ c ≠ 92) : ∀ (p cur : List UInt8), 34 ∉ p → scan b .out cur (p ++ 34 :: t) = none := by
  intro p
  induction p with
  | nil => intro cur _; rw [List.nil_append, scan, if_pos rfl]; exact scan_open b t _ ht
  | cons c r ih =>
    intro cur h
    have hc : c ≠ 34 := fun e => h (by rw [e]; simp)
    have hr : 34 ∉ r := fun e => h (by simp [e])
    rw [List.cons_append, scan, if_neg hc]
    split
    · rw [ih _ hr]; rfl
    · exact ih _ hr
def brokP : List UInt8 := [112, 117, 98, 108, 105, 99, 44, 32, 109, 97, 120, 45, 97, 103, 101, 61]
theorem val_broken (d : Dv) (t : List UInt8) (ht : ∀ c ∈ t, c ≠ 34 ∧ c ≠ 92) : valD d (brokP ++ 34 :: 49 :: t) = { d with ns := true } := by
  have hs : scan 44 .out [] (brokP ++ 34 :: 49 :: t) = none := scan_none 44 (49 :: t) (fun c hc => by
    rcases List.mem_cons.1 hc with e | e
    · subst e; decide
    · exact ht c e) brokP [] (by decide)
  have h : listO (brokP ++ 34 :: 49 :: t) = none := by
    unfold listO partsO; rw [hs]; split <;> rfl
  unfold valD; rw [h]
end Go.Proofs.YtinbdflkpbjmcaaGreatDoor
