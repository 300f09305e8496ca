/- What the reference's digits and Format return. -/
import Derived.Test.YtnjjjfbklgdgpaaDoorDRefNorm
import Derived.Test.YtnjjjfbklgdgpaaDoorDFmt
namespace Go.Proofs.YtnjjjfbklgdgpaaDoor
open Go.RowKit

/-! ### Digits -/
def dgU (m : Nat) : UInt8 := UInt8.ofNat (48 + m % 10)
theorem dgU_nat (m : Nat) : (dgU m).toNat = 48 + m % 10 := by unfold dgU; rw [UInt8.toNat_ofNat']; omega
/-- s is the end of the digits of n, m what is left. -/
def DgRel (n m : Nat) (s : List UInt8) : Prop := (s = [] ∧ m = n) ∨ (s ≠ [] ∧ Lib.decDigits n = if m = 0 then s else Lib.decDigits m ++ s)
theorem dg_step {n m : Nat} {s : List UInt8} (h : DgRel n m s) (hm : s = [] ∨ 0 < m) : DgRel n (m / 10) (dgU m :: s) := by
  refine .inr ⟨by simp, ?_⟩
  have h1 : Lib.decDigits n = Lib.decDigits m ++ s := by
    rcases h with ⟨rfl, rfl⟩ | ⟨hs, hd⟩
    · simp
    · rcases hm with rfl | hm
      · exact absurd rfl hs
      · rw [if_neg (by omega)] at hd; exact hd
  rw [h1]
  by_cases h10 : m < 10
  · have hz : m / 10 = 0 := by omega
    rw [if_pos hz, Lib.decDigits_one h10]
    have : dgU m = UInt8.ofNat (48 + m) := by unfold dgU; rw [Nat.mod_eq_of_lt h10]
    rw [this]; rfl
  · rw [if_neg (by omega), Lib.decDigits, dif_neg h10]
    unfold dgU
    simp
theorem dg_len {n m : Nat} {s : List UInt8} (h : DgRel n m s) : s.length ≤ (Lib.decDigits n).length := by
  rcases h with ⟨rfl, _⟩ | ⟨_, hd⟩
  · simp
  · rw [hd]; split <;> simp
theorem dg_done {n : Nat} {s : List UInt8} (h : DgRel n 0 s) (hs : s ≠ []) : Lib.decDigits n = s := by
  rcases h with ⟨h1, _⟩ | ⟨_, hd⟩
  · exact absurd h1 hs
  · rw [hd, if_pos rfl]
theorem convD_one (z : Int) (c : UInt8) (hz : z = (c.toNat : Int)) (W : World) :
    (convert 72 9 (.slice (some ⟨W.heap.size, 0, none⟩) 1 1)).run Tryd.prog (W.alloc (.cells #[.int .u8 z] 5)) = .ok (.string ⟨#[c]⟩) (W.alloc (.cells #[.int .u8 z] 5)) :=
  run_convert_bytes_back _ _ _ 5 ⟨W.heap.size, 0, none⟩ 1 [c] Tryd.underlying72 Tryd.underlying5 Tryd.underlying9 (fun j hj => by
    have : j = 0 := by simp at hj; omega
    subst this
    subst hz
    simp [Addr.add])
theorem cons_strB (c : UInt8) (s : List UInt8) : (⟨#[c]⟩ : ByteArray) ++ strB s = strB (c :: s) := by apply strB_ext; simp [strB]
set_option maxHeartbeats 2000000 in
set_option maxRecDepth 100000 in
theorem digits_any (n : Nat) (hn : n ≤ 2147483647) (w : World) :
    Calls Tryd.prog 36 #[.int .i64 (n : Int)] w fun e w' => e = .returned (.string (strB (Lib.decDigits n))) ∧ Below w.heap.size w w' := by
  have hdl : (Lib.decDigits n).length ≤ 10 := by have := decT_len (n : Int) (by omega) (by omega); simpa [decT] using this
  go_enter Tryd.func36, Tryd.ntmps36
  go_wp2
  go_loopw [0, 3] (fun i v wr => ∃ (m : Nat) (s : List UInt8), i = .int .i64 (m : Int) ∧ v = .string (strB s) ∧ m ≤ n ∧ DgRel n m s ∧ Below w.heap.size w wr) (fun i v _ => 2 * (intOf i).toNat + (1 - lenV v))
  case atStart => exact ⟨n, [], rfl, rfl, Nat.le_refl _, .inl ⟨rfl, rfl⟩, Below.refl _ _⟩
  case round =>
    obtain ⟨m, s, rfl, rfl, hmn, hR, hB⟩ := hrel
    have hsz := hB.size
    have hsl := dg_len hR
    have hss : (strB s).size = s.length := strB_size s
    have HR := Lib.hid hR
    have HB := Lib.hid hB
    clear hR hB
    have hcv := fun W => convD_one (48 + (m : Int) % 10) (dgU m) (by rw [dgU_nat]; omega) W
    have HCS := Lib.hid (cons_strB (dgU m) s)
    by_cases hse : s = []
    · have hem := empty_yes hse
      have hd : (strB s).toList = [] := by rw [ByteArray.toList_eq, strB_list, hse]
      have HST := Lib.hid (dg_step HR.out (.inl hse))
      have hl0 : s.length = 0 := by rw [hse]; rfl
      clear hse
      go_wp2
      go_roundw
      case rel => exact ⟨m / 10, dgU m :: s, by go_num, by rw [HCS.out], by omega, HST.out, HB.out.alloc hsz _⟩
      case measure => rw [HCS.out, lenV_s, lenV_s]; simp [intOf]; omega
    · have hem := empty_no hse
      have hd : ¬ (strB s).toList = [] := by rw [ByteArray.toList_eq, strB_list]; exact hse
      have hlp : 0 < s.length := List.length_pos_iff.mpr hse
      by_cases hm0 : 0 < m
      · have HST := Lib.hid (dg_step HR.out (.inr hm0))
        clear hse
        go_wp2
        go_roundw
        case rel => exact ⟨m / 10, dgU m :: s, by go_num, by rw [HCS.out], by omega, HST.out, HB.out.alloc hsz _⟩
        case measure => rw [HCS.out, lenV_s, lenV_s]; simp [intOf]; omega
      · obtain rfl : m = 0 := by omega
        have HD := Lib.hid (dg_done HR.out hse)
        clear hse hcv
        go_wp2
        go_ret
        exact ⟨by first | (rw [HD.out]; rfl) | rw [HD.out], HB.out⟩
theorem digitsT_any (n : Int) (h0 : 0 ≤ n) (hn : n ≤ 2147483647) (w : World) :
    Calls Tryd.prog 36 #[.int .i64 n] w fun e w' => e = .returned (.string (strB (decT n))) ∧ Below w.heap.size w w' := by
  obtain ⟨m, rfl⟩ : ∃ m : Nat, n = m := ⟨n.toNat, by omega⟩
  exact digits_any m (by omega) w

/-! ### The rows that Format goes through -/
def rowsD (x : Dv) : List (List UInt8 × Bool × Int) := [(nNS, x.ns, -1), (nNC, x.nc, -1), (nPR, x.pr, -1), (nPU, x.pu, -1), (nMR, x.mr, -1), (nOC, x.oc, -1), (nMA, false, x.ma), (nSA, false, x.sa), (nWS, false, x.ws), (nOE, false, x.oe), (nMS, false, x.ms), (nMF, false, x.mf)]
def rowI (p : List UInt8 × Bool × Int) : List (List UInt8) := if p.2.1 = false ∧ p.2.2 < 0 then [] else [if 0 ≤ p.2.2 ∧ (p.1 ≠ nMS ∨ p.2.2 < 2147483647) then p.1 ++ 61 :: decT p.2.2 else p.1]
theorem rowI_flag (n : List UInt8) (b : Bool) : rowI (n, b, -1) = flagI [(n, b)] := by cases b <;> rfl
theorem rowI_time (n : List UInt8) (s : Int) (h1 : -1 ≤ s) (h2 : s ≤ 2147483647) : rowI (n, false, s) = timeI [(n, s)] := by
  by_cases hs : s = -1
  · subst hs; rfl
  · have ht : timeI [(n, s)] = [timeL n s] := by
      unfold timeI; rw [List.filter_cons_of_pos (by simpa using hs)]; rfl
    have hr : rowI (n, false, s) = [if 0 ≤ s ∧ (n ≠ nMS ∨ s < 2147483647) then n ++ 61 :: decT s else n] := by
      unfold rowI
      rw [if_neg (by rintro ⟨_, h⟩; have h' : s < 0 := h; omega)]
    rw [ht, hr]
    unfold timeL
    by_cases hc : n = nMS ∧ s = 2147483647
    · rw [if_pos hc, if_neg]
      rintro ⟨_, h | h⟩
      · exact h hc.1
      · omega
    · rw [if_neg hc, if_pos]
      refine ⟨by omega, ?_⟩
      by_cases hn : n = nMS
      · exact .inr (by have : s ≠ 2147483647 := fun h => hc ⟨hn, h⟩; omega)
      · exact .inl hn
theorem flagI_cons (p : List UInt8 × Bool) (r : List (List UInt8 × Bool)) : flagI (p :: r) = flagI [p] ++ flagI r := by
  unfold flagI; rw [← List.map_append, ← List.filter_append]; rfl
theorem timeI_cons (p : List UInt8 × Int) (r : List (List UInt8 × Int)) : timeI (p :: r) = timeI [p] ++ timeI r := by
  unfold timeI; rw [← List.map_append, ← List.filter_append]; rfl
theorem flagI6 (a b c d e f : List UInt8 × Bool) : flagI [a, b, c, d, e, f] = flagI [a] ++ (flagI [b] ++ (flagI [c] ++ (flagI [d] ++ (flagI [e] ++ flagI [f])))) := by
  rw [flagI_cons a [b, c, d, e, f], flagI_cons b [c, d, e, f], flagI_cons c [d, e, f], flagI_cons d [e, f], flagI_cons e [f]]
theorem timeI6 (a b c d e f : List UInt8 × Int) : timeI [a, b, c, d, e, f] = timeI [a] ++ (timeI [b] ++ (timeI [c] ++ (timeI [d] ++ (timeI [e] ++ timeI [f])))) := by
  rw [timeI_cons a [b, c, d, e, f], timeI_cons b [c, d, e, f], timeI_cons c [d, e, f], timeI_cons d [e, f], timeI_cons e [f]]
theorem rows_items {x : Dv} (hx : Nor x) : (rowsD x).flatMap rowI = flagI (flagsD x) ++ timeI (timesD x) := by
  unfold rowsD flagsD timesD
  simp only [List.flatMap_cons, List.flatMap_nil, rowI_flag, rowI_time _ _ hx.ma.1 hx.ma.2, rowI_time _ _ hx.sa.1 hx.sa.2, rowI_time _ _ hx.ws.1 hx.ws.2, rowI_time _ _ hx.oe.1 hx.oe.2, rowI_time _ _ hx.ms.1 hx.ms.2, rowI_time _ _ hx.mf.1 hx.mf.2]
  rw [flagI6, timeI6]
  simp only [List.append_assoc, List.append_nil]
/-- A row is a name of at most 22 bytes, with a flag or with a time. -/
def RowOk (p : List UInt8 × Bool × Int) : Prop := p.1 ≠ [] ∧ p.1.length ≤ 22 ∧ -1 ≤ p.2.2 ∧ p.2.2 ≤ 2147483647 ∧ (p.2.1 = true → p.2.2 = -1)
theorem ok_flag (n : List UInt8) (b : Bool) (h1 : n ≠ []) (h2 : n.length ≤ 22) : RowOk (n, b, -1) := ⟨h1, h2, by show (-1 : Int) ≤ -1; omega, by show (-1 : Int) ≤ 2147483647; omega, fun _ => rfl⟩
theorem ok_time (n : List UInt8) (s : Int) (h : -1 ≤ s ∧ s ≤ 2147483647) (h1 : n ≠ []) (h2 : n.length ≤ 22) : RowOk (n, false, s) := ⟨h1, h2, h.1, h.2, fun h => by cases h⟩
theorem rows_ok {x : Dv} (hx : Nor x) : ∀ p ∈ rowsD x, RowOk p := by
  intro p hp
  unfold rowsD at hp
  simp only [List.mem_cons, List.not_mem_nil, or_false] at hp
  rcases hp with rfl | rfl | rfl | rfl | rfl | rfl | rfl | rfl | rfl | rfl | rfl | rfl
  · exact ok_flag nNS _ (by decide) (by decide)
  · exact ok_flag nNC _ (by decide) (by decide)
  · exact ok_flag nPR _ (by decide) (by decide)
  · exact ok_flag nPU _ (by decide) (by decide)
  · exact ok_flag nMR _ (by decide) (by decide)
  · exact ok_flag nOC _ (by decide) (by decide)
  · exact ok_time nMA _ hx.ma (by decide) (by decide)
  · exact ok_time nSA _ hx.sa (by decide) (by decide)
  · exact ok_time nWS _ hx.ws (by decide) (by decide)
  · exact ok_time nOE _ hx.oe (by decide) (by decide)
  · exact ok_time nMS _ hx.ms (by decide) (by decide)
  · exact ok_time nMF _ hx.mf (by decide) (by decide)
theorem rowI_ok {p : List UInt8 × Bool × Int} (h : RowOk p) : ∀ t ∈ rowI p, t ≠ [] ∧ t.length ≤ 40 := by
  intro t ht
  unfold rowI at ht
  split at ht
  · cases ht
  · obtain rfl := List.mem_singleton.1 ht
    split
    · rename_i h1
      have := decT_len p.2.2 h1.1 h.2.2.2.1
      exact ⟨by simp, by simp only [List.length_append, List.length_cons]; have := h.2.1; omega⟩
    · exact ⟨h.1, by have := h.2.1; omega⟩
theorem rowI_len (p : List UInt8 × Bool × Int) : (rowI p).length ≤ 1 := by unfold rowI; split <;> simp
theorem getD_snoc : ∀ (ls : List (List UInt8)) (t : List UInt8), ls ≠ [] → getL (ls ++ [t]) = getL ls ++ 44 :: 32 :: t := by
  intro ls
  induction ls with
  | nil => intro t h; exact absurd rfl h
  | cons a r ih =>
    intro t _
    cases r with
    | nil => rfl
    | cons b q =>
      show a ++ 44 :: 32 :: getL (b :: (q ++ [t])) = (a ++ 44 :: 32 :: getL (b :: q)) ++ 44 :: 32 :: t
      have := ih t (by simp)
      rw [List.cons_append] at this
      rw [this]; simp
theorem getD_nil {ls : List (List UInt8)} (h : ∀ t ∈ ls, t ≠ []) (h0 : getL ls = []) : ls = [] := by
  cases ls with
  | nil => rfl
  | cons a r =>
    exfalso
    cases r with
    | nil => exact h a (by simp) h0
    | cons b q => simp [getL] at h0
theorem flat_ok {l : List (List UInt8 × Bool × Int)} (h : ∀ p ∈ l, RowOk p) : ∀ t ∈ l.flatMap rowI, t ≠ [] ∧ t.length ≤ 40 := by
  intro t ht
  obtain ⟨p, hp, h1⟩ := List.mem_flatMap.1 ht
  exact rowI_ok (h p hp) t h1
theorem flat_len (l : List (List UInt8 × Bool × Int)) : (l.flatMap rowI).length ≤ l.length := by
  induction l with
  | nil => simp
  | cons p r ih => rw [List.flatMap_cons, List.length_append, List.length_cons]; have := rowI_len p; omega
theorem flat_more {l : List (List UInt8 × Bool × Int)} {k : Nat} {p : List UInt8 × Bool × Int} (h : l[k]? = some p) : (l.take (k + 1)).flatMap rowI = (l.take k).flatMap rowI ++ rowI p := by
  rw [List.take_add_one, h, List.flatMap_append]; simp
theorem rows_new (x : Dv) (w : World) (E : TypeId) : ∀ j p, (rowsD x)[j]? = some p → (w.alloc (.cells #[.string (strB nNS), .bool x.ns, .int .i64 (-1), .string (strB nNC), .bool x.nc, .int .i64 (-1), .string (strB nPR), .bool x.pr, .int .i64 (-1), .string (strB nPU), .bool x.pu, .int .i64 (-1), .string (strB nMR), .bool x.mr, .int .i64 (-1), .string (strB nOC), .bool x.oc, .int .i64 (-1), .string (strB nMA), .bool false, .int .i64 x.ma, .string (strB nSA), .bool false, .int .i64 x.sa, .string (strB nWS), .bool false, .int .i64 x.ws, .string (strB nOE), .bool false, .int .i64 x.oe, .string (strB nMS), .bool false, .int .i64 x.ms, .string (strB nMF), .bool false, .int .i64 x.mf] E)).cell? ⟨w.heap.size, j * 3, none⟩ = some (.string (strB p.1)) ∧ (w.alloc (.cells #[.string (strB nNS), .bool x.ns, .int .i64 (-1), .string (strB nNC), .bool x.nc, .int .i64 (-1), .string (strB nPR), .bool x.pr, .int .i64 (-1), .string (strB nPU), .bool x.pu, .int .i64 (-1), .string (strB nMR), .bool x.mr, .int .i64 (-1), .string (strB nOC), .bool x.oc, .int .i64 (-1), .string (strB nMA), .bool false, .int .i64 x.ma, .string (strB nSA), .bool false, .int .i64 x.sa, .string (strB nWS), .bool false, .int .i64 x.ws, .string (strB nOE), .bool false, .int .i64 x.oe, .string (strB nMS), .bool false, .int .i64 x.ms, .string (strB nMF), .bool false, .int .i64 x.mf] E)).cell? ⟨w.heap.size, j * 3 + 1, none⟩ = some (.bool p.2.1) ∧ (w.alloc (.cells #[.string (strB nNS), .bool x.ns, .int .i64 (-1), .string (strB nNC), .bool x.nc, .int .i64 (-1), .string (strB nPR), .bool x.pr, .int .i64 (-1), .string (strB nPU), .bool x.pu, .int .i64 (-1), .string (strB nMR), .bool x.mr, .int .i64 (-1), .string (strB nOC), .bool x.oc, .int .i64 (-1), .string (strB nMA), .bool false, .int .i64 x.ma, .string (strB nSA), .bool false, .int .i64 x.sa, .string (strB nWS), .bool false, .int .i64 x.ws, .string (strB nOE), .bool false, .int .i64 x.oe, .string (strB nMS), .bool false, .int .i64 x.ms, .string (strB nMF), .bool false, .int .i64 x.mf] E)).cell? ⟨w.heap.size, j * 3 + 2, none⟩ = some (.int .i64 p.2.2) := by
  intro j p h
  match j, h with
    | 0, h => simp [rowsD] at h; subst h; exact ⟨by rw [World.cell?_alloc_at _ _ _ _ rfl]; rfl, by rw [World.cell?_alloc_at _ _ _ _ rfl]; rfl, by rw [World.cell?_alloc_at _ _ _ _ rfl]; rfl⟩
    | 1, h => simp [rowsD] at h; subst h; exact ⟨by rw [World.cell?_alloc_at _ _ _ _ rfl]; rfl, by rw [World.cell?_alloc_at _ _ _ _ rfl]; rfl, by rw [World.cell?_alloc_at _ _ _ _ rfl]; rfl⟩
    | 2, h => simp [rowsD] at h; subst h; exact ⟨by rw [World.cell?_alloc_at _ _ _ _ rfl]; rfl, by rw [World.cell?_alloc_at _ _ _ _ rfl]; rfl, by rw [World.cell?_alloc_at _ _ _ _ rfl]; rfl⟩
    | 3, h => simp [rowsD] at h; subst h; exact ⟨by rw [World.cell?_alloc_at _ _ _ _ rfl]; rfl, by rw [World.cell?_alloc_at _ _ _ _ rfl]; rfl, by rw [World.cell?_alloc_at _ _ _ _ rfl]; rfl⟩
    | 4, h => simp [rowsD] at h; subst h; exact ⟨by rw [World.cell?_alloc_at _ _ _ _ rfl]; rfl, by rw [World.cell?_alloc_at _ _ _ _ rfl]; rfl, by rw [World.cell?_alloc_at _ _ _ _ rfl]; rfl⟩
    | 5, h => simp [rowsD] at h; subst h; exact ⟨by rw [World.cell?_alloc_at _ _ _ _ rfl]; rfl, by rw [World.cell?_alloc_at _ _ _ _ rfl]; rfl, by rw [World.cell?_alloc_at _ _ _ _ rfl]; rfl⟩
    | 6, h => simp [rowsD] at h; subst h; exact ⟨by rw [World.cell?_alloc_at _ _ _ _ rfl]; rfl, by rw [World.cell?_alloc_at _ _ _ _ rfl]; rfl, by rw [World.cell?_alloc_at _ _ _ _ rfl]; rfl⟩
    | 7, h => simp [rowsD] at h; subst h; exact ⟨by rw [World.cell?_alloc_at _ _ _ _ rfl]; rfl, by rw [World.cell?_alloc_at _ _ _ _ rfl]; rfl, by rw [World.cell?_alloc_at _ _ _ _ rfl]; rfl⟩
    | 8, h => simp [rowsD] at h; subst h; exact ⟨by rw [World.cell?_alloc_at _ _ _ _ rfl]; rfl, by rw [World.cell?_alloc_at _ _ _ _ rfl]; rfl, by rw [World.cell?_alloc_at _ _ _ _ rfl]; rfl⟩
    | 9, h => simp [rowsD] at h; subst h; exact ⟨by rw [World.cell?_alloc_at _ _ _ _ rfl]; rfl, by rw [World.cell?_alloc_at _ _ _ _ rfl]; rfl, by rw [World.cell?_alloc_at _ _ _ _ rfl]; rfl⟩
    | 10, h => simp [rowsD] at h; subst h; exact ⟨by rw [World.cell?_alloc_at _ _ _ _ rfl]; rfl, by rw [World.cell?_alloc_at _ _ _ _ rfl]; rfl, by rw [World.cell?_alloc_at _ _ _ _ rfl]; rfl⟩
    | 11, h => simp [rowsD] at h; subst h; exact ⟨by rw [World.cell?_alloc_at _ _ _ _ rfl]; rfl, by rw [World.cell?_alloc_at _ _ _ _ rfl]; rfl, by rw [World.cell?_alloc_at _ _ _ _ rfl]; rfl⟩
    | j + 12, h => simp [rowsD] at h
end Go.Proofs.YtnjjjfbklgdgpaaDoor
