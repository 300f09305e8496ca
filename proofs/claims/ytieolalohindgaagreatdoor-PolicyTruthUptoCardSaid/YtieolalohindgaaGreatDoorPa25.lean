import Derived.Test.YtieolalohindgaaGreatDoorPa19
import Derived.Test.YtieolalohindgaaGreatDoorPa24
import Derived.Test.YtieolalohindgaaGreatDoorPa20
import Derived.Test.YtieolalohindgaaGreatDoorPa42
/- What the statements' large, Fields, Plain, Program and awake return. -/
namespace Go.Proofs.YtieolalohindgaaGreatDoor
open Go.RowKit

def totV : List (List UInt8) → Nat
  | [] => 0
  | v :: r => v.length + totV r
theorem totV_snoc (l : List (List UInt8)) (v : List UInt8) : totV (l ++ [v]) = totV l + v.length := by
  induction l with
  | nil => simp [totV]
  | cons u r ih => rw [List.cons_append, totV, totV, ih]; omega
theorem totV_more {l : List (List UInt8)} {k : Nat} {v : List UInt8} (h : l[k]? = some v) : totV (l.take (k + 1)) = totV (l.take k) + v.length := by
  rw [List.take_add_one, h]; exact totV_snoc _ _
theorem totV_take (l : List (List UInt8)) : ∀ k, totV (l.take k) ≤ totV l := by
  induction l with
  | nil => intro k; simp [totV]
  | cons u r ih =>
    intro k
    cases k with
    | zero => simp [totV]
    | succ k => rw [List.take_succ_cons, totV, totV]; have := ih k; omega
theorem totV_mem {l : List (List UInt8)} {v : List UInt8} (h : v ∈ l) : v.length ≤ totV l := by
  induction l with
  | nil => cases h
  | cons u r ih =>
    rw [totV]
    rcases List.mem_cons.1 h with e | e
    · subst e; omega
    · have := ih e; omega
def largeV (vs : List (List UInt8)) : Bool := decide (3000 < vs.length + totV vs)
def nXC : List UInt8 := [120, 45, 99, 97, 99, 104, 101, 45, 99, 111, 110, 116, 114, 111, 108]
def fldV (vs : List (List UInt8)) : Flds := (nXC, nNS) :: vs.map fun v => (nCC, v)
theorem fldV_snoc (vs : List (List UInt8)) (v : List UInt8) : fldV (vs ++ [v]) = fldV vs ++ [(nCC, v)] := by simp [fldV]
theorem fldV_len (vs : List (List UInt8)) : (fldV vs).length = vs.length + 1 := by simp [fldV]
theorem fldV_all (vs : List (List UInt8)) : allL (fldV vs) nCC = vs := by
  have h0 : ofN nCC (nXC, nNS) = false := by decide +kernel
  have h1 : ∀ v, ofN nCC (nCC, v) = true := fun v => by unfold ofN; exact decide_eq_true rfl
  unfold allL fldV
  rw [List.filter_cons_of_neg (by rw [h0]; decide)]
  induction vs with
  | nil => rfl
  | cons v r ih => rw [List.map_cons, List.filter_cons_of_pos (h1 v), List.map_cons, ih]
theorem fldV_big {vs : List (List UInt8)} (hv : ∀ v ∈ vs, v.length ≤ 90000) : ∀ p ∈ fldV vs, p.1.length + p.2.length ≤ 100000 := by
  intro p hp
  rcases List.mem_cons.1 hp with e | e
  · subst e; decide
  · obtain ⟨v, hv', rfl⟩ := List.mem_map.1 e
    have := hv v hv'
    show nCC.length + v.length ≤ _
    have : nCC.length = 13 := by decide
    omega
/-- A row that a literal makes is the call's own. -/
theorem own_lit (w : World) (cur : Array Value) (e : TypeId) (size n : Nat) (hm : n ≤ maxLen) (hs : cur.size = n * size) : (w.alloc (.cells cur e)).ownsRow w.heap.size e size (.slice (some ⟨w.heap.size, 0, none⟩) n n) n cur.toList :=
  ⟨by simp [hs], .inr ⟨w.heap.size, n, cur, rfl, Nat.le_refl _, heap_alloc_new w _, Nat.le_refl _, hm, hs, by rw [List.take_of_length_le (by simp [hs])]⟩⟩
theorem own_lit1 (w : World) (l : List UInt8) : OwnsS w.heap.size (w.alloc (.cells #[.string (strB l)] 9)) (.slice (some ⟨w.heap.size, 0, none⟩) 1 1) [l] :=
  own_lit w #[.string (strB l)] _ 1 1 (by decide) rfl
theorem own_litF (w : World) (a b : List UInt8) : OwnsP 72 w.heap.size (w.alloc (.cells #[.string (strB a), .string (strB b)] 72)) (.slice (some ⟨w.heap.size, 0, none⟩) 1 1) [(a, b)] :=
  own_lit w #[.string (strB a), .string (strB b)] _ 2 1 (by decide) rfl
set_option maxHeartbeats 4000000 in
set_option maxRecDepth 100000 in
theorem program_any (d : Dv) (w : World) : Calls Tryz.prog 14 #[dvV d] w fun e w' => e = .returned (dvV d) ∧ Below w.heap.size w w' := by
  have HB := Lib.hid ((below_new w (.cells (dvC d) 28)).alloc (by simp) (.cells (dvC zD) 40))
  have hA := (dvB_new w d 28).below (below_new _ (.cells (dvC zD) 40))
  have hR := dvB_new (w.alloc (.cells (dvC d) 28)) zD 40
  have e1 : (w.alloc (.cells (dvC d) 28)).heap.size = w.heap.size + 1 := by simp
  rw [e1] at hR
  go_enter Tryz.func14, Tryz.ntmps14
  go_upto_region 1 with fail
  change Code.wp _ _ _ _ ((w.alloc (.cells (dvC d) 28)).alloc (.cells (dvC zD) 40))
  generalize ((w.alloc (.cells (dvC d) 28)).alloc (.cells (dvC zD) 40)) = W at *
  obtain ⟨a0, a1, a2, a3, a4, a5, a6, a7, a8, a9, a10, a11, fa, la⟩ := hA
  obtain ⟨c0, c1, c2, c3, c4, c5, c6, c7, c8, c9, c10, c11, fr, lt⟩ := hR
  go_wp2_with fail
  refine bodyPost_ret (v := dvV d) (by simp [results, Tryz.results14, go_sem, c0, c1, c2, c3, c4, c5, c6, c7, c8, c9, c10, c11]) rfl ?_
  exact ⟨rfl, below_dv HB.out (Nat.le_succ _) _ _ _ _ _ _ _ _ _ _ _ _⟩

/-- Parse of the statements' fields. -/
theorem parseF_any (v : Value) (vs : List (List UInt8)) {B : Nat} (w : World) (hO : OwnsP 72 B w v (fldV vs)) (hM : MaxIs w) (hl : vs.length ≤ 90000) (hb : ∀ x ∈ vs, x.length ≤ 90000) :
    Calls Tryz.prog 28 #[v] w fun e w' => e = .returned (dvV (parseD vs)) ∧ Below w.heap.size w w' := by
  have h := parse11_any v (fldV vs) w hO.q (by rw [fldV_len]; omega) (fldV_big hb) hM
  rw [fldV_all] at h
  exact h
def awk : List UInt8 := [109, 97, 120, 45, 97, 103, 101, 61, 54, 48, 44, 32, 80, 117, 98, 108, 105, 99]
theorem awk_parse : parseD [awk] = ⟨false, false, false, true, false, false, 60, -1, -1, -1, -1, -1⟩ := by decide +kernel
end Go.Proofs.YtieolalohindgaaGreatDoor

/- What the statements' large and awake of layer 14 return. -/
namespace Go.Proofs.YtieolalohindgaaGreatDoor
open Go.RowKit

def lfLargeB (ps : Flds) : Bool := decide (4000 < 2 * ps.length + totL ps)
theorem lfFit {ps : Flds} (h : lfLargeB ps = false) : ps.length ≤ 2000 ∧ ∀ p ∈ ps, p.1.length + p.2.length ≤ 4000 := by
  have h1 := of_decide_eq_false h
  exact ⟨by omega, fun p hp => by have := tot_mem hp; omega⟩
theorem lfFitL {ps : Flds} (h : lfLargeB ps = false) : FitL ps := ⟨by have := (lfFit h).1; omega, fun p hp => by have := (lfFit h).2 p hp; omega⟩
theorem tot_take (ps : Flds) (k : Nat) : totL (ps.take k) ≤ totL ps := by
  have h := tot_app (ps.take k) (ps.drop k)
  rw [List.take_append_drop] at h
  omega
def lfAwk : List UInt8 := [109, 97, 120, 45, 97, 103, 101, 61, 54, 48, 44, 32, 115, 45, 109, 97, 120, 97, 103, 101, 61, 49, 48]
theorem lfAwk_cc : allL [(nCC, lfAwk)] nCC = [lfAwk] := by decide +kernel
theorem lfAwk_da : allL [(nCC, lfAwk)] nDA = [] := by decide +kernel
theorem lfAwk_ex : allL [(nCC, lfAwk)] nEX = [] := by decide +kernel
theorem lfAwk_lm : allL [(nCC, lfAwk)] nLM = [] := by decide +kernel
theorem lfAwk_parse : parseD [lfAwk] = ⟨false, false, false, false, false, false, 60, 10, -1, -1, -1, -1⟩ := by decide +kernel
theorem lfAwk_fit : FitL [(nCC, lfAwk)] := ⟨by decide, by decide⟩
theorem lfAwk_of (w : World) (fv : Value) (hr : ReadsQ w fv [(nCC, lfAwk)]) (hE : EnvL w) :
    Calls Tryz.prog 22 #[.int .i64 200, fv] w fun e w' => e = .returned (.tuple #[.int .i64 10000, .int .i64 1]) ∧ Below w.heap.size w w' := by
  have h := lfOf_any 200 fv [(nCC, lfAwk)] none none none w hr lfAwk_fit (by unfold DatF; rw [lfAwk_da]; rfl) (by unfold DatF; rw [lfAwk_ex]; rfl) (by unfold DatF; rw [lfAwk_lm]; rfl) hE
  rw [lfAwk_cc, lfAwk_parse] at h
  exact h
end Go.Proofs.YtieolalohindgaaGreatDoor

/- What sort.Search returns where Left calls it, its closure, and Left. -/
namespace Go.Proofs.YtieolalohindgaaGreatDoor
open Go.RowKit Go.Sort

/-- What the closure asks of a world: the times, the reading, the drift and the lifetime in their boxes. -/
def CloL (s r a n p l : Int) (B : Nat) (w : World) : Prop :=
  (w.cell? ⟨B, 0, none⟩ = some (.int .i64 s) ∧ w.cell? ⟨B, 1, none⟩ = some (.int .i64 r) ∧ w.cell? ⟨B, 2, none⟩ = some (.int .i64 a)) ∧
  w.cell? ⟨B + 1, 0, none⟩ = some (.int .i64 n) ∧ w.cell? ⟨B + 2, 0, none⟩ = some (.int .i64 p) ∧ w.cell? ⟨B + 3, 0, none⟩ = some (.int .i64 l) ∧ B + 3 < w.heap.size
theorem CloL.below {s r a n p l : Int} {B : Nat} {w w' : World} (h : CloL s r a n p l B w) (hb : Below w.heap.size w w') : CloL s r a n p l B w' := by
  obtain ⟨⟨h1, h2, h3⟩, h4, h5, h6, h7⟩ := h
  exact ⟨⟨(hb.cell (p := ⟨B, 0, none⟩) (show B < _ by omega)).trans h1, (hb.cell (p := ⟨B, 1, none⟩) (show B < _ by omega)).trans h2, (hb.cell (p := ⟨B, 2, none⟩) (show B < _ by omega)).trans h3⟩, (hb.cell (p := ⟨B + 1, 0, none⟩) (show B + 1 < _ by omega)).trans h4, (hb.cell (p := ⟨B + 2, 0, none⟩) (show B + 2 < _ by omega)).trans h5, (hb.cell (p := ⟨B + 3, 0, none⟩) h7).trans h6, Nat.lt_of_lt_of_le h7 hb.size⟩
/-- What Left returns: none where it is not fresh now, else the number of readings at which it is. -/
def LeftOf (s r a n p l : Int) (N : Nat) : Prop := if frA s r a n p l = true then LeftIs s r a n p l N else N = 0
theorem fr_tk (s r a n p l : Int) : frA s r a (tk n) p l = frA s r a n p l := by unfold frA okA topA; rw [tk_tk]
theorem fr_tk0 (s r a n p l : Int) : frA s r a (tk n + ((0 : Nat) : Int)) p l = frA s r a n p l := by rw [← fr_tk s r a n p l]; simp
theorem fr_ok {s r a n p l : Int} (h : frA s r a n p l = true) : okA s r n = true := by unfold frA at h; simp at h; exact h.1
theorem LeftOf.uniq {s r a n p l : Int} {N K : Nat} (h : LeftOf s r a n p l N) (g : LeftOf s r a n p l K) : N = K := by
  unfold LeftOf at h g
  split at h
  · next q => rw [if_pos q] at g; exact CountIs.uniq h g
  · next q => rw [if_neg q] at g; omega
theorem LeftOf.le {s r a n p l : Int} {N : Nat} (h : LeftOf s r a n p l N) : (N : Int) ≤ 1099511627777 - tk n := by
  have := tk_bd n
  unfold LeftOf at h
  split at h
  · have := h.1; omega
  · omega
theorem cell_old (w : World) (o : Obj) (B i : Nat) (h : B < w.heap.size) : (w.alloc o).cell? ⟨B, i, none⟩ = w.cell? ⟨B, i, none⟩ := (below_new w o).cell (p := ⟨B, i, none⟩) h
theorem cell_one (w : World) (v : Value) (T : TypeId) (B : Nat) (h : B = w.heap.size) : (w.alloc (.cells #[v] T)).cell? ⟨B, 0, none⟩ = some v := by
  subst h; rw [World.cell?_alloc_at _ _ _ _ rfl]; rfl
theorem cloL_new (w : World) (s r a m p l : Int) (T1 T2 T3 T4 : TypeId) : CloL s r a m p l w.heap.size ((((w.alloc (.cells #[.int .i64 s, .int .i64 r, .int .i64 a] T1)).alloc (.cells #[.int .i64 m] T2)).alloc (.cells #[.int .i64 p] T3)).alloc (.cells #[.int .i64 l] T4)) := by
  obtain ⟨t1, t2, t3, t4⟩ := threeI_new w s r a T1
  refine ⟨⟨?_, ?_, ?_⟩, ?_, ?_, ?_, by simp⟩
  · rw [cell_old _ _ _ _ (by simp; omega), cell_old _ _ _ _ (by simp; omega), cell_old _ _ _ _ (by simp)]; exact t1
  · rw [cell_old _ _ _ _ (by simp; omega), cell_old _ _ _ _ (by simp; omega), cell_old _ _ _ _ (by simp)]; exact t2
  · rw [cell_old _ _ _ _ (by simp; omega), cell_old _ _ _ _ (by simp; omega), cell_old _ _ _ _ (by simp)]; exact t3
  · rw [cell_old _ _ _ _ (by simp), cell_old _ _ _ _ (by simp)]; exact cell_one _ _ _ _ (by simp)
  · rw [cell_old _ _ _ _ (by simp)]; exact cell_one _ _ _ _ (by simp)
  · exact cell_one _ _ _ _ (by simp)
end Go.Proofs.YtieolalohindgaaGreatDoor
