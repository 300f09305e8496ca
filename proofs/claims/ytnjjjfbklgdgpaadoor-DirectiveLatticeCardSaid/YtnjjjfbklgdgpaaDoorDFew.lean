/- What the statements' large, Fields, Plain, Program and awake return. -/
import Derived.Test.YtnjjjfbklgdgpaaDoorDParse
import Derived.Test.YtnjjjfbklgdgpaaDoorFOwn
namespace Go.Proofs.YtnjjjfbklgdgpaaDoor
open Go.RowKit

def totV : List (List UInt8) → Nat
  | [] => 0
  | v :: r => v.length + totV r
theorem totV_snoc (l : List (List UInt8)) (v : List UInt8) : totV (l ++ [v]) = totV l + v.length := by
  induction l with
  | nil => simp [totV]
  | cons u r ih => rw [List.cons_append, totV, totV, ih]; omega
theorem totV_more {l : List (List UInt8)} {k : Nat} {v : List UInt8} (h : l[k]? = some v) : totV (l.take (k + 1)) = totV (l.take k) + v.length := by
  rw [List.take_add_one, h]; exact totV_snoc _ _
theorem totV_take (l : List (List UInt8)) : ∀ k, totV (l.take k) ≤ totV l := by
  induction l with
  | nil => intro k; simp [totV]
  | cons u r ih =>
    intro k
    cases k with
    | zero => simp [totV]
    | succ k => rw [List.take_succ_cons, totV, totV]; have := ih k; omega
theorem totV_mem {l : List (List UInt8)} {v : List UInt8} (h : v ∈ l) : v.length ≤ totV l := by
  induction l with
  | nil => cases h
  | cons u r ih =>
    rw [totV]
    rcases List.mem_cons.1 h with e | e
    · subst e; omega
    · have := ih e; omega
def largeV (vs : List (List UInt8)) : Bool := decide (3000 < vs.length + totV vs)
set_option maxHeartbeats 1000000 in
theorem large_any (vv : Value) (vs : List (List UInt8)) (w : World) (hr : ReadsS w vv vs) (hb : vs.length + totV vs ≤ 1048576) :
    Calls Tryd.prog 11 #[vv] w fun e w' => e = .returned (.bool (largeV vs)) ∧ w = w' := by
  obtain ⟨ao, cap, rfl, hc⟩ := hr
  have HC := Lib.hid hc
  clear hc
  go_enter Tryd.func11, Tryd.ntmps11
  go_wp2
  go_loopw [3, 10] (fun n i wr => wr = w ∧ ∃ k : Nat, i = .int .i64 k ∧ k ≤ vs.length ∧ n = .int .i64 ((vs.length + totV (vs.take k) : Nat) : Int)) (fun _ i _ => vs.length - (intOf i).toNat)
  case atStart => exact ⟨rfl, 0, rfl, Nat.zero_le _, by simp [totV]⟩
  case round =>
    obtain ⟨hwr, k, rfl, hk, rfl⟩ := hrel
    subst hwr
    have htk := totV_take vs k
    by_cases hlt : k < vs.length
    · obtain ⟨l, hl⟩ : ∃ l, vs[k]? = some l := ⟨vs[k], by simp [hlt]⟩
      obtain ⟨g, off, rfl, hg, hcl⟩ := HC.out k l hl
      have hm := totV_more hl
      have htk2 := totV_take vs (k + 1)
      have hlz : (strB l).size = l.length := strB_size l
      clear hl
      go_wp2
      go_roundw
      case rel => exact ⟨by first | rfl | trivial, k + 1, by go_num, by omega, by congr 1; omega⟩
      case measure => simp [intOf]; omega
    · have hte : vs.take k = vs := List.take_of_length_le (by omega)
      rw [hte] at htk ⊢
      by_cases h3 : 3000 < vs.length + totV vs
      · have HR := Lib.hid (show largeV vs = true from decide_eq_true h3)
        go_wp2
        go_ret
        exact ⟨by rw [HR.out]; exact ret_bool (decide_eq_true (by omega)), by first | rfl | trivial⟩
      · have HR := Lib.hid (show largeV vs = false from decide_eq_false h3)
        go_wp2
        go_ret
        exact ⟨by rw [HR.out]; exact ret_bool (decide_eq_false (by omega)), by first | rfl | trivial⟩

def nXC : List UInt8 := [120, 45, 99, 97, 99, 104, 101, 45, 99, 111, 110, 116, 114, 111, 108]
def fldV (vs : List (List UInt8)) : Flds := (nXC, nNS) :: vs.map fun v => (nCC, v)
theorem fldV_snoc (vs : List (List UInt8)) (v : List UInt8) : fldV (vs ++ [v]) = fldV vs ++ [(nCC, v)] := by simp [fldV]
theorem fldV_len (vs : List (List UInt8)) : (fldV vs).length = vs.length + 1 := by simp [fldV]
theorem fldV_all (vs : List (List UInt8)) : allL (fldV vs) nCC = vs := by
  have h0 : ofN nCC (nXC, nNS) = false := by decide +kernel
  have h1 : ∀ v, ofN nCC (nCC, v) = true := fun v => by unfold ofN; exact decide_eq_true rfl
  unfold allL fldV
  rw [List.filter_cons_of_neg (by rw [h0]; decide)]
  induction vs with
  | nil => rfl
  | cons v r ih => rw [List.map_cons, List.filter_cons_of_pos (h1 v), List.map_cons, ih]
theorem fldV_big {vs : List (List UInt8)} (hv : ∀ v ∈ vs, v.length ≤ 90000) : ∀ p ∈ fldV vs, p.1.length + p.2.length ≤ 100000 := by
  intro p hp
  rcases List.mem_cons.1 hp with e | e
  · subst e; decide
  · obtain ⟨v, hv', rfl⟩ := List.mem_map.1 e
    have := hv v hv'
    show nCC.length + v.length ≤ _
    have : nCC.length = 13 := by decide
    omega
/-- A row that a literal makes is the call's own. -/
theorem own_lit (w : World) (cur : Array Value) (e : TypeId) (size n : Nat) (hm : n ≤ maxLen) (hs : cur.size = n * size) : (w.alloc (.cells cur e)).ownsRow w.heap.size e size (.slice (some ⟨w.heap.size, 0, none⟩) n n) n cur.toList :=
  ⟨by simp [hs], .inr ⟨w.heap.size, n, cur, rfl, Nat.le_refl _, heap_alloc_new w _, Nat.le_refl _, hm, hs, by rw [List.take_of_length_le (by simp [hs])]⟩⟩
theorem own_lit1 (w : World) (l : List UInt8) : OwnsS w.heap.size (w.alloc (.cells #[.string (strB l)] 9)) (.slice (some ⟨w.heap.size, 0, none⟩) 1 1) [l] :=
  own_lit w #[.string (strB l)] _ 1 1 (by decide) rfl
theorem own_litF (w : World) (a b : List UInt8) : OwnsP 56 w.heap.size (w.alloc (.cells #[.string (strB a), .string (strB b)] 56)) (.slice (some ⟨w.heap.size, 0, none⟩) 1 1) [(a, b)] :=
  own_lit w #[.string (strB a), .string (strB b)] _ 2 1 (by decide) rfl
set_option maxHeartbeats 2000000 in
set_option maxRecDepth 100000 in
theorem fields11_any (vv : Value) (vs : List (List UInt8)) (w : World) (hr : ReadsS w vv vs) (hl : vs.length ≤ 90000) :
    Calls Tryd.prog 15 #[vv] w fun e w' => ∃ v, e = .returned v ∧ OwnsP 56 w.heap.size w' v (fldV vs) ∧ Below w.heap.size w w' := by
  obtain ⟨i0, hi, hz0, hz1, hz2⟩ := info_parts Tryd.infoF
  obtain ⟨ao, cap, rfl, hc⟩ := hr
  have HC := Lib.hid hc
  clear hc
  have HO := Lib.hid (own_litF w nXC nNS)
  have HB := Lib.hid (below_new w (.cells #[.string (strB nXC), .string (strB nNS)] 56))
  go_enter Tryd.func15, Tryd.ntmps15
  go_upto_region 2 with fail
  change Code.wp _ _ _ _ (w.alloc (.cells #[.string (strB nXC), .string (strB nNS)] 56))
  generalize w.alloc (.cells #[.string (strB nXC), .string (strB nNS)] 56) = W at *
  go_wp2_with fail
  go_loopw [3, 10] (fun v i wr => ∃ k : Nat, i = .int .i64 k ∧ k ≤ vs.length ∧ OwnsP 56 w.heap.size wr v (fldV (vs.take k)) ∧ Below w.heap.size w wr) (fun _ i _ => vs.length - (intOf i).toNat)
  case atStart => exact ⟨0, rfl, Nat.zero_le _, HO.out, HB.out⟩
  case round =>
    obtain ⟨k, rfl, hk, hO, hBr⟩ := hrel
    have hbr := hBr.size
    have hfl := fldV_len (vs.take k)
    have htl := List.length_take_le k vs
    by_cases hlt : k < vs.length
    · obtain ⟨l, hl'⟩ : ∃ l, vs[k]? = some l := ⟨vs[k], by simp [hlt]⟩
      obtain ⟨g, off, rfl, hg, hcl⟩ := HC.out k l hl'
      have hcell : wr.cell? ⟨g, off + k, none⟩ = some (.string (strB l)) := (hBr.cell (p := ⟨g, off + k, none⟩) hg).trans hcl
      have HT := Lib.hid (show fldV (vs.take (k + 1)) = fldV (vs.take k) ++ [(nCC, l)] by rw [List.take_add_one, hl']; exact fldV_snoc _ _)
      clear hl' hcl
      go_wp2_with (at_builtin; refine wpList_append_own _ rfl _ _ 31 rfl w.heap.size 56 i0 (.agg #[.string ByteArray.empty, .string ByteArray.empty]) 2 32 Tryd.underlying31 hi hz0 hz1 hz2 rfl (by decide) _ _ _ rfl (World.ownsRow.alloc hO _) ⟨wr.heap.size, 0, none⟩ 1 1 [strV nCC, strV l] rfl rfl (two_new wr nCC l _) (fun u hu => by simp at hu; rcases hu with rfl | rfl <;> rfl) (by unfold maxLen; omega) (by omega) (by simp; omega) ?_; intro v' w4 hown' hgrow _)
      go_roundw
      case rel => exact ⟨k + 1, by go_num, by omega, by rw [HT.out]; exact OwnsP.snoc (p := (nCC, l)) hown', below_appendP hBr hbr (Below.refl _ _) hO hgrow⟩
      case measure => simp [intOf]; omega
    · have htk : vs.take k = vs := List.take_of_length_le (by omega)
      rw [htk] at hO
      go_wp2_with fail
      go_ret
      exact ⟨_, rfl, hO, hBr⟩

set_option maxHeartbeats 4000000 in
set_option maxRecDepth 100000 in
theorem plain_any (d : Dv) (w : World) : Calls Tryd.prog 13 #[dvV d] w fun e w' => e = .returned (dvV d) ∧ Below w.heap.size w w' := by
  have HB := Lib.hid ((below_new w (.cells (dvC d) 28)).alloc (by simp) (.cells (dvC zD) 26))
  have hA := (dvB_new w d 28).below (below_new _ (.cells (dvC zD) 26))
  have hR := dvB_new (w.alloc (.cells (dvC d) 28)) zD 26
  have e1 : (w.alloc (.cells (dvC d) 28)).heap.size = w.heap.size + 1 := by simp
  rw [e1] at hR
  go_enter Tryd.func13, Tryd.ntmps13
  go_upto_region 1 with fail
  change Code.wp _ _ _ _ ((w.alloc (.cells (dvC d) 28)).alloc (.cells (dvC zD) 26))
  generalize ((w.alloc (.cells (dvC d) 28)).alloc (.cells (dvC zD) 26)) = W at *
  obtain ⟨a0, a1, a2, a3, a4, a5, a6, a7, a8, a9, a10, a11, fa, la⟩ := hA
  obtain ⟨c0, c1, c2, c3, c4, c5, c6, c7, c8, c9, c10, c11, fr, lt⟩ := hR
  go_wp2_with fail
  refine bodyPost_ret (v := dvV d) (by simp [results, Tryd.results13, go_sem, c0, c1, c2, c3, c4, c5, c6, c7, c8, c9, c10, c11]) rfl ?_
  exact ⟨rfl, below_dv HB.out (Nat.le_succ _) _ _ _ _ _ _ _ _ _ _ _ _⟩

set_option maxHeartbeats 4000000 in
set_option maxRecDepth 100000 in
theorem program_any (d : Dv) (w : World) : Calls Tryd.prog 20 #[dvV d] w fun e w' => e = .returned (dvV d) ∧ Below w.heap.size w w' := by
  have HB := Lib.hid ((below_new w (.cells (dvC d) 26)).alloc (by simp) (.cells (dvC zD) 28))
  have hA := (dvB_new w d 26).below (below_new _ (.cells (dvC zD) 28))
  have hR := dvB_new (w.alloc (.cells (dvC d) 26)) zD 28
  have e1 : (w.alloc (.cells (dvC d) 26)).heap.size = w.heap.size + 1 := by simp
  rw [e1] at hR
  go_enter Tryd.func20, Tryd.ntmps20
  go_upto_region 1 with fail
  change Code.wp _ _ _ _ ((w.alloc (.cells (dvC d) 26)).alloc (.cells (dvC zD) 28))
  generalize ((w.alloc (.cells (dvC d) 26)).alloc (.cells (dvC zD) 28)) = W at *
  obtain ⟨a0, a1, a2, a3, a4, a5, a6, a7, a8, a9, a10, a11, fa, la⟩ := hA
  obtain ⟨c0, c1, c2, c3, c4, c5, c6, c7, c8, c9, c10, c11, fr, lt⟩ := hR
  go_wp2_with fail
  refine bodyPost_ret (v := dvV d) (by simp [results, Tryd.results20, go_sem, c0, c1, c2, c3, c4, c5, c6, c7, c8, c9, c10, c11]) rfl ?_
  exact ⟨rfl, below_dv HB.out (Nat.le_succ _) _ _ _ _ _ _ _ _ _ _ _ _⟩

/-- Parse of the statements' fields. -/
theorem parseF_any (v : Value) (vs : List (List UInt8)) {B : Nat} (w : World) (hO : OwnsP 56 B w v (fldV vs)) (hM : MaxIs w) (hl : vs.length ≤ 90000) (hb : ∀ x ∈ vs, x.length ≤ 90000) :
    Calls Tryd.prog 14 #[v] w fun e w' => e = .returned (dvV (parseD vs)) ∧ Below w.heap.size w w' := by
  have h := parse_any v (fldV vs) w hO.q (by rw [fldV_len]; omega) (fldV_big hb) hM
  rw [fldV_all] at h
  exact h
def awk : List UInt8 := [109, 97, 120, 45, 97, 103, 101, 61, 54, 48, 44, 32, 80, 117, 98, 108, 105, 99]
theorem awk_parse : parseD [awk] = ⟨false, false, false, true, false, false, 60, -1, -1, -1, -1, -1⟩ := by decide +kernel
set_option maxHeartbeats 2000000 in
set_option maxRecDepth 100000 in
theorem awake11_any (w : World) (hM : MaxIs w) : Calls Tryd.prog 12 #[] w fun e w' => e = .returned (.bool true) ∧ Below w.heap.size w w' := by
  have HO := Lib.hid (own_lit1 w awk)
  have HB := Lib.hid (below_new w (.cells #[.string (strB awk)] 9))
  have HM := Lib.hid hM
  go_enter Tryd.func12, Tryd.ntmps12
  go_wp2_with fail
  change Calls _ _ _ (w.alloc (.cells #[.string (strB awk)] 9)) _
  generalize w.alloc (.cells #[.string (strB awk)] 9) = W at *
  refine (fields11_any _ [awk] _ HO.out.reads (by decide)).mono ?_
  rintro e w1 ⟨v, rfl, hO1, hB1⟩
  have HB1 := Lib.hid (HB.out.trans (hB1.mono HB.out.size))
  have HO1 := Lib.hid hO1
  clear hO1 hB1
  go_wp2_with fail
  refine (parseF_any _ [awk] _ HO1.out (HM.out.below HB1.out) (by decide) (by decide)).mono ?_
  rintro e w2 ⟨rfl, hB2⟩
  rw [awk_parse]
  have HB2 := Lib.hid ((HB1.out.trans (hB2.mono HB1.out.size)))
  clear hB2
  have HB3 := Lib.hid (HB2.out.alloc HB2.out.size (.cells (dvC ⟨false, false, false, true, false, false, 60, -1, -1, -1, -1, -1⟩) 28))
  have hN := dvB_new w2 ⟨false, false, false, true, false, false, 60, -1, -1, -1, -1, -1⟩ 28
  go_upto_region 2 with fail
  change Code.wp _ _ _ _ (w2.alloc (.cells (dvC ⟨false, false, false, true, false, false, 60, -1, -1, -1, -1, -1⟩) 28))
  generalize (w2.alloc (.cells (dvC ⟨false, false, false, true, false, false, 60, -1, -1, -1, -1, -1⟩) 28)) = W3 at *
  obtain ⟨c0, c1, c2, c3, c4, c5, c6, c7, c8, c9, c10, c11, fr, lt⟩ := hN
  go_wp2_with fail
  go_ret
  exact ⟨rfl, HB3.out⟩
end Go.Proofs.YtnjjjfbklgdgpaaDoor
