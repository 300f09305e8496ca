import Derived.Test.YtinbdflkpbjmcaaGreatDoorPa17
import Derived.Test.YtinbdflkpbjmcaaGreatDoorPa19
import Derived.Test.YtinbdflkpbjmcaaGreatDoorPa7
import Derived.Laws.IdiomStrings
/- What the statements' large, Fields, Plain, Program and awake return. -/
namespace Go.Proofs.YtinbdflkpbjmcaaGreatDoor
open Go.RowKit

def totV : List (List UInt8) → Nat
  | [] => 0
  | v :: r => v.length + totV r
theorem totV_snoc (l : List (List UInt8)) (v : List UInt8) : totV (l ++ [v]) = totV l + v.length := by
  induction l with
  | nil => simp [totV]
  | cons u r ih => rw [List.cons_append, totV, totV, ih]; omega
theorem totV_more {l : List (List UInt8)} {k : Nat} {v : List UInt8} (h : l[k]? = some v) : totV (l.take (k + 1)) = totV (l.take k) + v.length := by
  rw [List.take_add_one, h]; exact totV_snoc _ _
theorem totV_take (l : List (List UInt8)) : ∀ k, totV (l.take k) ≤ totV l := by
  induction l with
  | nil => intro k; simp [totV]
  | cons u r ih =>
    intro k
    cases k with
    | zero => simp [totV]
    | succ k => rw [List.take_succ_cons, totV, totV]; have := ih k; omega
theorem totV_mem {l : List (List UInt8)} {v : List UInt8} (h : v ∈ l) : v.length ≤ totV l := by
  induction l with
  | nil => cases h
  | cons u r ih =>
    rw [totV]
    rcases List.mem_cons.1 h with e | e
    · subst e; omega
    · have := ih e; omega
def largeV (vs : List (List UInt8)) : Bool := decide (3000 < vs.length + totV vs)
def nXC : List UInt8 := [120, 45, 99, 97, 99, 104, 101, 45, 99, 111, 110, 116, 114, 111, 108]
def fldV (vs : List (List UInt8)) : Flds := (nXC, nNS) :: vs.map fun v => (nCC, v)
theorem fldV_snoc (vs : List (List UInt8)) (v : List UInt8) : fldV (vs ++ [v]) = fldV vs ++ [(nCC, v)] := by simp [fldV]
theorem fldV_len (vs : List (List UInt8)) : (fldV vs).length = vs.length + 1 := by simp [fldV]
theorem fldV_all (vs : List (List UInt8)) : allL (fldV vs) nCC = vs := by
  have h0 : ofN nCC (nXC, nNS) = false := by decide +kernel
  have h1 : ∀ v, ofN nCC (nCC, v) = true := fun v => by unfold ofN; exact decide_eq_true rfl
  unfold allL fldV
  rw [List.filter_cons_of_neg (by rw [h0]; decide)]
  induction vs with
  | nil => rfl
  | cons v r ih => rw [List.map_cons, List.filter_cons_of_pos (h1 v), List.map_cons, ih]
theorem fldV_big {vs : List (List UInt8)} (hv : ∀ v ∈ vs, v.length ≤ 90000) : ∀ p ∈ fldV vs, p.1.length + p.2.length ≤ 100000 := by
  intro p hp
  rcases List.mem_cons.1 hp with e | e
  · subst e; decide
  · obtain ⟨v, hv', rfl⟩ := List.mem_map.1 e
    have := hv v hv'
    show nCC.length + v.length ≤ _
    have : nCC.length = 13 := by decide
    omega
/-- A row that a literal makes is the call's own. -/
theorem own_lit (w : World) (cur : Array Value) (e : TypeId) (size n : Nat) (hm : n ≤ maxLen) (hs : cur.size = n * size) : (w.alloc (.cells cur e)).ownsRow w.heap.size e size (.slice (some ⟨w.heap.size, 0, none⟩) n n) n cur.toList :=
  ⟨by simp [hs], .inr ⟨w.heap.size, n, cur, rfl, Nat.le_refl _, heap_alloc_new w _, Nat.le_refl _, hm, hs, by rw [List.take_of_length_le (by simp [hs])]⟩⟩
theorem own_lit1 (w : World) (l : List UInt8) : OwnsS w.heap.size (w.alloc (.cells #[.string (strB l)] 9)) (.slice (some ⟨w.heap.size, 0, none⟩) 1 1) [l] :=
  own_lit w #[.string (strB l)] _ 1 1 (by decide) rfl
theorem own_litF (w : World) (a b : List UInt8) : OwnsP 59 w.heap.size (w.alloc (.cells #[.string (strB a), .string (strB b)] 59)) (.slice (some ⟨w.heap.size, 0, none⟩) 1 1) [(a, b)] :=
  own_lit w #[.string (strB a), .string (strB b)] _ 2 1 (by decide) rfl
/-- Parse of the statements' fields. -/
theorem parseF_any (v : Value) (vs : List (List UInt8)) {B : Nat} (w : World) (hO : OwnsP 59 B w v (fldV vs)) (hM : MaxIs w) (hl : vs.length ≤ 90000) (hb : ∀ x ∈ vs, x.length ≤ 90000) :
    Calls Tryz.prog 35 #[v] w fun e w' => e = .returned (dvV (parseD vs)) ∧ Below w.heap.size w w' := by
  have h := parse11_any v (fldV vs) w hO.q (by rw [fldV_len]; omega) (fldV_big hb) hM
  rw [fldV_all] at h
  exact h
def awk : List UInt8 := [109, 97, 120, 45, 97, 103, 101, 61, 54, 48, 44, 32, 80, 117, 98, 108, 105, 99]
theorem awk_parse : parseD [awk] = ⟨false, false, false, true, false, false, 60, -1, -1, -1, -1, -1⟩ := by decide +kernel
end Go.Proofs.YtinbdflkpbjmcaaGreatDoor

/- What the statements' large and awake of layer 14 return. -/
namespace Go.Proofs.YtinbdflkpbjmcaaGreatDoor
open Go.RowKit

def lfLargeB (ps : Flds) : Bool := decide (4000 < 2 * ps.length + totL ps)
theorem lfFit {ps : Flds} (h : lfLargeB ps = false) : ps.length ≤ 2000 ∧ ∀ p ∈ ps, p.1.length + p.2.length ≤ 4000 := by
  have h1 := of_decide_eq_false h
  exact ⟨by omega, fun p hp => by have := tot_mem hp; omega⟩
theorem lfFitL {ps : Flds} (h : lfLargeB ps = false) : FitL ps := ⟨by have := (lfFit h).1; omega, fun p hp => by have := (lfFit h).2 p hp; omega⟩
theorem tot_take (ps : Flds) (k : Nat) : totL (ps.take k) ≤ totL ps := by
  have h := tot_app (ps.take k) (ps.drop k)
  rw [List.take_append_drop] at h
  omega
set_option maxHeartbeats 1000000 in
set_option maxRecDepth 100000 in
theorem lfLarge_any (lv : Value) (ps : Flds) (w : World) (hr : ReadsQ w lv ps) (hb : 2 * ps.length + totL ps ≤ 3000000) :
    Calls Tryz.prog 10 #[lv] w fun e w' => e = .returned (.bool (lfLargeB ps)) ∧ Below w.heap.size w w' := by
  obtain ⟨ao, cap, rfl, hc⟩ := hr
  have HC := Lib.hid hc
  clear hc
  go_enter Tryz.func10, Tryz.ntmps10
  go_wp2_with fail
  go_loopw [3, 11] (fun v i wr => ∃ k : Nat, i = .int .i64 k ∧ k ≤ ps.length ∧ v = .int .i64 ((2 * ps.length + totL (ps.take k) : Nat) : Int) ∧ Below w.heap.size w wr) (fun _ i _ => ps.length - (intOf i).toNat)
  case atStart => exact ⟨0, rfl, Nat.zero_le _, by simp [totL], Below.refl _ _⟩
  case round =>
    obtain ⟨k, rfl, hk, rfl, hBr⟩ := hrel
    have hbr := hBr.size
    have htk := tot_take ps k
    by_cases hlt : k < ps.length
    · obtain ⟨p, hp⟩ : ∃ p, ps[k]? = some p := ⟨ps[k], by simp [hlt]⟩
      obtain ⟨g, off, rfl, hg1, h1, h2⟩ := HC.out k p hp
      have hc1 : wr.cell? ⟨g, off + k * 2, none⟩ = some (.string (strB p.1)) := (hBr.cell (p := ⟨g, off + k * 2, none⟩) hg1).trans h1
      have hc2 : wr.cell? ⟨g, off + k * 2 + 1, none⟩ = some (.string (strB p.2)) := (hBr.cell (p := ⟨g, off + k * 2 + 1, none⟩) hg1).trans h2
      have e1 : (strB p.1).size = p.1.length := strB_size _
      have e2 : (strB p.2).size = p.2.length := strB_size _
      have hpl := tot_mem (List.mem_of_getElem? hp)
      have hm := tot_more hp
      have hmk := tot_take ps (k + 1)
      clear hp h1 h2
      go_wp2
      go_roundw
      case rel => exact ⟨k + 1, by go_num, by omega, by congr 1; omega, hBr.alloc hbr _⟩
      case measure => simp [intOf]; omega
    · have hte : ps.take k = ps := List.take_of_length_le (by omega)
      rw [hte] at htk ⊢
      by_cases h3 : 4000 < 2 * ps.length + totL ps
      · have HR := Lib.hid (show lfLargeB ps = true from decide_eq_true h3)
        go_wp2
        go_ret
        exact ⟨by rw [HR.out]; exact ret_bool (decide_eq_true (by omega)), hBr⟩
      · have HR := Lib.hid (show lfLargeB ps = false from decide_eq_false h3)
        go_wp2
        go_ret
        exact ⟨by rw [HR.out]; exact ret_bool (decide_eq_false (by omega)), hBr⟩
def lfAwk : List UInt8 := [109, 97, 120, 45, 97, 103, 101, 61, 54, 48, 44, 32, 115, 45, 109, 97, 120, 97, 103, 101, 61, 49, 48]
theorem lfAwk_cc : allL [(nCC, lfAwk)] nCC = [lfAwk] := by decide +kernel
theorem lfAwk_da : allL [(nCC, lfAwk)] nDA = [] := by decide +kernel
theorem lfAwk_ex : allL [(nCC, lfAwk)] nEX = [] := by decide +kernel
theorem lfAwk_lm : allL [(nCC, lfAwk)] nLM = [] := by decide +kernel
theorem lfAwk_parse : parseD [lfAwk] = ⟨false, false, false, false, false, false, 60, 10, -1, -1, -1, -1⟩ := by decide +kernel
theorem lfAwk_fit : FitL [(nCC, lfAwk)] := ⟨by decide, by decide⟩
theorem lfAwk_of (w : World) (fv : Value) (hr : ReadsQ w fv [(nCC, lfAwk)]) (hE : EnvL w) :
    Calls Tryz.prog 13 #[.int .i64 200, fv] w fun e w' => e = .returned (.tuple #[.int .i64 10000, .int .i64 1]) ∧ Below w.heap.size w w' := by
  have h := lfOf_any 200 fv [(nCC, lfAwk)] none none none w hr lfAwk_fit (by unfold DatF; rw [lfAwk_da]; rfl) (by unfold DatF; rw [lfAwk_ex]; rfl) (by unfold DatF; rw [lfAwk_lm]; rfl) hE
  rw [lfAwk_cc, lfAwk_parse] at h
  exact h
set_option maxHeartbeats 2000000 in
set_option maxRecDepth 100000 in
theorem lfAwake_any (w : World) (hE : EnvL w) : Calls Tryz.prog 11 #[] w fun e w' => e = .returned (.bool true) ∧ Below w.heap.size w w' := by
  have HO := Lib.hid (own_litF w nCC lfAwk)
  have HB := Lib.hid (below_new w (.cells #[.string (strB nCC), .string (strB lfAwk)] 59))
  have HE := Lib.hid hE
  clear hE
  go_enter Tryz.func11, Tryz.ntmps11
  go_wp2_with fail
  change Calls _ _ _ (w.alloc (.cells #[.string (strB nCC), .string (strB lfAwk)] 59)) _
  generalize w.alloc (.cells #[.string (strB nCC), .string (strB lfAwk)] 59) = W at *
  refine (lfAwk_of _ _ HO.out.q (HE.out.below HB.out)).mono ?_
  rintro e w1 ⟨rfl, hB1⟩
  have HB1 := Lib.hid (HB.out.trans (hB1.mono HB.out.size))
  clear hB1
  go_wp2_with fail
  go_ret
  exact ⟨rfl, HB1.out⟩
end Go.Proofs.YtinbdflkpbjmcaaGreatDoor

/- What the reference's digits and number return. -/
namespace Go.Proofs.YtinbdflkpbjmcaaGreatDoor
open Go.RowKit

theorem convD (z : Int) (c : UInt8) (hz : z = (c.toNat : Int)) (W : World) :
    (convert 103 9 (.slice (some ⟨W.heap.size, 0, none⟩) 1 1)).run Tryz.prog (W.alloc (.cells #[.int .u8 z] 5)) = .ok (.string ⟨#[c]⟩) (W.alloc (.cells #[.int .u8 z] 5)) :=
  run_convert_bytes_back _ _ _ 5 ⟨W.heap.size, 0, none⟩ 1 [c] Tryz.underlying103 Tryz.underlying5 Tryz.underlying9 (fun j hj => by
    have : j = 0 := by simp at hj; omega
    subst this
    subst hz
    simp [Addr.add])
def DgRel (n many : Nat) (w : World) (r o i : Value) (wr : World) : Prop :=
  ∃ k : Nat, k ≤ many ∧ i = .int .i64 (k : Int) ∧ r = .int .i64 ((n / 10 ^ k : Nat) : Int) ∧ o = .string (strB (dgs k n)) ∧ Below w.heap.size w wr
theorem dgs_cons (k n : Nat) : (⟨#[dig (n / 10 ^ k)]⟩ : ByteArray) ++ strB (dgs k n) = strB (dgs (k + 1) n) := by apply ByteArray.ext; simp [strB, dgs]
set_option maxHeartbeats 1000000 in
theorem digits_any (n many : Nat) (w : World) (hm : many ≤ 4) (hn : n ≤ 1000000) :
    Calls Tryz.prog 100 #[.int .i64 (n : Int), .int .i64 (many : Int)] w fun e w' => e = .returned (.string (strB (dgs many n))) ∧ Below w.heap.size w w' := by
  go_enter Tryz.func100, Tryz.ntmps100
  go_wp2
  go_loopw [0, 5, 7] (fun r o i wr => DgRel n many w r o i wr) (fun _ _ i _ => many - (intOf i).toNat)
  case atStart => exact ⟨0, by omega, rfl, by simp, rfl, Below.refl _ _⟩
  case round =>
    obtain ⟨k, hk, rfl, rfl, rfl, hB⟩ := hrel
    have HS := Lib.hid (div_pow_succ n k)
    have HC := Lib.hid (dgs_cons k n)
    have hq : n / 10 ^ k ≤ 1000000 := Nat.le_trans (Nat.div_le_self _ _) hn
    have hcv := fun W => convD (48 + ((n / 10 ^ k : Nat) : Int) % 10) (dig (n / 10 ^ k)) (by rw [dig_nat]; omega) W
    have hz : (strB (dgs k n)).size ≤ 4 := by rw [strB_size, dgs_len]; omega
    obtain ⟨q, hqq⟩ : ∃ q, n / 10 ^ k = q := ⟨_, rfl⟩
    rw [hqq] at HS HC hq hcv ⊢
    clear hqq
    by_cases hlt : k < many
    · go_wp2
      go_roundw
      case rel => exact ⟨k + 1, by omega, by go_num, by rw [← HS.out]; go_num, by rw [← HC.out], hB.alloc hB.size _⟩
      case measure => simp [intOf]; omega
    · obtain rfl : k = many := by omega
      have HB := Lib.hid hB
      clear hB
      go_wp2
      go_ret
      exact ⟨rfl, HB.out⟩
theorem get_all {s : ByteArray} {k : Nat} (h : k < s.size) (hb : dgtB s[k] = false) : s.data.toList.all dgtB = false := all_bad (l := s.data.toList) (k := k) (by simpa using h) hb
set_option maxHeartbeats 1000000 in
theorem refNumber_any (s : ByteArray) (w : World) (hs : s.size ≤ 4) :
    Calls Tryz.prog 78 #[.string s] w fun e w' => e = .returned (.int .i64 (rn s.data.toList)) ∧ w = w' := by
  go_enter Tryz.func78, Tryz.ntmps78
  go_wp2
  go_loop [3, 7] (fun v i => ∃ k : Nat, k ≤ s.size ∧ i = .int .i64 (k : Int) ∧ v = .int .i64 (rnv (s.data.toList.take k) : Int) ∧ (s.data.toList.take k).all dgtB = true) (fun _ i => s.size - (intOf i).toNat)
  case atStart => exact ⟨0, by omega, rfl, by simp [rnv], by simp⟩
  case round =>
    obtain ⟨k, hk, rfl, rfl, ha⟩ := hrel
    have hb : rnv (s.data.toList.take k) < 10 ^ k := by
      have := rnv_lt _ ha
      rwa [List.length_take_of_le (by simpa using hk)] at this
    have hb2 : rnv (s.data.toList.take k) < 10000 := Nat.lt_of_lt_of_le hb (Nat.pow_le_pow_right (n := 10) (by omega) (show k ≤ 4 by omega))
    have HA := Lib.hid ha
    clear ha hb
    by_cases hlt : k < s.size
    · have HT := Lib.hid (take_snoc s k hlt)
      by_cases h48 : s[k].toNat < 48
      · have HN := Lib.hid (rn_no (get_all hlt (show dgtB s[k] = false from decide_eq_false (by omega))))
        go_wp2
        go_ret
        exact ⟨ret_int HN.out.symm, rfl⟩
      · by_cases h57 : 57 < s[k].toNat
        · have HN := Lib.hid (rn_no (get_all hlt (show dgtB s[k] = false from decide_eq_false (by omega))))
          go_wp2
          go_ret
          exact ⟨ret_int HN.out.symm, rfl⟩
        · have HD := Lib.hid (show dgtB s[k] = true from decide_eq_true (by omega))
          have HV := Lib.hid (rnv_snoc (s.data.toList.take k) s[k])
          go_wp2
          go_round
          case rel => exact ⟨k + 1, by omega, by go_num, by rw [HT.out, HV.out]; go_num, by rw [HT.out, List.all_append, HA.out]; simp [HD.out]⟩
          case measure => simp [intOf]; omega
    · have HE := Lib.hid (take_all s k (by omega))
      go_wp2
      go_ret
      exact ⟨ret_int (by rw [HE.out, rn_yes (by rw [← HE.out]; exact HA.out)]), rfl⟩
end Go.Proofs.YtinbdflkpbjmcaaGreatDoor
