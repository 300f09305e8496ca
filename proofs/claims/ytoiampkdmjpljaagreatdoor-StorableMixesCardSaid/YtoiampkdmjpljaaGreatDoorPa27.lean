import Derived.Test.YtoiampkdmjpljaaGreatDoorPa24
import Derived.Test.YtoiampkdmjpljaaGreatDoorPa10
import Derived.Test.YtoiampkdmjpljaaGreatDoorPa26
import Derived.Deep.RegionHeld3
import Derived.Test.YtoiampkdmjpljaaGreatDoorPa25
import Derived.Test.YtoiampkdmjpljaaGreatDoorPa1
/- What the statements' large and awake of layer 14 return. -/
namespace Go.Proofs.YtoiampkdmjpljaaGreatDoor
open Go.RowKit

def lfLargeB (ps : Flds) : Bool := decide (4000 < 2 * ps.length + totL ps)
theorem lfFit {ps : Flds} (h : lfLargeB ps = false) : ps.length ≤ 2000 ∧ ∀ p ∈ ps, p.1.length + p.2.length ≤ 4000 := by
  have h1 := of_decide_eq_false h
  exact ⟨by omega, fun p hp => by have := tot_mem hp; omega⟩
theorem lfFitL {ps : Flds} (h : lfLargeB ps = false) : FitL ps := ⟨by have := (lfFit h).1; omega, fun p hp => by have := (lfFit h).2 p hp; omega⟩
theorem tot_take (ps : Flds) (k : Nat) : totL (ps.take k) ≤ totL ps := by
  have h := tot_app (ps.take k) (ps.drop k)
  rw [List.take_append_drop] at h
  omega
def lfAwk : List UInt8 := [109, 97, 120, 45, 97, 103, 101, 61, 54, 48, 44, 32, 115, 45, 109, 97, 120, 97, 103, 101, 61, 49, 48]
theorem lfAwk_cc : allL [(nCC, lfAwk)] nCC = [lfAwk] := by decide +kernel
theorem lfAwk_da : allL [(nCC, lfAwk)] nDA = [] := by decide +kernel
theorem lfAwk_ex : allL [(nCC, lfAwk)] nEX = [] := by decide +kernel
theorem lfAwk_lm : allL [(nCC, lfAwk)] nLM = [] := by decide +kernel
theorem lfAwk_parse : parseD [lfAwk] = ⟨false, false, false, false, false, false, 60, 10, -1, -1, -1, -1⟩ := by decide +kernel
theorem lfAwk_fit : FitL [(nCC, lfAwk)] := ⟨by decide, by decide⟩
theorem lfAwk_of (w : World) (fv : Value) (hr : ReadsQ w fv [(nCC, lfAwk)]) (hE : EnvL w) :
    Calls Tryz.prog 84 #[.int .i64 200, fv] w fun e w' => e = .returned (.tuple #[.int .i64 10000, .int .i64 1]) ∧ Below w.heap.size w w' := by
  have h := lfOf_any 200 fv [(nCC, lfAwk)] none none none w hr lfAwk_fit (by unfold DatF; rw [lfAwk_da]; rfl) (by unfold DatF; rw [lfAwk_ex]; rfl) (by unfold DatF; rw [lfAwk_lm]; rfl) hE
  rw [lfAwk_cc, lfAwk_parse] at h
  exact h
end Go.Proofs.YtoiampkdmjpljaaGreatDoor

/- What the statements' large, awake and of of layer 15 return. -/
namespace Go.Proofs.YtoiampkdmjpljaaGreatDoor
open Go.RowKit

/-- Lists of fields in a slice. -/
def ReadsF (w : World) (v : Value) (xs : List (Value × Flds)) : Prop :=
  ∃ g c, v = .slice (some ⟨g, 0, none⟩) xs.length c ∧ g < w.heap.size ∧ ∀ j x, xs[j]? = some x → w.cell? ⟨g, j, none⟩ = some x.1 ∧ ReadsQ w x.1 x.2
theorem readsF_two {w : World} {u v : Value} {p q : Flds} (T : TypeId) (hu : ReadsQ w u p) (hv : ReadsQ w v q) : ReadsF (w.alloc (.cells #[u, v] T)) (.slice (some ⟨w.heap.size, 0, none⟩) 2 2) [(u, p), (v, q)] := by
  refine ⟨w.heap.size, 2, rfl, by simp, fun j x h => ?_⟩
  rw [World.cell?_alloc_at _ _ _ _ rfl]
  match j, h with
  | 0, h => cases h; exact ⟨rfl, hu.below (below_new _ _)⟩
  | 1, h => cases h; exact ⟨rfl, hv.below (below_new _ _)⟩
  | j + 2, h => simp at h
theorem readsF_one {w : World} {u : Value} {p : Flds} (T : TypeId) (hu : ReadsQ w u p) : ReadsF (w.alloc (.cells #[u] T)) (.slice (some ⟨w.heap.size, 0, none⟩) 1 1) [(u, p)] := by
  refine ⟨w.heap.size, 1, rfl, by simp, fun j x h => ?_⟩
  rw [World.cell?_alloc_at _ _ _ _ rfl]
  match j, h with
  | 0, h => cases h; exact ⟨rfl, hu.below (below_new _ _)⟩
  | j + 1, h => simp at h
def sumF (xs : List (Value × Flds)) : Nat := xs.foldl (fun n x => n + (2 * x.2.length + totL x.2)) 0
theorem sumF_app (xs : List (Value × Flds)) (x : Value × Flds) : sumF (xs ++ [x]) = sumF xs + (2 * x.2.length + totL x.2) := by unfold sumF; rw [List.foldl_append]; rfl
theorem sumF_next {xs : List (Value × Flds)} {j : Nat} {x : Value × Flds} (h : xs[j]? = some x) : sumF (xs.take (j + 1)) = sumF (xs.take j) + (2 * x.2.length + totL x.2) := by
  rw [take_more h, sumF_app]
theorem sumF_le (xs : List (Value × Flds)) (n : Nat) : n ≤ xs.foldl (fun n x => n + (2 * x.2.length + totL x.2)) n := by
  induction xs generalizing n with
  | nil => exact Nat.le_refl _
  | cons x r ih => exact Nat.le_trans (Nat.le_add_right _ _) (ih _)
theorem sumF_take (xs : List (Value × Flds)) (j : Nat) : sumF (xs.take j) ≤ sumF xs := by
  conv => rhs; rw [← List.take_append_drop j xs]
  unfold sumF; rw [List.foldl_append]; exact sumF_le _ _
def lgB (xs : List (Value × Flds)) : Bool := decide (4000 < sumF xs)
set_option maxHeartbeats 4000000 in
set_option maxRecDepth 100000 in
theorem large15_any (lv : Value) (xs : List (Value × Flds)) (w : World) (hr : ReadsF w lv xs) (hx : xs.length ≤ 1000) (hb : sumF xs ≤ 9000000) :
    Calls Tryz.prog 11 #[lv] w fun e w' => e = .returned (.bool (lgB xs)) ∧ Below w.heap.size w w' := by
  obtain ⟨g0, c0, rfl, hg0, hc⟩ := hr
  have HC := Lib.hid hc
  clear hc
  go_enter Tryz.func11, Tryz.ntmps11
  go_wp2_with fail
  go_loopw [3, 10] (fun v i wr => ∃ k : Nat, i = .int .i64 k ∧ k ≤ xs.length ∧ v = .int .i64 ((sumF (xs.take k) : Nat) : Int) ∧ Below w.heap.size w wr) (fun _ i _ => xs.length - (intOf i).toNat)
  case atStart => exact ⟨0, rfl, Nat.zero_le _, by simp [sumF], Below.refl _ _⟩
  case round =>
    obtain ⟨k, rfl, hk, rfl, hBr⟩ := hrel
    have hbr := hBr.size
    have hst := sumF_take xs k
    have HBr := Lib.hid hBr
    clear hBr
    by_cases hlt : k < xs.length
    · obtain ⟨x, hxk⟩ : ∃ x, xs[k]? = some x := ⟨xs[k], by simp [hlt]⟩
      obtain ⟨fv, ps⟩ := x
      obtain ⟨hcell, hR⟩ := HC.out k _ hxk
      have hc1 : wr.cell? ⟨g0, k, none⟩ = some fv := (HBr.out.cell (p := ⟨g0, k, none⟩) hg0).trans hcell
      have hsn : sumF (xs.take (k + 1)) = sumF (xs.take k) + (2 * ps.length + totL ps) := sumF_next hxk
      have hst2 := sumF_take xs (k + 1)
      have HSn := Lib.hid hsn
      have hsn2 : sumF (xs.take k) + (2 * ps.length + totL ps) ≤ 9000000 := by omega
      obtain ⟨ao, cap, hfv, hcf⟩ := hR.below HBr.out
      try simp only at hfv
      subst hfv
      have HF := Lib.hid hcf
      clear hxk hcell hR hcf hsn
      generalize sumF (xs.take k) = m at *
      rename World => wq
      go_wp2_with fail
      go_loopw [3, 16] (fun v i wr => ∃ j : Nat, i = .int .i64 j ∧ j ≤ ps.length ∧ v = .int .i64 ((m + (2 * j + totL (ps.take j)) : Nat) : Int) ∧ Below wq.heap.size wq wr) (fun _ i _ => ps.length - (intOf i).toNat)
      case atStart => exact ⟨0, rfl, Nat.zero_le _, by simp [totL], Below.refl _ _⟩
      case round =>
        obtain ⟨j, rfl, hj, rfl, hBi⟩ := hrel
        have htk := tot_take ps j
        have HBi := Lib.hid hBi
        have hbi := hBi.size
        clear hBi
        by_cases hlj : j < ps.length
        · obtain ⟨p, hp⟩ : ∃ p, ps[j]? = some p := ⟨ps[j], by simp [hlj]⟩
          obtain ⟨g, off, rfl, hg1, h1, h2⟩ := HF.out j p hp
          have hd1 : wr.cell? ⟨g, off + j * 2, none⟩ = some (.string (strB p.1)) := (HBi.out.cell (p := ⟨g, off + j * 2, none⟩) hg1).trans h1
          have hd2 : wr.cell? ⟨g, off + j * 2 + 1, none⟩ = some (.string (strB p.2)) := (HBi.out.cell (p := ⟨g, off + j * 2 + 1, none⟩) hg1).trans h2
          have e1 : (strB p.1).size = p.1.length := strB_size _
          have e2 : (strB p.2).size = p.2.length := strB_size _
          have hpl := tot_mem (List.mem_of_getElem? hp)
          have hm := tot_more hp
          have hmk := tot_take ps (j + 1)
          clear hp h1 h2
          go_wp2
          go_roundw
          case rel => exact ⟨j + 1, by go_num, by omega, by congr 1; omega, HBi.out.alloc hbi _⟩
          case measure => simp [intOf]; omega
        · have hte : ps.take j = ps := List.take_of_length_le (by omega)
          rw [hte] at htk ⊢
          have HB2 := Lib.hid (HBr.out.trans (HBi.out.mono hbr))
          have hjl : j = ps.length := by omega
          have hv : ((m + (2 * j + totL ps) : Nat) : Int) = ((sumF (xs.take (k + 1)) : Nat) : Int) := by rw [HSn.out, hjl]
          rw [hv]
          clear hv hjl hte
          go_wp2
          go_roundw
          case rel => exact ⟨k + 1, by go_num, by omega, by first | rfl | trivial, HB2.out⟩
          case measure => simp [intOf]; omega
    · have hte : xs.take k = xs := List.take_of_length_le (by omega)
      rw [hte] at hst ⊢
      by_cases h3 : 4000 < sumF xs
      · have HR := Lib.hid (show lgB xs = true from decide_eq_true h3)
        go_wp2
        go_ret
        exact ⟨by rw [HR.out]; exact ret_bool (decide_eq_true (by omega)), HBr.out⟩
      · have HR := Lib.hid (show lgB xs = false from decide_eq_false h3)
        go_wp2
        go_ret
        exact ⟨by rw [HR.out]; exact ret_bool (decide_eq_false (by omega)), HBr.out⟩
def sbAwk : List UInt8 := [109, 97, 120, 45, 97, 103, 101, 61, 53]
theorem sbAwk_fit : FitL [(nCC, sbAwk)] := ⟨by decide, by decide⟩
theorem nil_fit : FitL [] := ⟨by decide, fun p hp => by cases hp⟩
theorem reads_nil (w : World) : ReadsQ w (.slice none 0 0) [] := ⟨none, 0, rfl, fun j p h => by simp at h⟩
theorem sbAwk_ok : storV mGET [] [(nCC, sbAwk)] 200 none none none = 0 := by decide +kernel
theorem sbAwk_no : storV mGET [] [] 200 none none none = 8 := by decide +kernel
set_option maxHeartbeats 4000000 in
set_option maxRecDepth 100000 in
theorem awake15_any (w : World) (hE : EnvL w) : Calls Tryz.prog 12 #[] w fun e w' => e = .returned (.bool true) ∧ Below w.heap.size w w' := by
  have HO := Lib.hid (own_litF w nCC sbAwk)
  have HB := Lib.hid (below_new w (.cells #[.string (strB nCC), .string (strB sbAwk)] 58))
  have HE := Lib.hid hE
  have H1 := Lib.hid (fun (v : Value) (w : World) (hr : ReadsQ w v [(nCC, sbAwk)]) (hE : EnvL w) => storOf_any mGET (.slice none 0 0) [] 200 v [(nCC, sbAwk)] none none none w (reads_nil w) nil_fit hr sbAwk_fit
    (show OneIs (allL [(nCC, sbAwk)] nDA) none from (show allL [(nCC, sbAwk)] nDA = [] by decide +kernel) ▸ rfl) (show OneIs (allL [(nCC, sbAwk)] nEX) none from (show allL [(nCC, sbAwk)] nEX = [] by decide +kernel) ▸ rfl)
    (show OneIs (allL [(nCC, sbAwk)] nLM) none from (show allL [(nCC, sbAwk)] nLM = [] by decide +kernel) ▸ rfl) hE)
  have H2 := Lib.hid (fun (w : World) (hE : EnvL w) => storOf_any mGET (.slice none 0 0) [] 200 (.slice none 0 0) [] none none none w (reads_nil w) nil_fit (reads_nil w) nil_fit rfl rfl rfl hE)
  rw [sbAwk_ok] at H1
  rw [sbAwk_no] at H2
  clear hE
  go_enter Tryz.func12, Tryz.ntmps12
  go_wp2_with fail
  change Calls _ _ _ (w.alloc (.cells #[.string (strB nCC), .string (strB sbAwk)] 58)) _
  generalize w.alloc (.cells #[.string (strB nCC), .string (strB sbAwk)] 58) = W at *
  refine (H1.out _ _ HO.out.q (HE.out.below HB.out)).mono ?_
  rintro e w1 ⟨rfl, hB1⟩
  have HB1 := Lib.hid (HB.out.trans (hB1.mono HB.out.size))
  clear hB1
  go_wp2_with fail
  refine (H2.out _ (HE.out.below HB1.out)).mono ?_
  rintro e w2 ⟨rfl, hB2⟩
  have HB2 := Lib.hid (HB1.out.trans (hB2.mono HB1.out.size))
  clear hB2
  go_wp2_with fail
  go_ret
  exact ⟨rfl, HB2.out⟩
abbrev caC (m : List UInt8) (qv rv : Value) (s : Int) : Array Value := #[.string (strB m), qv, rv, .int .i64 s]
abbrev caV (m : List UInt8) (qv rv : Value) (s : Int) : Value := .agg (caC m qv rv s)
/-- A block of a case's four cells, and what the calls read. -/
structure CsS (N : Nat) (m : List UInt8) (qv : Value) (q : Flds) (rv : Value) (r : Flds) (s : Int) (w w' : World) : Prop where
  c0 : w'.cell? ⟨N, 0, none⟩ = some (.string (strB m))
  c1 : w'.cell? ⟨N, 1, none⟩ = some qv
  c2 : w'.cell? ⟨N, 2, none⟩ = some rv
  c3 : w'.cell? ⟨N, 3, none⟩ = some (.int .i64 s)
  fr : ∀ j, w'.frozen? ⟨N, j, none⟩ = false
  lt : N < w'.heap.size
  rq : ReadsQ w' qv q
  rr : ReadsQ w' rv r
  e : EnvL w'
  b : Below w.heap.size w w'
theorem CsS.below {N : Nat} {m : List UInt8} {qv : Value} {q : Flds} {rv : Value} {r : Flds} {s : Int} {w w1 w2 : World} (h : CsS N m qv q rv r s w w1) (hb : Below w1.heap.size w1 w2) : CsS N m qv q rv r s w w2 :=
  ⟨(hb.cell (p := ⟨N, 0, none⟩) h.lt).trans h.c0, (hb.cell (p := ⟨N, 1, none⟩) h.lt).trans h.c1, (hb.cell (p := ⟨N, 2, none⟩) h.lt).trans h.c2, (hb.cell (p := ⟨N, 3, none⟩) h.lt).trans h.c3, fun j => (hb.frozen (p := ⟨N, j, none⟩) h.lt).trans (h.fr j), Nat.lt_of_lt_of_le h.lt hb.size, h.rq.below hb, h.rr.below hb, h.e.below hb, h.b.trans (hb.mono h.b.size)⟩
theorem csS_new {m : List UInt8} {qv : Value} {q : Flds} {rv : Value} {r : Flds} (s : Int) (w : World) (T : TypeId) (hq : ReadsQ w qv q) (hr : ReadsQ w rv r) (hE : EnvL w) : CsS w.heap.size m qv q rv r s w (w.alloc (.cells (caC m qv rv s) T)) :=
  ⟨by rw [World.cell?_alloc_at _ _ _ _ rfl]; rfl, by rw [World.cell?_alloc_at _ _ _ _ rfl]; rfl, by rw [World.cell?_alloc_at _ _ _ _ rfl]; rfl, by rw [World.cell?_alloc_at _ _ _ _ rfl]; rfl, fun j => World.frozen?_alloc_new _ _ _ _, by simp, hq.below (below_new _ _), hr.below (below_new _ _), hE.below (below_new _ _), below_new _ _⟩
theorem csS_all {N : Nat} {m : List UInt8} {qv : Value} {q : Flds} {rv : Value} {r : Flds} {s : Int} {w w' : World} (h : CsS N m qv q rv r s w w') : w'.cell? ⟨N, 0, none⟩ = some (.string (strB m)) ∧ w'.cell? ⟨N, 1, none⟩ = some qv ∧ w'.cell? ⟨N, 2, none⟩ = some rv ∧ w'.cell? ⟨N, 3, none⟩ = some (.int .i64 s) ∧ CsS N m qv q rv r s w w' :=
  ⟨h.c0, h.c1, h.c2, h.c3, h⟩
set_option maxHeartbeats 8000000 in
set_option maxRecDepth 100000 in
theorem of15_any (m : List UInt8) (qa : Option Addr) (qc : Nat) (q : Flds) (ra : Option Addr) (rc : Nat) (r : Flds) (s : Int) (dd de dl : Option Nat) (w : World) (hq : ReadsQ w (.slice qa q.length qc) q) (hfq : FitL q) (hr : ReadsQ w (.slice ra r.length rc) r) (hf : FitL r)
    (hd : DatF r nDA dd) (he : DatF r nEX de) (hl : DatF r nLM dl) (hE : EnvL w) :
    Calls Tryz.prog 13 #[caV m (.slice qa q.length qc) (.slice ra r.length rc) s] w fun e w' => e = .returned (.int .i64 (storV m q r s dd de dl)) ∧ Below w.heap.size w w' := by
  have HS := Lib.hid (csS_new (m := m) s w 24 hq hr hE)
  have HFq := Lib.hid (fun (w : World) (hr : ReadsQ w (.slice qa q.length qc) q) => fields_any _ q w hr hfq.len hfq.each6)
  have HFr := Lib.hid (fun (w : World) (hr : ReadsQ w (.slice ra r.length rc) r) => fields_any _ r w hr hf.len hf.each6)
  have HO := Lib.hid (fun (u v : Value) (w : World) (hq : ReadsQ w u q) (hr : ReadsQ w v r) (hE : EnvL w) => storOf_any m u q s v r dd de dl w hq hfq hr hf hd he hl hE)
  clear hq hfq hr hf hd he hl hE
  generalize storV m q r s dd de dl = res at *
  go_enter Tryz.func13, Tryz.ntmps13
  go_upto_region 1 with fail
  change Code.wp _ _ _ _ (w.alloc (.cells (caC m (.slice qa q.length qc) (.slice ra r.length rc) s) 24))
  generalize (w.alloc (.cells (caC m (.slice qa q.length qc) (.slice ra r.length rc) s) 24)) = W at *
  generalize q.length = nq at *
  generalize r.length = nr at *
  have hS0 := HS.out.below (Below.refl _ _).drew
  clear HS
  refine wp_region_held_drew (S := (fun w' => w'.cell? ⟨w.heap.size, 0, none⟩ = some (.string (strB m)) ∧ w'.cell? ⟨w.heap.size, 1, none⟩ = some (.slice qa nq qc) ∧ w'.cell? ⟨w.heap.size, 2, none⟩ = some (.slice ra nr rc) ∧ w'.cell? ⟨w.heap.size, 3, none⟩ = some (.int .i64 s) ∧ CsS w.heap.size m (.slice qa nq qc) q (.slice ra nr rc) r s w w')) (by kernel_rfl) (csS_all hS0) (fun hHeld => ?_)
  generalize W.drew = V0 at *
  refine wpAnyH_take (i := 0) (oi := { dst := some 3, op := _, type := _, pos := _, after := _, guard := _ }) (v := ?_) rfl (by kernel_rfl) (by kernel_rfl) (by kernel_rfl) (fun _ _ _ h => h) (Or.inl ⟨by rfl, ?_⟩) (by assumption) ?_
  rotate_left
  focus (intro w hSw; (try dsimp only at hSw); first | (go_simp; done) | (go_simp; with_reducible rfl))
  (try simp only [Act.put, List.setIfInBounds_toArray, List.set_cons_zero, List.set_cons_succ])
  refine wpAnyH_take (i := 1) (oi := { dst := some 4, op := _, type := _, pos := _, after := _, guard := _ }) (v := ?_) rfl (by kernel_rfl) (by kernel_rfl) (by kernel_rfl) (fun _ _ _ h => h) (Or.inl ⟨by rfl, ?_⟩) (by assumption) ?_
  rotate_left
  focus (intro w hSw; (try dsimp only at hSw); first | (go_simp; done) | (go_simp; with_reducible rfl))
  (try simp only [Act.put, List.setIfInBounds_toArray, List.set_cons_zero, List.set_cons_succ])
  refine wpAnyH_take (i := 2) (oi := { dst := some 5, op := _, type := _, pos := _, after := _, guard := _ }) (v := ?_) rfl (by kernel_rfl) (by kernel_rfl) (by kernel_rfl) (fun _ _ _ h => h) (Or.inl ⟨by rfl, ?_⟩) (by assumption) ?_
  rotate_left
  focus (intro w hSw; (try dsimp only at hSw); first | (go_simp; done) | (go_simp; with_reducible rfl))
  (try simp only [Act.put, List.setIfInBounds_toArray, List.set_cons_zero, List.set_cons_succ])
  refine wpAnyH_take (i := 3) (oi := { dst := some 6, op := _, type := _, pos := _, after := _, guard := _ }) (v := ?_) rfl (by kernel_rfl) (by kernel_rfl) (by kernel_rfl) (fun _ _ _ h => h) (Or.inl ⟨by rfl, ?_⟩) (by assumption) ?_
  rotate_left
  focus (intro w hSw; (try dsimp only at hSw); first | (go_simp; done) | (go_simp; with_reducible rfl))
  (try simp only [Act.put, List.setIfInBounds_toArray, List.set_cons_zero, List.set_cons_succ])
  refine wpAnyH_take (i := 5) (oi := { dst := some 8, op := _, type := _, pos := _, after := _, guard := _ }) (v := ?_) rfl (by kernel_rfl) (by kernel_rfl) (by kernel_rfl) (fun _ _ _ h => h) (Or.inl ⟨by rfl, ?_⟩) (by assumption) ?_
  rotate_left
  focus (intro w hSw; (try dsimp only at hSw); first | (go_simp; done) | (go_simp; with_reducible rfl))
  (try simp only [Act.put, List.setIfInBounds_toArray, List.set_cons_zero, List.set_cons_succ])
  refine wpAnyH_take (i := 6) (oi := { dst := some 9, op := _, type := _, pos := _, after := _, guard := _ }) (v := ?_) rfl (by kernel_rfl) (by kernel_rfl) (by kernel_rfl) (fun _ _ _ h => h) (Or.inl ⟨by rfl, ?_⟩) (by assumption) ?_
  rotate_left
  focus (intro w hSw; (try dsimp only at hSw); first | (go_simp; done) | (go_simp; with_reducible rfl))
  (try simp only [Act.put, List.setIfInBounds_toArray, List.set_cons_zero, List.set_cons_succ])
  refine wpAnyH_take (i := 7) (oi := { dst := some 10, op := _, type := _, pos := _, after := _, guard := _ }) (v := ?_) rfl (by kernel_rfl) (by kernel_rfl) (by kernel_rfl) (fun _ _ _ h => h) (Or.inl ⟨by rfl, ?_⟩) (by assumption) ?_
  rotate_left
  focus (intro w hSw; (try dsimp only at hSw); first | (go_simp; done) | (go_simp; with_reducible rfl))
  (try simp only [Act.put, List.setIfInBounds_toArray, List.set_cons_zero, List.set_cons_succ])
  refine wpAnyH_take (i := 8) (oi := { dst := some 11, op := _, type := _, pos := _, after := _, guard := _ }) (v := ?_) rfl (by kernel_rfl) (by kernel_rfl) (by kernel_rfl) (fun _ _ _ h => h) (Or.inl ⟨by rfl, ?_⟩) (by assumption) ?_
  rotate_left
  focus (intro w hSw; (try dsimp only at hSw); first | (go_simp; done) | (go_simp; with_reducible rfl))
  (try simp only [Act.put, List.setIfInBounds_toArray, List.set_cons_zero, List.set_cons_succ])
  refine wpAnyH_ready (rs := [4]) (by kernel_rfl) (by simp) ?_
  refine AllReadyH.cons (o := { dst := some 7, op := _, type := _, pos := _, after := _, guard := _ }) rfl (fun K hK => ?_) AllReadyH.nil
  go_simp
  refine (HFq.out _ hS0.rq).mono ?_
  rintro e V1 ⟨v1, rfl, hO1, hBc⟩
  have hS1 := hS0.below hBc
  have HQ1 := Lib.hid hO1.q
  refine hK.out _ _ (csS_all hS1) (fun hH1 => ?_)
  clear hK K hBc hS0 hHeld hO1
  (try simp only [Act.put, List.setIfInBounds_toArray, List.set_cons_zero, List.set_cons_succ])
  refine wpAnyH_ready (rs := [9]) (by kernel_rfl) (by simp) ?_
  refine AllReadyH.cons (o := { dst := some 12, op := _, type := _, pos := _, after := _, guard := _ }) rfl (fun K hK => ?_) AllReadyH.nil
  go_simp
  refine (HFr.out _ hS1.rr).mono ?_
  rintro e V2 ⟨v2, rfl, hO2, hBc⟩
  have hS2 := hS1.below hBc
  have HQ2 := Lib.hid hO2.q
  have HQ1b := Lib.hid (HQ1.out.below hBc)
  refine hK.out _ _ (csS_all hS2) (fun hH2 => ?_)
  clear hK K hBc hS1 hH1 hO2 HQ1
  (try simp only [Act.put, List.setIfInBounds_toArray, List.set_cons_zero, List.set_cons_succ])
  refine wpAnyH_ready (rs := [10]) (by kernel_rfl) (by simp) ?_
  refine AllReadyH.cons (o := { dst := some 13, op := _, type := _, pos := _, after := _, guard := _ }) rfl (fun K hK => ?_) AllReadyH.nil
  go_simp
  refine (HO.out _ _ _ HQ1b.out HQ2.out hS2.e).mono ?_
  rintro e V3 ⟨rfl, hBc⟩
  have hS3 := hS2.below hBc
  refine hK.out _ _ (csS_all hS3) (fun hH3 => ?_)
  clear hK K hBc hS2 hH2
  (try simp only [Act.put, List.setIfInBounds_toArray, List.set_cons_zero, List.set_cons_succ])
  refine wpAnyH_take (i := 11) (oi := { dst := some 2, op := _, type := _, pos := _, after := _, guard := _ }) (v := ?_) rfl (by kernel_rfl) (by kernel_rfl) (by kernel_rfl) (fun _ _ _ h => h) (Or.inl ⟨by rfl, ?_⟩) (by assumption) ?_
  rotate_left
  focus (intro w hSw; (try dsimp only at hSw); first | (go_simp; done) | (go_simp; with_reducible rfl))
  (try simp only [Act.put, List.setIfInBounds_toArray, List.set_cons_zero, List.set_cons_succ])
  refine wpAnyH_done (by kernel_rfl) ?_ _
  (try simp only [Exit.then])
  (try go_wp2_with fail)
  go_ret
  exact ⟨rfl, hS3.b⟩
end Go.Proofs.YtoiampkdmjpljaaGreatDoor

/- What WriteTag, Strong, Weak, readList and ReadTags return. -/
namespace Go.Proofs.YtoiampkdmjpljaaGreatDoor
open Go.RowKit

theorem below_newY (w : World) (o p : Obj) : Below w.heap.size w ((w.alloc o).alloc p) := (below_new w o).alloc (by simp) p
theorem same_strB (a b : List UInt8) : ((strB a).toList == (strB b).toList) = decide (a = b) := by
  rw [ByteArray.toList_eq, ByteArray.toList_eq, strB_list, strB_list]
  by_cases h : a = b
  · subst h; simp
  · simp [h]
set_option maxHeartbeats 1000000 in
theorem weak_any (t u : Tg) (w : World) :
    Calls Tryz.prog 65 #[tgV t, tgV u] w fun e w' => e = .returned (.bool (sameT false t u)) ∧ Below w.heap.size w w' := by
  obtain ⟨k, a⟩ := t
  obtain ⟨j, b⟩ := u
  have hs := same_strB a b
  go_enter Tryz.func65, Tryz.ntmps65
  go_wp2
  go_ret
  exact ⟨by simp [sameT], below_newY _ _ _⟩
theorem trim_head {r : List UInt8} {c : UInt8} {x : List UInt8} (h : trimB r = c :: x) : blank c = false := by
  rw [trimB_eq] at h
  cases e : tL r with
  | nil => rw [e] at h; cases h
  | cons d y =>
    rw [e, tR_cons_ne (tL_head e)] at h
    simp only [List.cons.injEq] at h
    rw [← h.1]; exact tL_head e
theorem new_tg2 (w : World) (o : Obj) (x : Bool) (y : List UInt8) (T : TypeId) : ∀ j u, [Value.bool x, strV y][j]? = some u → ((w.alloc o).alloc (.cells #[.bool x, strV y] T)).cell? ((⟨w.heap.size + 1, 0, none⟩ : Addr).add j) = some u := by
  have e : w.heap.size + 1 = (w.alloc o).heap.size := by simp
  rw [e]; exact new_tg (w.alloc o) x y T
def TagsPost (T : TypeId) (l : List UInt8) (w : World) (e : Ending) (w' : World) : Prop :=
  Below w.heap.size w w' ∧
  match lstL l [] with
  | none => e = .returned (.tuple #[.slice none 0 0, errY])
  | some ts => ∃ v, e = .returned (.tuple #[v, .nilIface]) ∧ OwnsT T w.heap.size w' v ts ∧ ts.length ≤ l.length
theorem tagsPost_none {T : TypeId} {l : List UInt8} {w w' : World} {e : Ending} (hB : Below w.heap.size w w') (hR : lstL l [] = none) (he : e = .returned (.tuple #[.slice none 0 0, errY])) : TagsPost T l w e w' := ⟨hB, by rw [hR]; exact he⟩
theorem tagsPost_some {T : TypeId} {l : List UInt8} {w w' : World} {e : Ending} {v : Value} {ts : List Tg} (hB : Below w.heap.size w w') (hR : lstL l [] = some ts) (he : e = .returned (.tuple #[v, .nilIface])) (hO : OwnsT T w.heap.size w' v ts) (hl : ts.length ≤ l.length) : TagsPost T l w e w' := ⟨hB, by rw [hR]; exact ⟨v, he, hO, hl⟩⟩
def TRel (T : TypeId) (l : List UInt8) (w : World) (v r : Value) (wr : World) : Prop :=
  ∃ (acc : List Tg) (x : List UInt8), r = .string (strB x) ∧ (∀ c y, x = c :: y → blank c = false) ∧ lstL x acc = lstL l [] ∧ acc.length + x.length ≤ l.length ∧ OwnsT T w.heap.size wr v acc ∧ Below w.heap.size w wr
theorem cutC_any (l : List UInt8) (b : Bool) (w : World) (h : [44].isPrefixOf l = b) : Calls Tryz.prog 139 #[.string (strB l), .string ⟨#[44]⟩] w fun e w' => e = .returned (.tuple #[.string (strB (if b then l.drop 1 else l)), .bool b]) ∧ w = w' := by
  refine (cutPre_any (strB l) ⟨#[44]⟩ w (b := b) (by rw [strB_list]; exact h)).mono ?_
  rintro e w' ⟨rfl, rfl⟩
  rw [strB_list]
  exact ⟨rfl, rfl⟩
theorem cutTL_len {l : List UInt8} {t : Tg} {r : List UInt8} (h : cutTL l = some (t, r)) : r.length + 2 ≤ l.length := by
  obtain ⟨_, rfl⟩ := cutTL_some h
  obtain ⟨k, a⟩ := t
  cases k <;> simp [texL] <;> omega
theorem Tryz.infoT : (Tryz.prog.info? 94).map (fun i => (i.zero, i.size, i.bytes)) = some (some (.agg #[.bool false, .string ByteArray.empty]), 2, 24) := by kernel_rfl
theorem trimS_any (l : List UInt8) (w : World) (hl : l.length ≤ 1000000) : Calls Tryz.prog 123 #[.string (strB l)] w fun e w' => e = .returned (.string (strB (trimB l))) ∧ Below w.heap.size w w' := by
  refine (trimA_any (strB l) w (by rw [strB_size]; omega)).mono ?_
  rintro e w' ⟨rfl, hb⟩
  rw [strB_list]; exact ⟨rfl, hb⟩
end Go.Proofs.YtoiampkdmjpljaaGreatDoor
