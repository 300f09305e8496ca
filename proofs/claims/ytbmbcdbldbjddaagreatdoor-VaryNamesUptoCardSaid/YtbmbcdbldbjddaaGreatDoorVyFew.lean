/- What the statements' large, long and awake of layer 16 return. -/
import Derived.Test.YtbmbcdbldbjddaaGreatDoorVyPutW
import Derived.Test.YtbmbcdbldbjddaaGreatDoorFSmall
import Derived.Test.YtbmbcdbldbjddaaGreatDoorFOwn
import Derived.Deep.RegionHeld3
namespace Go.Proofs.YtbmbcdbldbjddaaGreatDoor
open Go.RowKit

theorem tot_takeV (ps : Flds) (k : Nat) : totL (ps.take k) ≤ totL ps := by
  have h := tot_app (ps.take k) (ps.drop k)
  rw [List.take_append_drop] at h
  omega
/-- Lists of fields in a slice. -/
def ReadsW (w : World) (v : Value) (xs : List (Value × Flds)) : Prop :=
  ∃ g c, v = .slice (some ⟨g, 0, none⟩) xs.length c ∧ g < w.heap.size ∧ ∀ j x, xs[j]? = some x → w.cell? ⟨g, j, none⟩ = some x.1 ∧ ReadsQ w x.1 x.2
theorem readsW_two {w : World} {u v : Value} {p q : Flds} (T : TypeId) (hu : ReadsQ w u p) (hv : ReadsQ w v q) : ReadsW (w.alloc (.cells #[u, v] T)) (.slice (some ⟨w.heap.size, 0, none⟩) 2 2) [(u, p), (v, q)] := by
  refine ⟨w.heap.size, 2, rfl, by simp, fun j x h => ?_⟩
  rw [World.cell?_alloc_at _ _ _ _ rfl]
  match j, h with
  | 0, h => cases h; exact ⟨rfl, hu.below (below_new _ _)⟩
  | 1, h => cases h; exact ⟨rfl, hv.below (below_new _ _)⟩
  | j + 2, h => simp at h
theorem readsW_one {w : World} {u : Value} {p : Flds} (T : TypeId) (hu : ReadsQ w u p) : ReadsW (w.alloc (.cells #[u] T)) (.slice (some ⟨w.heap.size, 0, none⟩) 1 1) [(u, p)] := by
  refine ⟨w.heap.size, 1, rfl, by simp, fun j x h => ?_⟩
  rw [World.cell?_alloc_at _ _ _ _ rfl]
  match j, h with
  | 0, h => cases h; exact ⟨rfl, hu.below (below_new _ _)⟩
  | j + 1, h => simp at h
def sumW (xs : List (Value × Flds)) : Nat := xs.foldl (fun n x => n + (2 * x.2.length + totL x.2)) 0
theorem sumW_app (xs : List (Value × Flds)) (x : Value × Flds) : sumW (xs ++ [x]) = sumW xs + (2 * x.2.length + totL x.2) := by unfold sumW; rw [List.foldl_append]; rfl
theorem sumW_next {xs : List (Value × Flds)} {j : Nat} {x : Value × Flds} (h : xs[j]? = some x) : sumW (xs.take (j + 1)) = sumW (xs.take j) + (2 * x.2.length + totL x.2) := by
  rw [take_more h, sumW_app]
theorem sumW_le (xs : List (Value × Flds)) (n : Nat) : n ≤ xs.foldl (fun n x => n + (2 * x.2.length + totL x.2)) n := by
  induction xs generalizing n with
  | nil => exact Nat.le_refl _
  | cons x r ih => exact Nat.le_trans (Nat.le_add_right _ _) (ih _)
theorem sumW_take (xs : List (Value × Flds)) (j : Nat) : sumW (xs.take j) ≤ sumW xs := by
  conv => rhs; rw [← List.take_append_drop j xs]
  unfold sumW; rw [List.foldl_append]; exact sumW_le _ _
def lgV (xs : List (Value × Flds)) : Bool := decide (3000 < sumW xs)
set_option maxHeartbeats 4000000 in
set_option maxRecDepth 100000 in
theorem large16_any (lv : Value) (xs : List (Value × Flds)) (w : World) (hr : ReadsW w lv xs) (hx : xs.length ≤ 1000) (hb : sumW xs ≤ 90000000) :
    Calls Tryz.prog 4 #[lv] w fun e w' => e = .returned (.bool (lgV xs)) ∧ Below w.heap.size w w' := by
  obtain ⟨g0, c0, rfl, hg0, hc⟩ := hr
  have HC := Lib.hid hc
  clear hc
  go_enter Tryz.func4, Tryz.ntmps4
  go_wp2_with fail
  go_loopw [3, 10] (fun v i wr => ∃ k : Nat, i = .int .i64 k ∧ k ≤ xs.length ∧ v = .int .i64 ((sumW (xs.take k) : Nat) : Int) ∧ Below w.heap.size w wr) (fun _ i _ => xs.length - (intOf i).toNat)
  case atStart => exact ⟨0, rfl, Nat.zero_le _, by simp [sumW], Below.refl _ _⟩
  case round =>
    obtain ⟨k, rfl, hk, rfl, hBr⟩ := hrel
    have hbr := hBr.size
    have hst := sumW_take xs k
    have HBr := Lib.hid hBr
    clear hBr
    by_cases hlt : k < xs.length
    · obtain ⟨x, hxk⟩ : ∃ x, xs[k]? = some x := ⟨xs[k], by simp [hlt]⟩
      obtain ⟨fv, ps⟩ := x
      obtain ⟨hcell, hR⟩ := HC.out k _ hxk
      have hc1 : wr.cell? ⟨g0, k, none⟩ = some fv := (HBr.out.cell (p := ⟨g0, k, none⟩) hg0).trans hcell
      have hsn : sumW (xs.take (k + 1)) = sumW (xs.take k) + (2 * ps.length + totL ps) := sumW_next hxk
      have hst2 := sumW_take xs (k + 1)
      have HSn := Lib.hid hsn
      have hsn2 : sumW (xs.take k) + (2 * ps.length + totL ps) ≤ 90000000 := by omega
      obtain ⟨ao, cap, hfv, hcf⟩ := hR.below HBr.out
      try simp only at hfv
      subst hfv
      have HF := Lib.hid hcf
      clear hxk hcell hR hcf hsn
      generalize sumW (xs.take k) = m at *
      rename World => wq
      go_wp2_with fail
      go_loopw [3, 16] (fun v i wr => ∃ j : Nat, i = .int .i64 j ∧ j ≤ ps.length ∧ v = .int .i64 ((m + (2 * j + totL (ps.take j)) : Nat) : Int) ∧ Below wq.heap.size wq wr) (fun _ i _ => ps.length - (intOf i).toNat)
      case atStart => exact ⟨0, rfl, Nat.zero_le _, by simp [totL], Below.refl _ _⟩
      case round =>
        obtain ⟨j, rfl, hj, rfl, hBi⟩ := hrel
        have htk := tot_takeV ps j
        have HBi := Lib.hid hBi
        have hbi := hBi.size
        clear hBi
        by_cases hlj : j < ps.length
        · obtain ⟨p, hp⟩ : ∃ p, ps[j]? = some p := ⟨ps[j], by simp [hlj]⟩
          obtain ⟨g, off, rfl, hg1, h1, h2⟩ := HF.out j p hp
          have hd1 : wr.cell? ⟨g, off + j * 2, none⟩ = some (.string (strB p.1)) := (HBi.out.cell (p := ⟨g, off + j * 2, none⟩) hg1).trans h1
          have hd2 : wr.cell? ⟨g, off + j * 2 + 1, none⟩ = some (.string (strB p.2)) := (HBi.out.cell (p := ⟨g, off + j * 2 + 1, none⟩) hg1).trans h2
          have e1 : (strB p.1).size = p.1.length := strB_size _
          have e2 : (strB p.2).size = p.2.length := strB_size _
          have hpl := tot_mem (List.mem_of_getElem? hp)
          have hm := tot_more hp
          have hmk := tot_takeV ps (j + 1)
          clear hp h1 h2
          go_wp2
          go_roundw
          case rel => exact ⟨j + 1, by go_num, by omega, by congr 1; omega, HBi.out.alloc hbi _⟩
          case measure => simp [intOf]; omega
        · have hte : ps.take j = ps := List.take_of_length_le (by omega)
          rw [hte] at htk ⊢
          have HB2 := Lib.hid (HBr.out.trans (HBi.out.mono hbr))
          have hjl : j = ps.length := by omega
          have hv : ((m + (2 * j + totL ps) : Nat) : Int) = ((sumW (xs.take (k + 1)) : Nat) : Int) := by rw [HSn.out, hjl]
          rw [hv]
          clear hv hjl hte
          go_wp2
          go_roundw
          case rel => exact ⟨k + 1, by go_num, by omega, by first | rfl | trivial, HB2.out⟩
          case measure => simp [intOf]; omega
    · have hte : xs.take k = xs := List.take_of_length_le (by omega)
      rw [hte] at hst ⊢
      by_cases h3 : 3000 < sumW xs
      · have HR := Lib.hid (show lgV xs = true from decide_eq_true h3)
        go_wp2
        go_ret
        exact ⟨by rw [HR.out]; exact ret_bool (decide_eq_true (by omega)), HBr.out⟩
      · have HR := Lib.hid (show lgV xs = false from decide_eq_false h3)
        go_wp2
        go_ret
        exact ⟨by rw [HR.out]; exact ret_bool (decide_eq_false (by omega)), HBr.out⟩
def lonB (ns : List (List UInt8)) : Bool := decide (500 < ns.length + sumL ns)
theorem sumL_next {ns : List (List UInt8)} {k : Nat} {p : List UInt8} (h : ns[k]? = some p) : sumL (ns.take (k + 1)) = sumL (ns.take k) + p.length := by
  rw [take_more h]; simp [sumL]
theorem sumL_take (vs : List (List UInt8)) (k : Nat) : sumL (vs.take k) ≤ sumL vs := by
  induction vs generalizing k with
  | nil => simp
  | cons a r ih =>
    cases k with
    | zero => simp [sumL]
    | succ k =>
      have e1 : sumL (a :: r) = a.length + sumL r := rfl
      have e2 : sumL ((a :: r).take (k + 1)) = a.length + sumL (r.take k) := rfl
      have := ih k
      omega
theorem lon_fit {ns : List (List UInt8)} (h : lonB ns = false) : FitN ns := by
  have h1 := of_decide_eq_false h
  exact ⟨by omega, fun n hn => by have := sumL_mem hn; omega⟩
theorem lg_fit1 {u : Value} {p : Flds} (h : lgV [(u, p)] = false) : 2 * p.length + totL p ≤ 3000 := by
  have h1 := of_decide_eq_false h
  have e : sumW [(u, p)] = 0 + (2 * p.length + totL p) := rfl
  omega
theorem fitK_of {p : Flds} (h : 2 * p.length + totL p ≤ 3000) : FitK p := ⟨by omega, by omega⟩
theorem readsQ_by {w w' : World} {v : Value} {ps : Flds} {X : Nat → Prop} (h : ReadsQ w v ps) (hO : Only X w w') (hv : ∀ k, v.ownBlock = some k → ¬ X k) : ReadsQ w' v ps := by
  obtain ⟨ao, cap, rfl, hc⟩ := h
  refine ⟨ao, cap, rfl, fun j p hj => ?_⟩
  obtain ⟨g, off, ha, hg, h1, h2⟩ := hc j p hj
  subst ha
  have hx : ¬ X g := hv g rfl
  exact ⟨g, off, rfl, Nat.lt_of_lt_of_le hg hO.size, (hO.cell (p := ⟨g, off + j * 2, none⟩) hg hx).trans h1, (hO.cell (p := ⟨g, off + j * 2 + 1, none⟩) hg hx).trans h2⟩
theorem readsS_newT (w : World) (a : List UInt8) : ReadsS (w.alloc (.cells #[.string (strB a)] 9)) (.slice (some ⟨w.heap.size, 0, none⟩) 1 1) [a] := by
  refine ⟨_, 1, rfl, fun j l hj => ⟨w.heap.size, 0, rfl, by simp, ?_⟩⟩
  cases j with
  | zero => simp at hj; subst hj; rw [World.cell?_alloc_at _ _ _ _ rfl]; rfl
  | succ j => simp at hj
theorem readsS_newT2 (w : World) (a b : List UInt8) : ReadsS (w.alloc (.cells #[.string (strB a), .string (strB b)] 9)) (.slice (some ⟨w.heap.size, 0, none⟩) 2 2) [a, b] := by
  refine ⟨_, 2, rfl, fun j l hj => ⟨w.heap.size, 0, rfl, by simp, ?_⟩⟩
  match j, hj with
  | 0, hj => simp at hj; subst hj; rw [World.cell?_alloc_at _ _ _ _ rfl]; rfl
  | 1, hj => simp at hj; subst hj; rw [World.cell?_alloc_at _ _ _ _ rfl]; rfl
  | j + 2, hj => simp at hj
theorem readsQ_newT (w : World) (a b : List UInt8) (T : TypeId) : ReadsQ (w.alloc (.cells #[.string (strB a), .string (strB b)] T)) (.slice (some ⟨w.heap.size, 0, none⟩) 1 1) [(a, b)] := by
  refine ⟨_, 1, rfl, fun j l hj => ⟨w.heap.size, 0, rfl, by simp, ?_⟩⟩
  match j, hj with
  | 0, hj => simp at hj; subst hj; constructor <;> rw [World.cell?_alloc_at _ _ _ _ rfl] <;> rfl
  | j + 1, hj => simp at hj
theorem readsZ_newT (w : World) (z : Int) : ReadsZ (w.alloc (.cells #[.int .i64 z] 3)) (.slice (some ⟨w.heap.size, 0, none⟩) 1 1) [z] := by
  refine ⟨_, 1, rfl, fun j l hj => ⟨w.heap.size, 0, rfl, by simp, ?_⟩⟩
  match j, hj with
  | 0, hj => simp at hj; subst hj; rw [World.cell?_alloc_at _ _ _ _ rfl]; rfl
  | j + 1, hj => simp at hj
def nAcc : List UInt8 := [97, 99, 99, 101, 112, 116]
theorem awk_key : keyL [nAcc, [120]] [(nAcc, [97])] = [97, 99, 99, 101, 112, 116, 61, 34, 97, 34, 38, 120] := by decide +kernel
theorem awk_fitN1 : FitN [nAcc] := ⟨by decide, fun n hn => by rw [List.mem_singleton] at hn; subst hn; decide⟩
theorem awk_fitN2 : FitN [nAcc, [120]] := ⟨by decide, fun n hn => by simp at hn; rcases hn with rfl | rfl <;> decide⟩
theorem awk_fitK : FitK [(nAcc, [97])] := ⟨by decide, by decide⟩
theorem fitV_nil : FitV [] := ⟨by decide, fun v hv => by cases hv⟩
theorem fitV_put {l : List Vr} {ns : List (List UInt8)} {key : List UInt8} {id : Int} (h : FitV l) (hn : FitN ns) : FitV (putV l ns key id) :=
  ⟨put_len l ns key id, fun v hv => by
    rw [put_front] at hv
    rcases List.mem_cons.mp hv with e | e
    · subst e; exact hn
    · exact h.each v ((keep_sub l ns key id).subset (List.mem_of_mem_take e))⟩
theorem fitV_rem {l : List Vr} {id : Int} (h : FitV l) : FitV (otherV l id) := ⟨Nat.le_trans (List.length_filter_le ..) h.len, fun v hv => h.each v (List.mem_filter.mp hv).1⟩
theorem find_self (ns : List (List UInt8)) (f : Flds) (id : Int) : findV (putV [] ns (keyL ns f) id) f = [id] := by rw [find_one, if_pos rfl]
set_option maxHeartbeats 8000000 in
set_option maxRecDepth 100000 in
theorem awake16_any (w : World) :
    Calls Tryz.prog 5 #[] w fun e w' => e = .returned (.bool true) ∧ Below w.heap.size w w' := by
  have HN := Lib.hid (setNew_any w)
  go_enter Tryz.func5, Tryz.ntmps5
  go_wp2_with fail
  refine HN.out.mono ?_
  rintro e w1 ⟨rfl, hS1, hB1⟩
  have hs1 := hS1.lt _ rfl
  have hQ2 := readsQ_newT w1 nAcc [97] 39
  have hS2 := hS1.below (below_new w1 (.cells #[.string (strB nAcc), .string (strB [97])] 39))
  have hN3 := readsS_newT (w1.alloc (.cells #[.string (strB nAcc), .string (strB [97])] 39)) nAcc
  rw [show (w1.alloc (.cells #[.string (strB nAcc), .string (strB [97])] 39)).heap.size = w1.heap.size + 1 by simp] at hN3
  have hQ3 := hQ2.below (below_new (w1.alloc (.cells #[.string (strB nAcc), .string (strB [97])] 39)) (.cells #[.string (strB nAcc)] 9))
  have hS3 := hS2.below (below_new (w1.alloc (.cells #[.string (strB nAcc), .string (strB [97])] 39)) (.cells #[.string (strB nAcc)] 9))
  have hB3 := (hB1.trans ((below_new w1 (.cells #[.string (strB nAcc), .string (strB [97])] 39)).mono hB1.size))
  have hB3' := hB3.trans ((below_new (w1.alloc (.cells #[.string (strB nAcc), .string (strB [97])] 39)) (.cells #[.string (strB nAcc)] 9)).mono hB3.size)
  have HP := Lib.hid (setPut_any w.heap.size [] _ [nAcc] _ [(nAcc, [97])] 7 _ _ hS3 inv_nil fitV_nil hN3 hQ3 awk_fitN1 awk_fitK)
  have HQ3 := Lib.hid hQ3
  have HB3 := Lib.hid hB3'
  clear hQ2 hS2 hN3 hQ3 hS3 hB3 hB3' hS1 HN
  go_wp2_with fail
  refine HP.out.mono ?_
  rintro e w4 ⟨v, rfl, F', hOI, hS4, hO4, hF4⟩
  have hB4 := HB3.out.trans (hO4.to (B := w.heap.size) (fun k hk => by rw [hk]; exact Nat.le_refl _) HB3.out.size)
  have hQ4 := readsQ_by HQ3.out hO4 (fun k hk e => by
    have e1 : w1.heap.size = k := Option.some.inj hk
    omega)
  have hb5 := below_new w4 (.cells #[.string (strB nAcc), .string (strB [120])] 9)
  have HK := Lib.hid (key_any _ [nAcc, [120]] _ [(nAcc, [97])] _ (readsS_newT2 w4 nAcc [120]) (hQ4.below hb5) awk_fitN2 awk_fitK)
  rw [awk_key] at HK
  have HS5 := Lib.hid (hS4.below hb5)
  have HQ5 := Lib.hid (hQ4.below hb5)
  have HB5 := Lib.hid (hB4.trans (hb5.mono hB4.size))
  clear hOI hS4 hO4 hF4 hB4 hQ4 hb5 HP HQ3
  go_wp2_with fail
  refine HK.out.mono ?_
  rintro e w6 ⟨rfl, hB6⟩
  have HF := Lib.hid (setFind_any w.heap.size _ _ [(nAcc, [97])] _ w6 (HS5.out.below hB6) (fitV_put fitV_nil awk_fitN1) (HQ5.out.below hB6) awk_fitK)
  rw [find_self] at HF
  have HB6 := Lib.hid (HB5.out.trans (hB6.mono HB5.out.size))
  have hkq : ((strB [97, 99, 99, 101, 112, 116, 61, 34, 97, 34, 38, 120]).toList == [97, 99, 99, 101, 112, 116, 61, 34, 97, 34, 38, 120]) = true := by rw [ByteArray.toList_eq, strB_list]; exact beq_self_eq_true _
  clear hB6
  go_wp2_with fail
  refine HF.out.mono ?_
  rintro e w7 ⟨v7, rfl, hO7, hB7⟩
  have HB7 := Lib.hid (HB6.out.trans (hB7.mono HB6.out.size))
  have HI := Lib.hid (ints_any v7 _ [7] [7] _ (hO7.reads.below (below_new w7 (.cells #[.int .i64 7] 3))) (readsZ_newT w7 7) (by decide))
  clear hO7 hB7
  go_wp2_with fail
  refine HI.out.mono ?_
  rintro e w8 ⟨rfl, n, rfl⟩
  go_wp2_with fail
  go_ret
  exact ⟨rfl, below_drewN (HB7.out.trans ((below_new w7 _).mono HB7.out.size)) n⟩
end Go.Proofs.YtbmbcdbldbjddaaGreatDoor
