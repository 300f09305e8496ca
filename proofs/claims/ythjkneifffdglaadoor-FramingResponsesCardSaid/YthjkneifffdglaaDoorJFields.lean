/- What the statements of layer 6 ask of a list of fields (fits); the statements' Fields, Request and Response. -/
import Derived.Test.YthjkneifffdglaaDoorFOwn
import Derived.Test.YthjkneifffdglaaDoorFAll
import Derived.Deep.QuietTactic
import Derived.BigQuiet
import Derived.IntWalk
import Derived.Deep.RegionWith
import Derived.BigRegion
namespace Go.Proofs.YthjkneifffdglaaDoor
open Go.RowKit

/-- How many bytes the names and values of a list have. -/
def totL (ps : Flds) : Nat := ps.foldr (fun p n => p.1.length + p.2.length + n) 0
theorem tot_app (ps qs : Flds) : totL (ps ++ qs) = totL ps + totL qs := by
  induction ps with
  | nil => simp [totL]
  | cons p r ih => unfold totL at *; rw [List.cons_append, List.foldr_cons, List.foldr_cons, ih]; omega
theorem tot_more {ps : Flds} {k : Nat} {p : List UInt8 × List UInt8} (h : ps[k]? = some p) : totL (ps.take (k + 1)) = totL (ps.take k) + (p.1.length + p.2.length) := by
  rw [take_more h, tot_app]; simp [totL]
theorem tot_le {ps : Flds} {M : Nat} (hb : ∀ p ∈ ps, p.1.length ≤ M ∧ p.2.length ≤ M) (k : Nat) : totL (ps.take k) ≤ k * (M + M) := by
  induction k with
  | zero => simp [totL]
  | succ k ih =>
    cases hp : ps[k]? with
    | none =>
      have e : ps.take (k + 1) = ps.take k := by rw [List.take_add_one, hp]; simp
      rw [e]; exact Nat.le_trans ih (Nat.mul_le_mul_right _ (Nat.le_succ k))
    | some p =>
      rw [tot_more hp, Nat.succ_mul]
      have := hb p (List.mem_of_getElem? hp)
      omega
theorem tot_mem {ps : Flds} {p : List UInt8 × List UInt8} (h : p ∈ ps) : p.1.length + p.2.length ≤ totL ps := by
  induction ps with
  | nil => cases h
  | cons q r ih =>
    have e : totL (q :: r) = q.1.length + q.2.length + totL r := rfl
    rcases List.mem_cons.1 h with rfl | h
    · omega
    · have := ih h; omega
def fits6B (ps : Flds) : Bool := decide (ps.length ≤ 80 ∧ totL ps ≤ 4000)
theorem fits6_yes {ps : Flds} (h : fits6B ps = true) : ps.length ≤ 80 ∧ totL ps ≤ 4000 := of_decide_eq_true h
set_option maxHeartbeats 4000000 in
set_option maxRecDepth 100000 in
theorem fits6_any (lv : Value) (ps : Flds) (w : World) (hr : ReadsQ w lv ps) (hl : ps.length ≤ 9223372036854775807) (hb : ∀ p ∈ ps, p.1.length ≤ 140737488355328 ∧ p.2.length ≤ 140737488355328) :
    Calls Tryd.prog 11 #[lv] w fun e w' => e = .returned (.bool (fits6B ps)) ∧ Below w.heap.size w w' := by
  obtain ⟨ao, cap, rfl, hc⟩ := hr
  have hs := tot_le hb
  have HC := Lib.hid hc
  have HBig := Lib.hid hb
  have HS := Lib.hid hs
  clear hc hb hs
  by_cases h70 : ps.length ≤ 80
  · go_enter Tryd.func11, Tryd.ntmps11
    go_wp2_with fail
    go_loopw [3, 4] (fun v i wr => ∃ k : Nat, i = .int .i64 k ∧ k ≤ ps.length ∧ v = .int .i64 (totL (ps.take k)) ∧ Below w.heap.size w wr) (fun _ i _ => ps.length - (intOf i).toNat)
    case atStart => exact ⟨0, rfl, Nat.zero_le _, rfl, Below.refl _ _⟩
    case round =>
      obtain ⟨k, rfl, hk, rfl, hBr⟩ := hrel
      have hsk : totL (ps.take k) ≤ 80 * (140737488355328 + 140737488355328) := Nat.le_trans (HS.out k) (Nat.mul_le_mul_right _ (by omega))
      by_cases hlt : k < ps.length
      · obtain ⟨p, hp⟩ : ∃ p, ps[k]? = some p := ⟨ps[k], by simp [hlt]⟩
        obtain ⟨g, off, rfl, hg1, h1, h2⟩ := HC.out k p hp
        have hc1 : wr.cell? ⟨g, off + k * 2, none⟩ = some (.string (strB p.1)) := (hBr.cell (p := ⟨g, off + k * 2, none⟩) hg1).trans h1
        have hc2 : wr.cell? ⟨g, off + k * 2 + 1, none⟩ = some (.string (strB p.2)) := (hBr.cell (p := ⟨g, off + k * 2 + 1, none⟩) hg1).trans h2
        have hpl := HBig.out p (List.mem_of_getElem? hp)
        have e1 : (strB p.1).size = p.1.length := strB_size _
        have e2 : (strB p.2).size = p.2.length := strB_size _
        have HM := Lib.hid (tot_more hp)
        clear hp h1 h2
        have hw1 : IntKind.i64.wrap ((p.1.length : Int) + (p.2.length : Int)) = (p.1.length : Int) + (p.2.length : Int) := IntWalk.i64_in _ (by omega)
        have hw2 : IntKind.i64.wrap ((totL (ps.take k) : Int) + ((p.1.length : Int) + (p.2.length : Int))) = (totL (ps.take k) : Int) + ((p.1.length : Int) + (p.2.length : Int)) := IntWalk.i64_in _ (by omega)
        go_wp2
        go_quiet (fail)
        go_wp2
        clear hw1 hw2
        go_roundw
        case rel => exact ⟨k + 1, by go_num, by omega, by rw [HM.out]; congr 1, below_drewN hBr _⟩
        case measure => simp [intOf]; omega
      · have htk : ps.take k = ps := List.take_of_length_le (by omega)
        rw [htk] at hsk ⊢
        by_cases h6 : totL ps ≤ 4000
        · have hf : fits6B ps = true := decide_eq_true ⟨h70, h6⟩
          have HF := Lib.hid hf
          clear hf
          have hd : decide ((totL ps : Int) ≤ 4000) = true := decide_eq_true (by omega)
          go_wp2_with fail
          go_ret
          exact ⟨by rw [HF.out]; rfl, hBr⟩
        · have hf : fits6B ps = false := decide_eq_false (fun h => h6 h.2)
          have HF := Lib.hid hf
          clear hf
          have hd : decide ((totL ps : Int) ≤ 4000) = false := decide_eq_false (by omega)
          go_wp2_with fail
          go_ret
          exact ⟨by rw [HF.out]; rfl, hBr⟩
  · have hsm : fits6B ps = false := decide_eq_false fun h => h70 h.1
    rw [hsm]
    go_enter Tryd.func11, Tryd.ntmps11
    go_wp2_with fail
    go_loopw [3, 4] (fun v i wr => ∃ (k : Nat) (z : Int), i = .int .i64 k ∧ k ≤ ps.length ∧ v = .int .i64 z ∧ Below w.heap.size w wr) (fun _ i _ => ps.length - (intOf i).toNat)
    case atStart => exact ⟨0, 0, rfl, Nat.zero_le _, rfl, Below.refl _ _⟩
    case round =>
      obtain ⟨k, z, rfl, hk, rfl, hBr⟩ := hrel
      by_cases hlt : k < ps.length
      · obtain ⟨p, hp⟩ : ∃ p, ps[k]? = some p := ⟨ps[k], by simp [hlt]⟩
        obtain ⟨g, off, rfl, hg1, h1, h2⟩ := HC.out k p hp
        have hc1 : wr.cell? ⟨g, off + k * 2, none⟩ = some (.string (strB p.1)) := (hBr.cell (p := ⟨g, off + k * 2, none⟩) hg1).trans h1
        have hc2 : wr.cell? ⟨g, off + k * 2 + 1, none⟩ = some (.string (strB p.2)) := (hBr.cell (p := ⟨g, off + k * 2 + 1, none⟩) hg1).trans h2
        have hpl := HBig.out p (List.mem_of_getElem? hp)
        have e1 : (strB p.1).size = p.1.length := strB_size _
        have e2 : (strB p.2).size = p.2.length := strB_size _
        clear hp h1 h2
        have hw1 : IntKind.i64.wrap ((p.1.length : Int) + (p.2.length : Int)) = (p.1.length : Int) + (p.2.length : Int) := IntWalk.i64_in _ (by omega)
        go_wp2
        go_quiet (fail)
        go_wp2
        clear hw1
        go_roundw
        case rel => exact ⟨k + 1, _, by go_num, by omega, rfl, below_drewN hBr _⟩
        case measure => simp [intOf]; omega
      · go_wp2_with fail
        go_ret
        exact ⟨rfl, hBr⟩
set_option maxHeartbeats 2000000 in
set_option maxRecDepth 100000 in
theorem fields_any (lv : Value) (ps : Flds) (w : World) (hr : ReadsQ w lv ps) (hl : ps.length ≤ 1000) (hb : ∀ p ∈ ps, p.1.length + p.2.length ≤ 1000000) :
    Calls Tryd.prog 27 #[lv] w fun e w' => ∃ v, e = .returned v ∧ OwnsP 57 w.heap.size w' v ps ∧ Below w.heap.size w w' := by
  obtain ⟨i0, hi, hz0, hz1, hz2⟩ := info_parts Tryd.infoF
  obtain ⟨ao, cap, rfl, hc⟩ := hr
  have HC := Lib.hid hc
  have HBig := Lib.hid hb
  clear hc hb
  go_enter Tryd.func27, Tryd.ntmps27
  go_wp2_with fail
  go_loopw [3, 8] (fun v i wr => ∃ k : Nat, i = .int .i64 k ∧ k ≤ ps.length ∧ OwnsP 57 w.heap.size wr v (ps.take k) ∧ Below w.heap.size w wr) (fun _ i _ => ps.length - (intOf i).toNat)
  case atStart => exact ⟨0, rfl, Nat.zero_le _, OwnsP.nil _ _ _, Below.refl _ _⟩
  case round =>
    obtain ⟨k, rfl, hk, hO, hBr⟩ := hrel
    have hbr := hBr.size
    by_cases hlt : k < ps.length
    · obtain ⟨p, hp⟩ : ∃ p, ps[k]? = some p := ⟨ps[k], by simp [hlt]⟩
      obtain ⟨g, off, rfl, hg1, h1, h2⟩ := HC.out k p hp
      have hc1 : wr.cell? ⟨g, off + k * 2, none⟩ = some (.string (strB p.1)) := (hBr.cell (p := ⟨g, off + k * 2, none⟩) hg1).trans h1
      have hc2 : wr.cell? ⟨g, off + k * 2 + 1, none⟩ = some (.string (strB p.2)) := (hBr.cell (p := ⟨g, off + k * 2 + 1, none⟩) hg1).trans h2
      have HP := Lib.hid hp
      clear hp h1 h2
      have hlen : (ps.take k).length = k := by simp; omega
      have HLen := Lib.hid hlen
      clear hlen
      go_wp2_with (at_builtin; refine wpList_append_own _ rfl _ _ 34 rfl w.heap.size 57 i0 (.agg #[.string ByteArray.empty, .string ByteArray.empty]) 2 32 Tryd.underlying34 hi hz0 hz1 hz2 rfl (by decide) _ _ _ rfl ((World.ownsRow.alloc hO _).alloc _) ⟨wr.heap.size + 1, 0, none⟩ 1 1 [strV p.1, strV p.2] rfl rfl (two_new' wr p.1 p.2 _ _) (fun u hu => by simp at hu; rcases hu with rfl | rfl <;> rfl) (by rw [HLen.out]; unfold maxLen; omega) (by rw [HLen.out]; omega) (by simp; omega) ?_; intro v' w4 hown' hgrow _)
      go_roundw
      case rel => exact ⟨k + 1, by go_num, by omega, own_more HP.out hown', below_appendP hBr hbr (below_new wr _) hO hgrow⟩
      case measure => simp [intOf]; omega
    · have htk : ps.take k = ps := List.take_of_length_le (by omega)
      rw [htk] at hO
      go_wp2_with fail
      go_ret
      exact ⟨_, rfl, hO, hBr⟩
theorem ownsP_set3 {T : TypeId} {B C g : Nat} {w' : World} {v : Value} {ps : Flds} (h : OwnsP T B w' v ps) (hg : g < B) (hC : C ≤ B) (a b c : Value) :
    OwnsP T C (((w'.setCell ⟨g, 0, none⟩ a).setCell ⟨g, 1, none⟩ b).setCell ⟨g, 2, none⟩ c) v ps := by
  have hn : ∀ k, v.ownBlock ≠ some (⟨g, k, none⟩ : Addr).block := fun k hq => by have := (World.ownsRow.lt h _ hq).1; simp at this; omega
  exact OwnsP.mono hC (ownsRow_setCell_other (ownsRow_setCell_other (ownsRow_setCell_other h (hn 0) a) (hn 1) b) (hn 2) c)
theorem below_set3 {w w' : World} {g : Nat} (h : Below w.heap.size w w') (hg : w.heap.size ≤ g) (a b c : Value) : Below w.heap.size w (((w'.setCell ⟨g, 0, none⟩ a).setCell ⟨g, 1, none⟩ b).setCell ⟨g, 2, none⟩ c) :=
  ((h.setCell (p := ⟨g, 0, none⟩) hg a).setCell (p := ⟨g, 1, none⟩) hg b).setCell (p := ⟨g, 2, none⟩) hg c
set_option maxHeartbeats 8000000 in
set_option maxRecDepth 100000 in
theorem request_any (m t : List UInt8) (lv : Value) (ps : Flds) (w : World) (hr : ReadsQ w lv ps) (hl : ps.length ≤ 1000) (hb : ∀ p ∈ ps, p.1.length + p.2.length ≤ 1000000) :
    Calls Tryd.prog 13 #[.agg #[.string (strB m), .string (strB t), lv]] w fun e w' => ∃ a n c, e = .returned (.agg #[.string (strB m), .string (strB t), .slice a n c]) ∧ OwnsP 57 w.heap.size w' (.slice a n c) ps ∧ Below w.heap.size w w' := by
  have F := Lib.hid (fun w (hr : ReadsQ w lv ps) => fields_any lv ps w hr hl hb)
  have HR := Lib.hid hr
  obtain ⟨ao, cap, rfl, hc⟩ := hr
  have hB0 : Below w.heap.size w (w.alloc (.cells #[.string (strB m), .string (strB t), .slice ao ps.length cap] 24)) := below_new _ _
  have hB1 : Below w.heap.size w ((w.alloc (.cells #[.string (strB m), .string (strB t), .slice ao ps.length cap] 24)).alloc (.cells #[.string ⟨#[]⟩, .string ⟨#[]⟩, .slice none 0 0] 36)) := hB0.alloc hB0.size _
  have hxa : ∀ j, ((w.alloc (.cells #[.string (strB m), .string (strB t), .slice ao ps.length cap] 24)).alloc (.cells #[.string ⟨#[]⟩, .string ⟨#[]⟩, .slice none 0 0] 36)).cell? ⟨w.heap.size, j, none⟩ = (#[.string (strB m), .string (strB t), .slice ao ps.length cap] : Array Value)[j]? := fun j => by
    have hb2 := below_new (w.alloc (.cells #[.string (strB m), .string (strB t), .slice ao ps.length cap] 24)) (.cells #[.string ⟨#[]⟩, .string ⟨#[]⟩, .slice none 0 0] 36)
    rw [hb2.cell (p := ⟨w.heap.size, j, none⟩) (by simp), World.cell?_alloc_at _ _ _ _ rfl]
  have hxb : ∀ j, ((w.alloc (.cells #[.string (strB m), .string (strB t), .slice ao ps.length cap] 24)).alloc (.cells #[.string ⟨#[]⟩, .string ⟨#[]⟩, .slice none 0 0] 36)).cell? ⟨w.heap.size + 1, j, none⟩ = (#[.string ⟨#[]⟩, .string ⟨#[]⟩, .slice none 0 0] : Array Value)[j]? := fun j => by
    rw [World.cell?_alloc_at _ _ _ _ (by simp)]
  have hfb : ∀ j, ((w.alloc (.cells #[.string (strB m), .string (strB t), .slice ao ps.length cap] 24)).alloc (.cells #[.string ⟨#[]⟩, .string ⟨#[]⟩, .slice none 0 0] 36)).frozen? ⟨w.heap.size + 1, j, none⟩ = false := fun j => World.frozen?_alloc_at _ _ _ _ (by simp)
  have hsz : ((w.alloc (.cells #[.string (strB m), .string (strB t), .slice ao ps.length cap] 24)).alloc (.cells #[.string ⟨#[]⟩, .string ⟨#[]⟩, .slice none 0 0] 36)).heap.size = w.heap.size + 2 := by simp
  have a0 := hxa 0
  have a1 := hxa 1
  have a2 := hxa 2
  have b0 := hxb 0
  have b1 := hxb 1
  have b2 := hxb 2
  have g0 := hfb 0
  have g1 := hfb 1
  have g2 := hfb 2
  clear hc hxa hxb hfb
  go_enter Tryd.func13, Tryd.ntmps13
  go_wp2_with fail
  generalize ((w.alloc (.cells #[.string (strB m), .string (strB t), .slice ao ps.length cap] 24)).alloc (.cells #[.string ⟨#[]⟩, .string ⟨#[]⟩, .slice none 0 0] 36)) = W at *
  have HF := Lib.hid (F.out _ (HR.out.below hB1))
  have HFd := Lib.hid (F.out _ (HR.out.below (hB1.trans ((Below.refl W.heap.size W).drew.mono hB1.size))))
  go_region_with (first
    | (go_at_call 27; refine HFd.out.mono ?_; rintro e w1 ⟨v1, rfl, hO1, hB2⟩; have c0 := (hB2.cell (p := ⟨w.heap.size, 0, none⟩) (by show w.heap.size < W.heap.size; omega)).trans a0; have c1 := (hB2.cell (p := ⟨w.heap.size, 1, none⟩) (by show w.heap.size < W.heap.size; omega)).trans a1; have d0 := (hB2.cell (p := ⟨w.heap.size + 1, 0, none⟩) (by show w.heap.size + 1 < W.heap.size; omega)).trans b0; have d1 := (hB2.cell (p := ⟨w.heap.size + 1, 1, none⟩) (by show w.heap.size + 1 < W.heap.size; omega)).trans b1; have d2 := (hB2.cell (p := ⟨w.heap.size + 1, 2, none⟩) (by show w.heap.size + 1 < W.heap.size; omega)).trans b2; have f0 := (hB2.frozen (p := ⟨w.heap.size + 1, 0, none⟩) (by show w.heap.size + 1 < W.heap.size; omega)).trans g0; have f1 := (hB2.frozen (p := ⟨w.heap.size + 1, 1, none⟩) (by show w.heap.size + 1 < W.heap.size; omega)).trans g1; have f2 := (hB2.frozen (p := ⟨w.heap.size + 1, 2, none⟩) (by show w.heap.size + 1 < W.heap.size; omega)).trans g2; obtain ⟨ao1, cap1, rfl, hcc⟩ := hO1.reads; clear hcc))
  all_goals
    go_wp2_with fail
    refine bodyPost_ret (v := .agg #[.string (strB m), .string (strB t), .slice ao1 ps.length cap1]) (by simp [results, Tryd.results13, go_sem, d0, d1, d2]) rfl ?_
    exact ⟨_, _, _, rfl, ownsP_set3 hO1 (by show w.heap.size + 1 < W.heap.size; omega) (by show w.heap.size ≤ W.heap.size; omega) _ _ _, below_set3 ((hB1.trans ((Below.refl W.heap.size W).drew.mono hB1.size)).trans (hB2.mono hB1.size)) (by omega) _ _ _⟩
theorem ownsP_set2 {T : TypeId} {B C g : Nat} {w' : World} {v : Value} {ps : Flds} (h : OwnsP T B w' v ps) (hg : g < B) (hC : C ≤ B) (a b : Value) :
    OwnsP T C ((w'.setCell ⟨g, 0, none⟩ a).setCell ⟨g, 1, none⟩ b) v ps := by
  have hn : ∀ k, v.ownBlock ≠ some (⟨g, k, none⟩ : Addr).block := fun k hq => by have := (World.ownsRow.lt h _ hq).1; simp at this; omega
  exact OwnsP.mono hC (ownsRow_setCell_other (ownsRow_setCell_other h (hn 0) a) (hn 1) b)
theorem below_set2 {w w' : World} {g : Nat} (h : Below w.heap.size w w') (hg : w.heap.size ≤ g) (a b : Value) : Below w.heap.size w ((w'.setCell ⟨g, 0, none⟩ a).setCell ⟨g, 1, none⟩ b) :=
  (h.setCell (p := ⟨g, 0, none⟩) hg a).setCell (p := ⟨g, 1, none⟩) hg b
set_option maxHeartbeats 8000000 in
set_option maxRecDepth 100000 in
theorem response_any (z : Int) (lv : Value) (ps : Flds) (w : World) (hr : ReadsQ w lv ps) (hl : ps.length ≤ 1000) (hb : ∀ p ∈ ps, p.1.length + p.2.length ≤ 1000000) :
    Calls Tryd.prog 18 #[.agg #[.int .i64 z, lv]] w fun e w' => ∃ a n c, e = .returned (.agg #[.int .i64 z, .slice a n c]) ∧ OwnsP 57 w.heap.size w' (.slice a n c) ps ∧ Below w.heap.size w w' := by
  have F := Lib.hid (fun w (hr : ReadsQ w lv ps) => fields_any lv ps w hr hl hb)
  have HR := Lib.hid hr
  obtain ⟨ao, cap, rfl, hc⟩ := hr
  have hB0 : Below w.heap.size w (w.alloc (.cells #[.int .i64 z, .slice ao ps.length cap] 45)) := below_new _ _
  have hB1 : Below w.heap.size w ((w.alloc (.cells #[.int .i64 z, .slice ao ps.length cap] 45)).alloc (.cells #[.int .i64 0, .slice none 0 0] 48)) := hB0.alloc hB0.size _
  have hxa : ∀ j, ((w.alloc (.cells #[.int .i64 z, .slice ao ps.length cap] 45)).alloc (.cells #[.int .i64 0, .slice none 0 0] 48)).cell? ⟨w.heap.size, j, none⟩ = (#[.int .i64 z, .slice ao ps.length cap] : Array Value)[j]? := fun j => by
    have hb2 := below_new (w.alloc (.cells #[.int .i64 z, .slice ao ps.length cap] 45)) (.cells #[.int .i64 0, .slice none 0 0] 48)
    rw [hb2.cell (p := ⟨w.heap.size, j, none⟩) (by simp), World.cell?_alloc_at _ _ _ _ rfl]
  have hxb : ∀ j, ((w.alloc (.cells #[.int .i64 z, .slice ao ps.length cap] 45)).alloc (.cells #[.int .i64 0, .slice none 0 0] 48)).cell? ⟨w.heap.size + 1, j, none⟩ = (#[.int .i64 0, .slice none 0 0] : Array Value)[j]? := fun j => by
    rw [World.cell?_alloc_at _ _ _ _ (by simp)]
  have hfb : ∀ j, ((w.alloc (.cells #[.int .i64 z, .slice ao ps.length cap] 45)).alloc (.cells #[.int .i64 0, .slice none 0 0] 48)).frozen? ⟨w.heap.size + 1, j, none⟩ = false := fun j => World.frozen?_alloc_at _ _ _ _ (by simp)
  have hsz : ((w.alloc (.cells #[.int .i64 z, .slice ao ps.length cap] 45)).alloc (.cells #[.int .i64 0, .slice none 0 0] 48)).heap.size = w.heap.size + 2 := by simp
  have a0 := hxa 0
  have a1 := hxa 1
  have b0 := hxb 0
  have b1 := hxb 1
  have g0 := hfb 0
  have g1 := hfb 1
  clear hc hxa hxb hfb
  go_enter Tryd.func18, Tryd.ntmps18
  go_wp2_with fail
  generalize ((w.alloc (.cells #[.int .i64 z, .slice ao ps.length cap] 45)).alloc (.cells #[.int .i64 0, .slice none 0 0] 48)) = W at *
  have HF := Lib.hid (F.out _ (HR.out.below hB1))
  have HFd := Lib.hid (F.out _ (HR.out.below (hB1.trans ((Below.refl W.heap.size W).drew.mono hB1.size))))
  go_region_with (first
    | (go_at_call 27; refine HFd.out.mono ?_; rintro e w1 ⟨v1, rfl, hO1, hB2⟩; have c0 := (hB2.cell (p := ⟨w.heap.size, 0, none⟩) (by show w.heap.size < W.heap.size; omega)).trans a0; have c1 := (hB2.cell (p := ⟨w.heap.size, 1, none⟩) (by show w.heap.size < W.heap.size; omega)).trans a1; have d0 := (hB2.cell (p := ⟨w.heap.size + 1, 0, none⟩) (by show w.heap.size + 1 < W.heap.size; omega)).trans b0; have d1 := (hB2.cell (p := ⟨w.heap.size + 1, 1, none⟩) (by show w.heap.size + 1 < W.heap.size; omega)).trans b1; have f0 := (hB2.frozen (p := ⟨w.heap.size + 1, 0, none⟩) (by show w.heap.size + 1 < W.heap.size; omega)).trans g0; have f1 := (hB2.frozen (p := ⟨w.heap.size + 1, 1, none⟩) (by show w.heap.size + 1 < W.heap.size; omega)).trans g1; obtain ⟨ao1, cap1, rfl, hcc⟩ := hO1.reads; clear hcc))
  all_goals
    go_wp2_with fail
    refine bodyPost_ret (v := .agg #[.int .i64 z, .slice ao1 ps.length cap1]) (by simp [results, Tryd.results18, go_sem, d0, d1]) rfl ?_
    exact ⟨_, _, _, rfl, ownsP_set2 hO1 (by show w.heap.size + 1 < W.heap.size; omega) (by show w.heap.size ≤ W.heap.size; omega) _ _, below_set2 ((hB1.trans ((Below.refl W.heap.size W).drew.mono hB1.size)).trans (hB2.mono hB1.size)) (by omega) _ _⟩
end Go.Proofs.YthjkneifffdglaaDoor
