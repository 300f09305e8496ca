import Derived.Test.YthlfhbhjiofneaaDoorFAll
import Derived.Test.YthlfhbhjiofneaaDoorFOwn
import Derived.Deep.QuietTactic
import Derived.BigQuiet
import Derived.Test.YthlfhbhjiofneaaDoorKDone
import Derived.Test.YthlfhbhjiofneaaDoorPqKLargeCard1
import Derived.IntWalk
import Derived.Deep.RegionWith
import Derived.BigRegion
import Derived.Test.YthlfhbhjiofneaaDoorPqKLargeCard2
import Derived.Laws.OwnMore
import Derived.Test.YthlfhbhjiofneaaDoorScan
import Derived.Lib.Hide
import Derived.Test.YthlfhbhjiofneaaDoorNum
import Derived.Test.YthlfhbhjiofneaaDoorPqKLargeCard0
import Derived.Deep.RegionLaw
import Derived.Deep.DeepCutAuto
import Derived.Deep.CutBlock
import Derived.Deep.RegionHeld3
import Derived.OwnWalk
/- What Are returns: whether two lists of fields are the same. -/
namespace Go.Proofs.YthlfhbhjiofneaaDoor
open Go.RowKit

theorem same_step {la lb : Flds} {k : Nat} {l : List UInt8 × List UInt8} (h : la.take k = lb.take k) (ha : la[k]? = some l) (hb : lb[k]? = some l) : la.take (k + 1) = lb.take (k + 1) := by
  rw [List.take_add_one, List.take_add_one, h, ha, hb]
theorem same_no {la lb : Flds} {k : Nat} {l m : List UInt8 × List UInt8} (ha : la[k]? = some l) (hb : lb[k]? = some m) (h : l ≠ m) : false = decide (la = lb) := by
  rw [eq_comm, decide_eq_false_iff_not]; intro e; rw [e, hb] at ha; simp at ha; exact h ha.symm
theorem same_end {la lb : Flds} {k : Nat} (h : la.take k = lb.take k) (ha : la.length ≤ k) (hb : lb.length ≤ k) : true = decide (la = lb) := by
  rw [List.take_of_length_le ha, List.take_of_length_le hb] at h; simp [h]

end Go.Proofs.YthlfhbhjiofneaaDoor

/- ChunkedCuts: for all parts the statement's function returns true: the walk. -/
namespace Go.Proofs.YthlfhbhjiofneaaDoor
open Go.RowKit

/-- All parts, one after the other. -/
def flatK (ls : List (List UInt8)) : List UInt8 := ls.flatten
theorem flatK_len (ls : List (List UInt8)) : (flatK ls).length = sumL ls := sumL_flat ls
theorem flatK_more {ls : List (List UInt8)} {k : Nat} {l : List UInt8} (h : ls[k]? = some l) : flatK (ls.take (k + 1)) = flatK (ls.take k) ++ l := by
  unfold flatK; rw [moreK_at h, List.flatten_append, List.flatten_singleton]
/-- What a decoder makes of the first k parts. -/
def cutD (ls : List (List UInt8)) (k : Nat) : Dc × List UInt8 × Nat := wrD Dc.new (flatK (ls.take k))
theorem cutD_more {ls : List (List UInt8)} {k : Nat} {l : List UInt8} (h : ls[k]? = some l) :
    cutD ls (k + 1) = ((wrD (cutD ls k).1 l).1, (cutD ls k).2.1 ++ (wrD (cutD ls k).1 l).2.1, (cutD ls k).2.2 + (wrD (cutD ls k).1 l).2.2) := by
  unfold cutD
  rw [flatK_more h, wrD_app]
theorem cutD_le {ls : List (List UInt8)} (k : Nat) (h : sumL ls ≤ 12000) : (cutD ls k).2.2 ≤ 12000 ∧ (cutD ls k).2.1.length ≤ 12000 := by
  have h1 := wrD_len (flatK (ls.take k)) Dc.new
  have h2 := flatK_len (ls.take k)
  have h3 := sumL_take_le ls k
  unfold cutD; omega
theorem cutD_ok (ls : List (List UInt8)) (k : Nat) : (cutD ls k).1.Ok := wrD_ok _ ok_new
theorem num_errK (c : Nat) (w : World) : Calls Tryd.prog 30 #[errV c] w fun e w' => e = .returned (.int .i64 c) ∧ w = w' := by
  unfold errV
  by_cases h : c = 0
  · rw [if_pos h]; subst h; exact num_nil w
  · rw [if_neg h]; exact num_errno c w
theorem MaxB.mono {B C : Nat} {w : World} (h : MaxB B w) (hC : B ≤ C) : MaxB C w := ⟨h.1, Nat.lt_of_lt_of_le h.2 hC⟩
def CutRel (ls : List (List UInt8)) (P : Nat) (w4 : World) (v t c i : Value) (wr : World) : Prop :=
  ∃ (k : Nat) (X : Nat → Prop), i = .int .i64 (k : Int) ∧ k ≤ ls.length ∧ Dec P P X (cutD ls k).1 wr ∧ (∀ j, X j → j = P ∨ w4.heap.size ≤ j) ∧ OwnB w4.heap.size wr v (cutD ls k).2.1 ∧ (∀ j, v.ownBlock = some j → ¬ X j) ∧ t = .int .i64 ((cutD ls k).2.2 : Int) ∧ c = .int .i64 ((cutD ls k).1.er : Int) ∧ Only (fun j => j = P) w4 wr
/-- A round of the second loop: what the relation needs behind the append. -/
theorem cut_more {ls : List (List UInt8)} {P k : Nat} {l : List UInt8} {w4 wr w5 w6 : World} {X X3 : Nat → Prop} {v v' : Value} (hl : ls[k]? = some l) (hk : k < ls.length) (hX : ∀ j, X j → j = P ∨ w4.heap.size ≤ j) (ho : OwnB w4.heap.size wr v (cutD ls k).2.1) (hv : ∀ j, v.ownBlock = some j → ¬ X j) (hOn : Only (fun j => j = P) w4 wr)
    (hD3 : Dec P P X3 (wrD (cutD ls k).1 l).1 w5) (hX3 : ∀ j, X3 j → X j ∨ wr.heap.size ≤ j) (hO3 : Only X wr w5) (hO6 : OwnB w4.heap.size w6 v' ((cutD ls k).2.1 ++ (wrD (cutD ls k).1 l).2.1)) (hg : w5.grownBy w6 v.ownBlock) (hat : v'.ownBlock = v.ownBlock ∨ v'.ownBlock = some w5.heap.size) :
    CutRel ls P w4 v' (.int .i64 (((cutD ls k).2.2 : Int) + ((wrD (cutD ls k).1 l).2.2 : Int))) (.int .i64 ((wrD (cutD ls k).1 l).1.er : Int)) (.int .i64 ((k : Int) + 1)) w6 := by
  have hm := cutD_more hl
  have hs4 := hOn.size
  have hlt : ∀ j, v.ownBlock = some j → w4.heap.size ≤ j ∧ j < wr.heap.size := fun j hj => World.ownsRow.lt ho j hj
  have hgr : Only (fun j => v.ownBlock = some j) w5 w6 := Only.grown hg fun j hj => .inl hj
  refine ⟨k + 1, X3, by go_num, by omega, ?_, ?_, ?_, ?_, ?_, ?_, ?_⟩
  · rw [hm]
    refine hD3.only hgr fun j h1 h2 => ?_
    rcases hX3 j h1 with h | h
    · exact hv j h2 h
    · have := (hlt j h2).2; omega
  · intro j hj
    rcases hX3 j hj with h | h
    · exact hX j h
    · exact .inr (by omega)
  · rw [hm]; exact hO6
  · intro j h1 h2
    rcases hat with e | e
    · rcases hX3 j h2 with h | h
      · exact hv j (e ▸ h1) h
      · have := (hlt j (e ▸ h1)).2; omega
    · rw [e] at h1
      have := Option.some.inj h1
      have := (hD3.lt.2.2 j h2).2
      omega
  · rw [hm]; go_num
  · rw [hm]
  · exact (hOn.trans hO3 hX).trans hgr fun j hj => .inr (hlt j hj).1
end Go.Proofs.YthlfhbhjiofneaaDoor

/- What the statements of layer 6 ask of a list of fields (fits); the statements' Fields, Request and Response. -/
namespace Go.Proofs.YthlfhbhjiofneaaDoor
open Go.RowKit

/-- How many bytes the names and values of a list have. -/
def totL (ps : Flds) : Nat := ps.foldr (fun p n => p.1.length + p.2.length + n) 0
theorem tot_app (ps qs : Flds) : totL (ps ++ qs) = totL ps + totL qs := by
  induction ps with
  | nil => simp [totL]
  | cons p r ih => unfold totL at *; rw [List.cons_append, List.foldr_cons, List.foldr_cons, ih]; omega
theorem tot_more {ps : Flds} {k : Nat} {p : List UInt8 × List UInt8} (h : ps[k]? = some p) : totL (ps.take (k + 1)) = totL (ps.take k) + (p.1.length + p.2.length) := by
  rw [take_more h, tot_app]; simp [totL]
theorem tot_le {ps : Flds} {M : Nat} (hb : ∀ p ∈ ps, p.1.length ≤ M ∧ p.2.length ≤ M) (k : Nat) : totL (ps.take k) ≤ k * (M + M) := by
  induction k with
  | zero => simp [totL]
  | succ k ih =>
    cases hp : ps[k]? with
    | none =>
      have e : ps.take (k + 1) = ps.take k := by rw [List.take_add_one, hp]; simp
      rw [e]; exact Nat.le_trans ih (Nat.mul_le_mul_right _ (Nat.le_succ k))
    | some p =>
      rw [tot_more hp, Nat.succ_mul]
      have := hb p (List.mem_of_getElem? hp)
      omega
theorem tot_mem {ps : Flds} {p : List UInt8 × List UInt8} (h : p ∈ ps) : p.1.length + p.2.length ≤ totL ps := by
  induction ps with
  | nil => cases h
  | cons q r ih =>
    have e : totL (q :: r) = q.1.length + q.2.length + totL r := rfl
    rcases List.mem_cons.1 h with rfl | h
    · omega
    · have := ih h; omega
def fits6B (ps : Flds) : Bool := decide (ps.length ≤ 80 ∧ totL ps ≤ 4000)
theorem fits6_yes {ps : Flds} (h : fits6B ps = true) : ps.length ≤ 80 ∧ totL ps ≤ 4000 := of_decide_eq_true h
set_option maxHeartbeats 2000000 in
set_option maxRecDepth 100000 in
theorem fields_any (lv : Value) (ps : Flds) (w : World) (hr : ReadsQ w lv ps) (hl : ps.length ≤ 1000) (hb : ∀ p ∈ ps, p.1.length + p.2.length ≤ 1000000) :
    Calls Tryd.prog 14 #[lv] w fun e w' => ∃ v, e = .returned v ∧ OwnsP 52 w.heap.size w' v ps ∧ Below w.heap.size w w' := by
  obtain ⟨i0, hi, hz0, hz1, hz2⟩ := info_parts Tryd.infoF
  obtain ⟨ao, cap, rfl, hc⟩ := hr
  have HC := Lib.hid hc
  have HBig := Lib.hid hb
  clear hc hb
  go_enter Tryd.func14, Tryd.ntmps14
  go_wp2_with fail
  go_loopw [3, 8] (fun v i wr => ∃ k : Nat, i = .int .i64 k ∧ k ≤ ps.length ∧ OwnsP 52 w.heap.size wr v (ps.take k) ∧ Below w.heap.size w wr) (fun _ i _ => ps.length - (intOf i).toNat)
  case atStart => exact ⟨0, rfl, Nat.zero_le _, OwnsP.nil _ _ _, Below.refl _ _⟩
  case round =>
    obtain ⟨k, rfl, hk, hO, hBr⟩ := hrel
    have hbr := hBr.size
    by_cases hlt : k < ps.length
    · obtain ⟨p, hp⟩ : ∃ p, ps[k]? = some p := ⟨ps[k], by simp [hlt]⟩
      obtain ⟨g, off, rfl, hg1, h1, h2⟩ := HC.out k p hp
      have hc1 : wr.cell? ⟨g, off + k * 2, none⟩ = some (.string (strB p.1)) := (hBr.cell (p := ⟨g, off + k * 2, none⟩) hg1).trans h1
      have hc2 : wr.cell? ⟨g, off + k * 2 + 1, none⟩ = some (.string (strB p.2)) := (hBr.cell (p := ⟨g, off + k * 2 + 1, none⟩) hg1).trans h2
      have HP := Lib.hid hp
      clear hp h1 h2
      have hlen : (ps.take k).length = k := by simp; omega
      have HLen := Lib.hid hlen
      clear hlen
      go_wp2_with (at_builtin; refine wpList_append_own _ rfl _ _ 37 rfl w.heap.size 52 i0 (.agg #[.string ByteArray.empty, .string ByteArray.empty]) 2 32 Tryd.underlying37 hi hz0 hz1 hz2 rfl (by decide) _ _ _ rfl ((World.ownsRow.alloc hO _).alloc _) ⟨wr.heap.size + 1, 0, none⟩ 1 1 [strV p.1, strV p.2] rfl rfl (two_new' wr p.1 p.2 _ _) (fun u hu => by simp at hu; rcases hu with rfl | rfl <;> rfl) (by rw [HLen.out]; unfold maxLen; omega) (by rw [HLen.out]; omega) (by simp; omega) ?_; intro v' w4 hown' hgrow _)
      go_roundw
      case rel => exact ⟨k + 1, by go_num, by omega, own_more HP.out hown', below_appendP hBr hbr (below_new wr _) hO hgrow⟩
      case measure => simp [intOf]; omega
    · have htk : ps.take k = ps := List.take_of_length_le (by omega)
      rw [htk] at hO
      go_wp2_with fail
      go_ret
      exact ⟨_, rfl, hO, hBr⟩
theorem ownsP_set3 {T : TypeId} {B C g : Nat} {w' : World} {v : Value} {ps : Flds} (h : OwnsP T B w' v ps) (hg : g < B) (hC : C ≤ B) (a b c : Value) :
    OwnsP T C (((w'.setCell ⟨g, 0, none⟩ a).setCell ⟨g, 1, none⟩ b).setCell ⟨g, 2, none⟩ c) v ps := by
  have hn : ∀ k, v.ownBlock ≠ some (⟨g, k, none⟩ : Addr).block := fun k hq => by have := (World.ownsRow.lt h _ hq).1; simp at this; omega
  exact OwnsP.mono hC (ownsRow_setCell_other (ownsRow_setCell_other (ownsRow_setCell_other h (hn 0) a) (hn 1) b) (hn 2) c)
theorem below_set3 {w w' : World} {g : Nat} (h : Below w.heap.size w w') (hg : w.heap.size ≤ g) (a b c : Value) : Below w.heap.size w (((w'.setCell ⟨g, 0, none⟩ a).setCell ⟨g, 1, none⟩ b).setCell ⟨g, 2, none⟩ c) :=
  ((h.setCell (p := ⟨g, 0, none⟩) hg a).setCell (p := ⟨g, 1, none⟩) hg b).setCell (p := ⟨g, 2, none⟩) hg c
theorem ownsP_set2 {T : TypeId} {B C g : Nat} {w' : World} {v : Value} {ps : Flds} (h : OwnsP T B w' v ps) (hg : g < B) (hC : C ≤ B) (a b : Value) :
    OwnsP T C ((w'.setCell ⟨g, 0, none⟩ a).setCell ⟨g, 1, none⟩ b) v ps := by
  have hn : ∀ k, v.ownBlock ≠ some (⟨g, k, none⟩ : Addr).block := fun k hq => by have := (World.ownsRow.lt h _ hq).1; simp at this; omega
  exact OwnsP.mono hC (ownsRow_setCell_other (ownsRow_setCell_other h (hn 0) a) (hn 1) b)
theorem below_set2 {w w' : World} {g : Nat} (h : Below w.heap.size w w') (hg : w.heap.size ≤ g) (a b : Value) : Below w.heap.size w ((w'.setCell ⟨g, 0, none⟩ a).setCell ⟨g, 1, none⟩ b) :=
  (h.setCell (p := ⟨g, 0, none⟩) hg a).setCell (p := ⟨g, 1, none⟩) hg b
end Go.Proofs.YthlfhbhjiofneaaDoor

/- What the statements of layer 7 ask of a list of fields (few). -/
namespace Go.Proofs.YthlfhbhjiofneaaDoor
open Go.RowKit

def few7B (ps : Flds) : Bool := decide (ps.length ≤ 80 ∧ totL ps ≤ 12000)
theorem few7_yes {ps : Flds} (h : few7B ps = true) : ps.length ≤ 80 ∧ totL ps ≤ 12000 := of_decide_eq_true h
set_option maxHeartbeats 4000000 in
set_option maxRecDepth 100000 in
theorem few7_any (lv : Value) (ps : Flds) (w : World) (hr : ReadsQ w lv ps) (hl : ps.length ≤ 9223372036854775807) (hb : ∀ p ∈ ps, p.1.length ≤ 140737488355328 ∧ p.2.length ≤ 140737488355328) :
    Calls Tryd.prog 8 #[lv] w fun e w' => e = .returned (.bool (few7B ps)) ∧ Below w.heap.size w w' := by
  obtain ⟨ao, cap, rfl, hc⟩ := hr
  have hs := tot_le hb
  have HC := Lib.hid hc
  have HBig := Lib.hid hb
  have HS := Lib.hid hs
  clear hc hb hs
  by_cases h70 : ps.length ≤ 80
  · go_enter Tryd.func8, Tryd.ntmps8
    go_wp2_with fail
    go_loopw [3, 4] (fun v i wr => ∃ k : Nat, i = .int .i64 k ∧ k ≤ ps.length ∧ v = .int .i64 (totL (ps.take k)) ∧ Below w.heap.size w wr) (fun _ i _ => ps.length - (intOf i).toNat)
    case atStart => exact ⟨0, rfl, Nat.zero_le _, rfl, Below.refl _ _⟩
    case round =>
      obtain ⟨k, rfl, hk, rfl, hBr⟩ := hrel
      have hsk : totL (ps.take k) ≤ 80 * (140737488355328 + 140737488355328) := Nat.le_trans (HS.out k) (Nat.mul_le_mul_right _ (by omega))
      by_cases hlt : k < ps.length
      · obtain ⟨p, hp⟩ : ∃ p, ps[k]? = some p := ⟨ps[k], by simp [hlt]⟩
        obtain ⟨g, off, rfl, hg1, h1, h2⟩ := HC.out k p hp
        have hc1 : wr.cell? ⟨g, off + k * 2, none⟩ = some (.string (strB p.1)) := (hBr.cell (p := ⟨g, off + k * 2, none⟩) hg1).trans h1
        have hc2 : wr.cell? ⟨g, off + k * 2 + 1, none⟩ = some (.string (strB p.2)) := (hBr.cell (p := ⟨g, off + k * 2 + 1, none⟩) hg1).trans h2
        have hpl := HBig.out p (List.mem_of_getElem? hp)
        have e1 : (strB p.1).size = p.1.length := strB_size _
        have e2 : (strB p.2).size = p.2.length := strB_size _
        have HM := Lib.hid (tot_more hp)
        clear hp h1 h2
        have hw1 : IntKind.i64.wrap ((p.1.length : Int) + (p.2.length : Int)) = (p.1.length : Int) + (p.2.length : Int) := IntWalk.i64_in _ (by omega)
        have hw2 : IntKind.i64.wrap ((totL (ps.take k) : Int) + ((p.1.length : Int) + (p.2.length : Int))) = (totL (ps.take k) : Int) + ((p.1.length : Int) + (p.2.length : Int)) := IntWalk.i64_in _ (by omega)
        go_wp2
        go_quiet (fail)
        go_wp2
        clear hw1 hw2
        go_roundw
        case rel => exact ⟨k + 1, by go_num, by omega, by rw [HM.out]; congr 1, below_drewN hBr _⟩
        case measure => simp [intOf]; omega
      · have htk : ps.take k = ps := List.take_of_length_le (by omega)
        rw [htk] at hsk ⊢
        by_cases h6 : totL ps ≤ 12000
        · have hf : few7B ps = true := decide_eq_true ⟨h70, h6⟩
          have HF := Lib.hid hf
          clear hf
          have hd : decide ((totL ps : Int) ≤ 12000) = true := decide_eq_true (by omega)
          go_wp2_with fail
          go_ret
          exact ⟨by rw [HF.out]; rfl, hBr⟩
        · have hf : few7B ps = false := decide_eq_false (fun h => h6 h.2)
          have HF := Lib.hid hf
          clear hf
          have hd : decide ((totL ps : Int) ≤ 12000) = false := decide_eq_false (by omega)
          go_wp2_with fail
          go_ret
          exact ⟨by rw [HF.out]; rfl, hBr⟩
  · have hsm : few7B ps = false := decide_eq_false fun h => h70 h.1
    rw [hsm]
    go_enter Tryd.func8, Tryd.ntmps8
    go_wp2_with fail
    go_loopw [3, 4] (fun v i wr => ∃ (k : Nat) (z : Int), i = .int .i64 k ∧ k ≤ ps.length ∧ v = .int .i64 z ∧ Below w.heap.size w wr) (fun _ i _ => ps.length - (intOf i).toNat)
    case atStart => exact ⟨0, 0, rfl, Nat.zero_le _, rfl, Below.refl _ _⟩
    case round =>
      obtain ⟨k, z, rfl, hk, rfl, hBr⟩ := hrel
      by_cases hlt : k < ps.length
      · obtain ⟨p, hp⟩ : ∃ p, ps[k]? = some p := ⟨ps[k], by simp [hlt]⟩
        obtain ⟨g, off, rfl, hg1, h1, h2⟩ := HC.out k p hp
        have hc1 : wr.cell? ⟨g, off + k * 2, none⟩ = some (.string (strB p.1)) := (hBr.cell (p := ⟨g, off + k * 2, none⟩) hg1).trans h1
        have hc2 : wr.cell? ⟨g, off + k * 2 + 1, none⟩ = some (.string (strB p.2)) := (hBr.cell (p := ⟨g, off + k * 2 + 1, none⟩) hg1).trans h2
        have hpl := HBig.out p (List.mem_of_getElem? hp)
        have e1 : (strB p.1).size = p.1.length := strB_size _
        have e2 : (strB p.2).size = p.2.length := strB_size _
        clear hp h1 h2
        have hw1 : IntKind.i64.wrap ((p.1.length : Int) + (p.2.length : Int)) = (p.1.length : Int) + (p.2.length : Int) := IntWalk.i64_in _ (by omega)
        go_wp2
        go_quiet (fail)
        go_wp2
        clear hw1
        go_roundw
        case rel => exact ⟨k + 1, _, by go_num, by omega, rfl, below_drewN hBr _⟩
        case measure => simp [intOf]; omega
      · go_wp2_with fail
        go_ret
        exact ⟨rfl, hBr⟩
end Go.Proofs.YthlfhbhjiofneaaDoor

/- ChunkedReturns: what its walk carries through its loops. -/
namespace Go.Proofs.YthlfhbhjiofneaaDoor
open Go.RowKit

/-- What a decoder makes of the first i bytes. -/
def preD (E : List UInt8) (i : Nat) : Dc × List UInt8 × Nat := wrD Dc.new (E.take i)
theorem preD_more {E : List UInt8} {i : Nat} {c : UInt8} (h : E[i]? = some c) :
    preD E (i + 1) = ((wrD (preD E i).1 [c]).1, (preD E i).2.1 ++ (wrD (preD E i).1 [c]).2.1, (preD E i).2.2 + (wrD (preD E i).1 [c]).2.2) := by
  unfold preD
  rw [show E.take (i + 1) = E.take i ++ [c] by rw [List.take_add_one, h]; rfl, wrD_app]
theorem preD_ok (E : List UInt8) (i : Nat) : (preD E i).1.Ok := wrD_ok _ ok_new
theorem preD_len (E : List UInt8) (i : Nat) : (preD E i).2.1.length ≤ E.length := by
  have h := wrD_len (E.take i) Dc.new
  have : (E.take i).length ≤ E.length := by simp; omega
  unfold preD; omega
/-- What is known of a body: it is taken whole. -/
structure Whole7 (E out : List UInt8) (trs : List (List UInt8 × List UInt8)) : Prop where
  er : (wrD Dc.new E).1.er = 0
  pl : (wrD Dc.new E).1.pl = 8
  tr : (wrD Dc.new E).1.trs = trs
  two : (wrD Dc.new E).2 = (out, E.length)
theorem Whole7.at {E out : List UInt8} {trs : List (List UInt8 × List UInt8)} (h : Whole7 E out trs) {i : Nat} (hi : i < E.length) : (preD E i).1.er = 0 ∧ (preD E i).1.pl ≠ 8 ∧ (preD E i).2.2 = i :=
  wrD_before h.er (by rw [h.two]) hi
theorem Whole7.next {E out : List UInt8} {trs : List (List UInt8 × List UInt8)} (h : Whole7 E out trs) {i : Nat} {c : UInt8} (hc : E[i]? = some c) : (wrD (preD E i).1 [c]).1.er = 0 ∧ (wrD (preD E i).1 [c]).2.2 = 1 := by
  have hi : i < E.length := (List.getElem?_eq_some_iff.mp hc).1
  have h0 := (h.at hi).2.2
  have hm := preD_more hc
  have h1 : (preD E (i + 1)).1.er = 0 ∧ (preD E (i + 1)).2.2 = i + 1 := by
    by_cases hl : i + 1 < E.length
    · exact ⟨(h.at hl).1, (h.at hl).2.2⟩
    · have : E.take (i + 1) = E := List.take_of_length_le (by omega)
      unfold preD
      rw [this, h.two]
      exact ⟨h.er, by simp only; omega⟩
  rw [hm] at h1
  simp only at h1
  exact ⟨h1.1, by omega⟩
theorem Whole7.over {E out : List UInt8} {trs : List (List UInt8 × List UInt8)} (h : Whole7 E out trs) (r : List UInt8) : wrD Dc.new (E ++ r) = wrD Dc.new E := wrD_over h.pl r
theorem whole7_of {ls : List (List UInt8)} {ts : Flds} (hs : sumL ls ≤ 65536) (hok : okLast ts = true) : Whole7 (encL ls ts) (flatK ls) (ts.map lowP) := by
  unfold okLast at hok
  simp only [Bool.and_eq_true, decide_eq_true_eq, List.all_eq_true] at hok
  obtain ⟨h64, h92, hg⟩ := hok
  obtain ⟨a, b, c, d⟩ := wrD_enc (ls := ls) (ts := ts) (by rw [sumL_flat]; exact hs) (fun p hp => goodTr_of (hg p hp)) h64 (by rw [← siz_lines]; exact h92)
  exact ⟨a, b, c, d⟩
theorem okLast_good {ts : Flds} (h : okLast ts = true) : ∀ p ∈ ts, GoodTr p := by
  unfold okLast at h
  simp only [Bool.and_eq_true, decide_eq_true_eq, List.all_eq_true] at h
  exact fun p hp => goodTr_of (h.2.2 p hp)
def RetRel (E : List UInt8) (P : Nat) (w4 : World) (v i : Value) (wr : World) : Prop :=
  ∃ (k : Nat) (X : Nat → Prop), i = .int .i64 (k : Int) ∧ k ≤ E.length ∧ Dec P P X (preD E k).1 wr ∧ (∀ j, X j → j = P ∨ w4.heap.size ≤ j) ∧ OwnB w4.heap.size wr v (preD E k).2.1 ∧ (∀ j, v.ownBlock = some j → ¬ X j) ∧ Only (fun j => j = P) w4 wr
/-- A round of the loop over the bytes: what the relation needs behind the append. -/
theorem ret_more {E : List UInt8} {P k : Nat} {c : UInt8} {w4 wr w5 w6 : World} {X X3 : Nat → Prop} {v v' : Value} (hl : E[k]? = some c) (hX : ∀ j, X j → j = P ∨ w4.heap.size ≤ j) (ho : OwnB w4.heap.size wr v (preD E k).2.1) (hv : ∀ j, v.ownBlock = some j → ¬ X j) (hOn : Only (fun j => j = P) w4 wr)
    (hD3 : Dec P P X3 (wrD (preD E k).1 [c]).1 w5) (hX3 : ∀ j, X3 j → X j ∨ wr.heap.size ≤ j) (hO3 : Only X wr w5) (hO6 : OwnB w4.heap.size w6 v' ((preD E k).2.1 ++ (wrD (preD E k).1 [c]).2.1)) (hg : w5.grownBy w6 v.ownBlock) (hat : v'.ownBlock = v.ownBlock ∨ v'.ownBlock = some w5.heap.size) :
    RetRel E P w4 v' (.int .i64 ((k : Int) + 1)) w6 := by
  have hk : k < E.length := (List.getElem?_eq_some_iff.mp hl).1
  have hm := preD_more hl
  have hs4 := hOn.size
  have hlt : ∀ j, v.ownBlock = some j → w4.heap.size ≤ j ∧ j < wr.heap.size := fun j hj => World.ownsRow.lt ho j hj
  have hgr : Only (fun j => v.ownBlock = some j) w5 w6 := Only.grown hg fun j hj => .inl hj
  refine ⟨k + 1, X3, by go_num, by omega, ?_, ?_, ?_, ?_, ?_⟩
  · rw [hm]
    refine hD3.only hgr fun j h1 h2 => ?_
    rcases hX3 j h1 with h | h
    · exact hv j h2 h
    · have := (hlt j h2).2; omega
  · intro j hj
    rcases hX3 j hj with h | h
    · exact hX j h
    · exact .inr (by omega)
  · rw [hm]; exact hO6
  · intro j h1 h2
    rcases hat with e | e
    · rcases hX3 j h2 with h | h
      · exact hv j (e ▸ h1) h
      · have := (hlt j (e ▸ h1)).2; omega
    · rw [e] at h1
      have := Option.some.inj h1
      have := (hD3.lt.2.2 j h2).2
      omega
  · exact (hOn.trans hO3 hX).trans hgr fun j hj => .inr (hlt j hj).1
theorem own_form6 {B : Nat} {v : Value} {w : World} {l : List UInt8} (h : OwnB B w v l) (hne : l ≠ []) : ∃ g cap, v = .slice (some ⟨g, 0, none⟩) l.length cap ∧ l.length ≤ cap ∧ cap ≤ maxLen ∧ B ≤ g ∧ g < w.heap.size := by
  have hlt := World.ownsRow.lt h
  obtain ⟨_, ⟨_, hh⟩ | ⟨g, cap, cur, hv, _, _, h1, h2, _⟩⟩ := h
  · exact absurd (List.eq_nil_of_length_eq_zero hh) hne
  · exact ⟨g, cap, hv, h1, h2, hlt g (by rw [hv]; rfl)⟩
theorem enc_ne (ls : List (List UInt8)) (ts : Flds) : encL ls ts ≠ [] := by unfold encL lastL; simp
end Go.Proofs.YthlfhbhjiofneaaDoor

/- ChunkedLarge: what a body of zeros is for a decoder; rows of zeros; a slice of two parts. -/
namespace Go.Proofs.YthlfhbhjiofneaaDoor
open Go.RowKit

def zerL (n : Nat) : List UInt8 := List.replicate n 0
theorem zer_len (n : Nat) : (zerL n).length = n := List.length_replicate
theorem zer_cut (n k : Nat) (h : k ≤ n) : (zerL n).take k = zerL k ∧ (zerL n).drop k = zerL (n - k) := by
  unfold zerL
  rw [List.take_replicate, List.drop_replicate, Nat.min_eq_left h]
  exact ⟨rfl, rfl⟩
theorem zer_cells (n : Nat) : (madeCells (Value.int .u8 0).cells (n * 1)).toList = Lib.byteCells (zerL n) := by
  rw [Nat.mul_one, show (Value.int .u8 0).cells = #[Value.int .u8 0] from rfl, toList_madeCells_one]
  unfold Lib.byteCells zerL
  rw [List.map_replicate]
  rfl
theorem large_whole {k : Nat} (h : k ≤ 65536) : Whole7 (encL [zerL k, zerL (65536 - k)] []) (flatK [zerL k, zerL (65536 - k)]) ([].map lowP) :=
  whole7_of (ls := [zerL k, zerL (65536 - k)]) (ts := []) (by simp [sumL, zer_len]; omega) (by decide)
theorem large_flat {k : Nat} (h : k ≤ 65536) : (flatK [zerL k, zerL (65536 - k)]).length = 65536 := by
  rw [flatK_len]; simp [sumL, zer_len]; omega
theorem large_over {k m : Nat} (h : k ≤ 65536) (hm : 65536 < k + m) (hb : m < 16 ^ 8) :
    (wrD Dc.new (chunkL (zerL k) ++ chunkL (zerL m) ++ [48, 13, 10, 13, 10])).1.er = 5 ∧ (wrD Dc.new (chunkL (zerL k) ++ chunkL (zerL m) ++ [48, 13, 10, 13, 10])).2.1 = zerL k ∧ (wrD Dc.new (chunkL (zerL k) ++ chunkL (zerL m) ++ [48, 13, 10, 13, 10])).1.pl = 0 := by
  obtain ⟨h1, h2⟩ := wrD_chunk (b := zerL k) atSize_new (by rw [zer_len]; omega) (show 0 + (zerL k).length ≤ 65536 by rw [zer_len]; omega)
  have hne : zerL m ≠ [] := by intro e; have := zer_len m; rw [e] at this; simp at this; omega
  rw [List.append_assoc, wrD_app, h1]
  simp only
  have e : chunkL (zerL m) ++ [48, 13, 10, 13, 10] = hexT m ++ (13 :: 10 :: (zerL m ++ [13, 10]) ++ [48, 13, 10, 13, 10]) := by
    unfold chunkL; rw [if_neg hne, zer_len]; simp
  rw [e]
  obtain ⟨a, b, c⟩ := wrD_hex_large 7 m h2 hb (by decide) (show 0 + (zerL k).length ≤ 65536 by rw [zer_len]; omega) (show 65536 < 0 + (zerL k).length + m by rw [zer_len]; omega) (13 :: 10 :: (zerL m ++ [13, 10]) ++ [48, 13, 10, 13, 10])
  refine ⟨a, ?_, c⟩
  rw [b, List.append_nil]
theorem reads_two (W : World) (va vb : Value) {la lb : List UInt8} (T : TypeId) (ha : ReadsD W va la) (hb : ReadsD W vb lb) :
    ReadsL (W.alloc (.cells #[va, vb] T)) (.slice (some ⟨W.heap.size, 0, none⟩) 2 2) [la, lb] := by
  have hB := below_new W (.cells #[va, vb] T)
  have hcell : ∀ j, (W.alloc (.cells #[va, vb] T)).cell? ⟨W.heap.size, 0 + j, none⟩ = (#[va, vb] : Array Value)[j]? := fun j => by
    rw [Nat.zero_add, World.cell?_alloc_at _ _ _ _ rfl]
  have hs : W.heap.size < (W.alloc (.cells #[va, vb] T)).heap.size := by simp
  refine ⟨_, _, rfl, fun j l h => ?_⟩
  match j, h with
  | 0, h => simp at h; subst h; exact ⟨_, 0, va, rfl, hs, (hcell 0).trans rfl, ha.below hB⟩
  | 1, h => simp at h; subst h; exact ⟨_, 0, vb, rfl, hs, (hcell 1).trans rfl, hb.below hB⟩
  | j + 2, h => simp at h
/-- An append of a string to a slice of the call's own, at one operation. -/
theorem wp_appendAS {B : Nat} {w : World} {o : Oper} {a : Act} {K : Act → World → Prop} {Q : Exit → Act → World → Prop} (s x : Operand)
    (ho : o.op = .call { callee := .builtin .append, args := #[s, x], argTypes := #[27, 9] }) (v : Value) (t : ByteArray) (hs : a.eval s = v) (hx : a.eval x = .string t) {l : List UInt8} (hown : OwnB B w v l)
    (hn : l.length + t.size ≤ 1000000000) (hB : B ≤ w.heap.size) (h : ∀ v' w', OwnB B w' v' (l ++ t.data.toList) → w.grownBy w' v.ownBlock → K (a.put o.dst v') w') :
    o.wp Tryd.prog a w K Q := by
  obtain ⟨i0, hi, hz0, hz1, hz2⟩ := info_parts Tryd.infoB
  obtain ⟨v', w', hr, h2, h3, h4⟩ := Lib.run_append_own_string (P := Tryd.prog) w B 27 9 o.type 5 i0 Tryd.underlying27 Tryd.underlying9 hi hz0 hz1 hz2 v l.length (Lib.byteCells l) hown t (by unfold maxLen; omega) (by omega) hB
  unfold Oper.wp execOp
  simp only [ho, resolve, invoke, builtin, Sem.run_bind, Sem.run_pure, Result.andThen_ok, List.map_toArray, List.map_cons, List.map_nil, hs, hx, hr]
  refine h v' w' (own_appB ?_) h3
  have e : Lib.strCells t = Lib.byteCells t.data.toList := rfl
  have e2 : t.data.toList.length = t.size := by rw [Array.length_toList]; rfl
  rw [e2, ← e]
  exact h2
theorem readsQ_none (W : World) : ReadsQ W (.slice none 0 0) [] := ⟨none, 0, rfl, fun j p h => by simp at h⟩
end Go.Proofs.YthlfhbhjiofneaaDoor

/- What the code's Number returns, for every string. -/
namespace Go.Proofs.YthlfhbhjiofneaaDoor
open Go.RowKit

def allDig (s : ByteArray) (k : Nat) : Prop := (s.data.toList.take k).all digB = true
theorem allDig0 (s : ByteArray) : allDig s 0 := by simp [allDig]
theorem allDig_step {s : ByteArray} {k : Nat} (h : k < s.size) (hn : allDig s k) (hb : digB s[k] = true) : allDig s (k + 1) := by
  unfold allDig at *; rw [take_snoc s k h, List.all_append, hn]; simp [hb]
def numV (l : List UInt8) : Nat := l.foldl (fun n c => 10 * n + (c.toNat - 48)) 0
theorem numV_snoc (l : List UInt8) (c : UInt8) : numV (l ++ [c]) = 10 * numV l + (c.toNat - 48) := by simp [numV]
theorem fold_lt : ∀ (l : List UInt8) (a : Nat), l.all digB = true → l.foldl (fun n c => 10 * n + (c.toNat - 48)) a < (a + 1) * 10 ^ l.length := by
  intro l
  induction l with
  | nil => intro a _; simp
  | cons c t ih =>
    intro a h
    simp only [List.all_cons, Bool.and_eq_true] at h
    have hc := h.1
    simp [digB] at hc
    have := ih (10 * a + (c.toNat - 48)) h.2
    rw [List.foldl_cons, List.length_cons, Nat.pow_succ]
    refine Nat.lt_of_lt_of_le this ?_
    have e : (a + 1) * (10 ^ t.length * 10) = (10 * (a + 1)) * 10 ^ t.length := by
      rw [← Nat.mul_assoc, Nat.mul_right_comm, Nat.mul_comm (a + 1) 10]
    rw [e]
    exact Nat.mul_le_mul_right _ (by omega)
theorem numV_lt (l : List UInt8) (h : l.all digB = true) : numV l < 10 ^ l.length := by
  have := fold_lt l 0 h
  simpa [numV] using this
theorem numV_le (l : List UInt8) (h : l.all digB = true) (hl : l.length ≤ 15) : numV l < 1000000000000000 := by
  have h1 := numV_lt l h
  have h2 : 10 ^ l.length ≤ 10 ^ 15 := Nat.pow_le_pow_right (by omega) hl
  have h3 : (10 : Nat) ^ 15 = 1000000000000000 := by decide
  omega
theorem int_eq {k : IntKind} {a b : Int} (h : a = b) : Value.int k a = Value.int k b := by rw [h]
abbrev errForm' : Value := .iface 41 (.int .i64 2)
abbrev errLarge' : Value := .iface 41 (.int .i64 5)
def numR (s : ByteArray) : Value := if s.size ≤ 15 then .tuple #[.int .i64 (numV s.data.toList), .nilIface] else .tuple #[.int .i64 0, errLarge']
theorem numR_large {s : ByteArray} (h : 15 < s.size) : Ending.returned (.tuple #[.int .i64 0, errLarge']) = .returned (numR s) := by unfold numR; rw [if_neg (by omega)]
theorem numR_small {s : ByteArray} {l : List UInt8} (h : ¬ 15 < s.size) (hl : l = s.data.toList) : Ending.returned (.tuple #[.int .i64 (numV l), .nilIface]) = .returned (numR s) := by unfold numR; rw [if_pos (by omega), hl]
def numGood (s : ByteArray) : Prop := s.data.toList ≠ [] ∧ s.data.toList.all digB = true

theorem digit_not {s : ByteArray} {k : Nat} (h : k < s.size) (hb : ¬ digB s[k] = true) (hg : s.data.toList.all digB = true) : False := by
  rw [List.all_eq_true] at hg
  exact hb (hg _ (get_mem s k h))
theorem digB_of {s : ByteArray} {k : Nat} (h : k < s.size) (hg : s.data.toList.all digB = true) : 48 ≤ s[k].toNat ∧ s[k].toNat ≤ 57 := by
  rw [List.all_eq_true] at hg
  have := hg _ (get_mem s k h)
  simpa [digB] using this

end Go.Proofs.YthlfhbhjiofneaaDoor

/- What Is and Clip return where the statements call them. -/
namespace Go.Proofs.YthlfhbhjiofneaaDoor
open Go.RowKit

set_option maxHeartbeats 400000 in
set_option maxRecDepth 100000 in
theorem is_errno (a : Int) (ha : (a != 0) = true) (w : World) : Calls Tryd.prog 16 #[.iface 41 (.int .i64 a), .int .i64 a] w fun e w' => e = .returned (.bool true) ∧ w = w' := by
  go_enter Tryd.func16, Tryd.ntmps16
  go_wp2_with (go_at_call 30; refine (num_errno _ _).mono ?_; rintro e w' ⟨rfl, rfl⟩)
  go_ret
  exact ⟨rfl, rfl⟩
set_option maxHeartbeats 400000 in
set_option maxRecDepth 100000 in
theorem is_nil (b : Int) (hb : ((0 : Int) == b) = false) (w : World) : Calls Tryd.prog 16 #[.nilIface, .int .i64 b] w fun e w' => e = .returned (.bool false) ∧ w = w' := by
  go_enter Tryd.func16, Tryd.ntmps16
  go_wp2_with (go_at_call 30; refine (num_nil _).mono ?_; rintro e w' ⟨rfl, rfl⟩)
  go_ret
  exact ⟨rfl, rfl⟩
end Go.Proofs.YthlfhbhjiofneaaDoor

/- The five spoilt chunks of ChunkedSpoilt: what the decoder answers. Pure. -/
namespace Go.Proofs.YthlfhbhjiofneaaDoor

def spoilL (q : Nat) (b : List UInt8) : List UInt8 :=
  if q = 0 then hexT b.length ++ 13 :: 10 :: (b ++ 120 :: [13, 10])
  else if q = 1 then hexT b.length ++ 10 :: (b ++ [13, 10])
  else if q = 2 then hexT b.length ++ 32 :: 13 :: 10 :: (b ++ [13, 10])
  else if q = 3 then hexT b.length ++ 13 :: 10 :: (b ++ [10])
  else hexT b.length ++ 13 :: 10 :: (b ++ [13, 13])
/-- How many bytes of the spoilt chunk are taken. -/
def spoilN (q : Nat) (b : List UInt8) : Nat :=
  if q = 0 then (hexT b.length).length + 2 + b.length
  else if q = 1 then (hexT b.length).length
  else if q = 2 then (hexT b.length).length
  else if q = 3 then (hexT b.length).length + 2 + b.length
  else (hexT b.length).length + 3 + b.length
def spoilD (q : Nat) (b : List UInt8) : List UInt8 := if q = 0 ∨ 2 < q then b else []
theorem wrD_dataBad {s : Dc} (h : AtSize s) {b : List UInt8} (hb : b ≠ []) (hk : b.length < 16 ^ 8) (ht : s.tot + b.length ≤ 65536) {c : UInt8} (hc : c.toNat ≠ 13) (r : List UInt8) :
    (wrD s (hexT b.length ++ 13 :: 10 :: (b ++ c :: r))).1.er = 33 ∧ (wrD s (hexT b.length ++ 13 :: 10 :: (b ++ c :: r))).1.pl ≠ 8 ∧ (wrD s (hexT b.length ++ 13 :: 10 :: (b ++ c :: r))).2 = (b, (hexT b.length).length + 2 + b.length) := by
  have h1 := wrD_data2 h hb hk ht
  have hs : stepS { s with sz := 0, len := 0, pl := 4, tot := s.tot + b.length } c = (33, { s with sz := 0, len := 0, pl := 4, tot := s.tot + b.length }) := by
    rw [step_cr4 rfl]; unfold expS; rw [if_neg hc]
  have h2 := wrD_err h1 (by exact h.er) (by simp) (by simp) hs (by decide) r
  rw [show hexT b.length ++ 13 :: 10 :: (b ++ c :: r) = (hexT b.length ++ 13 :: 10 :: b) ++ c :: r by simp, h2]
  exact ⟨rfl, by simp, by simp; omega⟩
theorem wrD_crBad {s : Dc} (h : AtSize s) {b : List UInt8} (hb : b ≠ []) (hk : b.length < 16 ^ 8) (ht : s.tot + b.length ≤ 65536) {c : UInt8} (hc : c.toNat ≠ 10) (r : List UInt8) :
    (wrD s (hexT b.length ++ 13 :: 10 :: (b ++ 13 :: c :: r))).1.er = 33 ∧ (wrD s (hexT b.length ++ 13 :: 10 :: (b ++ 13 :: c :: r))).1.pl ≠ 8 ∧ (wrD s (hexT b.length ++ 13 :: 10 :: (b ++ 13 :: c :: r))).2 = (b, (hexT b.length).length + 3 + b.length) := by
  have h1 := wrD_data2 h hb hk ht
  have hs1 : stepS { s with sz := 0, len := 0, pl := 4, tot := s.tot + b.length } 13 = (0, { s with sz := 0, len := 0, pl := 5, tot := s.tot + b.length }) := by
    rw [step_cr4 rfl]; unfold expS; rw [if_pos (by decide)]
  have h13 : wrD s ((hexT b.length ++ 13 :: 10 :: b) ++ [13]) = ({ s with sz := 0, len := 0, pl := 5, tot := s.tot + b.length }, b, ((hexT b.length ++ 13 :: 10 :: b) ++ [13]).length) := by
    rw [wrD_app, h1]
    simp only
    rw [wrD_one (by exact h.er) (by simp) (by simp) hs1]
    simp; omega
  have hs : stepS { s with sz := 0, len := 0, pl := 5, tot := s.tot + b.length } c = (33, { s with sz := 0, len := 0, pl := 5, tot := s.tot + b.length }) := by
    rw [step_lf5 rfl]; unfold expS; rw [if_neg hc]
  have h2 := wrD_err h13 (by exact h.er) (by simp) (by simp) hs (by decide) r
  rw [show hexT b.length ++ 13 :: 10 :: (b ++ 13 :: c :: r) = ((hexT b.length ++ 13 :: 10 :: b) ++ [13]) ++ c :: r by simp, h2]
  exact ⟨rfl, by simp, by simp; omega⟩
theorem wrD_spoil {s : Dc} (h : AtSize s) {b : List UInt8} (hb : b ≠ []) (hk : b.length < 16 ^ 8) (ht : s.tot + b.length ≤ 65536) (q : Nat) :
    (wrD s (spoilL q b)).1.er = 33 ∧ (wrD s (spoilL q b)).1.pl ≠ 8 ∧ (wrD s (spoilL q b)).2 = (spoilD q b, spoilN q b) := by
  unfold spoilL spoilD spoilN
  by_cases h0 : q = 0
  · simp only [h0, if_true, true_or]
    exact wrD_dataBad h hb hk ht (by decide) [13, 10]
  by_cases h1 : q = 1
  · subst h1
    simpa using wrD_badSize h hk ht (c := 10) (by decide) (by decide) (by decide) (b ++ [13, 10])
  by_cases h2 : q = 2
  · subst h2
    simpa using wrD_badSize h hk ht (c := 32) (by decide) (by decide) (by decide) (13 :: 10 :: (b ++ [13, 10]))
  have hgt : 2 < q := by omega
  by_cases h3 : q = 3
  · subst h3
    simpa using wrD_dataBad h hb hk ht (c := 10) (by decide) []
  · rw [if_neg h0, if_neg h1, if_neg h2, if_neg h3, if_neg h0, if_neg h1, if_neg h2, if_neg h3, if_pos (.inr hgt)]
    exact wrD_crBad h hb hk ht (by decide) []
/-- A whole chunk ahead of it. -/
theorem wrD_spoilt {a b : List UInt8} (hb : b ≠ []) (hl : a.length + b.length ≤ 65536) (q : Nat) :
    (wrD Dc.new (chunkL a ++ spoilL q b)).1.er = 33 ∧ (wrD Dc.new (chunkL a ++ spoilL q b)).1.pl ≠ 8 ∧ (wrD Dc.new (chunkL a ++ spoilL q b)).2 = (a ++ spoilD q b, (chunkL a).length + spoilN q b) := by
  have h16 : (16 : Nat) ^ 8 = 4294967296 := by decide
  obtain ⟨h1, h2⟩ := wrD_chunk atSize_new (b := a) (by omega) (by show 0 + a.length ≤ 65536; omega)
  obtain ⟨h3, h4, h5⟩ := wrD_spoil h2 hb (by omega) (by show 0 + a.length + b.length ≤ 65536; omega) q
  rw [wrD_app, h1]
  exact ⟨h3, h4, by simp only; rw [h5]⟩
/-- The chunk, cut as the law cuts it: n bytes in all, m digits. -/
theorem chunkL_three {b : List UInt8} (hb : b ≠ []) : chunkL b = hexT b.length ++ ([13, 10] ++ (b ++ [13, 10])) := by unfold chunkL; rw [if_neg hb]; simp
theorem chunkL_size {b : List UInt8} (hb : b ≠ []) : (chunkL b).length = (hexT b.length).length + b.length + 4 := by rw [chunkL_three hb]; simp; omega
theorem take_at {x y : List UInt8} {n : Nat} (h : n = x.length) : (x ++ y).take n = x := by rw [h, List.take_left]
theorem drop_at {x y : List UInt8} {n : Nat} (h : n = x.length) : (x ++ y).drop n = y := by rw [h, List.drop_left]
theorem spoil_4 {b : List UInt8} (hb : b ≠ []) {n : Nat} (hn : n = (chunkL b).length) : (chunkL b).take (n - 1) ++ [13] = spoilL 4 b := by
  rw [chunkL_size hb] at hn
  rw [show chunkL b = (hexT b.length ++ [13, 10] ++ b ++ [13]) ++ [10] by rw [chunkL_three hb]; simp, take_at (by simp; omega)]
  simp [spoilL]
theorem spoil_3 {b : List UInt8} (hb : b ≠ []) {n : Nat} (hn : n = (chunkL b).length) : (chunkL b).take (n - 2) ++ [10] = spoilL 3 b := by
  rw [chunkL_size hb] at hn
  rw [show chunkL b = (hexT b.length ++ [13, 10] ++ b) ++ [13, 10] by rw [chunkL_three hb]; simp, take_at (by simp; omega)]
  simp [spoilL]
theorem spoil_0 {b : List UInt8} (hb : b ≠ []) {n : Nat} (hn : n = (chunkL b).length) : (chunkL b).take (n - 2) ++ [120] ++ (chunkL b).drop (n - 2) = spoilL 0 b := by
  rw [chunkL_size hb] at hn
  rw [show chunkL b = (hexT b.length ++ [13, 10] ++ b) ++ [13, 10] by rw [chunkL_three hb]; simp, take_at (by simp; omega), drop_at (by simp; omega)]
  simp [spoilL]
theorem spoil_1 {b : List UInt8} (hb : b ≠ []) {m : Nat} (hm : m = (hexT b.length).length) : (chunkL b).take m ++ [10] ++ (chunkL b).drop (m + 2) = spoilL 1 b := by
  rw [show (chunkL b).take m = hexT b.length by rw [chunkL_three hb, take_at hm], show (chunkL b).drop (m + 2) = b ++ [13, 10] by
    rw [show chunkL b = (hexT b.length ++ [13, 10]) ++ (b ++ [13, 10]) by rw [chunkL_three hb]; simp, drop_at (by simp; omega)]]
  simp [spoilL]
theorem spoil_2 {b : List UInt8} (hb : b ≠ []) {m : Nat} (hm : m = (hexT b.length).length) : (chunkL b).take m ++ [32] ++ (chunkL b).drop m = spoilL 2 b := by
  rw [chunkL_three hb, take_at hm, drop_at hm]
  simp [spoilL]
end Go.Proofs.YthlfhbhjiofneaaDoor

/- ChunkedSpoilt: what its walks share. -/
namespace Go.Proofs.YthlfhbhjiofneaaDoor
open Go.RowKit

theorem own_form4 {B : Nat} {v : Value} {w : World} {l : List UInt8} (h : OwnB B w v l) (hne : l ≠ []) : ∃ g cap, v = .slice (some ⟨g, 0, none⟩) l.length cap ∧ l.length ≤ cap ∧ cap ≤ maxLen := by
  obtain ⟨_, ⟨_, hh⟩ | ⟨g, cap, cur, hv, _, _, h1, h2, _⟩⟩ := h
  · exact absurd (List.eq_nil_of_length_eq_zero hh) hne
  · exact ⟨g, cap, hv, h1, h2⟩
/-- What the switch makes: the bytes for the decoder, and how many it takes. -/
def SpR (w2 : World) (a b : List UInt8) (q : Nat) (u n : Value) (wx : World) : Prop :=
  OwnB w2.heap.size wx u (chunkL a ++ spoilL q b) ∧ n = .int .i64 (((chunkL a).length + spoilN q b : Nat) : Int) ∧ Below w2.heap.size w2 wx
/-- An append of bytes that are read to a slice of the call's own, at one operation. -/
theorem wp_appendA {B : Nat} {w : World} {o : Oper} {a : Act} {K : Act → World → Prop} {Q : Exit → Act → World → Prop} (s x : Operand)
    (ho : o.op = .call { callee := .builtin .append, args := #[s, x], argTypes := #[27, 27] }) (v v2 : Value) (hs : a.eval s = v) (hx : a.eval x = v2) {l m : List UInt8} (hown : OwnB B w v l) (hr : ReadsD w v2 m)
    (hn : l.length + m.length ≤ 1000000000) (hB : B ≤ w.heap.size) (h : ∀ v' w', OwnB B w' v' (l ++ m) → w.grownBy w' v.ownBlock → (v'.ownBlock = v.ownBlock ∨ v'.ownBlock = some w.heap.size) → K (a.put o.dst v') w') :
    o.wp Tryd.prog a w K Q := by
  obtain ⟨i0, hi, hz0, hz1, hz2⟩ := info_parts Tryd.infoB
  obtain ⟨ao, cap, rfl, hc⟩ := id hr
  cases ao with
  | none =>
    obtain ⟨rfl, _, rfl⟩ := readsB_none hr
    have hrun := run_append_owned_none (P := Tryd.prog) (w := w) B 27 o.type 5 i0 1 Tryd.underlying27 hi v l.length (Lib.byteCells l) hown
    unfold Oper.wp
    simp [execOp, ho, resolve, invoke, builtin, hs, hx, hrun, Result.andThen]
    exact h v w (by rw [List.append_nil]; exact hown) ⟨rfl, rfl, rfl, Nat.le_refl _, fun _ _ _ => rfl⟩ (.inl rfl)
  | some ad =>
    obtain ⟨_, hs'⟩ := readsB_src hr
    obtain ⟨v', w', hr', h2, h3, h4, h5⟩ := run_append_own_at (P := Tryd.prog) w B 27 o.type 5 i0 _ 1 1 Tryd.underlying27 hi hz0 hz1 hz2 rfl (by decide) v l.length (Lib.byteCells l) hown ad m.length cap (Lib.byteCells m) (by rw [Lib.byteCells_length]; omega) hs' (oneB m) (by unfold maxLen; omega) (by omega) hB
    unfold Oper.wp execOp
    simp only [ho, resolve, invoke, builtin, Sem.run_bind, Sem.run_pure, Result.andThen_ok, List.map_toArray, List.map_cons, List.map_nil, hs, hx, hr']
    exact h v' w' (own_appB h2) h3 h5
theorem spoil_len (q : Nat) (b : List UInt8) : (spoilL q b).length ≤ (hexT b.length).length + b.length + 5 := by
  unfold spoilL
  split
  · simp; omega
  split
  · simp; omega
  split
  · simp; omega
  split <;> (simp; omega)
end Go.Proofs.YthlfhbhjiofneaaDoor

/- ChunkedLarge: for all inputs the statement's function returns true: the walk. -/
namespace Go.Proofs.YthlfhbhjiofneaaDoor
open Go.RowKit

set_option maxHeartbeats 16000000 in
set_option maxRecDepth 100000 in
theorem ck_large_walk (k m : Nat) (w : World) (hM : HasMax w) (hD : HasDb w) (hk : k < 65536) (hm : m < 256) :
    Calls Tryd.prog 5 #[.int .u16 (k : Int), .int .u8 (m : Int)] w fun e w' => e = .returned (.bool true) ∧ Below w.heap.size w w' := by
  have HM := Lib.hid hM
  have HD := Lib.hid hD
  obtain ⟨i0, hi, hz0, hz1, hz2⟩ := info_parts Tryd.infoB
  clear hM hD
  obtain ⟨q, hq⟩ : ∃ q, q = m % 3 := ⟨_, rfl⟩
  have hq3 : q < 3 := by omega
  have ER := Lib.hid (show (m : Int) % 3 = (q : Int) by omega)
  clear hq
  have hr0 : (0 : Int) ≤ (m : Int) % 3 := by omega
  have hr3 : (m : Int) % 3 < 3 := by omega
  have hw1 : IntKind.i64.wrap ((m : Int) % 3) = (m : Int) % 3 := IntWalk.i64_in _ (by omega)
  have hw2 : IntKind.i64.wrap (65536 + (m : Int) % 3) = 65536 + (m : Int) % 3 := IntWalk.i64_in _ (by omega)
  go_enter Tryd.func5, Tryd.ntmps5
  go_wp2_with fail
  refine (awake7_any _ HM.out).mono ?_
  rintro e w1 ⟨rfl, hB1⟩
  have HB1 := Lib.hid hB1
  clear hB1
  go_upto_region 4 with fail
  rw [ER.out]
  obtain ⟨n, hn⟩ : ∃ n, n = 65536 + q := ⟨_, rfl⟩
  rw [show (65536 : Int) + (q : Int) = (n : Int) by omega]
  have hn3 : n ≤ 65538 := by omega
  have hn0 : 65536 ≤ n := by omega
  have hnk : k ≤ n := by omega
  clear hr0 hr3 hw1 hw2 hn hq3
  go_upto_region 5 with (at_make; refine wpList_make_full _ rfl _ _ _ rfl w1.heap.size 5 i0 _ _ Tryd.underlying27 hi hz0 hz1 .i64 .i64 _ _ n rfl rfl rfl rfl (by rw [hz2]; omega) (by unfold maxLen; omega) (Nat.le_refl _) ?_; intro w2 hO2 hG2)
  rw [zer_cells] at hO2
  have hZ2 : OwnB w1.heap.size w2 (.slice (some ⟨w1.heap.size, 0, none⟩) n n) (zerL n) := by unfold OwnB; rw [zer_len]; exact hO2
  have hB2 : Below w.heap.size w w2 := HB1.out.trans (((Below.refl w1.heap.size w1).grown hG2 (Nat.le_refl _) (fun q hq => by cases hq)).mono HB1.out.size)
  have hBV : Below w.heap.size w w2.drew := hB2.drew
  have hZR : ReadsD w2.drew (.slice (some ⟨w1.heap.size, 0, none⟩) n n) (zerL n) := (hZ2.below (Below.refl _ _).drew).reads
  have hA : ReadsD w2.drew (.slice (some ⟨w1.heap.size, 0, none⟩) k n) (zerL k) := by
    have h := reads_cutB hZR 0 k n (by rw [zer_len]; omega) hnk (by unfold maxLen; omega)
    rw [List.drop_zero, (zer_cut n k hnk).1] at h
    exact h
  have hR : ReadsD w2.drew (.slice (some ⟨w1.heap.size, k, none⟩) (n - k) (n - k)) (zerL (n - k)) := by
    have h := reads_cutB hZR k (n - k) (n - k) (by rw [zer_len]; omega) (Nat.le_refl _) (by unfold maxLen; omega)
    rw [(zer_cut n k hnk).2, Nat.zero_add, List.take_of_length_le (by rw [zer_len]; omega)] at h
    exact h
  have hcn : ¬ n = k := by omega
  have hki : (k : Int) ≤ (n : Int) := by omega
  have hk0 : (0 : Int) ≤ (k : Int) := by omega
  have hkt : ((k : Int)).toNat = k := by omega
  have hnt : ((n : Int)).toNat = n := by omega
  generalize w1.heap.size = N at *
  clear hO2 hZ2 hG2 hB2 hZR HB1 ER hz0 hz1 hz2 hi
  refine wp_region_held_drew (S := fun _ => True) (by kernel_rfl) trivial (fun hHeld => ?_)
  clear hHeld
  generalize w2.drew = V at *
  refine wpAnyH_take (i := 0) (oi := { dst := some 30, op := _, type := _, pos := _, after := _, guard := _ }) (v := ?_) rfl (by kernel_rfl) (by kernel_rfl) (by kernel_rfl) (fun _ _ _ h => h) (Or.inl ⟨by rfl, ?_⟩) trivial ?_
  rotate_left
  focus (intro w hSw; first | (go_simp; done) | (go_simp; with_reducible rfl))
  (try simp only [Act.put, List.setIfInBounds_toArray, List.set_cons_zero, List.set_cons_succ])
  refine wpAnyH_take (i := 1) (oi := { dst := some 31, op := _, type := _, pos := _, after := _, guard := _ }) (v := ?_) rfl (by kernel_rfl) (by kernel_rfl) (by kernel_rfl) (fun _ _ _ h => h) (Or.inl ⟨by rfl, ?_⟩) trivial ?_
  rotate_left
  focus (intro w hSw; first | (go_simp; done) | (go_simp; with_reducible rfl))
  (try simp only [Act.put, List.setIfInBounds_toArray, List.set_cons_zero, List.set_cons_succ])
  refine wpAnyH_take (i := 2) (oi := { dst := some 32, op := _, type := _, pos := _, after := _, guard := _ }) (v := ?_) rfl (by kernel_rfl) (by kernel_rfl) (by kernel_rfl) (fun _ _ _ h => h) (Or.inl ⟨by rfl, ?_⟩) trivial ?_
  rotate_left
  focus (intro w hSw; first | (go_simp; done) | (go_simp; with_reducible rfl))
  (try simp only [Act.put, List.setIfInBounds_toArray, List.set_cons_zero, List.set_cons_succ])
  refine wpAnyH_take (i := 3) (oi := { dst := some 33, op := _, type := _, pos := _, after := _, guard := _ }) (v := ?_) rfl (by kernel_rfl) (by kernel_rfl) (by kernel_rfl) (fun _ _ _ h => h) (Or.inl ⟨by rfl, ?_⟩) trivial ?_
  rotate_left
  focus (intro w hSw; first | (go_simp; done) | (go_simp; with_reducible rfl))
  (try simp only [Act.put, List.setIfInBounds_toArray, List.set_cons_zero, List.set_cons_succ])
  refine wpAnyH_take (i := 4) (oi := { dst := some 34, op := _, type := _, pos := _, after := _, guard := _ }) (v := ?_) rfl (by kernel_rfl) (by kernel_rfl) (by kernel_rfl) (fun _ _ _ h => h) (Or.inl ⟨by rfl, ?_⟩) trivial ?_
  rotate_left
  focus (intro w hSw; first | (go_simp; done) | (go_simp; with_reducible rfl))
  (try simp only [Act.put, List.setIfInBounds_toArray, List.set_cons_zero, List.set_cons_succ])
  refine wpAnyH_take (i := 5) (oi := { dst := some 35, op := _, type := _, pos := _, after := _, guard := _ }) (v := ?_) rfl (by kernel_rfl) (by kernel_rfl) (by kernel_rfl) (fun _ _ _ h => h) (Or.inl ⟨by rfl, ?_⟩) trivial ?_
  rotate_left
  focus (intro w hSw; first | (go_simp; done) | (go_simp; with_reducible rfl))
  (try simp only [Act.put, List.setIfInBounds_toArray, List.set_cons_zero, List.set_cons_succ])
  have HA := Lib.hid hA
  have HR := Lib.hid hR
  have HBV := Lib.hid hBV
  clear hA hR hBV hcn hki hk0 hkt hnt hm
  refine wpAnyH_ready (rs := [6]) (by kernel_rfl) (by simp) ?_
  refine AllReadyH.cons (o := { dst := some 36, op := _, type := _, pos := _, after := _, guard := _ }) rfl (fun K hK => ?_) AllReadyH.nil
  go_simp
  have hP2 := reads_two V _ _ 27 HA.out HR.out
  have hB3 := HBV.out.alloc HBV.out.size (.cells #[.slice (some ⟨N, 0, none⟩) k n, .slice (some ⟨N, k, none⟩) (n - k) (n - k)] 27)
  have hB4 := below_new V (.cells #[.slice (some ⟨N, 0, none⟩) k n, .slice (some ⟨N, k, none⟩) (n - k) (n - k)] 27)
  refine hK.out _ _ trivial (fun _ => ?_)
  clear hK K
  (try simp only [Act.put, List.setIfInBounds_toArray, List.set_cons_zero, List.set_cons_succ])
  change wpAnyH _ _ _ _ _ _ _ _ (V.alloc (.cells #[.slice (some ⟨N, 0, none⟩) k n, .slice (some ⟨N, k, none⟩) (n - k) (n - k)] 27))
  have HA1 := Lib.hid (HA.out.below hB4)
  have HR1 := Lib.hid (HR.out.below hB4)
  generalize V.alloc (.cells #[.slice (some ⟨N, 0, none⟩) k n, .slice (some ⟨N, k, none⟩) (n - k) (n - k)] 27) = V1 at *
  have EN := Lib.hid (encode_any _ _ _ [] V1 (HD.out.below hB3) hP2 (readsQ_none V1) (by simp) (by simp) (by simp) (by intro l hl; simp at hl; rcases hl with rfl | rfl <;> (rw [zer_len]; omega)))
  have HB3 := Lib.hid hB3
  clear hP2 hB3 hB4 HA HR HBV
  refine wpAnyH_ready (rs := [7]) (by kernel_rfl) (by simp) ?_
  refine AllReadyH.cons (o := { dst := some 37, op := _, type := _, pos := _, after := _, guard := _ }) rfl (fun K hK => ?_) AllReadyH.nil
  go_simp
  refine EN.out.mono ?_
  rintro e w3 ⟨hcase, hB5⟩
  have HB5 := Lib.hid (HB3.out.trans (hB5.mono HB3.out.size))
  have HA3 := Lib.hid (HA1.out.below hB5)
  have HR3 := Lib.hid (HR1.out.below hB5)
  clear hB5 EN HA1 HR1
  have hsum : sumL [zerL k, zerL (n - k)] = n := by simp [sumL, zer_len]; omega
  rw [hsum] at hcase
  clear hsum HB3
  by_cases h16 : n = 65536
  · rcases hcase with ⟨hbig, _⟩ | ⟨_, hno, _⟩ | ⟨_, _, v3, rfl, hO3⟩
    · exact absurd hbig (by omega)
    · exact absurd hno (by decide)
    · have WH := Lib.hid (show Whole7 (encL [zerL k, zerL (n - k)] []) (flatK [zerL k, zerL (n - k)]) ([].map lowP) by rw [h16]; exact large_whole (by omega))
      have hOl : (flatK [zerL k, zerL (n - k)]).length = n := by rw [h16]; exact large_flat (by omega)
      have hEn : encL [zerL k, zerL (n - k)] [] ≠ [] := enc_ne _ _
      have hEl : (encL [zerL k, zerL (n - k)] []).length ≤ 70000 := by
        have h1 := chunks_len (ls := [zerL k, zerL (n - k)]) (k := 2) (Nat.le_refl _) (by simp [sumL, zer_len]; omega)
        have h2 := last_len []
        have h3 : sumL ([zerL k, zerL (n - k)].take 2) = n := by simp [sumL, zer_len]; omega
        have h4 : ([zerL k, zerL (n - k)].take 2) = [zerL k, zerL (n - k)] := rfl
        rw [h3] at h1
        rw [h4] at h1
        have h5 : sizL [] = 0 := rfl
        unfold encL
        rw [List.length_append]
        omega
      generalize encL [zerL k, zerL (n - k)] [] = E at *
      generalize flatK [zerL k, zerL (n - k)] = F at *
      obtain ⟨ga, ca, rfl, hc1, hc2, hg1, hg2⟩ := own_form6 hO3 hEn
      have HO3 := Lib.hid hO3
      clear hO3
      refine hK.out _ _ trivial (fun _ => ?_)
      clear hK K
      (try simp only [Act.put, List.setIfInBounds_toArray, List.set_cons_zero, List.set_cons_succ])
      refine wpAnyH_take (i := 8) (oi := { dst := some 29, op := _, type := _, pos := _, after := _, guard := _ }) (v := ?_) rfl (by kernel_rfl) (by kernel_rfl) (by kernel_rfl) (fun _ _ _ h => h) (Or.inl ⟨by rfl, ?_⟩) trivial ?_
      rotate_left
      focus (intro w hSw; first | (go_simp; done) | (go_simp; with_reducible rfl))
      (try simp only [Act.put, List.setIfInBounds_toArray, List.set_cons_zero, List.set_cons_succ])
      refine wpAnyH_take (i := 9) (oi := { dst := some 38, op := _, type := _, pos := _, after := _, guard := _ }) (v := ?_) rfl (by kernel_rfl) (by kernel_rfl) (by kernel_rfl) (fun _ _ _ h => h) (Or.inl ⟨by rfl, ?_⟩) trivial ?_
      rotate_left
      focus (intro w hSw; first | (go_simp; done) | (go_simp; with_reducible rfl))
      (try simp only [Act.put, List.setIfInBounds_toArray, List.set_cons_zero, List.set_cons_succ])
      refine wpAnyH_take (i := 10) (oi := { dst := some 39, op := _, type := _, pos := _, after := _, guard := _ }) (v := ?_) rfl (by kernel_rfl) (by kernel_rfl) (by kernel_rfl) (fun _ _ _ h => h) (Or.inl ⟨by rfl, ?_⟩) trivial ?_
      rotate_left
      focus (intro w hSw; first | (go_simp; done) | (go_simp; with_reducible rfl))
      (try simp only [Act.put, List.setIfInBounds_toArray, List.set_cons_zero, List.set_cons_succ])
      refine wpAnyH_take (i := 11) (oi := { dst := some 8, op := _, type := _, pos := _, after := _, guard := _ }) (v := ?_) rfl (by kernel_rfl) (by kernel_rfl) (by kernel_rfl) (fun _ _ _ h => h) (Or.inl ⟨by rfl, ?_⟩) trivial ?_
      rotate_left
      focus (intro w hSw; first | (go_simp; done) | (go_simp; with_reducible rfl))
      (try simp only [Act.put, List.setIfInBounds_toArray, List.set_cons_zero, List.set_cons_succ])
      refine wpAnyH_take (i := 12) (oi := { dst := some 9, op := _, type := _, pos := _, after := _, guard := _ }) (v := ?_) rfl (by kernel_rfl) (by kernel_rfl) (by kernel_rfl) (fun _ _ _ h => h) (Or.inl ⟨by rfl, ?_⟩) trivial ?_
      rotate_left
      focus (intro w hSw; first | (go_simp; done) | (go_simp; with_reducible rfl))
      (try simp only [Act.put, List.setIfInBounds_toArray, List.set_cons_zero, List.set_cons_succ])
      refine wpAnyH_done (by kernel_rfl) ?_ _
      (try simp only [Exit.then])
      have hnb : decide ((65536 : Int) < (n : Int)) = false := decide_eq_false (by omega)
      go_wp2_with fail
      refine (new_any w3).mono ?_
      rintro e w4 ⟨rfl, hD4, hB4, hs4⟩
      have HB4 := Lib.hid (HB5.out.trans (hB4.mono HB5.out.size))
      have W := decWrite_any _ E w4 hD4 ((MaxB.of (HM.out.below HB5.out)).to hB4) ok_new (HO3.out.below hB4).reads (fun _ j h1 h2 => by
        have h3 : j = w3.heap.size := h2
        have h4 : ga = j := by simpa [Value.ownBlock] using h1
        omega) (by omega)
      unfold WritePost at W
      rw [WH.out.two, WH.out.er] at W
      have W := Lib.hid W
      clear hD4 hB4 HO3
      go_wp2_with fail
      refine W.out.mono ?_
      rintro e w5 ⟨vb, X, rfl, hD5, hX5, hO5, ho5, hv5⟩
      have HB6 := Lib.hid (HB4.out.trans (hO5.to (B := w.heap.size) (fun j hj => by
        have h3 : j = w3.heap.size := hj
        have := HB5.out.size
        omega) (by have := HB4.out.size; omega)))
      have DN := Lib.hid (done_any w5 hD5)
      rw [decide_eq_true WH.out.pl] at DN
      obtain ⟨za, zc, rfl⟩ := ho5.isSlice
      rw [hOl, show errV 0 = .nilIface from rfl]
      clear W hD5 hX5 hO5 ho5 hv5 hs4
      go_wp2_with fail
      refine DN.out.mono ?_
      rintro e w' ⟨rfl, rfl⟩
      go_wp2_with fail
      go_ret
      exact ⟨rfl, HB6.out⟩
  · rcases hcase with ⟨_, rfl⟩ | ⟨hbig, _⟩ | ⟨hbig, _⟩
    rotate_left
    · exact absurd hbig (by omega)
    · exact absurd hbig (by omega)
    · skip
      refine hK.out _ _ trivial (fun _ => ?_)
      clear hK K
      (try simp only [Act.put, List.setIfInBounds_toArray, List.set_cons_zero, List.set_cons_succ])
      refine wpAnyH_take (i := 8) (oi := { dst := some 29, op := _, type := _, pos := _, after := _, guard := _ }) (v := ?_) rfl (by kernel_rfl) (by kernel_rfl) (by kernel_rfl) (fun _ _ _ h => h) (Or.inl ⟨by rfl, ?_⟩) trivial ?_
      rotate_left
      focus (intro w hSw; first | (go_simp; done) | (go_simp; with_reducible rfl))
      (try simp only [Act.put, List.setIfInBounds_toArray, List.set_cons_zero, List.set_cons_succ])
      refine wpAnyH_take (i := 9) (oi := { dst := some 38, op := _, type := _, pos := _, after := _, guard := _ }) (v := ?_) rfl (by kernel_rfl) (by kernel_rfl) (by kernel_rfl) (fun _ _ _ h => h) (Or.inl ⟨by rfl, ?_⟩) trivial ?_
      rotate_left
      focus (intro w hSw; first | (go_simp; done) | (go_simp; with_reducible rfl))
      (try simp only [Act.put, List.setIfInBounds_toArray, List.set_cons_zero, List.set_cons_succ])
      refine wpAnyH_take (i := 10) (oi := { dst := some 39, op := _, type := _, pos := _, after := _, guard := _ }) (v := ?_) rfl (by kernel_rfl) (by kernel_rfl) (by kernel_rfl) (fun _ _ _ h => h) (Or.inl ⟨by rfl, ?_⟩) trivial ?_
      rotate_left
      focus (intro w hSw; first | (go_simp; done) | (go_simp; with_reducible rfl))
      (try simp only [Act.put, List.setIfInBounds_toArray, List.set_cons_zero, List.set_cons_succ])
      refine wpAnyH_take (i := 11) (oi := { dst := some 8, op := _, type := _, pos := _, after := _, guard := _ }) (v := ?_) rfl (by kernel_rfl) (by kernel_rfl) (by kernel_rfl) (fun _ _ _ h => h) (Or.inl ⟨by rfl, ?_⟩) trivial ?_
      rotate_left
      focus (intro w hSw; first | (go_simp; done) | (go_simp; with_reducible rfl))
      (try simp only [Act.put, List.setIfInBounds_toArray, List.set_cons_zero, List.set_cons_succ])
      refine wpAnyH_take (i := 12) (oi := { dst := some 9, op := _, type := _, pos := _, after := _, guard := _ }) (v := ?_) rfl (by kernel_rfl) (by kernel_rfl) (by kernel_rfl) (fun _ _ _ h => h) (Or.inl ⟨by rfl, ?_⟩) trivial ?_
      rotate_left
      focus (intro w hSw; first | (go_simp; done) | (go_simp; with_reducible rfl))
      (try simp only [Act.put, List.setIfInBounds_toArray, List.set_cons_zero, List.set_cons_succ])
      refine wpAnyH_done (by kernel_rfl) ?_ _
      (try simp only [Exit.then])
      have hnb : decide ((65536 : Int) < (n : Int)) = true := decide_eq_true (by omega)
      go_upto_region 7 with fail
      have hBW : Below w.heap.size w w3.drew := HB5.out.drew
      have hA : ReadsD w3.drew (.slice (some ⟨N, 0, none⟩) k n) (zerL k) := HA3.out.below (Below.refl _ _).drew
      have hR : ReadsD w3.drew (.slice (some ⟨N, k, none⟩) (n - k) (n - k)) (zerL (n - k)) := HR3.out.below (Below.refl _ _).drew
      have hcn : ¬ n = k := by omega
      have hki : (k : Int) ≤ (n : Int) := by omega
      have hk0 : (0 : Int) ≤ (k : Int) := by omega
      have hkt : ((k : Int)).toNat = k := by omega
      have hnt : ((n : Int)).toNat = n := by omega
      clear HB5 HA3 HR3
      refine wp_region_held_drew (S := fun _ => True) (by kernel_rfl) trivial (fun hHeld => ?_)
      clear hHeld
      generalize w3.drew = U at *
      refine wpAnyH_take (i := 1) (oi := { dst := some 43, op := _, type := _, pos := _, after := _, guard := _ }) (v := ?_) rfl (by kernel_rfl) (by kernel_rfl) (by kernel_rfl) (fun _ _ _ h => h) (Or.inl ⟨by rfl, ?_⟩) trivial ?_
      rotate_left
      focus (intro w hSw; first | (go_simp; done) | (go_simp; with_reducible rfl))
      (try simp only [Act.put, List.setIfInBounds_toArray, List.set_cons_zero, List.set_cons_succ])
      refine wpAnyH_take (i := 2) (oi := { dst := some 44, op := _, type := _, pos := _, after := _, guard := _ }) (v := ?_) rfl (by kernel_rfl) (by kernel_rfl) (by kernel_rfl) (fun _ _ _ h => h) (Or.inl ⟨by rfl, ?_⟩) trivial ?_
      rotate_left
      focus (intro w hSw; first | (go_simp; done) | (go_simp; with_reducible rfl))
      (try simp only [Act.put, List.setIfInBounds_toArray, List.set_cons_zero, List.set_cons_succ])
      refine wpAnyH_take (i := 3) (oi := { dst := some 45, op := _, type := _, pos := _, after := _, guard := _ }) (v := ?_) rfl (by kernel_rfl) (by kernel_rfl) (by kernel_rfl) (fun _ _ _ h => h) (Or.inl ⟨by rfl, ?_⟩) trivial ?_
      rotate_left
      focus (intro w hSw; first | (go_simp; done) | (go_simp; with_reducible rfl))
      (try simp only [Act.put, List.setIfInBounds_toArray, List.set_cons_zero, List.set_cons_succ])
      refine wpAnyH_take (i := 6) (oi := { dst := some 48, op := _, type := _, pos := _, after := _, guard := _ }) (v := ?_) rfl (by kernel_rfl) (by kernel_rfl) (by kernel_rfl) (fun _ _ _ h => h) (Or.inl ⟨by rfl, ?_⟩) trivial ?_
      rotate_left
      focus (intro w hSw; first | (go_simp; done) | (go_simp; with_reducible rfl))
      (try simp only [Act.put, List.setIfInBounds_toArray, List.set_cons_zero, List.set_cons_succ])
      refine wpAnyH_take (i := 7) (oi := { dst := some 49, op := _, type := _, pos := _, after := _, guard := _ }) (v := ?_) rfl (by kernel_rfl) (by kernel_rfl) (by kernel_rfl) (fun _ _ _ h => h) (Or.inl ⟨by rfl, ?_⟩) trivial ?_
      rotate_left
      focus (intro w hSw; first | (go_simp; done) | (go_simp; with_reducible rfl))
      (try simp only [Act.put, List.setIfInBounds_toArray, List.set_cons_zero, List.set_cons_succ])
      refine wpAnyH_take (i := 8) (oi := { dst := some 50, op := _, type := _, pos := _, after := _, guard := _ }) (v := ?_) rfl (by kernel_rfl) (by kernel_rfl) (by kernel_rfl) (fun _ _ _ h => h) (Or.inl ⟨by rfl, ?_⟩) trivial ?_
      rotate_left
      focus (intro w hSw; first | (go_simp; done) | (go_simp; with_reducible rfl))
      (try simp only [Act.put, List.setIfInBounds_toArray, List.set_cons_zero, List.set_cons_succ])
      have HA := Lib.hid hA
      have HR := Lib.hid hR
      have HBW := Lib.hid hBW
      have HMU := Lib.hid (HM.out.below hBW)
      have HDU := Lib.hid (HD.out.below hBW)
      clear hA hR hBW hcn hki hk0 hkt hnt
      obtain ⟨La, hLa⟩ : ∃ l, l = chunkL (zerL k) := ⟨_, rfl⟩
      obtain ⟨Lb, hLb⟩ : ∃ l, l = chunkL (zerL (n - k)) := ⟨_, rfl⟩
      have CA := Lib.hid (fun (W : World) (hb : Below U.heap.size U W) => chunk_any _ _ W (HA.out.below hb) (by rw [zer_len]; omega) (HDU.out.below hb))
      have CB := Lib.hid (fun (W : World) (hb : Below U.heap.size U W) => chunk_any _ _ W (HR.out.below hb) (by rw [zer_len]; omega) (HDU.out.below hb))
      have hla : La.length ≤ 70000 := by rw [hLa]; have := chunk_len (b := zerL k) (by rw [zer_len]; omega); rw [zer_len] at this; omega
      have hlb : Lb.length ≤ 70000 := by
        rw [hLb]; unfold chunkL; split
        · simp
        · have := (hexT_len 6 (zerL (n - k)).length (by rw [zer_len]; omega)).2
          simp [zer_len] at this ⊢; omega
      rw [← hLa] at CA
      rw [← hLb] at CB
      have LO := Lib.hid (large_over (k := k) (m := n - k) (by omega) (by omega) (by omega))
      rw [← hLa, ← hLb] at LO
      clear hLa hLb HA HR
      refine wpAnyH_ready (rs := [0, 4]) (by kernel_rfl) (by simp) ?_
      refine AllReadyH.cons (o := { dst := some 42, op := _, type := _, pos := _, after := _, guard := _ }) rfl (fun K hK => ?_) ?_
      · go_simp
        have hS := (show OwnB U.heap.size (U.alloc (.cells #[] 5)) (.slice (some ⟨U.heap.size, 0, none⟩) 0 0) [] from World.ownsRow_made U #[] 0 (Nat.le_refl _) (Nat.zero_le _) (by simp))
        have hB1 := below_new U (.cells #[] 5)
        refine hK.out _ _ trivial (fun _ => ?_)
        clear hK K
        (try simp only [Act.put, List.setIfInBounds_toArray, List.set_cons_zero, List.set_cons_succ])
        change wpAnyH _ _ _ _ _ _ _ _ (U.alloc (.cells #[] 5))
        generalize U.alloc (.cells #[] 5) = W1 at *
        refine wpAnyH_ready (rs := [4]) (by kernel_rfl) (by simp) ?_
        refine AllReadyH.cons (o := { dst := some 46, op := _, type := _, pos := _, after := _, guard := _ }) rfl (fun K hK => ?_) AllReadyH.nil
        go_simp
        refine (CA.out _ hB1).mono ?_
        rintro e W2 ⟨v46, rfl, hO46, hB46⟩
        have hB2 := hB1.trans (hB46.mono hB1.size)
        have hS2 := hS.below hB46
        refine hK.out _ _ trivial (fun _ => ?_)
        clear hK K
        (try simp only [Act.put, List.setIfInBounds_toArray, List.set_cons_zero, List.set_cons_succ])
        refine wpAnyH_ready (rs := [5]) (by kernel_rfl) (by simp) ?_
        refine AllReadyH.cons (o := { dst := some 47, op := _, type := _, pos := _, after := _, guard := _ }) rfl (fun K hK => ?_) AllReadyH.nil
        rw [if_pos (by rfl)]
        refine wp_appendA _ _ rfl _ _ rfl rfl hS2 hO46.reads (by simp; omega) hB2.size (fun v47 W3 hO hg47 _ => ?_)
        have hB := hB2.grown hg47 hB2.size (fun k hk => (World.ownsRow.lt hS2 k hk).1)
        rw [List.nil_append] at hO
        clear hg47 hS2 hB2 hS hB1 hO46 hB46
        refine hK.out _ _ trivial (fun _ => ?_)
        clear hK K
        (try simp only [Act.put, List.setIfInBounds_toArray, List.set_cons_zero, List.set_cons_succ])
        refine wpAnyH_ready (rs := [9]) (by kernel_rfl) (by simp) ?_
        refine AllReadyH.cons (o := { dst := some 51, op := _, type := _, pos := _, after := _, guard := _ }) rfl (fun K hK => ?_) AllReadyH.nil
        go_simp
        refine (CB.out _ hB).mono ?_
        rintro e W4 ⟨v51, rfl, hO51, hB51⟩
        have hB4 := hB.trans (hB51.mono hB.size)
        have hO4 := hO.below hB51
        refine hK.out _ _ trivial (fun _ => ?_)
        clear hK K
        (try simp only [Act.put, List.setIfInBounds_toArray, List.set_cons_zero, List.set_cons_succ])
        refine wpAnyH_ready (rs := [10]) (by kernel_rfl) (by simp) ?_
        refine AllReadyH.cons (o := { dst := some 52, op := _, type := _, pos := _, after := _, guard := _ }) rfl (fun K hK => ?_) AllReadyH.nil
        rw [if_pos (by rfl)]
        refine wp_appendA _ _ rfl _ _ rfl rfl hO4 hO51.reads (by omega) hB4.size (fun v52 W5 hO52 hg52 _ => ?_)
        have hB5 := hB4.grown hg52 hB4.size (fun k hk => (World.ownsRow.lt hO4 k hk).1)
        refine hK.out _ _ trivial (fun _ => ?_)
        clear hK K
        (try simp only [Act.put, List.setIfInBounds_toArray, List.set_cons_zero, List.set_cons_succ])
        refine wpAnyH_ready (rs := [11]) (by kernel_rfl) (by simp) ?_
        refine AllReadyH.cons (o := { dst := some 53, op := _, type := _, pos := _, after := _, guard := _ }) rfl (fun K hK => ?_) AllReadyH.nil
        rw [if_pos (by rfl)]
        refine wp_appendAS _ _ rfl _ _ rfl rfl hO52 (by rw [List.length_append]; show _ + 5 ≤ _; omega) hB5.size (fun v53 W6 hO53 hg53 => ?_)
        have hB6 := hB5.grown hg53 hB5.size (fun k hk => (World.ownsRow.lt hO52 k hk).1)
        refine hK.out _ _ trivial (fun _ => ?_)
        clear hK K
        (try simp only [Act.put, List.setIfInBounds_toArray, List.set_cons_zero, List.set_cons_succ])
        refine wpAnyH_take (i := 12) (oi := { dst := some 10, op := _, type := _, pos := _, after := _, guard := _ }) (v := ?_) rfl (by kernel_rfl) (by kernel_rfl) (by kernel_rfl) (fun _ _ _ h => h) (Or.inl ⟨by rfl, ?_⟩) trivial ?_
        rotate_left
        focus (intro w hSw; first | (go_simp; done) | (go_simp; with_reducible rfl))
        (try simp only [Act.put, List.setIfInBounds_toArray, List.set_cons_zero, List.set_cons_succ])
        refine wpAnyH_done (by kernel_rfl) ?_ _
        (try simp only [Exit.then])
        have HO := Lib.hid (show OwnB U.heap.size W6 v53 (La ++ Lb ++ [48, 13, 10, 13, 10]) from hO53)
        have HB6 := Lib.hid hB6
        have hlE : (La ++ Lb ++ [48, 13, 10, 13, 10]).length ≤ 200000 := by simp only [List.length_append, List.length_cons, List.length_nil]; omega
        clear hO53 hB6 hg53 hO52 hg52 hB5 hB4 hO4 hO51 hB51 hO hB CB CA HDU
        generalize La ++ Lb ++ [48, 13, 10, 13, 10] = E at *
        go_wp2_with fail
        refine (new_any W6).mono ?_
        rintro e w7 ⟨rfl, hD7, hB7, hs7⟩
        have HB7 := Lib.hid (HB6.out.trans (hB7.mono HB6.out.size))
        have W := decWrite_any _ E w7 hD7 ((MaxB.of (HMU.out.below HB6.out)).to hB7) ok_new (HO.out.below hB7).reads (fun _ j h1 h2 => by
          have h3 : j = W6.heap.size := h2
          have := (World.ownsRow.lt HO.out j h1).2
          omega) (by omega)
        unfold WritePost at W
        rw [LO.out.1, LO.out.2.1] at W
        have W := Lib.hid W
        obtain ⟨ea, ec, rfl⟩ := HO.out.isSlice
        clear hD7 hB7 HO
        go_wp2_with fail
        refine W.out.mono ?_
        rintro e w8 ⟨vb, X, rfl, hD8, hX8, hO8, ho8, hv8⟩
        have HB8 := Lib.hid (HBW.out.trans ((HB7.out.trans (hO8.to (B := U.heap.size) (fun j hj => by
          have h3 : j = W6.heap.size := hj
          have := HB6.out.size
          omega) (by have := HB7.out.size; omega))).mono HBW.out.size))
        have DN := Lib.hid (done_any w8 hD8)
        rw [decide_eq_false (by rw [LO.out.2.2]; decide)] at DN
        obtain ⟨za, zc, rfl⟩ := ho8.isSlice
        rw [zer_len, show errV 5 = .iface 41 (.int .i64 5) from rfl]
        clear W hD8 hX8 hO8 ho8 hv8 hs7
        go_wp2_with fail
        refine (is_errno 5 (by decide) _).mono ?_
        rintro e w' ⟨rfl, rfl⟩
        go_wp2_with fail
        refine (is_errno 5 (by decide) _).mono ?_
        rintro e w' ⟨rfl, rfl⟩
        go_wp2_with fail
        refine DN.out.mono ?_
        rintro e w' ⟨rfl, rfl⟩
        go_wp2_with fail
        go_ret
        exact ⟨rfl, HB8.out⟩
      · refine AllReadyH.cons (o := { dst := some 46, op := _, type := _, pos := _, after := _, guard := _ }) rfl (fun K hK => ?_) AllReadyH.nil
        go_simp
        refine (CA.out _ (Below.refl _ _)).mono ?_
        rintro e W1 ⟨v46, rfl, hO46, hB1⟩
        refine hK.out _ _ trivial (fun _ => ?_)
        clear hK K
        (try simp only [Act.put, List.setIfInBounds_toArray, List.set_cons_zero, List.set_cons_succ])
        refine wpAnyH_ready (rs := [0]) (by kernel_rfl) (by simp) ?_
        refine AllReadyH.cons (o := { dst := some 42, op := _, type := _, pos := _, after := _, guard := _ }) rfl (fun K hK => ?_) AllReadyH.nil
        go_simp
        have hS := (OwnB.mono hB1.size (show OwnB W1.heap.size (W1.alloc (.cells #[] 5)) (.slice (some ⟨W1.heap.size, 0, none⟩) 0 0) [] from World.ownsRow_made W1 #[] 0 (Nat.le_refl _) (Nat.zero_le _) (by simp)))
        have hB2 := hB1.alloc hB1.size (.cells #[] 5)
        have hO46 := hO46.below (below_new W1 (.cells #[] 5))
        refine hK.out _ _ trivial (fun _ => ?_)
        clear hK K
        (try simp only [Act.put, List.setIfInBounds_toArray, List.set_cons_zero, List.set_cons_succ])
        change wpAnyH _ _ _ _ _ _ _ _ (W1.alloc (.cells #[] 5))
        generalize hW2 : W1.alloc (.cells #[] 5) = W2 at *
        clear hW2
        refine wpAnyH_ready (rs := [5]) (by kernel_rfl) (by simp) ?_
        refine AllReadyH.cons (o := { dst := some 47, op := _, type := _, pos := _, after := _, guard := _ }) rfl (fun K hK => ?_) AllReadyH.nil
        rw [if_pos (by rfl)]
        refine wp_appendA _ _ rfl _ _ rfl rfl hS hO46.reads (by simp; omega) hB2.size (fun v47 W3 hO hg47 _ => ?_)
        have hB := hB2.grown hg47 hB2.size (fun k hk => (World.ownsRow.lt hS k hk).1)
        rw [List.nil_append] at hO
        clear hg47 hS hB2 hB1 hO46
        refine hK.out _ _ trivial (fun _ => ?_)
        clear hK K
        (try simp only [Act.put, List.setIfInBounds_toArray, List.set_cons_zero, List.set_cons_succ])
        refine wpAnyH_ready (rs := [9]) (by kernel_rfl) (by simp) ?_
        refine AllReadyH.cons (o := { dst := some 51, op := _, type := _, pos := _, after := _, guard := _ }) rfl (fun K hK => ?_) AllReadyH.nil
        go_simp
        refine (CB.out _ hB).mono ?_
        rintro e W4 ⟨v51, rfl, hO51, hB51⟩
        have hB4 := hB.trans (hB51.mono hB.size)
        have hO4 := hO.below hB51
        refine hK.out _ _ trivial (fun _ => ?_)
        clear hK K
        (try simp only [Act.put, List.setIfInBounds_toArray, List.set_cons_zero, List.set_cons_succ])
        refine wpAnyH_ready (rs := [10]) (by kernel_rfl) (by simp) ?_
        refine AllReadyH.cons (o := { dst := some 52, op := _, type := _, pos := _, after := _, guard := _ }) rfl (fun K hK => ?_) AllReadyH.nil
        rw [if_pos (by rfl)]
        refine wp_appendA _ _ rfl _ _ rfl rfl hO4 hO51.reads (by omega) hB4.size (fun v52 W5 hO52 hg52 _ => ?_)
        have hB5 := hB4.grown hg52 hB4.size (fun k hk => (World.ownsRow.lt hO4 k hk).1)
        refine hK.out _ _ trivial (fun _ => ?_)
        clear hK K
        (try simp only [Act.put, List.setIfInBounds_toArray, List.set_cons_zero, List.set_cons_succ])
        refine wpAnyH_ready (rs := [11]) (by kernel_rfl) (by simp) ?_
        refine AllReadyH.cons (o := { dst := some 53, op := _, type := _, pos := _, after := _, guard := _ }) rfl (fun K hK => ?_) AllReadyH.nil
        rw [if_pos (by rfl)]
        refine wp_appendAS _ _ rfl _ _ rfl rfl hO52 (by rw [List.length_append]; show _ + 5 ≤ _; omega) hB5.size (fun v53 W6 hO53 hg53 => ?_)
        have hB6 := hB5.grown hg53 hB5.size (fun k hk => (World.ownsRow.lt hO52 k hk).1)
        refine hK.out _ _ trivial (fun _ => ?_)
        clear hK K
        (try simp only [Act.put, List.setIfInBounds_toArray, List.set_cons_zero, List.set_cons_succ])
        refine wpAnyH_take (i := 12) (oi := { dst := some 10, op := _, type := _, pos := _, after := _, guard := _ }) (v := ?_) rfl (by kernel_rfl) (by kernel_rfl) (by kernel_rfl) (fun _ _ _ h => h) (Or.inl ⟨by rfl, ?_⟩) trivial ?_
        rotate_left
        focus (intro w hSw; first | (go_simp; done) | (go_simp; with_reducible rfl))
        (try simp only [Act.put, List.setIfInBounds_toArray, List.set_cons_zero, List.set_cons_succ])
        refine wpAnyH_done (by kernel_rfl) ?_ _
        (try simp only [Exit.then])
        have HO := Lib.hid (show OwnB U.heap.size W6 v53 (La ++ Lb ++ [48, 13, 10, 13, 10]) from hO53)
        have HB6 := Lib.hid hB6
        have hlE : (La ++ Lb ++ [48, 13, 10, 13, 10]).length ≤ 200000 := by simp only [List.length_append, List.length_cons, List.length_nil]; omega
        clear hO53 hB6 hg53 hO52 hg52 hB5 hB4 hO4 hO51 hB51 hO hB CB CA HDU
        generalize La ++ Lb ++ [48, 13, 10, 13, 10] = E at *
        go_wp2_with fail
        refine (new_any W6).mono ?_
        rintro e w7 ⟨rfl, hD7, hB7, hs7⟩
        have HB7 := Lib.hid (HB6.out.trans (hB7.mono HB6.out.size))
        have W := decWrite_any _ E w7 hD7 ((MaxB.of (HMU.out.below HB6.out)).to hB7) ok_new (HO.out.below hB7).reads (fun _ j h1 h2 => by
          have h3 : j = W6.heap.size := h2
          have := (World.ownsRow.lt HO.out j h1).2
          omega) (by omega)
        unfold WritePost at W
        rw [LO.out.1, LO.out.2.1] at W
        have W := Lib.hid W
        obtain ⟨ea, ec, rfl⟩ := HO.out.isSlice
        clear hD7 hB7 HO
        go_wp2_with fail
        refine W.out.mono ?_
        rintro e w8 ⟨vb, X, rfl, hD8, hX8, hO8, ho8, hv8⟩
        have HB8 := Lib.hid (HBW.out.trans ((HB7.out.trans (hO8.to (B := U.heap.size) (fun j hj => by
          have h3 : j = W6.heap.size := hj
          have := HB6.out.size
          omega) (by have := HB7.out.size; omega))).mono HBW.out.size))
        have DN := Lib.hid (done_any w8 hD8)
        rw [decide_eq_false (by rw [LO.out.2.2]; decide)] at DN
        obtain ⟨za, zc, rfl⟩ := ho8.isSlice
        rw [zer_len, show errV 5 = .iface 41 (.int .i64 5) from rfl]
        clear W hD8 hX8 hO8 ho8 hv8 hs7
        go_wp2_with fail
        refine (is_errno 5 (by decide) _).mono ?_
        rintro e w' ⟨rfl, rfl⟩
        go_wp2_with fail
        refine (is_errno 5 (by decide) _).mono ?_
        rintro e w' ⟨rfl, rfl⟩
        go_wp2_with fail
        refine DN.out.mono ?_
        rintro e w' ⟨rfl, rfl⟩
        go_wp2_with fail
        go_ret
        exact ⟨rfl, HB8.out⟩
end Go.Proofs.YthlfhbhjiofneaaDoor
