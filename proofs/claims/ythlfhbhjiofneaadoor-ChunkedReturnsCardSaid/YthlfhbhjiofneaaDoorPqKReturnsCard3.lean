import Derived.Test.YthlfhbhjiofneaaDoorFAll
import Derived.Test.YthlfhbhjiofneaaDoorFOwn
import Derived.Deep.QuietTactic
import Derived.BigQuiet
import Derived.Test.YthlfhbhjiofneaaDoorKDone
import Derived.Test.YthlfhbhjiofneaaDoorPqKReturnsCard1
import Derived.IntWalk
import Derived.Deep.RegionWith
import Derived.BigRegion
import Derived.Test.YthlfhbhjiofneaaDoorPqKReturnsCard2
import Derived.Test.YthlfhbhjiofneaaDoorScan
import Derived.Lib.Hide
import Derived.Test.YthlfhbhjiofneaaDoorNum
import Derived.Test.YthlfhbhjiofneaaDoorKParts
import Derived.Deep.DeepCutAuto
/- What Are returns: whether two lists of fields are the same. -/
namespace Go.Proofs.YthlfhbhjiofneaaDoor
open Go.RowKit

theorem same_step {la lb : Flds} {k : Nat} {l : List UInt8 × List UInt8} (h : la.take k = lb.take k) (ha : la[k]? = some l) (hb : lb[k]? = some l) : la.take (k + 1) = lb.take (k + 1) := by
  rw [List.take_add_one, List.take_add_one, h, ha, hb]
theorem same_no {la lb : Flds} {k : Nat} {l m : List UInt8 × List UInt8} (ha : la[k]? = some l) (hb : lb[k]? = some m) (h : l ≠ m) : false = decide (la = lb) := by
  rw [eq_comm, decide_eq_false_iff_not]; intro e; rw [e, hb] at ha; simp at ha; exact h ha.symm
theorem same_end {la lb : Flds} {k : Nat} (h : la.take k = lb.take k) (ha : la.length ≤ k) (hb : lb.length ≤ k) : true = decide (la = lb) := by
  rw [List.take_of_length_le ha, List.take_of_length_le hb] at h; simp [h]

end Go.Proofs.YthlfhbhjiofneaaDoor

/- ChunkedCuts: for all parts the statement's function returns true: the walk. -/
namespace Go.Proofs.YthlfhbhjiofneaaDoor
open Go.RowKit

/-- All parts, one after the other. -/
def flatK (ls : List (List UInt8)) : List UInt8 := ls.flatten
theorem flatK_len (ls : List (List UInt8)) : (flatK ls).length = sumL ls := sumL_flat ls
theorem flatK_more {ls : List (List UInt8)} {k : Nat} {l : List UInt8} (h : ls[k]? = some l) : flatK (ls.take (k + 1)) = flatK (ls.take k) ++ l := by
  unfold flatK; rw [moreK_at h, List.flatten_append, List.flatten_singleton]
/-- What a decoder makes of the first k parts. -/
def cutD (ls : List (List UInt8)) (k : Nat) : Dc × List UInt8 × Nat := wrD Dc.new (flatK (ls.take k))
theorem cutD_more {ls : List (List UInt8)} {k : Nat} {l : List UInt8} (h : ls[k]? = some l) :
    cutD ls (k + 1) = ((wrD (cutD ls k).1 l).1, (cutD ls k).2.1 ++ (wrD (cutD ls k).1 l).2.1, (cutD ls k).2.2 + (wrD (cutD ls k).1 l).2.2) := by
  unfold cutD
  rw [flatK_more h, wrD_app]
theorem cutD_le {ls : List (List UInt8)} (k : Nat) (h : sumL ls ≤ 12000) : (cutD ls k).2.2 ≤ 12000 ∧ (cutD ls k).2.1.length ≤ 12000 := by
  have h1 := wrD_len (flatK (ls.take k)) Dc.new
  have h2 := flatK_len (ls.take k)
  have h3 := sumL_take_le ls k
  unfold cutD; omega
theorem cutD_ok (ls : List (List UInt8)) (k : Nat) : (cutD ls k).1.Ok := wrD_ok _ ok_new
theorem num_errK (c : Nat) (w : World) : Calls Tryd.prog 30 #[errV c] w fun e w' => e = .returned (.int .i64 c) ∧ w = w' := by
  unfold errV
  by_cases h : c = 0
  · rw [if_pos h]; subst h; exact num_nil w
  · rw [if_neg h]; exact num_errno c w
theorem MaxB.mono {B C : Nat} {w : World} (h : MaxB B w) (hC : B ≤ C) : MaxB C w := ⟨h.1, Nat.lt_of_lt_of_le h.2 hC⟩
def CutRel (ls : List (List UInt8)) (P : Nat) (w4 : World) (v t c i : Value) (wr : World) : Prop :=
  ∃ (k : Nat) (X : Nat → Prop), i = .int .i64 (k : Int) ∧ k ≤ ls.length ∧ Dec P P X (cutD ls k).1 wr ∧ (∀ j, X j → j = P ∨ w4.heap.size ≤ j) ∧ OwnB w4.heap.size wr v (cutD ls k).2.1 ∧ (∀ j, v.ownBlock = some j → ¬ X j) ∧ t = .int .i64 ((cutD ls k).2.2 : Int) ∧ c = .int .i64 ((cutD ls k).1.er : Int) ∧ Only (fun j => j = P) w4 wr
/-- A round of the second loop: what the relation needs behind the append. -/
theorem cut_more {ls : List (List UInt8)} {P k : Nat} {l : List UInt8} {w4 wr w5 w6 : World} {X X3 : Nat → Prop} {v v' : Value} (hl : ls[k]? = some l) (hk : k < ls.length) (hX : ∀ j, X j → j = P ∨ w4.heap.size ≤ j) (ho : OwnB w4.heap.size wr v (cutD ls k).2.1) (hv : ∀ j, v.ownBlock = some j → ¬ X j) (hOn : Only (fun j => j = P) w4 wr)
    (hD3 : Dec P P X3 (wrD (cutD ls k).1 l).1 w5) (hX3 : ∀ j, X3 j → X j ∨ wr.heap.size ≤ j) (hO3 : Only X wr w5) (hO6 : OwnB w4.heap.size w6 v' ((cutD ls k).2.1 ++ (wrD (cutD ls k).1 l).2.1)) (hg : w5.grownBy w6 v.ownBlock) (hat : v'.ownBlock = v.ownBlock ∨ v'.ownBlock = some w5.heap.size) :
    CutRel ls P w4 v' (.int .i64 (((cutD ls k).2.2 : Int) + ((wrD (cutD ls k).1 l).2.2 : Int))) (.int .i64 ((wrD (cutD ls k).1 l).1.er : Int)) (.int .i64 ((k : Int) + 1)) w6 := by
  have hm := cutD_more hl
  have hs4 := hOn.size
  have hlt : ∀ j, v.ownBlock = some j → w4.heap.size ≤ j ∧ j < wr.heap.size := fun j hj => World.ownsRow.lt ho j hj
  have hgr : Only (fun j => v.ownBlock = some j) w5 w6 := Only.grown hg fun j hj => .inl hj
  refine ⟨k + 1, X3, by go_num, by omega, ?_, ?_, ?_, ?_, ?_, ?_, ?_⟩
  · rw [hm]
    refine hD3.only hgr fun j h1 h2 => ?_
    rcases hX3 j h1 with h | h
    · exact hv j h2 h
    · have := (hlt j h2).2; omega
  · intro j hj
    rcases hX3 j hj with h | h
    · exact hX j h
    · exact .inr (by omega)
  · rw [hm]; exact hO6
  · intro j h1 h2
    rcases hat with e | e
    · rcases hX3 j h2 with h | h
      · exact hv j (e ▸ h1) h
      · have := (hlt j (e ▸ h1)).2; omega
    · rw [e] at h1
      have := Option.some.inj h1
      have := (hD3.lt.2.2 j h2).2
      omega
  · rw [hm]; go_num
  · rw [hm]
  · exact (hOn.trans hO3 hX).trans hgr fun j hj => .inr (hlt j hj).1
end Go.Proofs.YthlfhbhjiofneaaDoor

/- What the statements of layer 6 ask of a list of fields (fits); the statements' Fields, Request and Response. -/
namespace Go.Proofs.YthlfhbhjiofneaaDoor
open Go.RowKit

/-- How many bytes the names and values of a list have. -/
def totL (ps : Flds) : Nat := ps.foldr (fun p n => p.1.length + p.2.length + n) 0
theorem tot_app (ps qs : Flds) : totL (ps ++ qs) = totL ps + totL qs := by
  induction ps with
  | nil => simp [totL]
  | cons p r ih => unfold totL at *; rw [List.cons_append, List.foldr_cons, List.foldr_cons, ih]; omega
theorem tot_more {ps : Flds} {k : Nat} {p : List UInt8 × List UInt8} (h : ps[k]? = some p) : totL (ps.take (k + 1)) = totL (ps.take k) + (p.1.length + p.2.length) := by
  rw [take_more h, tot_app]; simp [totL]
theorem tot_le {ps : Flds} {M : Nat} (hb : ∀ p ∈ ps, p.1.length ≤ M ∧ p.2.length ≤ M) (k : Nat) : totL (ps.take k) ≤ k * (M + M) := by
  induction k with
  | zero => simp [totL]
  | succ k ih =>
    cases hp : ps[k]? with
    | none =>
      have e : ps.take (k + 1) = ps.take k := by rw [List.take_add_one, hp]; simp
      rw [e]; exact Nat.le_trans ih (Nat.mul_le_mul_right _ (Nat.le_succ k))
    | some p =>
      rw [tot_more hp, Nat.succ_mul]
      have := hb p (List.mem_of_getElem? hp)
      omega
theorem tot_mem {ps : Flds} {p : List UInt8 × List UInt8} (h : p ∈ ps) : p.1.length + p.2.length ≤ totL ps := by
  induction ps with
  | nil => cases h
  | cons q r ih =>
    have e : totL (q :: r) = q.1.length + q.2.length + totL r := rfl
    rcases List.mem_cons.1 h with rfl | h
    · omega
    · have := ih h; omega
def fits6B (ps : Flds) : Bool := decide (ps.length ≤ 80 ∧ totL ps ≤ 4000)
theorem fits6_yes {ps : Flds} (h : fits6B ps = true) : ps.length ≤ 80 ∧ totL ps ≤ 4000 := of_decide_eq_true h
set_option maxHeartbeats 2000000 in
set_option maxRecDepth 100000 in
theorem fields_any (lv : Value) (ps : Flds) (w : World) (hr : ReadsQ w lv ps) (hl : ps.length ≤ 1000) (hb : ∀ p ∈ ps, p.1.length + p.2.length ≤ 1000000) :
    Calls Tryd.prog 14 #[lv] w fun e w' => ∃ v, e = .returned v ∧ OwnsP 52 w.heap.size w' v ps ∧ Below w.heap.size w w' := by
  obtain ⟨i0, hi, hz0, hz1, hz2⟩ := info_parts Tryd.infoF
  obtain ⟨ao, cap, rfl, hc⟩ := hr
  have HC := Lib.hid hc
  have HBig := Lib.hid hb
  clear hc hb
  go_enter Tryd.func14, Tryd.ntmps14
  go_wp2_with fail
  go_loopw [3, 8] (fun v i wr => ∃ k : Nat, i = .int .i64 k ∧ k ≤ ps.length ∧ OwnsP 52 w.heap.size wr v (ps.take k) ∧ Below w.heap.size w wr) (fun _ i _ => ps.length - (intOf i).toNat)
  case atStart => exact ⟨0, rfl, Nat.zero_le _, OwnsP.nil _ _ _, Below.refl _ _⟩
  case round =>
    obtain ⟨k, rfl, hk, hO, hBr⟩ := hrel
    have hbr := hBr.size
    by_cases hlt : k < ps.length
    · obtain ⟨p, hp⟩ : ∃ p, ps[k]? = some p := ⟨ps[k], by simp [hlt]⟩
      obtain ⟨g, off, rfl, hg1, h1, h2⟩ := HC.out k p hp
      have hc1 : wr.cell? ⟨g, off + k * 2, none⟩ = some (.string (strB p.1)) := (hBr.cell (p := ⟨g, off + k * 2, none⟩) hg1).trans h1
      have hc2 : wr.cell? ⟨g, off + k * 2 + 1, none⟩ = some (.string (strB p.2)) := (hBr.cell (p := ⟨g, off + k * 2 + 1, none⟩) hg1).trans h2
      have HP := Lib.hid hp
      clear hp h1 h2
      have hlen : (ps.take k).length = k := by simp; omega
      have HLen := Lib.hid hlen
      clear hlen
      go_wp2_with (at_builtin; refine wpList_append_own _ rfl _ _ 37 rfl w.heap.size 52 i0 (.agg #[.string ByteArray.empty, .string ByteArray.empty]) 2 32 Tryd.underlying37 hi hz0 hz1 hz2 rfl (by decide) _ _ _ rfl ((World.ownsRow.alloc hO _).alloc _) ⟨wr.heap.size + 1, 0, none⟩ 1 1 [strV p.1, strV p.2] rfl rfl (two_new' wr p.1 p.2 _ _) (fun u hu => by simp at hu; rcases hu with rfl | rfl <;> rfl) (by rw [HLen.out]; unfold maxLen; omega) (by rw [HLen.out]; omega) (by simp; omega) ?_; intro v' w4 hown' hgrow _)
      go_roundw
      case rel => exact ⟨k + 1, by go_num, by omega, own_more HP.out hown', below_appendP hBr hbr (below_new wr _) hO hgrow⟩
      case measure => simp [intOf]; omega
    · have htk : ps.take k = ps := List.take_of_length_le (by omega)
      rw [htk] at hO
      go_wp2_with fail
      go_ret
      exact ⟨_, rfl, hO, hBr⟩
theorem ownsP_set3 {T : TypeId} {B C g : Nat} {w' : World} {v : Value} {ps : Flds} (h : OwnsP T B w' v ps) (hg : g < B) (hC : C ≤ B) (a b c : Value) :
    OwnsP T C (((w'.setCell ⟨g, 0, none⟩ a).setCell ⟨g, 1, none⟩ b).setCell ⟨g, 2, none⟩ c) v ps := by
  have hn : ∀ k, v.ownBlock ≠ some (⟨g, k, none⟩ : Addr).block := fun k hq => by have := (World.ownsRow.lt h _ hq).1; simp at this; omega
  exact OwnsP.mono hC (ownsRow_setCell_other (ownsRow_setCell_other (ownsRow_setCell_other h (hn 0) a) (hn 1) b) (hn 2) c)
theorem below_set3 {w w' : World} {g : Nat} (h : Below w.heap.size w w') (hg : w.heap.size ≤ g) (a b c : Value) : Below w.heap.size w (((w'.setCell ⟨g, 0, none⟩ a).setCell ⟨g, 1, none⟩ b).setCell ⟨g, 2, none⟩ c) :=
  ((h.setCell (p := ⟨g, 0, none⟩) hg a).setCell (p := ⟨g, 1, none⟩) hg b).setCell (p := ⟨g, 2, none⟩) hg c
theorem ownsP_set2 {T : TypeId} {B C g : Nat} {w' : World} {v : Value} {ps : Flds} (h : OwnsP T B w' v ps) (hg : g < B) (hC : C ≤ B) (a b : Value) :
    OwnsP T C ((w'.setCell ⟨g, 0, none⟩ a).setCell ⟨g, 1, none⟩ b) v ps := by
  have hn : ∀ k, v.ownBlock ≠ some (⟨g, k, none⟩ : Addr).block := fun k hq => by have := (World.ownsRow.lt h _ hq).1; simp at this; omega
  exact OwnsP.mono hC (ownsRow_setCell_other (ownsRow_setCell_other h (hn 0) a) (hn 1) b)
theorem below_set2 {w w' : World} {g : Nat} (h : Below w.heap.size w w') (hg : w.heap.size ≤ g) (a b : Value) : Below w.heap.size w ((w'.setCell ⟨g, 0, none⟩ a).setCell ⟨g, 1, none⟩ b) :=
  (h.setCell (p := ⟨g, 0, none⟩) hg a).setCell (p := ⟨g, 1, none⟩) hg b
end Go.Proofs.YthlfhbhjiofneaaDoor

/- What the statements of layer 7 ask of a list of fields (few). -/
namespace Go.Proofs.YthlfhbhjiofneaaDoor
open Go.RowKit

def few7B (ps : Flds) : Bool := decide (ps.length ≤ 80 ∧ totL ps ≤ 12000)
theorem few7_yes {ps : Flds} (h : few7B ps = true) : ps.length ≤ 80 ∧ totL ps ≤ 12000 := of_decide_eq_true h
set_option maxHeartbeats 4000000 in
set_option maxRecDepth 100000 in
theorem few7_any (lv : Value) (ps : Flds) (w : World) (hr : ReadsQ w lv ps) (hl : ps.length ≤ 9223372036854775807) (hb : ∀ p ∈ ps, p.1.length ≤ 140737488355328 ∧ p.2.length ≤ 140737488355328) :
    Calls Tryd.prog 8 #[lv] w fun e w' => e = .returned (.bool (few7B ps)) ∧ Below w.heap.size w w' := by
  obtain ⟨ao, cap, rfl, hc⟩ := hr
  have hs := tot_le hb
  have HC := Lib.hid hc
  have HBig := Lib.hid hb
  have HS := Lib.hid hs
  clear hc hb hs
  by_cases h70 : ps.length ≤ 80
  · go_enter Tryd.func8, Tryd.ntmps8
    go_wp2_with fail
    go_loopw [3, 4] (fun v i wr => ∃ k : Nat, i = .int .i64 k ∧ k ≤ ps.length ∧ v = .int .i64 (totL (ps.take k)) ∧ Below w.heap.size w wr) (fun _ i _ => ps.length - (intOf i).toNat)
    case atStart => exact ⟨0, rfl, Nat.zero_le _, rfl, Below.refl _ _⟩
    case round =>
      obtain ⟨k, rfl, hk, rfl, hBr⟩ := hrel
      have hsk : totL (ps.take k) ≤ 80 * (140737488355328 + 140737488355328) := Nat.le_trans (HS.out k) (Nat.mul_le_mul_right _ (by omega))
      by_cases hlt : k < ps.length
      · obtain ⟨p, hp⟩ : ∃ p, ps[k]? = some p := ⟨ps[k], by simp [hlt]⟩
        obtain ⟨g, off, rfl, hg1, h1, h2⟩ := HC.out k p hp
        have hc1 : wr.cell? ⟨g, off + k * 2, none⟩ = some (.string (strB p.1)) := (hBr.cell (p := ⟨g, off + k * 2, none⟩) hg1).trans h1
        have hc2 : wr.cell? ⟨g, off + k * 2 + 1, none⟩ = some (.string (strB p.2)) := (hBr.cell (p := ⟨g, off + k * 2 + 1, none⟩) hg1).trans h2
        have hpl := HBig.out p (List.mem_of_getElem? hp)
        have e1 : (strB p.1).size = p.1.length := strB_size _
        have e2 : (strB p.2).size = p.2.length := strB_size _
        have HM := Lib.hid (tot_more hp)
        clear hp h1 h2
        have hw1 : IntKind.i64.wrap ((p.1.length : Int) + (p.2.length : Int)) = (p.1.length : Int) + (p.2.length : Int) := IntWalk.i64_in _ (by omega)
        have hw2 : IntKind.i64.wrap ((totL (ps.take k) : Int) + ((p.1.length : Int) + (p.2.length : Int))) = (totL (ps.take k) : Int) + ((p.1.length : Int) + (p.2.length : Int)) := IntWalk.i64_in _ (by omega)
        go_wp2
        go_quiet (fail)
        go_wp2
        clear hw1 hw2
        go_roundw
        case rel => exact ⟨k + 1, by go_num, by omega, by rw [HM.out]; congr 1, below_drewN hBr _⟩
        case measure => simp [intOf]; omega
      · have htk : ps.take k = ps := List.take_of_length_le (by omega)
        rw [htk] at hsk ⊢
        by_cases h6 : totL ps ≤ 12000
        · have hf : few7B ps = true := decide_eq_true ⟨h70, h6⟩
          have HF := Lib.hid hf
          clear hf
          have hd : decide ((totL ps : Int) ≤ 12000) = true := decide_eq_true (by omega)
          go_wp2_with fail
          go_ret
          exact ⟨by rw [HF.out]; rfl, hBr⟩
        · have hf : few7B ps = false := decide_eq_false (fun h => h6 h.2)
          have HF := Lib.hid hf
          clear hf
          have hd : decide ((totL ps : Int) ≤ 12000) = false := decide_eq_false (by omega)
          go_wp2_with fail
          go_ret
          exact ⟨by rw [HF.out]; rfl, hBr⟩
  · have hsm : few7B ps = false := decide_eq_false fun h => h70 h.1
    rw [hsm]
    go_enter Tryd.func8, Tryd.ntmps8
    go_wp2_with fail
    go_loopw [3, 4] (fun v i wr => ∃ (k : Nat) (z : Int), i = .int .i64 k ∧ k ≤ ps.length ∧ v = .int .i64 z ∧ Below w.heap.size w wr) (fun _ i _ => ps.length - (intOf i).toNat)
    case atStart => exact ⟨0, 0, rfl, Nat.zero_le _, rfl, Below.refl _ _⟩
    case round =>
      obtain ⟨k, z, rfl, hk, rfl, hBr⟩ := hrel
      by_cases hlt : k < ps.length
      · obtain ⟨p, hp⟩ : ∃ p, ps[k]? = some p := ⟨ps[k], by simp [hlt]⟩
        obtain ⟨g, off, rfl, hg1, h1, h2⟩ := HC.out k p hp
        have hc1 : wr.cell? ⟨g, off + k * 2, none⟩ = some (.string (strB p.1)) := (hBr.cell (p := ⟨g, off + k * 2, none⟩) hg1).trans h1
        have hc2 : wr.cell? ⟨g, off + k * 2 + 1, none⟩ = some (.string (strB p.2)) := (hBr.cell (p := ⟨g, off + k * 2 + 1, none⟩) hg1).trans h2
        have hpl := HBig.out p (List.mem_of_getElem? hp)
        have e1 : (strB p.1).size = p.1.length := strB_size _
        have e2 : (strB p.2).size = p.2.length := strB_size _
        clear hp h1 h2
        have hw1 : IntKind.i64.wrap ((p.1.length : Int) + (p.2.length : Int)) = (p.1.length : Int) + (p.2.length : Int) := IntWalk.i64_in _ (by omega)
        go_wp2
        go_quiet (fail)
        go_wp2
        clear hw1
        go_roundw
        case rel => exact ⟨k + 1, _, by go_num, by omega, rfl, below_drewN hBr _⟩
        case measure => simp [intOf]; omega
      · go_wp2_with fail
        go_ret
        exact ⟨rfl, hBr⟩
end Go.Proofs.YthlfhbhjiofneaaDoor

/- ChunkedReturns: what its walk carries through its loops. -/
namespace Go.Proofs.YthlfhbhjiofneaaDoor
open Go.RowKit

/-- What a decoder makes of the first i bytes. -/
def preD (E : List UInt8) (i : Nat) : Dc × List UInt8 × Nat := wrD Dc.new (E.take i)
theorem preD_more {E : List UInt8} {i : Nat} {c : UInt8} (h : E[i]? = some c) :
    preD E (i + 1) = ((wrD (preD E i).1 [c]).1, (preD E i).2.1 ++ (wrD (preD E i).1 [c]).2.1, (preD E i).2.2 + (wrD (preD E i).1 [c]).2.2) := by
  unfold preD
  rw [show E.take (i + 1) = E.take i ++ [c] by rw [List.take_add_one, h]; rfl, wrD_app]
theorem preD_ok (E : List UInt8) (i : Nat) : (preD E i).1.Ok := wrD_ok _ ok_new
theorem preD_len (E : List UInt8) (i : Nat) : (preD E i).2.1.length ≤ E.length := by
  have h := wrD_len (E.take i) Dc.new
  have : (E.take i).length ≤ E.length := by simp; omega
  unfold preD; omega
/-- What is known of a body: it is taken whole. -/
structure Whole7 (E out : List UInt8) (trs : List (List UInt8 × List UInt8)) : Prop where
  er : (wrD Dc.new E).1.er = 0
  pl : (wrD Dc.new E).1.pl = 8
  tr : (wrD Dc.new E).1.trs = trs
  two : (wrD Dc.new E).2 = (out, E.length)
theorem Whole7.at {E out : List UInt8} {trs : List (List UInt8 × List UInt8)} (h : Whole7 E out trs) {i : Nat} (hi : i < E.length) : (preD E i).1.er = 0 ∧ (preD E i).1.pl ≠ 8 ∧ (preD E i).2.2 = i :=
  wrD_before h.er (by rw [h.two]) hi
theorem Whole7.next {E out : List UInt8} {trs : List (List UInt8 × List UInt8)} (h : Whole7 E out trs) {i : Nat} {c : UInt8} (hc : E[i]? = some c) : (wrD (preD E i).1 [c]).1.er = 0 ∧ (wrD (preD E i).1 [c]).2.2 = 1 := by
  have hi : i < E.length := (List.getElem?_eq_some_iff.mp hc).1
  have h0 := (h.at hi).2.2
  have hm := preD_more hc
  have h1 : (preD E (i + 1)).1.er = 0 ∧ (preD E (i + 1)).2.2 = i + 1 := by
    by_cases hl : i + 1 < E.length
    · exact ⟨(h.at hl).1, (h.at hl).2.2⟩
    · have : E.take (i + 1) = E := List.take_of_length_le (by omega)
      unfold preD
      rw [this, h.two]
      exact ⟨h.er, by simp only; omega⟩
  rw [hm] at h1
  simp only at h1
  exact ⟨h1.1, by omega⟩
theorem Whole7.over {E out : List UInt8} {trs : List (List UInt8 × List UInt8)} (h : Whole7 E out trs) (r : List UInt8) : wrD Dc.new (E ++ r) = wrD Dc.new E := wrD_over h.pl r
theorem whole7_of {ls : List (List UInt8)} {ts : Flds} (hs : sumL ls ≤ 65536) (hok : okLast ts = true) : Whole7 (encL ls ts) (flatK ls) (ts.map lowP) := by
  unfold okLast at hok
  simp only [Bool.and_eq_true, decide_eq_true_eq, List.all_eq_true] at hok
  obtain ⟨h64, h92, hg⟩ := hok
  obtain ⟨a, b, c, d⟩ := wrD_enc (ls := ls) (ts := ts) (by rw [sumL_flat]; exact hs) (fun p hp => goodTr_of (hg p hp)) h64 (by rw [← siz_lines]; exact h92)
  exact ⟨a, b, c, d⟩
theorem okLast_good {ts : Flds} (h : okLast ts = true) : ∀ p ∈ ts, GoodTr p := by
  unfold okLast at h
  simp only [Bool.and_eq_true, decide_eq_true_eq, List.all_eq_true] at h
  exact fun p hp => goodTr_of (h.2.2 p hp)
def RetRel (E : List UInt8) (P : Nat) (w4 : World) (v i : Value) (wr : World) : Prop :=
  ∃ (k : Nat) (X : Nat → Prop), i = .int .i64 (k : Int) ∧ k ≤ E.length ∧ Dec P P X (preD E k).1 wr ∧ (∀ j, X j → j = P ∨ w4.heap.size ≤ j) ∧ OwnB w4.heap.size wr v (preD E k).2.1 ∧ (∀ j, v.ownBlock = some j → ¬ X j) ∧ Only (fun j => j = P) w4 wr
/-- A round of the loop over the bytes: what the relation needs behind the append. -/
theorem ret_more {E : List UInt8} {P k : Nat} {c : UInt8} {w4 wr w5 w6 : World} {X X3 : Nat → Prop} {v v' : Value} (hl : E[k]? = some c) (hX : ∀ j, X j → j = P ∨ w4.heap.size ≤ j) (ho : OwnB w4.heap.size wr v (preD E k).2.1) (hv : ∀ j, v.ownBlock = some j → ¬ X j) (hOn : Only (fun j => j = P) w4 wr)
    (hD3 : Dec P P X3 (wrD (preD E k).1 [c]).1 w5) (hX3 : ∀ j, X3 j → X j ∨ wr.heap.size ≤ j) (hO3 : Only X wr w5) (hO6 : OwnB w4.heap.size w6 v' ((preD E k).2.1 ++ (wrD (preD E k).1 [c]).2.1)) (hg : w5.grownBy w6 v.ownBlock) (hat : v'.ownBlock = v.ownBlock ∨ v'.ownBlock = some w5.heap.size) :
    RetRel E P w4 v' (.int .i64 ((k : Int) + 1)) w6 := by
  have hk : k < E.length := (List.getElem?_eq_some_iff.mp hl).1
  have hm := preD_more hl
  have hs4 := hOn.size
  have hlt : ∀ j, v.ownBlock = some j → w4.heap.size ≤ j ∧ j < wr.heap.size := fun j hj => World.ownsRow.lt ho j hj
  have hgr : Only (fun j => v.ownBlock = some j) w5 w6 := Only.grown hg fun j hj => .inl hj
  refine ⟨k + 1, X3, by go_num, by omega, ?_, ?_, ?_, ?_, ?_⟩
  · rw [hm]
    refine hD3.only hgr fun j h1 h2 => ?_
    rcases hX3 j h1 with h | h
    · exact hv j h2 h
    · have := (hlt j h2).2; omega
  · intro j hj
    rcases hX3 j hj with h | h
    · exact hX j h
    · exact .inr (by omega)
  · rw [hm]; exact hO6
  · intro j h1 h2
    rcases hat with e | e
    · rcases hX3 j h2 with h | h
      · exact hv j (e ▸ h1) h
      · have := (hlt j (e ▸ h1)).2; omega
    · rw [e] at h1
      have := Option.some.inj h1
      have := (hD3.lt.2.2 j h2).2
      omega
  · exact (hOn.trans hO3 hX).trans hgr fun j hj => .inr (hlt j hj).1
theorem own_form6 {B : Nat} {v : Value} {w : World} {l : List UInt8} (h : OwnB B w v l) (hne : l ≠ []) : ∃ g cap, v = .slice (some ⟨g, 0, none⟩) l.length cap ∧ l.length ≤ cap ∧ cap ≤ maxLen ∧ B ≤ g ∧ g < w.heap.size := by
  have hlt := World.ownsRow.lt h
  obtain ⟨_, ⟨_, hh⟩ | ⟨g, cap, cur, hv, _, _, h1, h2, _⟩⟩ := h
  · exact absurd (List.eq_nil_of_length_eq_zero hh) hne
  · exact ⟨g, cap, hv, h1, h2, hlt g (by rw [hv]; rfl)⟩
theorem enc_ne (ls : List (List UInt8)) (ts : Flds) : encL ls ts ≠ [] := by unfold encL lastL; simp
end Go.Proofs.YthlfhbhjiofneaaDoor

/- What the code's Number returns, for every string. -/
namespace Go.Proofs.YthlfhbhjiofneaaDoor
open Go.RowKit

def allDig (s : ByteArray) (k : Nat) : Prop := (s.data.toList.take k).all digB = true
theorem allDig0 (s : ByteArray) : allDig s 0 := by simp [allDig]
theorem allDig_step {s : ByteArray} {k : Nat} (h : k < s.size) (hn : allDig s k) (hb : digB s[k] = true) : allDig s (k + 1) := by
  unfold allDig at *; rw [take_snoc s k h, List.all_append, hn]; simp [hb]
def numV (l : List UInt8) : Nat := l.foldl (fun n c => 10 * n + (c.toNat - 48)) 0
theorem numV_snoc (l : List UInt8) (c : UInt8) : numV (l ++ [c]) = 10 * numV l + (c.toNat - 48) := by simp [numV]
theorem fold_lt : ∀ (l : List UInt8) (a : Nat), l.all digB = true → l.foldl (fun n c => 10 * n + (c.toNat - 48)) a < (a + 1) * 10 ^ l.length := by
  intro l
  induction l with
  | nil => intro a _; simp
  | cons c t ih =>
    intro a h
    simp only [List.all_cons, Bool.and_eq_true] at h
    have hc := h.1
    simp [digB] at hc
    have := ih (10 * a + (c.toNat - 48)) h.2
    rw [List.foldl_cons, List.length_cons, Nat.pow_succ]
    refine Nat.lt_of_lt_of_le this ?_
    have e : (a + 1) * (10 ^ t.length * 10) = (10 * (a + 1)) * 10 ^ t.length := by
      rw [← Nat.mul_assoc, Nat.mul_right_comm, Nat.mul_comm (a + 1) 10]
    rw [e]
    exact Nat.mul_le_mul_right _ (by omega)
theorem numV_lt (l : List UInt8) (h : l.all digB = true) : numV l < 10 ^ l.length := by
  have := fold_lt l 0 h
  simpa [numV] using this
theorem numV_le (l : List UInt8) (h : l.all digB = true) (hl : l.length ≤ 15) : numV l < 1000000000000000 := by
  have h1 := numV_lt l h
  have h2 : 10 ^ l.length ≤ 10 ^ 15 := Nat.pow_le_pow_right (by omega) hl
  have h3 : (10 : Nat) ^ 15 = 1000000000000000 := by decide
  omega
theorem int_eq {k : IntKind} {a b : Int} (h : a = b) : Value.int k a = Value.int k b := by rw [h]
abbrev errForm' : Value := .iface 41 (.int .i64 2)
abbrev errLarge' : Value := .iface 41 (.int .i64 5)
def numR (s : ByteArray) : Value := if s.size ≤ 15 then .tuple #[.int .i64 (numV s.data.toList), .nilIface] else .tuple #[.int .i64 0, errLarge']
theorem numR_large {s : ByteArray} (h : 15 < s.size) : Ending.returned (.tuple #[.int .i64 0, errLarge']) = .returned (numR s) := by unfold numR; rw [if_neg (by omega)]
theorem numR_small {s : ByteArray} {l : List UInt8} (h : ¬ 15 < s.size) (hl : l = s.data.toList) : Ending.returned (.tuple #[.int .i64 (numV l), .nilIface]) = .returned (numR s) := by unfold numR; rw [if_pos (by omega), hl]
def numGood (s : ByteArray) : Prop := s.data.toList ≠ [] ∧ s.data.toList.all digB = true

theorem digit_not {s : ByteArray} {k : Nat} (h : k < s.size) (hb : ¬ digB s[k] = true) (hg : s.data.toList.all digB = true) : False := by
  rw [List.all_eq_true] at hg
  exact hb (hg _ (get_mem s k h))
theorem digB_of {s : ByteArray} {k : Nat} (h : k < s.size) (hg : s.data.toList.all digB = true) : 48 ≤ s[k].toNat ∧ s[k].toNat ≤ 57 := by
  rw [List.all_eq_true] at hg
  have := hg _ (get_mem s k h)
  simpa [digB] using this

end Go.Proofs.YthlfhbhjiofneaaDoor

/- What Is and Clip return where the statements call them. -/
namespace Go.Proofs.YthlfhbhjiofneaaDoor
open Go.RowKit

set_option maxHeartbeats 400000 in
set_option maxRecDepth 100000 in
theorem is_errno (a : Int) (ha : (a != 0) = true) (w : World) : Calls Tryd.prog 16 #[.iface 41 (.int .i64 a), .int .i64 a] w fun e w' => e = .returned (.bool true) ∧ w = w' := by
  go_enter Tryd.func16, Tryd.ntmps16
  go_wp2_with (go_at_call 30; refine (num_errno _ _).mono ?_; rintro e w' ⟨rfl, rfl⟩)
  go_ret
  exact ⟨rfl, rfl⟩
set_option maxHeartbeats 400000 in
set_option maxRecDepth 100000 in
theorem is_nil (b : Int) (hb : ((0 : Int) == b) = false) (w : World) : Calls Tryd.prog 16 #[.nilIface, .int .i64 b] w fun e w' => e = .returned (.bool false) ∧ w = w' := by
  go_enter Tryd.func16, Tryd.ntmps16
  go_wp2_with (go_at_call 30; refine (num_nil _).mono ?_; rintro e w' ⟨rfl, rfl⟩)
  go_ret
  exact ⟨rfl, rfl⟩
end Go.Proofs.YthlfhbhjiofneaaDoor

/- Small facts that the walks of ChunkedReturns and others share. -/
namespace Go.Proofs.YthlfhbhjiofneaaDoor
open Go.RowKit

theorem siz_tot (ps : Flds) : sizL ps = totL ps + 4 * ps.length := by
  induction ps with
  | nil => rfl
  | cons q r ih =>
    simp only [sizL, totL, List.foldr_cons, List.length_cons] at ih ⊢
    rw [ih]; omega
theorem fits7_yes {ls : List (List UInt8)} (h : fits7B ls = true) : ls.length ≤ 100 ∧ sumL ls ≤ 12000 := of_decide_eq_true h
end Go.Proofs.YthlfhbhjiofneaaDoor

/- ChunkedReturns: for all parts, trailers and bytes behind them the statement's function returns true: the walk. -/
namespace Go.Proofs.YthlfhbhjiofneaaDoor
open Go.RowKit

set_option maxHeartbeats 16000000 in
set_option maxRecDepth 100000 in
theorem ck_returns_walk (pv : Value) (ls : List (List UInt8)) (fv : Value) (ts : Flds) (rv : Value) (rs : List UInt8) (w : World) (hM : HasMax w) (hD : HasDb w) (hp : ReadsL w pv ls) (hpl : ls.length ≤ 9223372036854775807) (hpb : ∀ l ∈ ls, l.length ≤ 140737488355328)
    (hr : ReadsQ w fv ts) (hrl : ts.length ≤ 9223372036854775807) (hrb : ∀ p ∈ ts, p.1.length ≤ 140737488355328 ∧ p.2.length ≤ 140737488355328) (hq : ReadsD w rv rs) :
    Calls Tryd.prog 4 #[pv, fv, rv] w fun e w' => e = .returned (.bool true) ∧ Below w.heap.size w w' := by
  have HM := Lib.hid hM
  have HA := Lib.hid (awake7_any w hM)
  have HF := Lib.hid (fun (W : World) (hb : Below w.heap.size w W) => fits7_any pv ls W (hp.below hb) hpl hpb)
  have HW := Lib.hid (fun (W : World) (hb : Below w.heap.size w W) => few7_any fv ts W (hr.below hb) hrl hrb)
  cases hf : fits7B ls with
  | false =>
    rw [hf] at HF
    obtain ⟨po, pc, rfl, _⟩ := hp
    obtain ⟨fo, fc, rfl, _⟩ := hr
    obtain ⟨ro, rc, rfl, _⟩ := hq
    go_enter Tryd.func4, Tryd.ntmps4
    go_wp2_with fail
    refine HA.out.mono ?_
    rintro e w1 ⟨rfl, hB1⟩
    go_wp2_with fail
    refine (HF.out _ hB1).mono ?_
    rintro e w' ⟨rfl, rfl⟩
    go_wp2_with fail
    refine (awake7_any _ (HM.out.below hB1)).mono ?_
    rintro e w2 ⟨rfl, hB2⟩
    go_wp2_with fail
    go_ret
    exact ⟨rfl, hB1.trans (hB2.mono hB1.size)⟩
  | true =>
    rw [hf] at HF
    obtain ⟨f1, f2⟩ := fits7_yes hf
    cases hw : few7B ts with
    | false =>
      rw [hw] at HW
      obtain ⟨po, pc, rfl, _⟩ := hp
      obtain ⟨fo, fc, rfl, _⟩ := hr
      obtain ⟨ro, rc, rfl, _⟩ := hq
      go_enter Tryd.func4, Tryd.ntmps4
      go_wp2_with fail
      refine HA.out.mono ?_
      rintro e w1 ⟨rfl, hB1⟩
      go_wp2_with fail
      refine (HF.out _ hB1).mono ?_
      rintro e w' ⟨rfl, rfl⟩
      go_wp2_with fail
      refine (HW.out _ hB1).mono ?_
      rintro e w2 ⟨rfl, hB2⟩
      have hB2 := hB1.trans (hB2.mono hB1.size)
      go_wp2_with fail
      refine (awake7_any _ (HM.out.below hB2)).mono ?_
      rintro e w3 ⟨rfl, hB3⟩
      go_wp2_with fail
      go_ret
      exact ⟨rfl, hB2.trans (hB3.mono hB2.size)⟩
    | true =>
      rw [hw] at HW
      by_cases hrs : 12000 < rs.length
      · obtain ⟨po, pc, rfl, _⟩ := hp
        obtain ⟨fo, fc, rfl, _⟩ := hr
        obtain ⟨ro, rc, rfl, _⟩ := hq
        go_enter Tryd.func4, Tryd.ntmps4
        go_wp2_with fail
        refine HA.out.mono ?_
        rintro e w1 ⟨rfl, hB1⟩
        go_wp2_with fail
        refine (HF.out _ hB1).mono ?_
        rintro e w' ⟨rfl, rfl⟩
        go_wp2_with fail
        refine (HW.out _ hB1).mono ?_
        rintro e w2 ⟨rfl, hB2⟩
        have hB2 := hB1.trans (hB2.mono hB1.size)
        go_wp2_with fail
        refine (awake7_any _ (HM.out.below hB2)).mono ?_
        rintro e w3 ⟨rfl, hB3⟩
        go_wp2_with fail
        go_ret
        exact ⟨rfl, hB2.trans (hB3.mono hB2.size)⟩
      · obtain ⟨g1, g2⟩ := few7_yes hw
        have g3 : sizL ts ≤ 12320 := by rw [siz_tot]; omega
        have HP := Lib.hid hp
        have HR := Lib.hid hr
        have HD := Lib.hid hD
        have HQ := Lib.hid hq
        have hb6 : ∀ p ∈ ts, p.1.length + p.2.length ≤ 1000000 := fun p hp => by have := tot_mem hp; omega
        have FD := Lib.hid (fun (W : World) (hb : Below w.heap.size w W) => fields_any fv ts W (hr.below hb) (by omega) hb6)
        have PE := Lib.hid (fun (v : Value) (W : World) (hb : Below w.heap.size w W) (h : ReadsQ W v ts) => encode_any pv v ls ts W (HD.out.below hb) (HP.out.below hb) h (by omega) (by omega) hb6 hpb)
        obtain ⟨po, pc, rfl, hpc⟩ := hp
        obtain ⟨fo, fc, rfl, hfc⟩ := hr
        obtain ⟨ro, rc, rfl, _⟩ := hq
        have HC := Lib.hid hpc
        have HFC := Lib.hid hfc
        clear hpc hfc hf hw hrb hrl hpb hpl hD hM hb6
        go_enter Tryd.func4, Tryd.ntmps4
        go_wp2_with fail
        refine HA.out.mono ?_
        rintro e w1 ⟨rfl, hB1⟩
        go_wp2_with fail
        refine (HF.out _ hB1).mono ?_
        rintro e w' ⟨rfl, rfl⟩
        go_wp2_with fail
        refine (HW.out _ hB1).mono ?_
        rintro e w2 ⟨rfl, hB2⟩
        have HB2 := Lib.hid (hB1.trans (hB2.mono hB1.size))
        clear hB1 hB2 HA HF HW
        go_wp2_with fail
        refine (FD.out _ HB2.out).mono ?_
        rintro e w3 ⟨v3, rfl, hO3, hB3⟩
        have HB3 := Lib.hid (HB2.out.trans (hB3.mono HB2.out.size))
        have HQ3 := Lib.hid hO3.q
        clear hB3 hO3 HB2
        go_wp2_with fail
        refine (PE.out _ _ HB3.out HQ3.out).mono ?_
        rintro e w7 ⟨hcase, hB7⟩
        have HB7 := Lib.hid (HB3.out.trans (hB7.mono HB3.out.size))
        have hs37 := hB7.size
        have hs07 := HB7.out.size
        clear hB7 HQ3 PE FD
        rcases hcase with ⟨hbig, _⟩ | ⟨_, _, rfl⟩ | ⟨_, hok, v7, rfl, hO7⟩
        · exact absurd hbig (by omega)
        · go_wp2_with fail
          go_ret
          exact ⟨rfl, HB7.out⟩
        · have WH := Lib.hid (whole7_of (ls := ls) (by omega) hok)
          have HGD := Lib.hid (okLast_good hok)
          obtain ⟨E, hE⟩ : ∃ E, encL ls ts = E := ⟨_, rfl⟩
          have hEn : E ≠ [] := by rw [← hE]; exact enc_ne _ _
          have hEl : E.length ≤ 40000 := by
            rw [← hE]
            have h1 := chunks_len (ls := ls) (k := ls.length) (Nat.le_refl _) (by rw [List.take_length]; omega)
            rw [List.take_length] at h1
            have h2 := last_len ts
            unfold encL
            rw [List.length_append]
            omega
          rw [hE] at WH hO7
          obtain ⟨ga, ca, rfl, hc1', hc2', hga1, hga2⟩ := own_form6 hO7 hEn
          have HAll := Lib.hid hO7
          clear hE hok hO7
          go_wp2_with fail
          refine (new_any w7).mono ?_
          rintro e w8 ⟨rfl, hD8, hB8, hs8⟩
          have HD8 := Lib.hid hD8
          have HB8 := Lib.hid (HB7.out.trans (hB8.mono HB7.out.size))
          have HA8 := Lib.hid (HAll.out.below hB8)
          have HM8 := Lib.hid (MaxB.to (MaxB.of (HM.out.below HB7.out)) hB8)
          clear hD8 hB8 HAll
          go_wp2_with fail
          go_loopw [10, 12] (fun u i wr => ∃ k : Nat, i = .int .i64 k ∧ k ≤ ls.length ∧ OwnB w8.heap.size wr u (flatK (ls.take k)) ∧ Below w8.heap.size w8 wr) (fun _ i _ => ls.length - (intOf i).toNat)
          case atStart => exact ⟨0, rfl, Nat.zero_le _, OwnB.nil _ _, Below.refl _ _⟩
          case round =>
            obtain ⟨k, rfl, hk, hO, hBr⟩ := hrel
            have hbr := hBr.size
            have HBr := Lib.hid hBr
            have HO := Lib.hid hO
            clear hBr hO
            by_cases hlt : k < ls.length
            · obtain ⟨l, hl⟩ : ∃ l, ls[k]? = some l := ⟨ls[k], by simp [hlt]⟩
              obtain ⟨g, off, x, rfl, hg, hcell, hx⟩ := HC.out k l hl
              have hcx : wr.cell? ⟨g, off + k, none⟩ = some x := ((HB8.out.trans (HBr.out.mono HB8.out.size)).cell (p := ⟨g, off + k, none⟩) hg).trans hcell
              have HX := Lib.hid (hx.below (HB8.out.trans (HBr.out.mono HB8.out.size)))
              have hsl := sumL_mem (List.mem_of_getElem? hl)
              have hsf : (flatK (ls.take k)).length ≤ 12000 := by rw [flatK_len]; exact Nat.le_trans (sumL_take_le ls k) f2
              have HM1 := Lib.hid (flatK_more hl)
              obtain ⟨xa, xc, rfl, _⟩ := hx
              obtain ⟨ua, uc, rfl⟩ := HO.out.isSlice
              clear hl hcell
              go_wp2_with (at_builtin; refine wpList_appendA (by rfl) _ _ (by rfl) _ _ (by rfl) (by rfl) HO.out HX.out (by omega) (by omega) ?_; intro v' w2 hO2 hgrow hat)
              go_roundw
              case rel => exact ⟨k + 1, by go_num, by omega, by rw [HM1.out]; exact hO2, HBr.out.grown hgrow hbr (fun q hq => (World.ownsRow.lt HO.out q hq).1)⟩
              case measure => simp [intOf]; omega
            · have htk : ls.take k = ls := List.take_of_length_le (by omega)
              rw [htk] at HO
              rename World => w9
              obtain ⟨ua, uc, rfl⟩ := HO.out.isSlice
              have HWant := Lib.hid HO.out
              have HWL := Lib.hid (fun j hj => World.ownsRow.lt HO.out j hj)
              have HB9 := Lib.hid (HB8.out.trans (HBr.out.mono HB8.out.size))
              have HA9 := Lib.hid (HA8.out.below HBr.out)
              have HD9 := Lib.hid (HD8.out.below HBr.out)
              have HM9 := Lib.hid (MaxB.to HM8.out (HBr.out.mono (by omega)))
              clear HO htk HBr HD8 HA8 HM8 HB7
              go_wp2_with fail
              go_loopw [11, 13] (fun u i wr => RetRel E w7.heap.size w9 u i wr) (fun _ i _ => E.length - (intOf i).toNat)
              case atStart => exact ⟨0, fun j => j = w7.heap.size, rfl, Nat.zero_le _, HD9.out, fun _ h => .inl h, OwnB.nil _ _, fun j hj => (by cases hj), Only.refl _ _⟩
              case round =>
                obtain ⟨i, X, rfl, hi, hD, hX, ho, hv, hOn⟩ := hrel
                have HX := Lib.hid hX
                have HV := Lib.hid hv
                have HOn := Lib.hid hOn
                have HGot := Lib.hid ho
                have HDx := Lib.hid hD
                have hs9 := hOn.size
                clear hX hv hOn ho hD
                by_cases hlt2 : i < E.length
                · obtain ⟨c, hc⟩ : ∃ c, E[i]? = some c := ⟨E[i], by simp [hlt2]⟩
                  have h0 := WH.out.at hlt2
                  have h1 := WH.out.next hc
                  have DN := Lib.hid (done_any wr HDx.out)
                  rw [decide_eq_false h0.2.1] at DN
                  have TR := trailers_any wr HDx.out (preD_ok E i).b8
                  have hout : (preD E i).1.out = [] := by unfold Dc.out; rw [if_neg h0.2.1]
                  rw [hout] at TR
                  have TR := Lib.hid TR
                  have HC1 := Lib.hid hc
                  have HN1 := Lib.hid h1
                  have hic : i < ca := by omega
                  have hic1 : i + 1 ≤ ca := by omega
                  clear hc h0 h1 hout
                  go_wp2_with fail
                  refine DN.out.mono ?_
                  rintro e w' ⟨rfl, rfl⟩
                  go_wp2_with fail
                  refine TR.out.mono ?_
                  rintro e wt ⟨tv, rfl, hOt, hBt⟩
                  obtain ⟨ta, tc, rfl⟩ := len_trs hOt
                  have HBt := Lib.hid hBt
                  have HDt := Lib.hid (HDx.out.below hBt)
                  have HGt := Lib.hid (HGot.out.below hBt)
                  have HOt := Lib.hid (HOn.out.trans' (Only.below hBt))
                  clear hOt hBt DN TR HDx HGot HOn
                  go_wp2_with fail
                  have HAt := Lib.hid (HA9.out.only HOt.out (fun j h1 h2 => by
                    have : ga = j := by simpa [Value.ownBlock] using h1
                    omega))
                  have hrd := reads_cutB HAt.out.reads i 1 (ca - i) (by omega) (by omega) (by omega)
                  rw [Nat.zero_add, show (E.drop i).take 1 = [c] by rw [List.drop_eq_getElem_cons hlt2]; have := HC1.out; rw [List.getElem?_eq_getElem hlt2] at this; rw [Option.some.inj this]; rfl] at hrd
                  have W := decWrite_any (.slice (some ⟨ga, i, none⟩) 1 (ca - i)) [c] wt HDt.out (HM9.out.to (HOt.out.to (B := w7.heap.size) (fun j hj => by omega) (by have := HB9.out.size; omega))) (preD_ok E i) hrd (fun _ j h1 h2 => by
                    have : ga = j := by simpa [Value.ownBlock] using h1
                    rcases HX.out j h2 with h | h <;> omega) (by simp)
                  have W := Lib.hid W
                  obtain ⟨ya, yc, rfl⟩ := HGt.out.isSlice
                  clear hrd
                  refine W.out.mono ?_
                  rintro e w5 ⟨vb, X3, rfl, hD3, hX3, hO3, ho3, hv3⟩
                  have HD3 := Lib.hid hD3
                  have HX3 := Lib.hid hX3
                  have HO3 := Lib.hid hO3
                  have HG5 := Lib.hid (HGt.out.only hO3 HV.out)
                  have HBody := Lib.hid ho3.reads
                  have hs5 := hO3.size
                  have hl1 := preD_len E i
                  have hl2 := (wrD_len [c] (preD E i).1).2
                  obtain ⟨ba, bc, rfl⟩ := ho3.isSlice
                  rw [HN1.out.1, HN1.out.2, show errV 0 = .nilIface from rfl]
                  rw [HN1.out.2] at hl2
                  clear hD3 hX3 hO3 ho3 hv3 W
                  have hs9t := HOt.out.size
                  go_wp2_with (at_builtin; refine wpList_appendA (by rfl) _ _ (by rfl) _ _ (by rfl) (by rfl) HG5.out HBody.out (by omega) (by omega) ?_; intro v6 w6 hO6 hgrow hat)
                  go_roundw
                  case rel => exact ret_more HC1.out HX.out HGt.out HV.out HOt.out HD3.out HX3.out HO3.out hO6 hgrow hat
                  case measure => simp [intOf]; omega
                · have hpd : preD E i = wrD Dc.new E := by unfold preD; rw [List.take_of_length_le (by omega)]
                  have hok9 := preD_ok E i
                  rw [hpd] at HDx HGot hok9
                  rename World => wz
                  have DN := Lib.hid (done_any wz HDx.out)
                  rw [decide_eq_true WH.out.pl] at DN
                  have TR := trailers_any wz HDx.out hok9.b8
                  rw [show (wrD Dc.new E).1.out = ts.map lowP by unfold Dc.out; rw [if_pos WH.out.pl, WH.out.tr]] at TR
                  have TR := Lib.hid TR
                  have HOK9 := Lib.hid hok9
                  rw [WH.out.two] at HGot
                  have HBz := Lib.hid (HB9.out.trans (HOn.out.to (B := w.heap.size) (fun j hj => by omega) (by have := HB9.out.size; omega)))
                  have HWz := Lib.hid (HWant.out.only HOn.out (fun j h1 h2 => by have := (World.ownsRow.lt HWant.out j h1).1; omega))
                  have HAz := Lib.hid (HA9.out.only HOn.out (fun j h1 h2 => by
                    have : ga = j := by simpa [Value.ownBlock] using h1
                    omega))
                  have HMz := Lib.hid (HM9.out.to (HOn.out.to (B := w7.heap.size) (fun j hj => by omega) (by have := HB9.out.size; omega)))
                  obtain ⟨ya, yc, rfl⟩ := HGot.out.isSlice
                  clear hpd hok9 HWant HA9 HM9 HD9
                  go_wp2_with fail
                  refine TR.out.mono ?_
                  rintro e wt ⟨tv, rfl, hOt, hBt⟩
                  obtain ⟨ta, tc, rfl⟩ := len_trs hOt
                  have hql := hOt.q
                  rw [List.length_map] at hql ⊢
                  have HQl := Lib.hid hql
                  have HBt := Lib.hid (HBz.out.trans (hBt.mono HBz.out.size))
                  have HDt := Lib.hid (HDx.out.below hBt)
                  have HAt := Lib.hid (HAz.out.below hBt)
                  have HWt := Lib.hid (HWz.out.below hBt)
                  have HMt := Lib.hid (HMz.out.to (hBt.mono (by have := HBz.out.size; have := HDx.out.lt.1; omega)))
                  have DN2 := Lib.hid (done_any wt HDt.out)
                  rw [decide_eq_true WH.out.pl] at DN2
                  have BY := Lib.hid (bytes7_any _ _ (flatK ls) (flatK ls) wt (HGot.out.below hBt).reads HWt.out.reads)
                  rw [decide_eq_true rfl] at BY
                  have hsz9 : w9.heap.size ≤ wt.heap.size := Nat.le_trans hs9 hBt.size
                  clear hOt hql hBt TR DN HGot HDx HMz HAz HWz
                  go_wp2_with fail
                  refine DN2.out.mono ?_
                  rintro e w' ⟨rfl, rfl⟩
                  go_wp2_with fail
                  refine BY.out.mono ?_
                  rintro e w' ⟨rfl, rfl⟩
                  go_wp2_with fail
                  go_loopw [18] (fun u wr => ∃ m : Nat, u = .int .i64 m ∧ m ≤ ts.length ∧ Below wt.heap.size wt wr) (fun u _ => ts.length - (intOf u).toNat)
                  case atStart => exact ⟨0, rfl, Nat.zero_le _, Below.refl _ _⟩
                  case round =>
                    obtain ⟨m, rfl, hm, hBm⟩ := hrel
                    have HBm := Lib.hid hBm
                    have hsm := hBm.size
                    clear hBm
                    by_cases hlt3 : m < ts.length
                    · obtain ⟨p, hp⟩ : ∃ p, ts[m]? = some p := ⟨ts[m], by simp [hlt3]⟩
                      obtain ⟨g, off, rfl, hg, h1, h2⟩ := HFC.out m p hp
                      obtain ⟨ao, cl, hql, hcl⟩ := HQl.out
                      obtain ⟨g', off', hao, hg', q1, q2⟩ := hcl m (lowP p) (by rw [List.getElem?_map, hp]; rfl)
                      simp only [Value.slice.injEq] at hql
                      obtain ⟨rfl, hlm, rfl⟩ := hql
                      clear hlm
                      subst hao
                      have HBw := Lib.hid (HBt.out.trans (HBm.out.mono HBt.out.size))
                      have hc1 : wr.cell? ⟨g, off + m * 2, none⟩ = some (.string (strB p.1)) := (HBw.out.cell (p := ⟨g, off + m * 2, none⟩) hg).trans h1
                      have hc2 : wr.cell? ⟨g, off + m * 2 + 1, none⟩ = some (.string (strB p.2)) := (HBw.out.cell (p := ⟨g, off + m * 2 + 1, none⟩) hg).trans h2
                      have hc3 : wr.cell? ⟨g', off' + m * 2, none⟩ = some (.string (strB (lowP p).1)) := (HBm.out.cell (p := ⟨g', off' + m * 2, none⟩) hg').trans q1
                      have hc4 : wr.cell? ⟨g', off' + m * 2 + 1, none⟩ = some (.string (strB (lowP p).2)) := (HBm.out.cell (p := ⟨g', off' + m * 2 + 1, none⟩) hg').trans q2
                      have hgw : g < wr.heap.size := Nat.lt_of_lt_of_le hg HBw.out.size
                      have hgw' : g' < wr.heap.size := Nat.lt_of_lt_of_le hg' HBm.out.size
                      have hpl := tot_mem (List.mem_of_getElem? hp)
                      have hgd := HGD.out p (List.mem_of_getElem? hp)
                      obtain ⟨x, y⟩ := p
                      simp only [lowP] at hc1 hc2 hc3 hc4 hpl
                      have NX := fun W => refName_any (strB x) W (by rw [strB_size]; omega)
                      rw [strB_list] at NX
                      have hnx := nmO_zero hgd.nm
                      have hnr : nameR x = lowS x := by unfold nameR; rw [if_pos hnx.1]
                      rw [hnr] at NX
                      have NX := Lib.hid NX
                      have hmm : (m : Int) < (ts.length : Int) := by omega
                      have HLT := Lib.hid hlt3
                      clear hp h1 h2 hcl q1 q2 hg hg' hgd hnx hnr f1 f2 g2 g3 hEl hrs hsz9 hs9 hs07 hs37 hs8 hc1' hc2' hga1 hga2 hEn hlt hlt2 hi hk hpl hbr
                      go_wp2_with fail
                      refine (NX.out _).mono ?_
                      rintro e wn ⟨rfl, hBn⟩
                      have HBn := Lib.hid (HBm.out.trans (hBn.mono HBm.out.size))
                      have d2 : wn.cell? ⟨g, off + m * 2 + 1, none⟩ = some (.string (strB y)) := (hBn.cell (p := ⟨g, off + m * 2 + 1, none⟩) hgw).trans hc2
                      have d3 : wn.cell? ⟨g', off' + m * 2, none⟩ = some (.string (strB (lowS x))) := (hBn.cell (p := ⟨g', off' + m * 2, none⟩) hgw').trans hc3
                      have d4 : wn.cell? ⟨g', off' + m * 2 + 1, none⟩ = some (.string (strB y)) := (hBn.cell (p := ⟨g', off' + m * 2 + 1, none⟩) hgw').trans hc4
                      have heq1 : ((strB (lowS x)).toList == (strB (lowS x)).toList) = true := beq_self_eq_true _
                      have heq2 : ((strB y).toList == (strB y).toList) = true := beq_self_eq_true _
                      clear hc1 hc2 hc3 hc4 hBn
                      go_wp2_with fail
                      go_quiet (fail)
                      go_wp2_with fail
                      go_roundw
                      case rel => exact ⟨m + 1, by go_num, HLT.out, below_drewN HBn.out _⟩
                      case measure => have := HLT.out; simp [intOf]; omega
                    · rename World => wv
                      have HBv := Lib.hid (HBt.out.trans (HBm.out.mono HBt.out.size))
                      have HDv := Lib.hid (HDt.out.below HBm.out)
                      have HAv := Lib.hid (HAt.out.below HBm.out)
                      have HWv := Lib.hid (HWt.out.below HBm.out)
                      have HMv := Lib.hid (HMt.out.to (HBm.out.mono (by have := HBt.out.size; have := HDt.out.lt.1; omega)))
                      have hrlt := readsB_lt HQ.out
                      have W := decWrite_any (.slice ro rs.length rc) rs wv HDv.out HMv.out HOK9.out (HQ.out.below HBv.out) (fun hne j h1 h2 => by
                        have h3 := hrlt hne j h1
                        have := HB9.out.size
                        rcases HX.out j h2 with h | h <;> omega) (by omega)
                      unfold WritePost at W
                      rw [wrD_stop (.inr WH.out.pl)] at W
                      rw [show errV (wrD Dc.new E).1.er = .nilIface by rw [WH.out.er]; rfl] at W
                      have W := Lib.hid W
                      have hvz : w7.heap.size + 1 ≤ wv.heap.size := by omega
                      clear hrlt HBm HBt HDt HAt HWt HMt HDv HQl
                      go_wp2_with fail
                      refine W.out.mono ?_
                      rintro e wx ⟨vb, X3, rfl, hD3, hX3, hO3, ho3, hv3⟩
                      have HBx := Lib.hid (HBv.out.trans (hO3.to (B := w.heap.size) (fun j hj => by rcases HX.out j hj with h | h <;> omega) (by omega)))
                      have HAx := Lib.hid (HAv.out.only hO3 (fun j h1 h2 => by
                        have : ga = j := by simpa [Value.ownBlock] using h1
                        rcases HX.out j h2 with h | h <;> omega))
                      have HWx := Lib.hid (HWv.out.only hO3 (fun j h1 h2 => by
                        have := HWL.out j h1
                        rcases HX.out j h2 with h | h <;> omega))
                      have HMx := Lib.hid (HMv.out.to (hO3.to (B := w7.heap.size) (fun j hj => by rcases HX.out j hj with h | h <;> omega) (by omega)))
                      obtain ⟨ba, bc, rfl⟩ := ho3.isSlice
                      have hvz0 := hO3.size
                      clear W hD3 hX3 hO3 ho3 hv3 HAv HWv HMv
                      go_wp2_with fail
                      refine (new_any wx).mono ?_
                      rintro e wy ⟨rfl, hDy, hBy, hsy⟩
                      have hsy2 : wx.heap.size + 1 ≤ wy.heap.size := by omega
                      clear hsy
                      have HBy := Lib.hid (HBx.out.trans (hBy.mono HBx.out.size))
                      have HDy := Lib.hid hDy
                      have HAy := Lib.hid (HAx.out.below hBy)
                      have HWy := Lib.hid (HWx.out.below hBy)
                      have HMy := Lib.hid (HMx.out.to (hBy.mono (by omega)))
                      have hvx : wv.heap.size ≤ wx.heap.size := hvz0
                      have HO0 := Lib.hid (show OwnB wy.heap.size (wy.alloc (.cells #[] 5)) (.slice (some ⟨wy.heap.size, 0, none⟩) 0 0) [] from World.ownsRow_made wy #[] 0 (Nat.le_refl _) (Nat.zero_le _) (by simp))
                      have HA0 := Lib.hid (HAy.out.below (below_new wy (.cells #[] 5))).reads
                      have HB0 := Lib.hid (below_new wy (.cells #[] 5))
                      have HQy := Lib.hid (HQ.out.below HBy.out)
                      clear hDy hBy HAx HWx HMx
                      go_wp2_with (first
                        | (at_builtin; refine wpList_appendA (by rfl) _ _ (by rfl) _ _ (by rfl) (by rfl) HO0.out HA0.out (by simp; omega) (by simp) ?_; intro v8 w10 hO8 hg8 hat8; have HO8 := Lib.hid hO8; have HB10 := Lib.hid (HB0.out.grown hg8 (by simp) (fun q hq => (World.ownsRow.lt HO0.out q hq).1)); have HQ10 := Lib.hid (HQy.out.below HB10.out); have hs10 := HB10.out.size; clear hO8 hg8 hat8)
                        | (at_builtin; refine wpList_appendA (by rfl) _ _ (by rfl) _ _ (by rfl) (by rfl) HO8.out HQ10.out (by simp; omega) (by omega) ?_; intro v9 w11 hO9 hg9 hat9))
                      have hOE : OwnB wy.heap.size w11 v9 (E ++ rs) := hO9
                      have HB11 := Lib.hid (HB10.out.grown hg9 (by omega) (fun q hq => (World.ownsRow.lt HO8.out q hq).1))
                      have HD11 := Lib.hid (HDy.out.below HB11.out)
                      have HM11 := Lib.hid ((MaxB.mono (C := wx.heap.size) HMy.out (by omega)).to (HB11.out.mono (by omega)))
                      have hl9 : ∀ j, v9.ownBlock = some j → wy.heap.size ≤ j := fun j hj => (World.ownsRow.lt hOE j hj).1
                      have hlER : (E ++ rs).length ≤ 60000 := by rw [List.length_append]; omega
                      have W := decWrite_any v9 (E ++ rs) w11 HD11.out HM11.out ok_new hOE.reads (fun _ j h1 h2 => by
                        have := hl9 j h1
                        have h3 : j = wx.heap.size := h2
                        omega) (by omega)
                      unfold WritePost at W
                      rw [WH.out.over, WH.out.two, WH.out.er] at W
                      have W := Lib.hid W
                      have HBz2 := Lib.hid (HBy.out.trans (HB11.out.mono HBy.out.size))
                      have HW11 := Lib.hid (HWy.out.below HB11.out)
                      have hs11 := HB11.out.size
                      clear hO9 hg9 hat9 hOE HO8 HB10 HQ10 HDy HMy HAy HO0 HA0 HB0 HQy
                      refine W.out.mono ?_
                      rintro e w12 ⟨vw, X5, rfl, hD5, hX5, hO5, ho5, hv5⟩
                      have HW12 := Lib.hid (HW11.out.only hO5 (fun j h1 h2 => by
                        have h3 : j = wx.heap.size := h2
                        have := HWL.out j h1
                        omega))
                      have HB12 := Lib.hid (HBz2.out.trans (hO5.to (B := w.heap.size) (fun j hj => by
                        have h3 : j = wx.heap.size := hj
                        omega) (by have := HBz2.out.size; omega)))
                      have BY2 := Lib.hid (bytes7_any _ _ (flatK ls) (flatK ls) w12 ho5.reads HW12.out.reads)
                      rw [decide_eq_true rfl] at BY2
                      have DN3 := Lib.hid (done_any w12 hD5)
                      rw [decide_eq_true WH.out.pl] at DN3
                      obtain ⟨za, zc, rfl⟩ := ho5.isSlice
                      clear W hD5 hX5 hO5 ho5 hv5
                      rw [show errV 0 = .nilIface from rfl]
                      go_wp2_with fail
                      refine BY2.out.mono ?_
                      rintro e w' ⟨rfl, rfl⟩
                      go_wp2_with fail
                      refine DN3.out.mono ?_
                      rintro e w' ⟨rfl, rfl⟩
                      go_wp2_with fail
                      go_ret
                      exact ⟨rfl, HB12.out⟩
end Go.Proofs.YthlfhbhjiofneaaDoor
