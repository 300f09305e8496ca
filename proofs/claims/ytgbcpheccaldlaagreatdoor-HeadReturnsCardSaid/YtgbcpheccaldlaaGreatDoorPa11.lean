import Derived.Test.YtgbcpheccaldlaaGreatDoorPa7
import Derived.Test.YtgbcpheccaldlaaGreatDoorPa10
import Derived.Deep.RegionWith
import Derived.BigRegion
import Derived.Test.YtgbcpheccaldlaaGreatDoorPa8
import Derived.Test.YtgbcpheccaldlaaGreatDoorPa0
import Derived.IntWalk
import Derived.Test.YtgbcpheccaldlaaGreatDoorPa9
import Derived.Deep.QuietTactic
import Derived.BigQuiet
import Derived.Deep.RegionHeld3
/- What the statements' Request and Response return. -/
namespace Go.Proofs.YtgbcpheccaldlaaGreatDoor
open Go.RowKit

theorem ownsP_set3 {T : TypeId} {B C g : Nat} {w' : World} {v : Value} {ps : Fs} (h : OwnsP T B w' v ps) (hg : g < B) (hC : C ≤ B) (a b c : Value) :
    OwnsP T C (((w'.setCell ⟨g, 0, none⟩ a).setCell ⟨g, 1, none⟩ b).setCell ⟨g, 2, none⟩ c) v ps := by
  have hn : ∀ k, v.ownBlock ≠ some (⟨g, k, none⟩ : Addr).block := fun k hq => by have := (World.ownsRow.lt h _ hq).1; simp at this; omega
  exact OwnsP.mono hC (ownsRow_setCell_other (ownsRow_setCell_other (ownsRow_setCell_other h (hn 0) a) (hn 1) b) (hn 2) c)
theorem below_set3 {w w' : World} {g : Nat} (h : Below w.heap.size w w') (hg : w.heap.size ≤ g) (a b c : Value) : Below w.heap.size w (((w'.setCell ⟨g, 0, none⟩ a).setCell ⟨g, 1, none⟩ b).setCell ⟨g, 2, none⟩ c) :=
  ((h.setCell (p := ⟨g, 0, none⟩) hg a).setCell (p := ⟨g, 1, none⟩) hg b).setCell (p := ⟨g, 2, none⟩) hg c
set_option maxHeartbeats 8000000 in
set_option maxRecDepth 100000 in
theorem request_any (m t : List UInt8) (lv : Value) (ps : Flds) (w : World) (hr : ReadsQ w lv ps) (hl : ps.length ≤ 1000) (hb : ∀ p ∈ ps, p.1.length + p.2.length ≤ 1000000) :
    Calls Tryz.prog 7 #[.agg #[.string (strB m), .string (strB t), lv]] w fun e w' => ∃ a n c, e = .returned (.agg #[.string (strB m), .string (strB t), .slice a n c]) ∧ OwnsP 60 w.heap.size w' (.slice a n c) ps ∧ Below w.heap.size w w' := by
  have F := Lib.hid (fun w (hr : ReadsQ w lv ps) => fields_any lv ps w hr hl hb)
  have HR := Lib.hid hr
  obtain ⟨ao, cap, rfl, hc⟩ := hr
  have hB0 : Below w.heap.size w (w.alloc (.cells #[.string (strB m), .string (strB t), .slice ao ps.length cap] 24)) := below_new _ _
  have hB1 : Below w.heap.size w ((w.alloc (.cells #[.string (strB m), .string (strB t), .slice ao ps.length cap] 24)).alloc (.cells #[.string ⟨#[]⟩, .string ⟨#[]⟩, .slice none 0 0] 35)) := hB0.alloc hB0.size _
  have hxa : ∀ j, ((w.alloc (.cells #[.string (strB m), .string (strB t), .slice ao ps.length cap] 24)).alloc (.cells #[.string ⟨#[]⟩, .string ⟨#[]⟩, .slice none 0 0] 35)).cell? ⟨w.heap.size, j, none⟩ = (#[.string (strB m), .string (strB t), .slice ao ps.length cap] : Array Value)[j]? := fun j => by
    have hb2 := below_new (w.alloc (.cells #[.string (strB m), .string (strB t), .slice ao ps.length cap] 24)) (.cells #[.string ⟨#[]⟩, .string ⟨#[]⟩, .slice none 0 0] 35)
    rw [hb2.cell (p := ⟨w.heap.size, j, none⟩) (by simp), World.cell?_alloc_at _ _ _ _ rfl]
  have hxb : ∀ j, ((w.alloc (.cells #[.string (strB m), .string (strB t), .slice ao ps.length cap] 24)).alloc (.cells #[.string ⟨#[]⟩, .string ⟨#[]⟩, .slice none 0 0] 35)).cell? ⟨w.heap.size + 1, j, none⟩ = (#[.string ⟨#[]⟩, .string ⟨#[]⟩, .slice none 0 0] : Array Value)[j]? := fun j => by
    rw [World.cell?_alloc_at _ _ _ _ (by simp)]
  have hfb : ∀ j, ((w.alloc (.cells #[.string (strB m), .string (strB t), .slice ao ps.length cap] 24)).alloc (.cells #[.string ⟨#[]⟩, .string ⟨#[]⟩, .slice none 0 0] 35)).frozen? ⟨w.heap.size + 1, j, none⟩ = false := fun j => World.frozen?_alloc_at _ _ _ _ (by simp)
  have hsz : ((w.alloc (.cells #[.string (strB m), .string (strB t), .slice ao ps.length cap] 24)).alloc (.cells #[.string ⟨#[]⟩, .string ⟨#[]⟩, .slice none 0 0] 35)).heap.size = w.heap.size + 2 := by simp
  have a0 := hxa 0
  have a1 := hxa 1
  have a2 := hxa 2
  have b0 := hxb 0
  have b1 := hxb 1
  have b2 := hxb 2
  have g0 := hfb 0
  have g1 := hfb 1
  have g2 := hfb 2
  clear hc hxa hxb hfb
  go_enter Tryz.func7, Tryz.ntmps7
  go_wp2_with fail
  generalize ((w.alloc (.cells #[.string (strB m), .string (strB t), .slice ao ps.length cap] 24)).alloc (.cells #[.string ⟨#[]⟩, .string ⟨#[]⟩, .slice none 0 0] 35)) = W at *
  have HF := Lib.hid (F.out _ (HR.out.below hB1))
  have HFd := Lib.hid (F.out _ (HR.out.below (hB1.trans ((Below.refl W.heap.size W).drew.mono hB1.size))))
  go_region_with (first
    | (go_at_call 18; refine HFd.out.mono ?_; rintro e w1 ⟨v1, rfl, hO1, hB2⟩; have c0 := (hB2.cell (p := ⟨w.heap.size, 0, none⟩) (by show w.heap.size < W.heap.size; omega)).trans a0; have c1 := (hB2.cell (p := ⟨w.heap.size, 1, none⟩) (by show w.heap.size < W.heap.size; omega)).trans a1; have d0 := (hB2.cell (p := ⟨w.heap.size + 1, 0, none⟩) (by show w.heap.size + 1 < W.heap.size; omega)).trans b0; have d1 := (hB2.cell (p := ⟨w.heap.size + 1, 1, none⟩) (by show w.heap.size + 1 < W.heap.size; omega)).trans b1; have d2 := (hB2.cell (p := ⟨w.heap.size + 1, 2, none⟩) (by show w.heap.size + 1 < W.heap.size; omega)).trans b2; have f0 := (hB2.frozen (p := ⟨w.heap.size + 1, 0, none⟩) (by show w.heap.size + 1 < W.heap.size; omega)).trans g0; have f1 := (hB2.frozen (p := ⟨w.heap.size + 1, 1, none⟩) (by show w.heap.size + 1 < W.heap.size; omega)).trans g1; have f2 := (hB2.frozen (p := ⟨w.heap.size + 1, 2, none⟩) (by show w.heap.size + 1 < W.heap.size; omega)).trans g2; obtain ⟨ao1, cap1, rfl, hcc⟩ := hO1.reads; clear hcc))
  all_goals
    go_wp2_with fail
    refine bodyPost_ret (v := .agg #[.string (strB m), .string (strB t), .slice ao1 ps.length cap1]) (by simp [results, Tryz.results7, go_sem, d0, d1, d2]) rfl ?_
    exact ⟨_, _, _, rfl, ownsP_set3 hO1 (by show w.heap.size + 1 < W.heap.size; omega) (by show w.heap.size ≤ W.heap.size; omega) _ _ _, below_set3 ((hB1.trans ((Below.refl W.heap.size W).drew.mono hB1.size)).trans (hB2.mono hB1.size)) (by omega) _ _ _⟩
end Go.Proofs.YtgbcpheccaldlaaGreatDoor

/- The reference's end, bare, lines and split: where a head ends, whether it has bare bytes, its lines. -/
namespace Go.Proofs.YtgbcpheccaldlaaGreatDoor
open Go.RowKit

def endN (l : List UInt8) : Nat := (endO l).getD 0
/-- Up to i no CR LF CR LF begins. -/
def EndTo (l : List UInt8) (i : Nat) : Prop := end4 l = (end4 (l.drop i)).map (· + i)
theorem endTo0 (l : List UInt8) : EndTo l 0 := by unfold EndTo; simp
theorem endTo_step {l : List UInt8} {i : Nat} (h : EndTo l i) (hi : i + 4 ≤ l.length) (hn : (l.drop i).take 4 ≠ crlf2) : EndTo l (i + 1) := by
  unfold EndTo at *
  rw [h]
  have hd : l.drop i = (l[i]'(by omega)) :: l.drop (i + 1) := by rw [List.drop_eq_getElem_cons (by omega)]
  rw [hd, end4, if_neg]
  · cases end4 (l.drop (i + 1)) <;> simp; omega
  · rintro ⟨h1, h2⟩
    apply hn
    rw [hd, List.take_succ_cons, h1, h2]; rfl
theorem endTo_hit {l : List UInt8} {i : Nat} (h : EndTo l i) (hi : i + 4 ≤ l.length) (hn : (l.drop i).take 4 = crlf2) : end4 l = some (i + 4) := by
  unfold EndTo at *
  rw [h]
  have hd : l.drop i = (l[i]'(by omega)) :: l.drop (i + 1) := by rw [List.drop_eq_getElem_cons (by omega)]
  rw [hd, List.take_succ_cons] at hn
  unfold crlf2 at hn
  injection hn with h1 h2
  rw [hd, end4, if_pos ⟨h1, h2⟩]; simp; omega
theorem endTo_end {l : List UInt8} {i : Nat} (h : EndTo l i) (hi : ¬ i + 4 ≤ l.length) : end4 l = none := by
  unfold EndTo at *
  rw [h]
  cases e : end4 (l.drop i) with
  | none => rfl
  | some n => have := end4_some e; rw [List.length_drop] at this; omega
theorem endN_pre {l : List UInt8} (h : l.take 2 = crlf) : endN l = 2 := by unfold endN endO; rw [if_pos (by exact h)]; rfl
theorem endN_some {l : List UInt8} {n : Nat} (h : l.take 2 ≠ crlf) (h2 : end4 l = some n) : endN l = n := by unfold endN endO; rw [if_neg (by exact h), h2]; rfl
theorem endN_none {l : List UInt8} (h : l.take 2 ≠ crlf) (h2 : end4 l = none) : endN l = 0 := by unfold endN endO; rw [if_neg (by exact h), h2]; rfl
theorem ext_list (s : ByteArray) (a b : Nat) : (s.extract a b).toList = (s.data.toList.drop a).take (b - a) := by rw [ByteArray.toList_eq, seg_list]
theorem ret_i64 {a b : Int} (h : a = b) : Ending.returned (.int .i64 a) = .returned (.int .i64 b) := by rw [h]
/-- The byte before i; 0 at the beginning. -/
def prevB (l : List UInt8) : Nat → UInt8
  | 0 => 0
  | i + 1 => l.getD i 0
def BareTo (l : List UInt8) (i : Nat) : Prop := bareF 0 l = bareF (prevB l i) (l.drop i)
theorem bareTo0 (l : List UInt8) : BareTo l 0 := by unfold BareTo prevB; simp
/-- The test at byte i. -/
def bareAt (l : List UInt8) (i : Nat) : Bool :=
  decide (l.getD i 0 = 0) || (decide (l.getD i 0 = 13) && decide ((l.drop (i + 1)).head? ≠ some 10)) || (decide (l.getD i 0 = 10) && decide (prevB l i ≠ 13))
theorem bare_drop {l : List UInt8} {i : Nat} (hi : i < l.length) : bareF (prevB l i) (l.drop i) = (bareAt l i || bareF (l.getD i 0) (l.drop (i + 1))) := by
  have hd : l.drop i = (l[i]'hi) :: l.drop (i + 1) := by rw [List.drop_eq_getElem_cons hi]
  have hg : l.getD i 0 = l[i]'hi := by rw [List.getD, List.getElem?_eq_getElem hi]; rfl
  rw [hd, bareF, ← hg]; rfl
theorem bareTo_step {l : List UInt8} {i : Nat} (h : BareTo l i) (hi : i < l.length) (hb : bareAt l i = false) : BareTo l (i + 1) := by
  unfold BareTo at *
  rw [h, bare_drop hi, hb]; rfl
theorem bareTo_hit {l : List UInt8} {i : Nat} (h : BareTo l i) (hi : i < l.length) (hb : bareAt l i = true) : true = bareF 0 l := by
  unfold BareTo at h
  rw [h, bare_drop hi, hb]; rfl
theorem bareTo_end {l : List UInt8} {i : Nat} (h : BareTo l i) (hi : l.length ≤ i) : false = bareF 0 l := by
  unfold BareTo at h
  rw [h, List.drop_of_length_le hi]; rfl
theorem at_getD (s : ByteArray) (k : Nat) (h : k < s.size) : s.data.toList.getD k 0 = s[k] := by
  have h' : k < s.data.toList.length := by simpa using h
  rw [List.getD, List.getElem?_eq_getElem h']; rfl
theorem head_drop (s : ByteArray) (k : Nat) : (s.data.toList.drop k).head? = s.data.toList[k]? := by rw [List.head?_drop]
theorem u8_eq {c : UInt8} {n : Nat} (hn : n < 256) (h : c.toNat = n) : c = UInt8.ofNat n := by
  apply UInt8.toNat_inj.mp; rw [h]; simp; omega
end Go.Proofs.YtgbcpheccaldlaaGreatDoor

/- The reference's cut, method, target, white and spaced. -/
namespace Go.Proofs.YtgbcpheccaldlaaGreatDoor
open Go.RowKit

def notC (c : UInt8) (s : ByteArray) (k : Nat) : Prop := c ∉ s.data.toList.take k
theorem notC_step {c : UInt8} {s : ByteArray} {k : Nat} (h : notC c s k) (hk : k < s.size) (hc : s[k].toNat ≠ c.toNat) : notC c s (k + 1) := by
  unfold notC at *
  rw [take_snoc s k hk, List.mem_append, not_or]
  exact ⟨h, by simp; intro e; exact hc (by rw [e])⟩
theorem cutC_hit {c : UInt8} {s : ByteArray} {k : Nat} (h : notC c s k) (hk : k < s.size) (hc : s[k].toNat = c.toNat) : cutC c s.data.toList = (s.data.toList.take k, s.data.toList.drop (k + 1), true) := by
  have e : s[k] = c := nat_of_u8 hc
  have hd : s.data.toList = s.data.toList.take k ++ c :: s.data.toList.drop (k + 1) := by
    conv => lhs; rw [← List.take_append_drop k s.data.toList]
    rw [List.drop_eq_getElem_cons (by simpa using hk)]
    congr 2
  conv => lhs; rw [hd]
  exact cutC_at h _
theorem cutC_end {c : UInt8} {s : ByteArray} {k : Nat} (h : notC c s k) (hk : s.size ≤ k) : cutC c s.data.toList = (s.data.toList, [], false) := by
  unfold notC at h
  rw [take_all s k hk] at h
  exact cutC_no h
theorem ext_strB (s : ByteArray) (a b : Nat) (l : List UInt8) (h : (s.data.toList.drop a).take (b - a) = l) : s.extract a b = strB l := strB_ext (by rw [seg_list]; exact h)
theorem slice_pre (s : ByteArray) (k : Nat) (h : k ≤ s.size) (w : World) : (Instr.slice 9 (.string s) none (some (.int .i64 (k : Int))) none).run Tryz.prog w = .ok (.string (strB (s.data.toList.take k))) w := by
  rw [run_slice_string_h w 9 s Tryz.underlying9 .i64 (k : Int) (by omega) (by omega)]
  rw [Int.toNat_natCast, ext_strB s 0 k _ (by rw [List.drop_zero, Nat.sub_zero])]
theorem slice_post (s : ByteArray) (k : Nat) (h : k < s.size) (w : World) : (Instr.slice 9 (.string s) (some (.int .i64 ((k : Int) + 1))) none none).run Tryz.prog w = .ok (.string (strB (s.data.toList.drop (k + 1)))) w := by
  rw [run_slice_string_l w 9 s Tryz.underlying9 .i64 ((k : Int) + 1) (by omega) (by omega)]
  rw [show ((k : Int) + 1).toNat = k + 1 by omega, ext_strB s (k + 1) s.size _ (List.take_of_length_le (by rw [List.length_drop, Array.length_toList]; exact Nat.le_refl _))]
theorem target_bad {m t : List UInt8} (h : t.all tgC = false) : targetB m t = false := by
  unfold targetB
  have ht : (t.all fun c => decide (33 ≤ c.toNat) && decide (c.toNat ≤ 126)) = t.all tgC := rfl
  rw [ht, h]; rfl
theorem target_good {m t : List UInt8} (h : t.all tgC = true) : targetB m t = (decide (1 ≤ t.length) && decide (t.length ≤ 2048) && (decide (t.head? = some 47) || (decide (t = [42]) && decide (m = optL)))) := by
  unfold targetB optL
  have ht : (t.all fun c => decide (33 ≤ c.toNat) && decide (c.toNat ≤ 126)) = t.all tgC := rfl
  rw [ht, h, Bool.true_and]
def noWs (s : ByteArray) (k : Nat) : Prop := (s.data.toList.take k).any wsB = false
theorem noWs_step {s : ByteArray} {k : Nat} (h : k < s.size) (hn : noWs s k) (hb : wsB s[k] = false) : noWs s (k + 1) := by
  unfold noWs at *; rw [take_snoc s k h, List.any_append, hn]; simp [hb]
end Go.Proofs.YtgbcpheccaldlaaGreatDoor

/- The reference's fields. -/
namespace Go.Proofs.YtgbcpheccaldlaaGreatDoor
open Go.RowKit

theorem Tryz.infoG : (Tryz.prog.info? 41).map (fun i => (i.zero, i.size, i.bytes)) = some (some (.agg #[.string ByteArray.empty, .string ByteArray.empty]), 2, 32) := by kernel_rfl
/-- What the reference's fields leaves. -/
def RefFieldsPost (ls : List (List UInt8)) (w : World) (e : Ending) (w' : World) : Prop :=
  ∃ v, e = .returned (.tuple #[v, .int .i64 ((readFs nmO vlO ls).1 : Int)]) ∧ OwnsP 41 w.heap.size w' v (readFs nmO vlO ls).2 ∧ Below w.heap.size w w'
theorem refFields_err {ls : List (List UInt8)} {w w' : World} {c : Nat} (h : readFs nmO vlO ls = (c, [])) (hB : Below w.heap.size w w') : RefFieldsPost ls w (.returned (.tuple #[.slice none 0 0, .int .i64 (c : Int)])) w' :=
  ⟨.slice none 0 0, by rw [h], by rw [h]; exact OwnsP.nil _ _ _, hB⟩
theorem refBad {ls : List (List UInt8)} {k c : Nat} {l : List UInt8} (h : goodTo nmO vlO ls k) (hl : ls[k]? = some l) (h0 : rdF l = (c, [], [])) (hc : c ≠ 0) : readFs nmO vlO ls = (c, []) := by
  have e : (readF nmO vlO l).1 = c := by show (rdF l).1 = c; rw [h0]
  rw [readFs_bad h hl (by rw [e]; exact hc), e]
end Go.Proofs.YtgbcpheccaldlaaGreatDoor
