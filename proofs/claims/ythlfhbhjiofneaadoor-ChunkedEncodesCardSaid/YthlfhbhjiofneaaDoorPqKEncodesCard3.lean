import Derived.Test.YthlfhbhjiofneaaDoorPqKEncodesCard0
import Derived.Test.YthlfhbhjiofneaaDoorKStep
import Derived.Test.YthlfhbhjiofneaaDoorFOwn
import Derived.Test.YthlfhbhjiofneaaDoorFName
import Derived.Test.YthlfhbhjiofneaaDoorTwo
import Derived.Test.YthlfhbhjiofneaaDoorPqKEncodesCard2
import Derived.Test.YthlfhbhjiofneaaDoorFAll
import Derived.Deep.QuietTactic
import Derived.BigQuiet
import Derived.IntWalk
import Derived.Deep.RegionWith
import Derived.BigRegion
import Derived.Test.YthlfhbhjiofneaaDoorScan
import Derived.Lib.Hide
import Derived.Test.YthlfhbhjiofneaaDoorNum
import Derived.Test.YthlfhbhjiofneaaDoorKDone
/- What the reference's functions return: hex, bad, Done, Forbidden. -/
namespace Go.Proofs.YthlfhbhjiofneaaDoor
open Go.RowKit

/-- A state of the reference as a value; fv: its fields. -/
abbrev stV (r : Rs) (fv : Value) : Value := .agg #[.int .i64 (r.p : Int), .int .i64 (r.d : Int), .int .i64 (r.n : Int), .int .i64 (r.ln : Int), .int .i64 (r.tt : Int), .int .i64 (r.lf : Int), .int .i64 (r.se : Int), .string (strB r.tx), fv, .int .i64 (r.bad : Int)]
/-- What a hexadecimal digit is worth; -1 if it is none. -/
def hexZ (c : UInt8) : Int := match hexV c with | some v => (v : Int) | none => -1
theorem hexZ_some {c : UInt8} {v : Nat} (h : hexV c = some v) : hexZ c = (v : Int) := by unfold hexZ; rw [h]
theorem hexZ_none {c : UInt8} (h : hexV c = none) : hexZ c = -1 := by unfold hexZ; rw [h]
theorem intK_eq {a b : Nat} (h : a = b) : ((a : Int) == (b : Int)) = true := by rw [h]; exact beq_self_eq_true _
theorem intK_ne {a b : Nat} (h : a ≠ b) : ((a : Int) == (b : Int)) = false := by rw [beq_eq_false_iff_ne]; omega
theorem below_ten {w w1 : World} (h : Below w.heap.size w w1) (a0 a1 a2 a3 a4 a5 a6 a7 a8 a9 : Value) : Below w.heap.size w ((((((((((w1.setCell ⟨w.heap.size + 1, 0, none⟩ a0).setCell ⟨w.heap.size + 1, 1, none⟩ a1).setCell ⟨w.heap.size + 1, 2, none⟩ a2).setCell ⟨w.heap.size + 1, 3, none⟩ a3).setCell ⟨w.heap.size + 1, 4, none⟩ a4).setCell ⟨w.heap.size + 1, 5, none⟩ a5).setCell ⟨w.heap.size + 1, 6, none⟩ a6).setCell ⟨w.heap.size + 1, 7, none⟩ a7).setCell ⟨w.heap.size + 1, 8, none⟩ a8).setCell ⟨w.heap.size + 1, 9, none⟩ a9) :=
  ((((((((((h.setCell (p := ⟨w.heap.size + 1, 0, none⟩) (by simp) a0).setCell (p := ⟨w.heap.size + 1, 1, none⟩) (by simp) a1).setCell (p := ⟨w.heap.size + 1, 2, none⟩) (by simp) a2).setCell (p := ⟨w.heap.size + 1, 3, none⟩) (by simp) a3).setCell (p := ⟨w.heap.size + 1, 4, none⟩) (by simp) a4).setCell (p := ⟨w.heap.size + 1, 5, none⟩) (by simp) a5).setCell (p := ⟨w.heap.size + 1, 6, none⟩) (by simp) a6).setCell (p := ⟨w.heap.size + 1, 7, none⟩) (by simp) a7).setCell (p := ⟨w.heap.size + 1, 8, none⟩) (by simp) a8).setCell (p := ⟨w.heap.size + 1, 9, none⟩) (by simp) a9)
/-- A new state of the reference is as it was behind a call that leaves what was there. -/
theorem ten_kept (w : World) {o : Obj} {t : TypeId} {w1 : World} (h : Below ((w.alloc o).alloc (.cells #[.int .i64 0, .int .i64 0, .int .i64 0, .int .i64 0, .int .i64 0, .int .i64 0, .int .i64 0, .string ⟨#[]⟩, .slice none 0 0, .int .i64 0] t)).heap.size ((w.alloc o).alloc (.cells #[.int .i64 0, .int .i64 0, .int .i64 0, .int .i64 0, .int .i64 0, .int .i64 0, .int .i64 0, .string ⟨#[]⟩, .slice none 0 0, .int .i64 0] t)) w1) :
    w1.cell? ⟨w.heap.size + 1, 0, none⟩ = some (.int .i64 0) ∧ w1.frozen? ⟨w.heap.size + 1, 0, none⟩ = false ∧ w1.cell? ⟨w.heap.size + 1, 1, none⟩ = some (.int .i64 0) ∧ w1.frozen? ⟨w.heap.size + 1, 1, none⟩ = false ∧ w1.cell? ⟨w.heap.size + 1, 2, none⟩ = some (.int .i64 0) ∧ w1.frozen? ⟨w.heap.size + 1, 2, none⟩ = false ∧ w1.cell? ⟨w.heap.size + 1, 3, none⟩ = some (.int .i64 0) ∧ w1.frozen? ⟨w.heap.size + 1, 3, none⟩ = false ∧ w1.cell? ⟨w.heap.size + 1, 4, none⟩ = some (.int .i64 0) ∧ w1.frozen? ⟨w.heap.size + 1, 4, none⟩ = false ∧ w1.cell? ⟨w.heap.size + 1, 5, none⟩ = some (.int .i64 0) ∧ w1.frozen? ⟨w.heap.size + 1, 5, none⟩ = false ∧ w1.cell? ⟨w.heap.size + 1, 6, none⟩ = some (.int .i64 0) ∧ w1.frozen? ⟨w.heap.size + 1, 6, none⟩ = false ∧ w1.cell? ⟨w.heap.size + 1, 7, none⟩ = some (.string ⟨#[]⟩) ∧ w1.frozen? ⟨w.heap.size + 1, 7, none⟩ = false ∧ w1.cell? ⟨w.heap.size + 1, 8, none⟩ = some (.slice none 0 0) ∧ w1.frozen? ⟨w.heap.size + 1, 8, none⟩ = false ∧ w1.cell? ⟨w.heap.size + 1, 9, none⟩ = some (.int .i64 0) ∧ w1.frozen? ⟨w.heap.size + 1, 9, none⟩ = false := by
  have hs : w.heap.size + 1 < ((w.alloc o).alloc (.cells #[.int .i64 0, .int .i64 0, .int .i64 0, .int .i64 0, .int .i64 0, .int .i64 0, .int .i64 0, .string ⟨#[]⟩, .slice none 0 0, .int .i64 0] t)).heap.size := by simp
  have hc : ∀ j, ((w.alloc o).alloc (.cells #[.int .i64 0, .int .i64 0, .int .i64 0, .int .i64 0, .int .i64 0, .int .i64 0, .int .i64 0, .string ⟨#[]⟩, .slice none 0 0, .int .i64 0] t)).cell? ⟨w.heap.size + 1, j, none⟩ = (#[.int .i64 0, .int .i64 0, .int .i64 0, .int .i64 0, .int .i64 0, .int .i64 0, .int .i64 0, .string ⟨#[]⟩, .slice none 0 0, .int .i64 0] : Array Value)[j]? := fun j => by rw [World.cell?_alloc_at _ _ _ _ (by simp)]
  have hf : ∀ j, ((w.alloc o).alloc (.cells #[.int .i64 0, .int .i64 0, .int .i64 0, .int .i64 0, .int .i64 0, .int .i64 0, .int .i64 0, .string ⟨#[]⟩, .slice none 0 0, .int .i64 0] t)).frozen? ⟨w.heap.size + 1, j, none⟩ = false := fun j => World.frozen?_alloc_at _ _ _ _ (by simp)
  have key : ∀ j, w1.cell? ⟨w.heap.size + 1, j, none⟩ = (#[.int .i64 0, .int .i64 0, .int .i64 0, .int .i64 0, .int .i64 0, .int .i64 0, .int .i64 0, .string ⟨#[]⟩, .slice none 0 0, .int .i64 0] : Array Value)[j]? ∧ w1.frozen? ⟨w.heap.size + 1, j, none⟩ = false := fun j => ⟨(h.cell (p := ⟨w.heap.size + 1, j, none⟩) hs).trans (hc j), (h.frozen (p := ⟨w.heap.size + 1, j, none⟩) hs).trans (hf j)⟩
  exact ⟨(key 0).1, (key 0).2, (key 1).1, (key 1).2, (key 2).1, (key 2).2, (key 3).1, (key 3).2, (key 4).1, (key 4).2, (key 5).1, (key 5).2, (key 6).1, (key 6).2, (key 7).1, (key 7).2, (key 8).1, (key 8).2, (key 9).1, (key 9).2⟩
end Go.Proofs.YthlfhbhjiofneaaDoor

/- What the reference's Forbidden and line return. -/
namespace Go.Proofs.YthlfhbhjiofneaaDoor
open Go.RowKit

theorem forbL_at (w : World) (fr : Nat × Nat) (k : Nat) (l : List UInt8) (h : forbL[k]? = some l) :
    (w.alloc (.cells #[.string ⟨#[97, 117, 116, 104, 111, 114, 105, 122, 97, 116, 105, 111, 110]⟩, .string ⟨#[99, 97, 99, 104, 101, 45, 99, 111, 110, 116, 114, 111, 108]⟩, .string ⟨#[99, 111, 110, 116, 101, 110, 116, 45, 108, 101, 110, 103, 116, 104]⟩, .string ⟨#[104, 111, 115, 116]⟩, .string ⟨#[115, 101, 116, 45, 99, 111, 111, 107, 105, 101]⟩, .string ⟨#[116, 114, 97, 105, 108, 101, 114]⟩, .string ⟨#[116, 114, 97, 110, 115, 102, 101, 114, 45, 101, 110, 99, 111, 100, 105, 110, 103]⟩] 9 fr)).cell? ⟨w.heap.size, k, none⟩ = some (.string (strB l)) := by
  rw [World.cell?_alloc_mark]
  match k, h with
  | 0, h => cases h; rfl
  | 1, h => cases h; rfl
  | 2, h => cases h; rfl
  | 3, h => cases h; rfl
  | 4, h => cases h; rfl
  | 5, h => cases h; rfl
  | 6, h => cases h; rfl
  | k + 7, h => simp [forbL] at h
set_option maxHeartbeats 4000000 in
set_option maxRecDepth 100000 in
theorem refForbidden_any (n : List UInt8) (w : World) :
    Calls Tryd.prog 27 #[.string (strB n)] w fun e w' => e = .returned (.bool (forbB n)) ∧ Below w.heap.size w w' := by
  have HF := Lib.hid (forbL_at w (0, 0))
  go_enter Tryd.func27, Tryd.ntmps27
  go_wp2_with fail
  go_loop [4] (fun i => ∃ k : Nat, k ≤ 7 ∧ i = .int .i64 (k : Int) ∧ n ∉ forbL.take k) (fun i => 7 - (intOf i).toNat)
  case atStart => exact ⟨0, by omega, rfl, by simp⟩
  case round =>
    obtain ⟨k, hk, rfl, hn⟩ := hrel
    have HN := Lib.hid hn
    clear hn
    by_cases hlt : k < 7
    · obtain ⟨l, hl⟩ : ∃ l, forbL[k]? = some l := ⟨forbL[k]'(by show k < 7; exact hlt), List.getElem?_eq_getElem _⟩
      have hc := HF.out k l hl
      have HL := Lib.hid hl
      clear hl
      by_cases he : l = n
      · have heq : ((strB l).toList == (strB n).toList) = true := by rw [he]; exact beq_self_eq_true _
        have HE := Lib.hid he
        clear he
        go_wp2_with fail
        go_ret
        refine ⟨ret_bool ?_, below_new _ _⟩
        unfold forbB
        rw [List.contains_iff_mem.mpr (by rw [← HE.out]; exact List.mem_of_getElem? HL.out)]
      · have heq : ((strB l).toList == (strB n).toList) = false := by
          rw [ByteArray.toList_eq, ByteArray.toList_eq, strB_list, strB_list, beq_eq_false_iff_ne]; exact he
        have HE := Lib.hid he
        clear he
        go_wp2_with fail
        go_round
        case rel =>
          refine ⟨k + 1, by omega, by go_num, ?_⟩
          rw [List.take_add_one, HL.out, List.mem_append, not_or]
          exact ⟨HN.out, by simp; exact fun e => HE.out e.symm⟩
        case measure => simp [intOf]; omega
    · go_wp2_with fail
      go_ret
      refine ⟨ret_bool ?_, below_new _ _⟩
      have h := HN.out
      rw [List.take_of_length_le (by show 7 ≤ k; omega)] at h
      unfold forbB
      rw [eq_comm, Bool.eq_false_iff]
      intro hc
      exact h (List.contains_iff_mem.mp hc)
def notK (s : ByteArray) (k : Nat) : Prop := (58 : UInt8) ∉ s.data.toList.take k
theorem notK_step {s : ByteArray} {k : Nat} (h : notK s k) (hk : k < s.size) (hc : s[k].toNat ≠ 58) : notK s (k + 1) := by
  unfold notK at *
  rw [take_snoc s k hk, List.mem_append, not_or]
  exact ⟨h, by simp; intro e; exact hc (by rw [← e]; rfl)⟩
theorem cutK_hit {s : ByteArray} {k : Nat} (h : notK s k) (hk : k < s.size) (hc : s[k].toNat = 58) : cutC 58 s.data.toList = (s.data.toList.take k, s.data.toList.drop (k + 1), true) := by
  have e : s[k] = 58 := nat_of_u8 (by rw [hc]; rfl)
  have hd : s.data.toList = s.data.toList.take k ++ 58 :: s.data.toList.drop (k + 1) := by
    conv => lhs; rw [← List.take_append_drop k s.data.toList]
    rw [List.drop_eq_getElem_cons (by simpa using hk)]
    congr 2
  conv => lhs; rw [hd]
  exact cutC_at h _
theorem cutK_end {s : ByteArray} {k : Nat} (h : notK s k) (hk : s.size ≤ k) : cutC 58 s.data.toList = (s.data.toList, [], false) := by
  unfold notK at h
  rw [take_all s k hk] at h
  exact cutC_no h
theorem ext_strK (s : ByteArray) (a b : Nat) (l : List UInt8) (h : (s.data.toList.drop a).take (b - a) = l) : s.extract a b = strB l := strB_ext (by rw [seg_list]; exact h)
theorem slice_preK (s : ByteArray) (k : Nat) (_h : k ≤ s.size) (w : World) : (Instr.slice 9 (.string s) none (some (.int .i64 (k : Int))) none).run Tryd.prog w = .ok (.string (strB (s.data.toList.take k))) w := by
  rw [run_slice_string_h w 9 s Tryd.underlying9 .i64 (k : Int) (by omega) (by omega)]
  rw [Int.toNat_natCast, ext_strK s 0 k _ (by rw [List.drop_zero, Nat.sub_zero])]
theorem slice_postK (s : ByteArray) (k : Nat) (_h : k < s.size) (w : World) : (Instr.slice 9 (.string s) (some (.int .i64 ((k : Int) + 1))) none none).run Tryd.prog w = .ok (.string (strB (s.data.toList.drop (k + 1)))) w := by
  rw [run_slice_string_l w 9 s Tryd.underlying9 .i64 ((k : Int) + 1) (by omega) (by omega)]
  rw [show ((k : Int) + 1).toNat = k + 1 by omega, ext_strK s (k + 1) s.size _ (List.take_of_length_le (by rw [List.length_drop, Array.length_toList]; exact Nat.le_refl _))]
/-- What line returns. -/
def lineV (l : List UInt8) : Value :=
  if (cutC 58 l).2.2 = true then .tuple #[.agg #[.string (strB (nameR (cutC 58 l).1)), .string (strB (valueR (cutC 58 l).2.1))], .bool (trB (cutC 58 l).1 (cutC 58 l).2.1)]
  else .tuple #[.agg #[.string ⟨#[]⟩, .string ⟨#[]⟩], .bool false]
theorem trB_no1 {n v : List UInt8} (h : nameC n ≠ 0) : trB n v = false := by unfold trB; rw [decide_eq_false h]; rfl
theorem trB_no2 {n v : List UInt8} (h : valueC v ≠ 0) : trB n v = false := by unfold trB; rw [decide_eq_false h, Bool.and_false]
theorem trB_is {n v : List UInt8} (h : nameC n = 0) (h2 : valueC v = 0) : trB n v = !forbB (nameR n) := by unfold trB; rw [decide_eq_true h, decide_eq_true h2, Bool.true_and, Bool.and_true]
theorem line_end {w w' : World} {u v : Value} (h : Below (w.alloc (.cells #[.string ⟨#[]⟩, .string ⟨#[]⟩] 51)).heap.size (w.alloc (.cells #[.string ⟨#[]⟩, .string ⟨#[]⟩] 51)) w') :
    Below w.heap.size w ((w'.setCell ⟨w.heap.size, 0, none⟩ u).setCell ⟨w.heap.size, 1, none⟩ v) := below_two ((below_new w _).trans (h.mono (by simp))) u v
end Go.Proofs.YthlfhbhjiofneaaDoor

/- What the reference's Last returns. -/
namespace Go.Proofs.YthlfhbhjiofneaaDoor
open Go.RowKit

theorem ret_vb {v : Value} {a b : Bool} (h : a = b) : Ending.returned (.tuple #[v, .bool a]) = .returned (.tuple #[v, .bool b]) := by rw [h]
def RefLastPost (ts : Flds) (w : World) (e : Ending) (w' : World) : Prop :=
  ∃ v, e = .returned (.tuple #[v, .bool (okLast ts)]) ∧ (okLast ts = true → OwnM w.heap.size w' v (lastL ts)) ∧ Below w.heap.size w w'
theorem good_c1 {x y : List UInt8} (h : nameC x ≠ 0) : goodTr (x, y) = false := by unfold goodTr; show ((decide (nameC x = 0) && _) && _ && _) = false; rw [decide_eq_false h]; rfl
theorem good_c2 {x y : List UInt8} (h : valueC y ≠ 0) : goodTr (x, y) = false := by rw [good_iff]; show (trB x y && _) = false; rw [trB_no2 h]; rfl
theorem good_c3 {x y : List UInt8} (h : valueR y ≠ y) : goodTr (x, y) = false := by rw [good_iff]; show (trB x y && decide (valueR y = y)) = false; rw [decide_eq_false h, Bool.and_false]
theorem good_c4 {x y : List UInt8} (h : nameC x = 0) (h2 : valueC y = 0) (h3 : valueR y = y) : goodTr (x, y) = !forbB (nameR x) := by rw [good_iff]; show (trB x y && decide (valueR y = y)) = _; rw [decide_eq_true h3, Bool.and_true, trB_is h h2]
set_option maxHeartbeats 8000000 in
set_option maxRecDepth 100000 in
theorem refLast_any (fv : Value) (ts : Flds) (w : World) (hr : ReadsQ w fv ts) (hl : ts.length ≤ 80) (hz : sizL ts ≤ 20000) :
    Calls Tryd.prog 12 #[fv] w (RefLastPost ts w) := by
  obtain ⟨ao, cap, rfl, hc⟩ := hr
  have HC := Lib.hid hc
  clear hc
  go_enter Tryd.func12, Tryd.ntmps12
  go_wp2_with fail
  go_loopw [4, 5] (fun b i wr => ∃ k : Nat, i = .int .i64 k ∧ k ≤ ts.length ∧ b = .string (strB (linesT (ts.take k))) ∧ (∀ p ∈ ts.take k, goodTr p = true) ∧ Below w.heap.size w wr) (fun _ i _ => ts.length - (intOf i).toNat)
  case atStart => exact ⟨0, rfl, Nat.zero_le _, rfl, fun p hp => by simp at hp, Below.refl _ _⟩
  case round =>
    obtain ⟨k, rfl, hk, rfl, hg, hBr⟩ := hrel
    have HBR := Lib.hid hBr
    have HG := Lib.hid hg
    clear hBr hg
    have hlk : (linesT (ts.take k)).length ≤ sizL ts := by
      rw [← siz_lines]
      have := siz_app (ts.take k) (ts.drop k)
      rw [List.take_append_drop] at this
      omega
    have hsk : (strB (linesT (ts.take k))).size = (linesT (ts.take k)).length := strB_size _
    by_cases hlt : k < ts.length
    · obtain ⟨p, hp⟩ : ∃ p, ts[k]? = some p := ⟨ts[k], by simp [hlt]⟩
      obtain ⟨g, off, rfl, hg1, h1, h2⟩ := HC.out k p hp
      have hc1 : wr.cell? ⟨g, off + k * 2, none⟩ = some (.string (strB p.1)) := (HBR.out.cell (p := ⟨g, off + k * 2, none⟩) hg1).trans h1
      have hc2 : wr.cell? ⟨g, off + k * 2 + 1, none⟩ = some (.string (strB p.2)) := (HBR.out.cell (p := ⟨g, off + k * 2 + 1, none⟩) hg1).trans h2
      have hgr : g < wr.heap.size := Nat.lt_of_lt_of_le hg1 HBR.out.size
      have hpl := siz_mem (List.mem_of_getElem? hp)
      have HP := Lib.hid hp
      clear hp h1 h2 hg1
      obtain ⟨x, y⟩ := p
      simp only at hc1 hc2 hpl
      have NX := fun W => refName_any (strB x) W (by rw [strB_size]; omega)
      have VX := fun W => refValue_any (strB y) W (by rw [strB_size]; omega)
      rw [strB_list] at NX VX
      have zx : (nameR x).length ≤ 64 := nameR_len x
      have zy : (valueR y).length ≤ 2048 := valueR_len y
      have sx : (strB (nameR x)).size = (nameR x).length := strB_size _
      have sy : (strB (valueR y)).size = (valueR y).length := strB_size _
      by_cases c1 : nameC x = 0
      · by_cases c2 : valueC y = 0
        · rw [c1] at NX
          rw [c2] at VX
          have NX := Lib.hid NX
          have VX := Lib.hid VX
          by_cases c3 : valueR y = y
          · have heq : ((strB (valueR y)).toList == (strB y).toList) = true := by rw [c3]; exact beq_self_eq_true _
            have HGd := Lib.hid (good_c4 c1 c2 c3)
            have HC3 := Lib.hid c3
            have HNR := Lib.hid (show nameR x = lowS x by unfold nameR; rw [if_pos c1])
            have FB := fun W => refForbidden_any (nameR x) W
            cases hf : forbB (nameR x) with
            | true =>
              have HN := Lib.hid (okLast_no3 (List.mem_of_getElem? HP.out) (by rw [HGd.out, hf]; rfl))
              rw [hf] at FB
              have FB := Lib.hid FB
              clear c1 c2 c3 hf
              go_wp2_with fail
              refine (NX.out _).mono ?_
              rintro e w3 ⟨rfl, hB3⟩
              have HB3 := Lib.hid (HBR.out.trans (hB3.mono HBR.out.size))
              have d2 : w3.cell? ⟨g, off + k * 2 + 1, none⟩ = some (.string (strB y)) := (hB3.cell (p := ⟨g, off + k * 2 + 1, none⟩) hgr).trans hc2
              clear hB3 hc1 hc2
              go_wp2_with fail
              refine (VX.out _).mono ?_
              rintro e w' ⟨rfl, rfl⟩
              go_wp2_with fail
              refine (FB.out _).mono ?_
              rintro e w4 ⟨rfl, hB4⟩
              have HB4 := Lib.hid (HB3.out.trans (hB4.mono HB3.out.size))
              clear hB4
              go_wp2_with fail
              go_ret2
              exact ⟨_, by rw [HN.out]; rfl, fun h => (by rw [HN.out] at h; cases h), HB4.out⟩
            | false =>
              have HGp := Lib.hid (show goodTr (x, y) = true by rw [HGd.out, hf]; rfl)
              rw [hf] at FB
              have FB := Lib.hid FB
              have HL := Lib.hid (show strB (linesT (ts.take k)) ++ (strB (nameR x) ++ (⟨#[58, 32]⟩ : ByteArray) ++ strB (valueR y) ++ (⟨#[13, 10]⟩ : ByteArray)) = strB (linesT (ts.take (k + 1))) by
                rw [lines_more HP.out, HNR.out, HC3.out]
                apply ByteArray.ext
                simp [strB, trLine])
              clear c1 c2 c3 hf
              go_wp2_with fail
              refine (NX.out _).mono ?_
              rintro e w3 ⟨rfl, hB3⟩
              have HB3 := Lib.hid (HBR.out.trans (hB3.mono HBR.out.size))
              have d2 : w3.cell? ⟨g, off + k * 2 + 1, none⟩ = some (.string (strB y)) := (hB3.cell (p := ⟨g, off + k * 2 + 1, none⟩) hgr).trans hc2
              clear hB3 hc1 hc2
              go_wp2_with fail
              refine (VX.out _).mono ?_
              rintro e w' ⟨rfl, rfl⟩
              go_wp2_with fail
              refine (FB.out _).mono ?_
              rintro e w4 ⟨rfl, hB4⟩
              have HB4 := Lib.hid (HB3.out.trans (hB4.mono HB3.out.size))
              clear hB4
              go_wp2_with fail
              go_roundw
              case rel =>
                refine ⟨k + 1, by go_num, by omega, by rw [← HL.out], fun p hp => ?_, HB4.out⟩
                rw [take_more HP.out] at hp
                rcases List.mem_append.1 hp with h | h
                · exact HG.out p h
                · rw [List.mem_singleton.1 h]; exact HGp.out
              case measure => simp [intOf]; omega
          · have heq : ((strB (valueR y)).toList == (strB y).toList) = false := by
              rw [beq_eq_false_iff_ne]
              intro h
              rw [ByteArray.toList_eq, ByteArray.toList_eq, strB_list, strB_list] at h
              exact c3 h
            have HN := Lib.hid (okLast_no3 (List.mem_of_getElem? HP.out) (good_c3 c3))
            clear c1 c2 c3
            go_wp2_with fail
            refine (NX.out _).mono ?_
            rintro e w3 ⟨rfl, hB3⟩
            have HB3 := Lib.hid (HBR.out.trans (hB3.mono HBR.out.size))
            have d2 : w3.cell? ⟨g, off + k * 2 + 1, none⟩ = some (.string (strB y)) := (hB3.cell (p := ⟨g, off + k * 2 + 1, none⟩) hgr).trans hc2
            clear hB3 hc1 hc2
            go_wp2_with fail
            refine (VX.out _).mono ?_
            rintro e w' ⟨rfl, rfl⟩
            go_wp2_with fail
            go_ret2
            exact ⟨_, by rw [HN.out]; rfl, fun h => (by rw [HN.out] at h; cases h), HB3.out⟩
        · have HN := Lib.hid (okLast_no3 (List.mem_of_getElem? HP.out) (good_c2 c2))
          rw [c1] at NX
          have e2 : ((valueC y : Int) != 0) = true := by simp; omega
          have NX := Lib.hid NX
          have VX := Lib.hid VX
          clear c1 c2
          · go_wp2_with fail
            refine (NX.out _).mono ?_
            rintro e w3 ⟨rfl, hB3⟩
            have HB3 := Lib.hid (HBR.out.trans (hB3.mono HBR.out.size))
            have d2 : w3.cell? ⟨g, off + k * 2 + 1, none⟩ = some (.string (strB y)) := (hB3.cell (p := ⟨g, off + k * 2 + 1, none⟩) hgr).trans hc2
            clear hB3 hc1 hc2
            go_wp2_with fail
            refine (VX.out _).mono ?_
            rintro e w' ⟨rfl, rfl⟩
            go_wp2_with fail
            go_ret2
            exact ⟨_, by rw [HN.out]; rfl, fun h => (by rw [HN.out] at h; cases h), HB3.out⟩
      · have HN := Lib.hid (okLast_no3 (List.mem_of_getElem? HP.out) (good_c1 c1))
        have e1 : ((nameC x : Int) != 0) = true := by simp; omega
        have NX := Lib.hid NX
        have VX := Lib.hid VX
        clear c1
        · · go_wp2_with fail
            refine (NX.out _).mono ?_
            rintro e w3 ⟨rfl, hB3⟩
            have HB3 := Lib.hid (HBR.out.trans (hB3.mono HBR.out.size))
            have d2 : w3.cell? ⟨g, off + k * 2 + 1, none⟩ = some (.string (strB y)) := (hB3.cell (p := ⟨g, off + k * 2 + 1, none⟩) hgr).trans hc2
            clear hB3 hc1 hc2
            go_wp2_with fail
            refine (VX.out _).mono ?_
            rintro e w' ⟨rfl, rfl⟩
            go_wp2_with fail
            go_ret2
            exact ⟨_, by rw [HN.out]; rfl, fun h => (by rw [HN.out] at h; cases h), HB3.out⟩
    · have htk : ts.take k = ts := List.take_of_length_le (by omega)
      rw [htk] at HG hlk hsk ⊢
      have HN := Lib.hid (fun h : ts.length ≤ 64 => fun h2 : sizL ts + 2 ≤ 8192 => okLast_yes h h2 HG.out)
      have hll := siz_lines ts
      have e13 : (strB (linesT ts) ++ (⟨#[13, 10]⟩ : ByteArray)).size = sizL ts + 2 := by rw [ByteArray.size_append, hsk, hll]; rfl
      obtain ⟨t, ht⟩ : ∃ t, strB (linesT ts) ++ (⟨#[13, 10]⟩ : ByteArray) = t := ⟨_, rfl⟩
      obtain ⟨s, hs⟩ : ∃ s, (⟨#[48, 13, 10]⟩ : ByteArray) ++ t = s := ⟨_, rfl⟩
      rw [ht] at e13
      have es : s.size = sizL ts + 5 := by rw [← hs, ByteArray.size_append, e13]; show 3 + _ = _; omega
      have hsl : s.data.toList = lastL ts := by rw [← hs, ← ht]; simp [strB, lastL]
      have a1 := fun W => addS_run (P := Tryd.prog) ht (by omega) (by show 2 ≤ _; omega) W
      have a2 := fun W => addS_run (P := Tryd.prog) hs (by show 3 ≤ _; omega) (by omega) W
      have hcvt := fun W => run_bytes_of_string (P := Tryd.prog) W 9 27 5 s Tryd.underlying9 Tryd.underlying27 Tryd.underlying5
      have hge := grownCap_ge wr s.size 0 5
      have hfr : (bytesRow s (grownCap wr s.size 0 5)).size = grownCap wr s.size 0 5 := by
        unfold bytesRow
        simp only [Array.size_append, Array.size_map, Array.size_replicate]
        have : s.data.size = s.size := rfl
        omega
      have HO := Lib.hid ((ownM_conv wr s (by omega) ((bytesRow s (grownCap wr s.size 0 5)).size, (bytesRow s (grownCap wr s.size 0 5)).size + 1) (by rw [hfr]; exact Nat.le_refl _)).mono HBR.out.size)
      rw [hsl] at HO
      have HB := Lib.hid (HBR.out.trans ((below_new wr (.cells (bytesRow s (grownCap wr s.size 0 5)) 5 ((bytesRow s (grownCap wr s.size 0 5)).size, (bytesRow s (grownCap wr s.size 0 5)).size + 1))).mono HBR.out.size))
      clear hfr hge hsl hs ht hsk hll es
      by_cases h92 : sizL ts + 2 ≤ 8192
      · by_cases h64 : ts.length ≤ 64
        · have HN := Lib.hid (HN.out h64 h92)
          go_wp2_with fail
          go_ret2
          exact ⟨_, ret_vb (by refine Eq.trans ?_ HN.out.symm; first | rfl | (simp; done) | (simp; omega)), fun _ => HO.out.below (Below.refl _ _).drew, HB.out.drew⟩
        · have HN := Lib.hid (okLast_no1 (ts := ts) (by omega))
          go_wp2_with fail
          go_ret2
          exact ⟨_, ret_vb (by refine Eq.trans ?_ HN.out.symm; first | rfl | (simp; done) | (simp; omega)), fun h => (by rw [HN.out] at h; cases h), HB.out.drew⟩
      · have HN := Lib.hid (okLast_no2 (ts := ts) (by omega))
        go_wp2_with fail
        go_ret2
        exact ⟨_, ret_vb (by refine Eq.trans ?_ HN.out.symm; first | rfl | (simp; done) | (simp; omega)), fun h => (by rw [HN.out] at h; cases h), HB.out.drew⟩
end Go.Proofs.YthlfhbhjiofneaaDoor

/- What the statements of layer 6 ask of a list of fields (fits); the statements' Fields, Request and Response. -/
namespace Go.Proofs.YthlfhbhjiofneaaDoor
open Go.RowKit

/-- How many bytes the names and values of a list have. -/
def totL (ps : Flds) : Nat := ps.foldr (fun p n => p.1.length + p.2.length + n) 0
theorem tot_app (ps qs : Flds) : totL (ps ++ qs) = totL ps + totL qs := by
  induction ps with
  | nil => simp [totL]
  | cons p r ih => unfold totL at *; rw [List.cons_append, List.foldr_cons, List.foldr_cons, ih]; omega
theorem tot_more {ps : Flds} {k : Nat} {p : List UInt8 × List UInt8} (h : ps[k]? = some p) : totL (ps.take (k + 1)) = totL (ps.take k) + (p.1.length + p.2.length) := by
  rw [take_more h, tot_app]; simp [totL]
theorem tot_le {ps : Flds} {M : Nat} (hb : ∀ p ∈ ps, p.1.length ≤ M ∧ p.2.length ≤ M) (k : Nat) : totL (ps.take k) ≤ k * (M + M) := by
  induction k with
  | zero => simp [totL]
  | succ k ih =>
    cases hp : ps[k]? with
    | none =>
      have e : ps.take (k + 1) = ps.take k := by rw [List.take_add_one, hp]; simp
      rw [e]; exact Nat.le_trans ih (Nat.mul_le_mul_right _ (Nat.le_succ k))
    | some p =>
      rw [tot_more hp, Nat.succ_mul]
      have := hb p (List.mem_of_getElem? hp)
      omega
theorem tot_mem {ps : Flds} {p : List UInt8 × List UInt8} (h : p ∈ ps) : p.1.length + p.2.length ≤ totL ps := by
  induction ps with
  | nil => cases h
  | cons q r ih =>
    have e : totL (q :: r) = q.1.length + q.2.length + totL r := rfl
    rcases List.mem_cons.1 h with rfl | h
    · omega
    · have := ih h; omega
def fits6B (ps : Flds) : Bool := decide (ps.length ≤ 80 ∧ totL ps ≤ 4000)
theorem fits6_yes {ps : Flds} (h : fits6B ps = true) : ps.length ≤ 80 ∧ totL ps ≤ 4000 := of_decide_eq_true h
set_option maxHeartbeats 2000000 in
set_option maxRecDepth 100000 in
theorem fields_any (lv : Value) (ps : Flds) (w : World) (hr : ReadsQ w lv ps) (hl : ps.length ≤ 1000) (hb : ∀ p ∈ ps, p.1.length + p.2.length ≤ 1000000) :
    Calls Tryd.prog 14 #[lv] w fun e w' => ∃ v, e = .returned v ∧ OwnsP 52 w.heap.size w' v ps ∧ Below w.heap.size w w' := by
  obtain ⟨i0, hi, hz0, hz1, hz2⟩ := info_parts Tryd.infoF
  obtain ⟨ao, cap, rfl, hc⟩ := hr
  have HC := Lib.hid hc
  have HBig := Lib.hid hb
  clear hc hb
  go_enter Tryd.func14, Tryd.ntmps14
  go_wp2_with fail
  go_loopw [3, 8] (fun v i wr => ∃ k : Nat, i = .int .i64 k ∧ k ≤ ps.length ∧ OwnsP 52 w.heap.size wr v (ps.take k) ∧ Below w.heap.size w wr) (fun _ i _ => ps.length - (intOf i).toNat)
  case atStart => exact ⟨0, rfl, Nat.zero_le _, OwnsP.nil _ _ _, Below.refl _ _⟩
  case round =>
    obtain ⟨k, rfl, hk, hO, hBr⟩ := hrel
    have hbr := hBr.size
    by_cases hlt : k < ps.length
    · obtain ⟨p, hp⟩ : ∃ p, ps[k]? = some p := ⟨ps[k], by simp [hlt]⟩
      obtain ⟨g, off, rfl, hg1, h1, h2⟩ := HC.out k p hp
      have hc1 : wr.cell? ⟨g, off + k * 2, none⟩ = some (.string (strB p.1)) := (hBr.cell (p := ⟨g, off + k * 2, none⟩) hg1).trans h1
      have hc2 : wr.cell? ⟨g, off + k * 2 + 1, none⟩ = some (.string (strB p.2)) := (hBr.cell (p := ⟨g, off + k * 2 + 1, none⟩) hg1).trans h2
      have HP := Lib.hid hp
      clear hp h1 h2
      have hlen : (ps.take k).length = k := by simp; omega
      have HLen := Lib.hid hlen
      clear hlen
      go_wp2_with (at_builtin; refine wpList_append_own _ rfl _ _ 37 rfl w.heap.size 52 i0 (.agg #[.string ByteArray.empty, .string ByteArray.empty]) 2 32 Tryd.underlying37 hi hz0 hz1 hz2 rfl (by decide) _ _ _ rfl ((World.ownsRow.alloc hO _).alloc _) ⟨wr.heap.size + 1, 0, none⟩ 1 1 [strV p.1, strV p.2] rfl rfl (two_new' wr p.1 p.2 _ _) (fun u hu => by simp at hu; rcases hu with rfl | rfl <;> rfl) (by rw [HLen.out]; unfold maxLen; omega) (by rw [HLen.out]; omega) (by simp; omega) ?_; intro v' w4 hown' hgrow _)
      go_roundw
      case rel => exact ⟨k + 1, by go_num, by omega, own_more HP.out hown', below_appendP hBr hbr (below_new wr _) hO hgrow⟩
      case measure => simp [intOf]; omega
    · have htk : ps.take k = ps := List.take_of_length_le (by omega)
      rw [htk] at hO
      go_wp2_with fail
      go_ret
      exact ⟨_, rfl, hO, hBr⟩
theorem ownsP_set3 {T : TypeId} {B C g : Nat} {w' : World} {v : Value} {ps : Flds} (h : OwnsP T B w' v ps) (hg : g < B) (hC : C ≤ B) (a b c : Value) :
    OwnsP T C (((w'.setCell ⟨g, 0, none⟩ a).setCell ⟨g, 1, none⟩ b).setCell ⟨g, 2, none⟩ c) v ps := by
  have hn : ∀ k, v.ownBlock ≠ some (⟨g, k, none⟩ : Addr).block := fun k hq => by have := (World.ownsRow.lt h _ hq).1; simp at this; omega
  exact OwnsP.mono hC (ownsRow_setCell_other (ownsRow_setCell_other (ownsRow_setCell_other h (hn 0) a) (hn 1) b) (hn 2) c)
theorem below_set3 {w w' : World} {g : Nat} (h : Below w.heap.size w w') (hg : w.heap.size ≤ g) (a b c : Value) : Below w.heap.size w (((w'.setCell ⟨g, 0, none⟩ a).setCell ⟨g, 1, none⟩ b).setCell ⟨g, 2, none⟩ c) :=
  ((h.setCell (p := ⟨g, 0, none⟩) hg a).setCell (p := ⟨g, 1, none⟩) hg b).setCell (p := ⟨g, 2, none⟩) hg c
theorem ownsP_set2 {T : TypeId} {B C g : Nat} {w' : World} {v : Value} {ps : Flds} (h : OwnsP T B w' v ps) (hg : g < B) (hC : C ≤ B) (a b : Value) :
    OwnsP T C ((w'.setCell ⟨g, 0, none⟩ a).setCell ⟨g, 1, none⟩ b) v ps := by
  have hn : ∀ k, v.ownBlock ≠ some (⟨g, k, none⟩ : Addr).block := fun k hq => by have := (World.ownsRow.lt h _ hq).1; simp at this; omega
  exact OwnsP.mono hC (ownsRow_setCell_other (ownsRow_setCell_other h (hn 0) a) (hn 1) b)
theorem below_set2 {w w' : World} {g : Nat} (h : Below w.heap.size w w') (hg : w.heap.size ≤ g) (a b : Value) : Below w.heap.size w ((w'.setCell ⟨g, 0, none⟩ a).setCell ⟨g, 1, none⟩ b) :=
  (h.setCell (p := ⟨g, 0, none⟩) hg a).setCell (p := ⟨g, 1, none⟩) hg b
end Go.Proofs.YthlfhbhjiofneaaDoor

/- What the statements of layer 7 ask of a list of fields (few). -/
namespace Go.Proofs.YthlfhbhjiofneaaDoor
open Go.RowKit

def few7B (ps : Flds) : Bool := decide (ps.length ≤ 80 ∧ totL ps ≤ 12000)
theorem few7_yes {ps : Flds} (h : few7B ps = true) : ps.length ≤ 80 ∧ totL ps ≤ 12000 := of_decide_eq_true h
set_option maxHeartbeats 4000000 in
set_option maxRecDepth 100000 in
theorem few7_any (lv : Value) (ps : Flds) (w : World) (hr : ReadsQ w lv ps) (hl : ps.length ≤ 9223372036854775807) (hb : ∀ p ∈ ps, p.1.length ≤ 140737488355328 ∧ p.2.length ≤ 140737488355328) :
    Calls Tryd.prog 8 #[lv] w fun e w' => e = .returned (.bool (few7B ps)) ∧ Below w.heap.size w w' := by
  obtain ⟨ao, cap, rfl, hc⟩ := hr
  have hs := tot_le hb
  have HC := Lib.hid hc
  have HBig := Lib.hid hb
  have HS := Lib.hid hs
  clear hc hb hs
  by_cases h70 : ps.length ≤ 80
  · go_enter Tryd.func8, Tryd.ntmps8
    go_wp2_with fail
    go_loopw [3, 4] (fun v i wr => ∃ k : Nat, i = .int .i64 k ∧ k ≤ ps.length ∧ v = .int .i64 (totL (ps.take k)) ∧ Below w.heap.size w wr) (fun _ i _ => ps.length - (intOf i).toNat)
    case atStart => exact ⟨0, rfl, Nat.zero_le _, rfl, Below.refl _ _⟩
    case round =>
      obtain ⟨k, rfl, hk, rfl, hBr⟩ := hrel
      have hsk : totL (ps.take k) ≤ 80 * (140737488355328 + 140737488355328) := Nat.le_trans (HS.out k) (Nat.mul_le_mul_right _ (by omega))
      by_cases hlt : k < ps.length
      · obtain ⟨p, hp⟩ : ∃ p, ps[k]? = some p := ⟨ps[k], by simp [hlt]⟩
        obtain ⟨g, off, rfl, hg1, h1, h2⟩ := HC.out k p hp
        have hc1 : wr.cell? ⟨g, off + k * 2, none⟩ = some (.string (strB p.1)) := (hBr.cell (p := ⟨g, off + k * 2, none⟩) hg1).trans h1
        have hc2 : wr.cell? ⟨g, off + k * 2 + 1, none⟩ = some (.string (strB p.2)) := (hBr.cell (p := ⟨g, off + k * 2 + 1, none⟩) hg1).trans h2
        have hpl := HBig.out p (List.mem_of_getElem? hp)
        have e1 : (strB p.1).size = p.1.length := strB_size _
        have e2 : (strB p.2).size = p.2.length := strB_size _
        have HM := Lib.hid (tot_more hp)
        clear hp h1 h2
        have hw1 : IntKind.i64.wrap ((p.1.length : Int) + (p.2.length : Int)) = (p.1.length : Int) + (p.2.length : Int) := IntWalk.i64_in _ (by omega)
        have hw2 : IntKind.i64.wrap ((totL (ps.take k) : Int) + ((p.1.length : Int) + (p.2.length : Int))) = (totL (ps.take k) : Int) + ((p.1.length : Int) + (p.2.length : Int)) := IntWalk.i64_in _ (by omega)
        go_wp2
        go_quiet (fail)
        go_wp2
        clear hw1 hw2
        go_roundw
        case rel => exact ⟨k + 1, by go_num, by omega, by rw [HM.out]; congr 1, below_drewN hBr _⟩
        case measure => simp [intOf]; omega
      · have htk : ps.take k = ps := List.take_of_length_le (by omega)
        rw [htk] at hsk ⊢
        by_cases h6 : totL ps ≤ 12000
        · have hf : few7B ps = true := decide_eq_true ⟨h70, h6⟩
          have HF := Lib.hid hf
          clear hf
          have hd : decide ((totL ps : Int) ≤ 12000) = true := decide_eq_true (by omega)
          go_wp2_with fail
          go_ret
          exact ⟨by rw [HF.out]; rfl, hBr⟩
        · have hf : few7B ps = false := decide_eq_false (fun h => h6 h.2)
          have HF := Lib.hid hf
          clear hf
          have hd : decide ((totL ps : Int) ≤ 12000) = false := decide_eq_false (by omega)
          go_wp2_with fail
          go_ret
          exact ⟨by rw [HF.out]; rfl, hBr⟩
  · have hsm : few7B ps = false := decide_eq_false fun h => h70 h.1
    rw [hsm]
    go_enter Tryd.func8, Tryd.ntmps8
    go_wp2_with fail
    go_loopw [3, 4] (fun v i wr => ∃ (k : Nat) (z : Int), i = .int .i64 k ∧ k ≤ ps.length ∧ v = .int .i64 z ∧ Below w.heap.size w wr) (fun _ i _ => ps.length - (intOf i).toNat)
    case atStart => exact ⟨0, 0, rfl, Nat.zero_le _, rfl, Below.refl _ _⟩
    case round =>
      obtain ⟨k, z, rfl, hk, rfl, hBr⟩ := hrel
      by_cases hlt : k < ps.length
      · obtain ⟨p, hp⟩ : ∃ p, ps[k]? = some p := ⟨ps[k], by simp [hlt]⟩
        obtain ⟨g, off, rfl, hg1, h1, h2⟩ := HC.out k p hp
        have hc1 : wr.cell? ⟨g, off + k * 2, none⟩ = some (.string (strB p.1)) := (hBr.cell (p := ⟨g, off + k * 2, none⟩) hg1).trans h1
        have hc2 : wr.cell? ⟨g, off + k * 2 + 1, none⟩ = some (.string (strB p.2)) := (hBr.cell (p := ⟨g, off + k * 2 + 1, none⟩) hg1).trans h2
        have hpl := HBig.out p (List.mem_of_getElem? hp)
        have e1 : (strB p.1).size = p.1.length := strB_size _
        have e2 : (strB p.2).size = p.2.length := strB_size _
        clear hp h1 h2
        have hw1 : IntKind.i64.wrap ((p.1.length : Int) + (p.2.length : Int)) = (p.1.length : Int) + (p.2.length : Int) := IntWalk.i64_in _ (by omega)
        go_wp2
        go_quiet (fail)
        go_wp2
        clear hw1
        go_roundw
        case rel => exact ⟨k + 1, _, by go_num, by omega, rfl, below_drewN hBr _⟩
        case measure => simp [intOf]; omega
      · go_wp2_with fail
        go_ret
        exact ⟨rfl, hBr⟩
end Go.Proofs.YthlfhbhjiofneaaDoor

/- What the code's Number returns, for every string. -/
namespace Go.Proofs.YthlfhbhjiofneaaDoor
open Go.RowKit

def allDig (s : ByteArray) (k : Nat) : Prop := (s.data.toList.take k).all digB = true
theorem allDig0 (s : ByteArray) : allDig s 0 := by simp [allDig]
theorem allDig_step {s : ByteArray} {k : Nat} (h : k < s.size) (hn : allDig s k) (hb : digB s[k] = true) : allDig s (k + 1) := by
  unfold allDig at *; rw [take_snoc s k h, List.all_append, hn]; simp [hb]
def numV (l : List UInt8) : Nat := l.foldl (fun n c => 10 * n + (c.toNat - 48)) 0
theorem numV_snoc (l : List UInt8) (c : UInt8) : numV (l ++ [c]) = 10 * numV l + (c.toNat - 48) := by simp [numV]
theorem fold_lt : ∀ (l : List UInt8) (a : Nat), l.all digB = true → l.foldl (fun n c => 10 * n + (c.toNat - 48)) a < (a + 1) * 10 ^ l.length := by
  intro l
  induction l with
  | nil => intro a _; simp
  | cons c t ih =>
    intro a h
    simp only [List.all_cons, Bool.and_eq_true] at h
    have hc := h.1
    simp [digB] at hc
    have := ih (10 * a + (c.toNat - 48)) h.2
    rw [List.foldl_cons, List.length_cons, Nat.pow_succ]
    refine Nat.lt_of_lt_of_le this ?_
    have e : (a + 1) * (10 ^ t.length * 10) = (10 * (a + 1)) * 10 ^ t.length := by
      rw [← Nat.mul_assoc, Nat.mul_right_comm, Nat.mul_comm (a + 1) 10]
    rw [e]
    exact Nat.mul_le_mul_right _ (by omega)
theorem numV_lt (l : List UInt8) (h : l.all digB = true) : numV l < 10 ^ l.length := by
  have := fold_lt l 0 h
  simpa [numV] using this
theorem numV_le (l : List UInt8) (h : l.all digB = true) (hl : l.length ≤ 15) : numV l < 1000000000000000 := by
  have h1 := numV_lt l h
  have h2 : 10 ^ l.length ≤ 10 ^ 15 := Nat.pow_le_pow_right (by omega) hl
  have h3 : (10 : Nat) ^ 15 = 1000000000000000 := by decide
  omega
theorem int_eq {k : IntKind} {a b : Int} (h : a = b) : Value.int k a = Value.int k b := by rw [h]
abbrev errForm' : Value := .iface 41 (.int .i64 2)
abbrev errLarge' : Value := .iface 41 (.int .i64 5)
def numR (s : ByteArray) : Value := if s.size ≤ 15 then .tuple #[.int .i64 (numV s.data.toList), .nilIface] else .tuple #[.int .i64 0, errLarge']
theorem numR_large {s : ByteArray} (h : 15 < s.size) : Ending.returned (.tuple #[.int .i64 0, errLarge']) = .returned (numR s) := by unfold numR; rw [if_neg (by omega)]
theorem numR_small {s : ByteArray} {l : List UInt8} (h : ¬ 15 < s.size) (hl : l = s.data.toList) : Ending.returned (.tuple #[.int .i64 (numV l), .nilIface]) = .returned (numR s) := by unfold numR; rw [if_pos (by omega), hl]
def numGood (s : ByteArray) : Prop := s.data.toList ≠ [] ∧ s.data.toList.all digB = true

theorem digit_not {s : ByteArray} {k : Nat} (h : k < s.size) (hb : ¬ digB s[k] = true) (hg : s.data.toList.all digB = true) : False := by
  rw [List.all_eq_true] at hg
  exact hb (hg _ (get_mem s k h))
theorem digB_of {s : ByteArray} {k : Nat} (h : k < s.size) (hg : s.data.toList.all digB = true) : 48 ≤ s[k].toNat ∧ s[k].toNat ≤ 57 := by
  rw [List.all_eq_true] at hg
  have := hg _ (get_mem s k h)
  simpa [digB] using this

end Go.Proofs.YthlfhbhjiofneaaDoor

/- What Is and Clip return where the statements call them. -/
namespace Go.Proofs.YthlfhbhjiofneaaDoor
open Go.RowKit

set_option maxHeartbeats 400000 in
set_option maxRecDepth 100000 in
theorem is_errno (a : Int) (ha : (a != 0) = true) (w : World) : Calls Tryd.prog 16 #[.iface 41 (.int .i64 a), .int .i64 a] w fun e w' => e = .returned (.bool true) ∧ w = w' := by
  go_enter Tryd.func16, Tryd.ntmps16
  go_wp2_with (go_at_call 30; refine (num_errno _ _).mono ?_; rintro e w' ⟨rfl, rfl⟩)
  go_ret
  exact ⟨rfl, rfl⟩
set_option maxHeartbeats 400000 in
set_option maxRecDepth 100000 in
theorem is_nil (b : Int) (hb : ((0 : Int) == b) = false) (w : World) : Calls Tryd.prog 16 #[.nilIface, .int .i64 b] w fun e w' => e = .returned (.bool false) ∧ w = w' := by
  go_enter Tryd.func16, Tryd.ntmps16
  go_wp2_with (go_at_call 30; refine (num_nil _).mono ?_; rintro e w' ⟨rfl, rfl⟩)
  go_ret
  exact ⟨rfl, rfl⟩
end Go.Proofs.YthlfhbhjiofneaaDoor

/- ChunkedEncodes: for all parts and trailers the statement's function returns true: the walk. -/
namespace Go.Proofs.YthlfhbhjiofneaaDoor
open Go.RowKit

theorem siz_tot (ps : Flds) : sizL ps = totL ps + 4 * ps.length := by
  induction ps with
  | nil => rfl
  | cons q r ih =>
    simp only [sizL, totL, List.foldr_cons, List.length_cons] at ih ⊢
    rw [ih]; omega
/-- A row of the call's own stays as it is under an append to an older one. -/
theorem own_older {B C : Nat} {w6 w7 w8 : World} {v u : Value} {l m : List UInt8} (h : OwnB w6.heap.size w7 v l) (ho : OwnB C w6 u m) (hg : w7.grownBy w8 u.ownBlock) (hB : B ≤ w6.heap.size) : OwnB B w8 v l := by
  refine OwnB.mono hB (World.ownsRow.kept h hg ?_)
  cases hq : v.ownBlock with
  | none => exact .inl rfl
  | some k =>
    refine .inr fun e => ?_
    have h1 := (World.ownsRow.lt h k hq).1
    have h2 := (World.ownsRow.lt ho k e.symm).2
    omega
theorem fits7_yes {ls : List (List UInt8)} (h : fits7B ls = true) : ls.length ≤ 100 ∧ sumL ls ≤ 12000 := of_decide_eq_true h
set_option maxHeartbeats 8000000 in
set_option maxRecDepth 100000 in
theorem ck_encodes_walk (pv : Value) (ls : List (List UInt8)) (fv : Value) (ts : Flds) (w : World) (hM : HasMax w) (hD : HasDb w) (hp : ReadsL w pv ls) (hpl : ls.length ≤ 9223372036854775807) (hpb : ∀ l ∈ ls, l.length ≤ 140737488355328)
    (hr : ReadsQ w fv ts) (hrl : ts.length ≤ 9223372036854775807) (hrb : ∀ p ∈ ts, p.1.length ≤ 140737488355328 ∧ p.2.length ≤ 140737488355328) :
    Calls Tryd.prog 3 #[pv, fv] w fun e w' => e = .returned (.bool true) ∧ Below w.heap.size w w' := by
  have HM := Lib.hid hM
  have HA := Lib.hid (awake7_any w hM)
  have HF := Lib.hid (fun (W : World) (hb : Below w.heap.size w W) => fits7_any pv ls W (hp.below hb) hpl hpb)
  have HW := Lib.hid (fun (W : World) (hb : Below w.heap.size w W) => few7_any fv ts W (hr.below hb) hrl hrb)
  cases hf : fits7B ls with
  | false =>
    rw [hf] at HF
    obtain ⟨po, pc, rfl, _⟩ := hp
    obtain ⟨fo, fc, rfl, _⟩ := hr
    go_enter Tryd.func3, Tryd.ntmps3
    go_wp2_with fail
    refine HA.out.mono ?_
    rintro e w1 ⟨rfl, hB1⟩
    go_wp2_with fail
    refine (HF.out _ hB1).mono ?_
    rintro e w' ⟨rfl, rfl⟩
    go_wp2_with fail
    refine (awake7_any _ (HM.out.below hB1)).mono ?_
    rintro e w2 ⟨rfl, hB2⟩
    go_wp2_with fail
    go_ret
    exact ⟨rfl, hB1.trans (hB2.mono hB1.size)⟩
  | true =>
    rw [hf] at HF
    obtain ⟨f1, f2⟩ := fits7_yes hf
    cases hw : few7B ts with
    | false =>
      rw [hw] at HW
      obtain ⟨po, pc, rfl, _⟩ := hp
      obtain ⟨fo, fc, rfl, _⟩ := hr
      go_enter Tryd.func3, Tryd.ntmps3
      go_wp2_with fail
      refine HA.out.mono ?_
      rintro e w1 ⟨rfl, hB1⟩
      go_wp2_with fail
      refine (HF.out _ hB1).mono ?_
      rintro e w' ⟨rfl, rfl⟩
      go_wp2_with fail
      refine (HW.out _ hB1).mono ?_
      rintro e w2 ⟨rfl, hB2⟩
      have hB2 := hB1.trans (hB2.mono hB1.size)
      go_wp2_with fail
      refine (awake7_any _ (HM.out.below hB2)).mono ?_
      rintro e w3 ⟨rfl, hB3⟩
      go_wp2_with fail
      go_ret
      exact ⟨rfl, hB2.trans (hB3.mono hB2.size)⟩
    | true =>
      rw [hw] at HW
      obtain ⟨g1, g2⟩ := few7_yes hw
      have g3 : sizL ts ≤ 12320 := by rw [siz_tot]; omega
      have HP := Lib.hid hp
      have HR := Lib.hid hr
      have HD := Lib.hid hD
      have RL := Lib.hid (fun (W : World) (hb : Below w.heap.size w W) => refLast_any fv ts W (hr.below hb) g1 (by omega))
      have hb6 : ∀ p ∈ ts, p.1.length + p.2.length ≤ 1000000 := fun p hp => by have := tot_mem hp; omega
      have FD := Lib.hid (fun (W : World) (hb : Below w.heap.size w W) => fields_any fv ts W (hr.below hb) (by omega) hb6)
      have PL := Lib.hid (fun (v : Value) (W : World) (h : ReadsQ W v ts) => lastP_any v ts W h (by omega) hb6)
      have PE := Lib.hid (fun (v : Value) (W : World) (hb : Below w.heap.size w W) (h : ReadsQ W v ts) => encode_any pv v ls ts W (HD.out.below hb) (HP.out.below hb) h (by omega) (by omega) hb6 hpb)
      obtain ⟨po, pc, rfl, hpc⟩ := hp
      obtain ⟨fo, fc, rfl, _⟩ := hr
      have HC := Lib.hid hpc
      clear hpc hf hw hrb hrl hpb hpl hD hM hb6
      go_enter Tryd.func3, Tryd.ntmps3
      go_wp2_with fail
      refine HA.out.mono ?_
      rintro e w1 ⟨rfl, hB1⟩
      go_wp2_with fail
      refine (HF.out _ hB1).mono ?_
      rintro e w' ⟨rfl, rfl⟩
      go_wp2_with fail
      refine (HW.out _ hB1).mono ?_
      rintro e w2 ⟨rfl, hB2⟩
      have HB2 := Lib.hid (hB1.trans (hB2.mono hB1.size))
      clear hB1 hB2 HA HF HW
      go_wp2_with fail
      go_loopw [5, 6] (fun b i wr => ∃ k : Nat, i = .int .i64 k ∧ k ≤ ls.length ∧ OwnB w.heap.size wr b (chunksL (ls.take k)) ∧ Below w.heap.size w wr) (fun _ i _ => ls.length - (intOf i).toNat)
      case atStart => exact ⟨0, rfl, Nat.zero_le _, OwnB.nil _ _, HB2.out⟩
      case round =>
        obtain ⟨k, rfl, hk, hO, hBr⟩ := hrel
        have HBR := Lib.hid hBr
        have HO := Lib.hid hO
        have hst := sumL_take_le ls k
        have hcl := chunks_len hk (by omega)
        clear hBr hO HB2
        by_cases hlt : k < ls.length
        · obtain ⟨l, hl⟩ : ∃ l, ls[k]? = some l := ⟨ls[k], by simp [hlt]⟩
          obtain ⟨g, off, x, rfl, hg, hcell, hx⟩ := HC.out k l hl
          have hc1 : wr.cell? ⟨g, off + k, none⟩ = some x := (HBR.out.cell (p := ⟨g, off + k, none⟩) hg).trans hcell
          have hgr : g < wr.heap.size := Nat.lt_of_lt_of_le hg HBR.out.size
          have HX := Lib.hid (hx.below HBR.out)
          have hll := sumL_mem (List.mem_of_getElem? hl)
          have hcl2 := chunk_len (b := l) (by omega)
          have HK := Lib.hid (chunks_more hl)
          obtain ⟨xa, xc, rfl, _⟩ := id hx
          clear hl hcell hx hg
          have RC := Lib.hid (refChunk_any (.slice xa l.length xc) l wr HX.out (by omega))
          go_wp2_with fail
          refine RC.out.mono ?_
          rintro e w3 ⟨v3, rfl, hO3, hB3⟩
          have HB3 := Lib.hid (HBR.out.trans (hB3.mono HBR.out.size))
          have hc3 : w3.cell? ⟨g, off + k, none⟩ = some (.slice xa l.length xc) := (hB3.cell (p := ⟨g, off + k, none⟩) hgr).trans hc1
          have HX3 := Lib.hid (HX.out.below hB3)
          have HO3 := Lib.hid hO3
          have HOw := Lib.hid (HO.out.below hB3)
          have CH := Lib.hid (chunk_any (.slice xa l.length xc) l w3 HX3.out (by omega) (HD.out.below HB3.out))
          clear hO3 hB3 hc1 RC HX HO
          go_wp2_with fail
          refine CH.out.mono ?_
          rintro e w4 ⟨v4, rfl, hO4, hB4⟩
          have HB4 := Lib.hid (HB3.out.trans (hB4.mono HB3.out.size))
          have HR3 := Lib.hid (HO3.out.below hB4).reads
          have HOx := Lib.hid (HOw.out.below hB4)
          have BY := Lib.hid (bytes7_any v4 v3 (chunkL l) (chunkL l) w4 hO4.reads HR3.out)
          rw [decide_eq_true rfl] at BY
          clear hO4 hB4 CH HO3 HOw hc3
          go_wp2_with fail
          refine BY.out.mono ?_
          rintro e w' ⟨rfl, rfl⟩
          go_wp2_with (at_builtin; refine wpList_appendB (by rfl) _ _ (by rfl) _ _ (by rfl) (by rfl) HOx.out HR3.out (by omega) HB4.out.size ?_; intro v' w6 hO6 hgw)
          go_roundw
          case rel => exact ⟨k + 1, by go_num, by omega, by rw [HK.out]; exact hO6, below_appB HB4.out HB4.out.size HOx.out hgw⟩
          case measure => simp [intOf]; omega
        · have htk : ls.take k = ls := List.take_of_length_le (by omega)
          rw [htk] at HO hcl
          go_wp2_with fail
          refine (RL.out _ HBR.out).mono ?_
          rintro e w3 ⟨v3, rfl, hv3, hB3⟩
          have HB3 := Lib.hid (HBR.out.trans (hB3.mono HBR.out.size))
          have HOw := Lib.hid (HO.out.below hB3)
          have HV3 := Lib.hid hv3
          clear hB3 hv3 HO
          go_wp2_with fail
          refine (FD.out _ HB3.out).mono ?_
          rintro e w4 ⟨v4, rfl, hO4, hB4⟩
          have HB4 := Lib.hid (HB3.out.trans (hB4.mono HB3.out.size))
          have HOw4 := Lib.hid (HOw.out.below hB4)
          have HV4 := Lib.hid (fun h => (HV3.out h).below hB4)
          have HQ4 := Lib.hid hO4.q
          clear hB4 hO4 HOw HV3
          go_wp2_with fail
          refine (PL.out _ _ HQ4.out).mono ?_
          rintro e w5 ⟨hcase, hB5⟩
          have HB5 := Lib.hid (HB4.out.trans (hB5.mono HB4.out.size))
          have HOw5 := Lib.hid (HOw4.out.below hB5)
          have HV5 := Lib.hid (fun h => (HV4.out h).below hB5)
          clear hB5 HOw4 HV4 HQ4 PL
          rcases hcase with ⟨hok, v5, rfl, hO5⟩ | ⟨hok, rfl⟩
          · have HL5 := Lib.hid hO5
            have hV := HV5.out hok
            have HVX := Lib.hid hV
            rw [hok]
            obtain ⟨va, vc, rfl⟩ := hO5.isSlice
            obtain ⟨ua, uc, rfl⟩ := hV.isSlice
            have HOK := Lib.hid hok
            have hls : (lastL ts).length ≤ 12325 := by rw [last_len]; omega
            clear hO5 hV HV5 hok
            go_wp2_with fail
            refine (FD.out _ HB5.out).mono ?_
            rintro e w6 ⟨v6, rfl, hO6, hB6⟩
            have HB6 := Lib.hid (HB5.out.trans (hB6.mono HB5.out.size))
            have HOw6 := Lib.hid (HOw5.out.below hB6)
            have HL6 := Lib.hid (HL5.out.below hB6)
            have HVX6 := Lib.hid (HVX.out.below hB6)
            have HQ6 := Lib.hid hO6.q
            clear hB6 hO6 HOw5 HL5 HVX
            go_wp2_with fail
            refine (PE.out _ _ HB6.out HQ6.out).mono ?_
            rintro e w7 ⟨hcase, hB7⟩
            have HB7 := Lib.hid (HB6.out.trans (hB7.mono HB6.out.size))
            have HOw7 := Lib.hid (HOw6.out.below hB7)
            have HOld := Lib.hid HOw6.out
            have HL7 := Lib.hid (HL6.out.below hB7)
            have HVX7 := Lib.hid (HVX6.out.below hB7)
            clear hB7 HOw6 HL6 HVX6
            rcases hcase with ⟨hbig, _⟩ | ⟨_, hno, _⟩ | ⟨_, _, v7, rfl, hO7⟩
            · exact absurd hbig (by omega)
            · rw [HOK.out] at hno; cases hno
            · have HE7 := Lib.hid hO7
              obtain ⟨ea, ec, rfl⟩ := hO7.isSlice
              have BY := Lib.hid (bytes7_any _ _ _ _ w7 HL7.out.reads HVX7.out.reads)
              rw [decide_eq_true rfl] at BY
              clear hO7
              go_wp2_with fail
              refine BY.out.mono ?_
              rintro e w' ⟨rfl, rfl⟩
              have HEN := Lib.hid (show encL ls ts = chunksL ls ++ lastL ts from rfl)
              go_wp2_with (at_builtin; refine wpList_appendB (by rfl) _ _ (by rfl) _ _ (by rfl) (by rfl) HOw7.out HVX7.out.reads (by omega) HB7.out.size ?_; intro v8 w8 hO8 hgw)
              have HB8 := Lib.hid (below_appB HB7.out HB7.out.size HOw7.out hgw)
              have hE8 := own_older (B := w.heap.size) HE7.out HOld.out hgw HB6.out.size
              obtain ⟨ba, bc, rfl⟩ := hO8.isSlice
              have BZ := Lib.hid (bytes7_any _ _ _ _ w8 hE8.reads hO8.reads)
              rw [decide_eq_true HEN.out] at BZ
              refine BZ.out.mono ?_
              rintro e w' ⟨rfl, rfl⟩
              go_wp2_with fail
              go_ret
              exact ⟨rfl, HB8.out⟩
          · rw [hok]
            have HOK := Lib.hid hok
            clear hok HV5
            go_wp2_with fail
            refine (FD.out _ HB5.out).mono ?_
            rintro e w6 ⟨v6, rfl, hO6, hB6⟩
            have HB6 := Lib.hid (HB5.out.trans (hB6.mono HB5.out.size))
            have HQ6 := Lib.hid hO6.q
            clear hB6 hO6
            go_wp2_with fail
            refine (PE.out _ _ HB6.out HQ6.out).mono ?_
            rintro e w7 ⟨hcase, hB7⟩
            have HB7 := Lib.hid (HB6.out.trans (hB7.mono HB6.out.size))
            clear hB7
            rcases hcase with ⟨hbig, _⟩ | ⟨_, _, rfl⟩ | ⟨_, hno, _⟩
            · exact absurd hbig (by omega)
            · go_wp2_with fail
              refine (is_errno 34 (by decide) _).mono ?_
              rintro e w' ⟨rfl, rfl⟩
              go_wp2_with fail
              refine (is_errno 34 (by decide) _).mono ?_
              rintro e w' ⟨rfl, rfl⟩
              go_wp2_with fail
              go_ret
              exact ⟨rfl, HB7.out⟩
            · rw [HOK.out] at hno; cases hno
end Go.Proofs.YthlfhbhjiofneaaDoor
