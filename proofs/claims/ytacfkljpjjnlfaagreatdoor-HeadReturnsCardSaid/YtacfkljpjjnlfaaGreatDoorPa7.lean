import Derived.Test.YtacfkljpjjnlfaaGreatDoorPa6
import Derived.Deep.QuietTactic
import Derived.BigQuiet
import Derived.Test.YtacfkljpjjnlfaaGreatDoorPa0
import Derived.Test.YtacfkljpjjnlfaaGreatDoorPa2
import Derived.Shelf.Bytes.SlIndexWhole
import Derived.Shelf.Bytes.SlSmallAll
import Derived.Lib.SlBytesConst
import Derived.Shelf.Strings.IndexAnyAll
import Derived.Lib.OthersKept
import Derived.Lib.SpaceUEq
import Derived.Lib.MapLaws
import Derived.Lib.QuoteLoop
import Derived.IntWalk
import Derived.WalkMore
/- The reference's cut, method, target, white and spaced. -/
namespace Go.Proofs.YtacfkljpjjnlfaaGreatDoor
open Go.RowKit

def notC (c : UInt8) (s : ByteArray) (k : Nat) : Prop := c ∉ s.data.toList.take k
theorem notC_step {c : UInt8} {s : ByteArray} {k : Nat} (h : notC c s k) (hk : k < s.size) (hc : s[k].toNat ≠ c.toNat) : notC c s (k + 1) := by
  unfold notC at *
  rw [take_snoc s k hk, List.mem_append, not_or]
  exact ⟨h, by simp; intro e; exact hc (by rw [e])⟩
theorem cutC_hit {c : UInt8} {s : ByteArray} {k : Nat} (h : notC c s k) (hk : k < s.size) (hc : s[k].toNat = c.toNat) : cutC c s.data.toList = (s.data.toList.take k, s.data.toList.drop (k + 1), true) := by
  have e : s[k] = c := nat_of_u8 hc
  have hd : s.data.toList = s.data.toList.take k ++ c :: s.data.toList.drop (k + 1) := by
    conv => lhs; rw [← List.take_append_drop k s.data.toList]
    rw [List.drop_eq_getElem_cons (by simpa using hk)]
    congr 2
  conv => lhs; rw [hd]
  exact cutC_at h _
theorem cutC_end {c : UInt8} {s : ByteArray} {k : Nat} (h : notC c s k) (hk : s.size ≤ k) : cutC c s.data.toList = (s.data.toList, [], false) := by
  unfold notC at h
  rw [take_all s k hk] at h
  exact cutC_no h
theorem ext_strB (s : ByteArray) (a b : Nat) (l : List UInt8) (h : (s.data.toList.drop a).take (b - a) = l) : s.extract a b = strB l := strB_ext (by rw [seg_list]; exact h)
theorem slice_pre (s : ByteArray) (k : Nat) (h : k ≤ s.size) (w : World) : (Instr.slice 9 (.string s) none (some (.int .i64 (k : Int))) none).run Tryz.prog w = .ok (.string (strB (s.data.toList.take k))) w := by
  rw [run_slice_string_h w 9 s Tryz.underlying9 .i64 (k : Int) (by omega) (by omega)]
  rw [Int.toNat_natCast, ext_strB s 0 k _ (by rw [List.drop_zero, Nat.sub_zero])]
theorem slice_post (s : ByteArray) (k : Nat) (h : k < s.size) (w : World) : (Instr.slice 9 (.string s) (some (.int .i64 ((k : Int) + 1))) none none).run Tryz.prog w = .ok (.string (strB (s.data.toList.drop (k + 1)))) w := by
  rw [run_slice_string_l w 9 s Tryz.underlying9 .i64 ((k : Int) + 1) (by omega) (by omega)]
  rw [show ((k : Int) + 1).toNat = k + 1 by omega, ext_strB s (k + 1) s.size _ (List.take_of_length_le (by rw [List.length_drop, Array.length_toList]; exact Nat.le_refl _))]
set_option maxHeartbeats 4000000 in
set_option maxRecDepth 100000 in
theorem refCutG_any (c : UInt8) (s : ByteArray) (w : World) (hs : s.size ≤ 1000000000) :
    Calls Tryz.prog 31 #[.string s, .int .u8 (c.toNat : Int)] w fun e w' => e = .returned (.tuple #[.string (strB (cutC c s.data.toList).1), .string (strB (cutC c s.data.toList).2.1), .bool (cutC c s.data.toList).2.2]) ∧ Below w.heap.size w w' := by
  go_enter Tryz.func31, Tryz.ntmps31
  go_wp2
  go_loop [7] (fun i => ∃ k : Nat, k ≤ s.size ∧ i = .int .i64 k ∧ notC c s k) (fun i => s.size - (intOf i).toNat)
  case atStart => exact ⟨0, by omega, rfl, by simp [notC]⟩
  case round =>
    obtain ⟨k, hk, rfl, hn⟩ := hrel
    have HN := Lib.hid hn
    clear hn
    by_cases hlt : k < s.size
    · by_cases hc : s[k].toNat = c.toNat
      · have hca : ((s[k].toNat : Int) == (c.toNat : Int)) = true := by rw [hc]; exact beq_self_eq_true _
        have HE := Lib.hid (cutC_hit HN.out hlt hc)
        have s1 := slice_pre s k hk
        have s2 := slice_post s k hlt
        have hw : IntKind.i64.wrap ((k : Int) + 1) = (k : Int) + 1 := IntWalk.i64_in _ (by omega)
        clear hc
        go_wp2
        go_quiet (fail)
        go_wp2
        refine bodyPost_ret (v := .tuple #[.string (strB (s.data.toList.take k)), .string (strB (s.data.toList.drop (k + 1))), .bool true]) (by simp [results, Tryz.results31, go_sem]) rfl ?_
        exact ⟨by rw [HE.out], below_drewN (Below.refl _ _) _⟩
      · have hca : ((s[k].toNat : Int) == (c.toNat : Int)) = false := by simp; omega
        have HE := Lib.hid (notC_step HN.out hlt hc)
        clear hc
        go_wp2
        go_round
        case rel => exact ⟨k + 1, by omega, by go_num, HE.out⟩
        case measure => simp [intOf]; omega
    · have HE := Lib.hid (cutC_end HN.out (by omega))
      go_wp2
      refine bodyPost_ret (v := .tuple #[.string s, .string ⟨#[]⟩, .bool false]) (by simp [results, Tryz.results31, go_sem]) rfl ?_
      exact ⟨by rw [HE.out]; simp only; rw [strB_of]; rfl, Below.refl _ _⟩
set_option maxHeartbeats 4000000 in
set_option maxRecDepth 100000 in
theorem refMethod_any (s : ByteArray) (w : World) (hs : s.size ≤ 1000000000) :
    Calls Tryz.prog 32 #[.string s] w fun e w' => e = .returned (.bool (methodB s.data.toList)) ∧ w = w' := by
  have hsz : s.data.toList.length = s.size := by rw [Array.length_toList]; rfl
  have HSZ := Lib.hid hsz
  clear hsz
  go_enter Tryz.func32, Tryz.ntmps32
  go_wp2
  go_loop [3] (fun i => ∃ k : Nat, k ≤ s.size ∧ i = .int .i64 k ∧ okTo upC s k) (fun i => s.size - (intOf i).toNat)
  case atStart => exact ⟨0, by omega, rfl, okTo0 _ s⟩
  case round =>
    obtain ⟨k, hk, rfl, hn⟩ := hrel
    by_cases hlt : k < s.size
    · by_cases h1 : 65 ≤ s[k].toNat
      · by_cases h2 : s[k].toNat ≤ 90
        · go_wp2
          go_round
          case rel => exact ⟨k + 1, by omega, by go_num, okTo_step hlt hn (upC_mk h1 h2)⟩
          case measure => simp [intOf]; omega
        · go_wp2
          go_ret
          exact ⟨ret_bool (method_bad (okTo_no hlt (upC_not (by omega)))).symm, rfl⟩
      · go_wp2
        go_ret
        exact ⟨ret_bool (method_bad (okTo_no hlt (upC_not (by omega)))).symm, rfl⟩
    · have HG := Lib.hid (method_good (okTo_end (by omega) hn))
      by_cases hz : 1 ≤ s.size
      · by_cases h16 : s.size ≤ 16
        all_goals
          go_wp2
          go_ret
          exact ⟨ret_bool (by rw [HG.out, HSZ.out, Bool.eq_iff_iff]; simp; omega), rfl⟩
      · go_wp2
        go_ret
        exact ⟨ret_bool (by rw [HG.out, HSZ.out, Bool.eq_iff_iff]; simp; omega), rfl⟩
theorem target_bad {m t : List UInt8} (h : t.all tgC = false) : targetB m t = false := by
  unfold targetB
  have ht : (t.all fun c => decide (33 ≤ c.toNat) && decide (c.toNat ≤ 126)) = t.all tgC := rfl
  rw [ht, h]; rfl
theorem target_good {m t : List UInt8} (h : t.all tgC = true) : targetB m t = (decide (1 ≤ t.length) && decide (t.length ≤ 2048) && (decide (t.head? = some 47) || (decide (t = [42]) && decide (m = optL)))) := by
  unfold targetB optL
  have ht : (t.all fun c => decide (33 ≤ c.toNat) && decide (c.toNat ≤ 126)) = t.all tgC := rfl
  rw [ht, h, Bool.true_and]
set_option maxHeartbeats 4000000 in
set_option maxRecDepth 100000 in
theorem refTarget_any (m t : List UInt8) (w : World) (hs : t.length ≤ 1000000) :
    Calls Tryz.prog 33 #[.string (strB m), .string (strB t)] w fun e w' => e = .returned (.bool (targetB m t)) ∧ w = w' := by
  have hst : (strB t).data.toList = t := strB_list t
  have hsz : t.length = (strB t).size := (strB_size t).symm
  have hs' : (strB t).size ≤ 1000000 := by omega
  have HM := Lib.hid (fun h : m = optL => list_yes h)
  have HM2 := Lib.hid (fun h : m ≠ optL => list_no h)
  unfold optL at HM HM2
  have HT := Lib.hid (fun h : t = [42] => list_yes h)
  have HT2 := Lib.hid (fun h : t ≠ [42] => list_no h)
  generalize hgs : strB t = s at *
  have HST := Lib.hid hst
  have HSZ := Lib.hid hsz
  clear hst hsz hs hgs
  go_enter Tryz.func33, Tryz.ntmps33
  go_wp2
  go_loop [5] (fun i => ∃ k : Nat, k ≤ s.size ∧ i = .int .i64 k ∧ okTo tgC s k) (fun i => s.size - (intOf i).toNat)
  case atStart => exact ⟨0, by omega, rfl, okTo0 _ s⟩
  case round =>
    obtain ⟨k, hk, rfl, hn⟩ := hrel
    by_cases hlt : k < s.size
    · by_cases h1 : 33 ≤ s[k].toNat
      · by_cases h2 : s[k].toNat ≤ 126
        · go_wp2
          go_round
          case rel => exact ⟨k + 1, by omega, by go_num, okTo_step hlt hn (tgC_mk h1 h2)⟩
          case measure => simp [intOf]; omega
        · go_wp2
          go_ret
          exact ⟨ret_bool (target_bad (by rw [← HST.out]; exact okTo_no hlt (tgC_not (by omega)))).symm, rfl⟩
      · go_wp2
        go_ret
        exact ⟨ret_bool (target_bad (by rw [← HST.out]; exact okTo_no hlt (tgC_not (by omega)))).symm, rfl⟩
    · have HG := Lib.hid (target_good (m := m) (t := t) (by rw [← HST.out]; exact okTo_end (by omega) hn))
      by_cases hz : 1 ≤ s.size
      · by_cases h16 : s.size ≤ 2048
        · have hz0 : 0 < s.size := by omega
          have hh : t.head? = some s[0] := by rw [← HST.out]; exact head_at s hz0
          by_cases h47 : s[0].toNat = 47
          · have q47 : ((s[0].toNat : Int) == 47) = true := by rw [h47]; rfl
            have HR := Lib.hid (show targetB m t = true by rw [HG.out, hh, u8_eq (n := 47) (by omega) h47, HSZ.out]; simp; omega)
            clear hh h47
            go_wp2
            go_ret
            exact ⟨ret_bool HR.out.symm, rfl⟩
          · have q47 : ((s[0].toNat : Int) == 47) = false := by simp; omega
            have hh2 : ¬ t.head? = some 47 := by rw [hh]; intro e; exact h47 (by rw [Option.some.inj e]; rfl)
            by_cases h42 : t = [42]
            · have q42 := HT.out h42
              by_cases ho : m = optL
              · have qo := HM.out ho
                have HR := Lib.hid (show targetB m t = true by rw [HG.out, HSZ.out, decide_eq_true h42, decide_eq_true ho]; simp; omega)
                clear hh h47 hh2 h42 ho
                go_wp2
                go_ret
                exact ⟨ret_bool HR.out.symm, rfl⟩
              · have qo := HM2.out ho
                have HR := Lib.hid (show targetB m t = false by rw [HG.out, decide_eq_false hh2, decide_eq_false ho]; simp)
                clear hh h47 hh2 h42 ho
                go_wp2
                go_ret
                exact ⟨ret_bool HR.out.symm, rfl⟩
            · have q42 := HT2.out h42
              have HR := Lib.hid (show targetB m t = false by rw [HG.out, decide_eq_false hh2, decide_eq_false h42]; simp)
              clear hh h47 hh2 h42
              go_wp2
              go_ret
              exact ⟨ret_bool HR.out.symm, rfl⟩
        · have HR := Lib.hid (show targetB m t = false by rw [HG.out, HSZ.out, decide_eq_false h16]; simp)
          go_wp2
          go_ret
          exact ⟨ret_bool HR.out.symm, rfl⟩
      · have HR := Lib.hid (show targetB m t = false by rw [HG.out, HSZ.out, decide_eq_false hz]; simp)
        go_wp2
        go_ret
        exact ⟨ret_bool HR.out.symm, rfl⟩
set_option maxHeartbeats 400000 in
theorem refWhite_any (c : UInt8) (w : World) :
    Calls Tryz.prog 58 #[.int .u8 (c.toNat : Int)] w fun e w' => e = .returned (.bool (wsB c)) ∧ w = w' := by
  have e1 : decide (c = 32) = decide (c.toNat = 32) := by rw [decide_eq_decide]; exact ⟨fun h => by rw [h]; rfl, fun h => u8_eq (n := 32) (by omega) h⟩
  have e2 : decide (c = 9) = decide (c.toNat = 9) := by rw [decide_eq_decide]; exact ⟨fun h => by rw [h]; rfl, fun h => u8_eq (n := 9) (by omega) h⟩
  have HE := Lib.hid (show wsB c = (decide (c.toNat = 32) || decide (c.toNat = 9)) by unfold wsB; rw [e1, e2])
  clear e1 e2
  go_enter Tryz.func58, Tryz.ntmps58
  go_wp2
  all_goals
    go_ret
    refine ⟨ret_bool ?_, rfl⟩
    rw [HE.out, Bool.eq_iff_iff]
    simp at *
    try omega
def noWs (s : ByteArray) (k : Nat) : Prop := (s.data.toList.take k).any wsB = false
theorem noWs_step {s : ByteArray} {k : Nat} (h : k < s.size) (hn : noWs s k) (hb : wsB s[k] = false) : noWs s (k + 1) := by
  unfold noWs at *; rw [take_snoc s k h, List.any_append, hn]; simp [hb]
set_option maxHeartbeats 1000000 in
theorem refSpaced_any (s : ByteArray) (w : World) (hs : s.size ≤ 1000000000) :
    Calls Tryz.prog 59 #[.string s] w fun e w' => e = .returned (.bool (s.data.toList.any wsB)) ∧ w = w' := by
  go_enter Tryz.func59, Tryz.ntmps59
  go_wp2
  go_loop [3] (fun i => ∃ k : Nat, k ≤ s.size ∧ i = .int .i64 k ∧ noWs s k) (fun i => s.size - (intOf i).toNat)
  case atStart => exact ⟨0, by omega, rfl, by simp [noWs]⟩
  case round =>
    obtain ⟨k, hk, rfl, hn⟩ := hrel
    by_cases hlt : k < s.size
    · by_cases hb : wsB s[k] = true
      all_goals
        go_wp2_with (go_at_call 58; refine (refWhite_any _ _).mono ?_; rintro e w' ⟨rfl, rfl⟩)
      · go_ret
        exact ⟨ret_bool (List.any_eq_true.2 ⟨_, get_mem s k hlt, hb⟩).symm, rfl⟩
      · go_round
        case rel => exact ⟨k + 1, by omega, by go_num, noWs_step hlt hn (by simpa using hb)⟩
        case measure => simp [intOf]; omega
    · go_wp2
      go_ret
      exact ⟨ret_bool (by unfold noWs at hn; rw [take_all s k (by omega)] at hn; first | exact hn.symm | (rw [← Array.any_toList]; exact hn.symm) | simpa using hn.symm), rfl⟩
end Go.Proofs.YtacfkljpjjnlfaaGreatDoor

/- Slices of bytes that a call reads; bytes.HasPrefix and bytes.Index at the line ends, strings.Split at CR LF. -/
namespace Go.Proofs.YtacfkljpjjnlfaaGreatDoor
open Go.RowKit

def numsB (l : List UInt8) : List Int := l.map fun c => (c.toNat : Int)
theorem numsB_len (l : List UInt8) : (numsB l).length = l.length := by simp [numsB]
theorem bytesOf_nums (l : List UInt8) : Lib.bytesOf (numsB l) = l := by
  unfold Lib.bytesOf numsB
  rw [List.map_map]
  conv => rhs; rw [← List.map_id l]
  exact List.map_congr_left fun c _ => by simp
theorem numsB_byte (l : List UInt8) : ∀ x ∈ numsB l, 0 ≤ x ∧ x < 256 := by
  intro x hx
  obtain ⟨c, _, rfl⟩ := List.mem_map.1 hx
  have := UInt8.toNat_lt c
  omega
theorem numsB_at {l : List UInt8} {i : Nat} (h : i < l.length) : (numsB l).getD i 0 = ((l[i]'h).toNat : Int) := by
  unfold numsB; rw [List.getD, List.getElem?_map, List.getElem?_eq_getElem h]; rfl
/-- The cells from ⟨g, off⟩ on hold these bytes. -/
def CellsB (w : World) (g off : Nat) (l : List UInt8) : Prop := ∀ i (h : i < l.length), w.cell? ⟨g, off + i, none⟩ = some (.int .u8 ((l[i]'h).toNat : Int))
theorem CellsB.below {w w' : World} {g off : Nat} {l : List UInt8} (h : CellsB w g off l) (hg : g < w.heap.size) (hb : Below w.heap.size w w') : CellsB w' g off l :=
  fun i hi => (hb.cell (p := ⟨g, off + i, none⟩) hg).trans (h i hi)
theorem CellsB.take {w : World} {g off : Nat} {l : List UInt8} (h : CellsB w g off l) (n : Nat) : CellsB w g off (l.take n) := by
  intro i hi
  have hi' : i < l.length := by rw [List.length_take] at hi; omega
  rw [h i hi', List.getElem_take]
/-- The value v is a slice of these bytes. -/
def ReadsB (w : World) (v : Value) (l : List UInt8) : Prop :=
  ∃ ao cap, v = .slice ao l.length cap ∧ l.length ≤ cap ∧ ((ao = none ∧ cap = 0) ∨ ∃ g off, ao = some ⟨g, off, none⟩ ∧ g < w.heap.size ∧ CellsB w g off l)
theorem ReadsB.below {w w' : World} {v : Value} {l : List UInt8} (h : ReadsB w v l) (hb : Below w.heap.size w w') : ReadsB w' v l := by
  obtain ⟨ao, cap, h1, h2, h3⟩ := h
  refine ⟨ao, cap, h1, h2, ?_⟩
  rcases h3 with h3 | ⟨g, off, h4, h5, h6⟩
  · exact .inl h3
  · exact .inr ⟨g, off, h4, Nat.lt_of_lt_of_le h5 hb.size, h6.below h5 hb⟩
/-- A slice of bytes is nil and empty, or lies in a block. -/
theorem ReadsB.cases {w : World} {v : Value} {l : List UInt8} (h : ReadsB w v l) :
    (v = .slice none 0 0 ∧ l = []) ∨ ∃ g off cap, v = .slice (some ⟨g, off, none⟩) l.length cap ∧ l.length ≤ cap ∧ g < w.heap.size ∧ CellsB w g off l := by
  obtain ⟨ao, cap, h1, h2, h3⟩ := h
  rcases h3 with ⟨rfl, rfl⟩ | ⟨g, off, h4, h5, h6⟩
  · have : l = [] := List.eq_nil_of_length_eq_zero (by omega)
    subst this
    exact .inl ⟨h1, rfl⟩
  · exact .inr ⟨g, off, cap, by rw [h1, h4], h2, h5, h6⟩
theorem cells_take {l : List UInt8} (c : List UInt8) (n : Nat) (h : l.take n = c) (hn : n = c.length) : Lib.hasPrefix l c = true := by
  subst hn
  unfold Lib.hasPrefix
  rw [List.isPrefixOf_iff_prefix, List.prefix_iff_eq_take]
  exact h.symm
theorem hasPrefix_crlf (l : List UInt8) : Lib.hasPrefix l crlf = decide (l.take 2 = crlf) := by
  by_cases h : l.take 2 = crlf
  · rw [cells_take crlf 2 h rfl, decide_eq_true h]
  · rw [decide_eq_false h, Bool.eq_false_iff]
    intro e
    unfold Lib.hasPrefix at e
    rw [List.isPrefixOf_iff_prefix, List.prefix_iff_eq_take] at e
    exact h e.symm
theorem two_cells (W : World) (a b : Int) (T : TypeId) (fr : Nat × Nat) (i : Nat) (h : i < 2) : (W.alloc (.cells #[.int .u8 a, .int .u8 b] T fr)).cell? ⟨W.heap.size, 0 + i, none⟩ = some (.int .u8 ([a, b].getD i 0)) := by
  rw [World.cell?_alloc_mark]
  have : i = 0 ∨ i = 1 := by omega
  rcases this with rfl | rfl <;> rfl
theorem four_cells (W : World) (a b c d : Int) (T : TypeId) (fr : Nat × Nat) (i : Nat) (h : i < 4) : (W.alloc (.cells #[.int .u8 a, .int .u8 b, .int .u8 c, .int .u8 d] T fr)).cell? ⟨W.heap.size, 0 + i, none⟩ = some (.int .u8 ([a, b, c, d].getD i 0)) := by
  rw [World.cell?_alloc_mark]
  have : i = 0 ∨ i = 1 ∨ i = 2 ∨ i = 3 := by omega
  rcases this with rfl | rfl | rfl | rfl <;> rfl
/-- bytes.HasPrefix(b, []byte("\r\n")). -/
theorem prefix_crlf (W : World) (g off cap : Nat) (l : List UInt8) (hl : l.length ≤ cap) (hg : g < W.heap.size) (hc : CellsB W g off l) :
    Calls Tryz.prog 46 #[.slice (some ⟨g, off, none⟩) l.length cap, .slice (some ⟨W.heap.size, 0, none⟩) 2 2] (W.alloc (.cells #[.int .u8 13, .int .u8 10] 5 (2, 3)))
      fun e w' => e = .returned (.bool (decide (l.take 2 = crlf))) ∧ (W.alloc (.cells #[.int .u8 13, .int .u8 10] 5 (2, 3))) = w' := by
  have hcc := hc.below hg (below_new W (.cells #[.int .u8 13, .int .u8 10] 5 (2, 3)))
  refine (Tryz.bytes_HasPrefix_all (some ⟨g, off, none⟩) (some ⟨W.heap.size, 0, none⟩) l.length cap 2 2 (numsB l) [13, 10] _ (numsB_len l) rfl hl
    (fun _ => ⟨g, off, rfl, fun i hi => by rw [numsB_at hi]; exact hcc i hi⟩) (fun _ => ⟨W.heap.size, 0, rfl, fun i hi => two_cells W 13 10 _ _ i hi⟩)).mono ?_
  rintro e w' ⟨rfl, rfl⟩
  rw [bytesOf_nums, show Lib.bytesOf [13, 10] = crlf by decide, hasPrefix_crlf]
  exact ⟨rfl, rfl⟩
/-- bytes.Index(b, []byte("\r\n\r\n")). -/
theorem index_crlf2 (W : World) (hM : HasMax W) (g off cap : Nat) (l : List UInt8) (hl : l.length ≤ cap) (h8 : l.length ≤ 100000) (hg : g < W.heap.size) (hc : CellsB W g off l) :
    Calls Tryz.prog 47 #[.slice (some ⟨g, off, none⟩) l.length cap, .slice (some ⟨W.heap.size, 0, none⟩) 4 4] (W.alloc (.cells #[.int .u8 13, .int .u8 10, .int .u8 13, .int .u8 10] 5 (4, 5)))
      fun e w' => e = .returned (.int .i64 (Lib.index l crlf2)) ∧ Below W.heap.size W w' := by
  obtain ⟨m, hm⟩ := hM.below (below_new W (.cells #[.int .u8 13, .int .u8 10, .int .u8 13, .int .u8 10] 5 (4, 5)))
  have hcc := hc.below hg (below_new W (.cells #[.int .u8 13, .int .u8 10, .int .u8 13, .int .u8 10] 5 (4, 5)))
  refine (Tryz.bytes_Index_at ⟨g, off, none⟩ ⟨W.heap.size, 0, none⟩ l.length cap 4 4 (numsB l) [13, 10, 13, 10] m _ (numsB_len l) rfl (numsB_byte l) (by decide)
    (fun i hi => by rw [Addr.add_lit, numsB_at hi]; exact hcc i hi) (fun i hi => by rw [Addr.add_lit]; exact four_cells W 13 10 13 10 _ _ i hi) hl (by omega) (by decide) hm).mono ?_
  rintro e w' ⟨rfl, q, rfl⟩
  rw [bytesOf_nums, show Lib.bytesOf [13, 10, 13, 10] = crlf2 by decide]
  exact ⟨rfl, below_drewN (below_new W _) q⟩
/-- string(b) of a slice of bytes. -/
theorem conv_bytes (W : World) (g off cap : Nat) (l : List UInt8) (hc : CellsB W g off l) :
    (convert 23 9 (.slice (some ⟨g, off, none⟩) l.length cap)).run Tryz.prog W = .ok (.string (strB l)) W :=
  run_convert_bytes_back W 23 9 5 ⟨g, off, none⟩ cap l Tryz.underlying23 Tryz.underlying5 Tryz.underlying9 (fun j hj => by rw [Addr.add_lit]; exact hc j hj)
/-- strings.Split(s, "\r\n"). -/
theorem split_crlf (s : List UInt8) (w : World) (hM : HasMax w) (hs : s.length ≤ 100000) :
    Calls Tryz.prog 48 #[.string (strB s), .string ⟨#[13, 10]⟩] w fun e w' => ∃ v, e = .returned v ∧ OwnsS w.heap.size w' v (spF [] s) ∧ Below w.heap.size w w' := by
  obtain ⟨m, hm⟩ := hM
  have hz : (strB s).size ≤ 100000 := by rw [strB_size]; exact hs
  refine (Tryz.strings_Split (strB s) ⟨#[13, 10]⟩ m w (by omega) hm (by decide)).mono ?_
  rintro e w' ⟨rfl, rfl⟩
  have hd := Lib.splitB_data ⟨#[13, 10]⟩ 0 (Lib.countB (strB s) ⟨#[13, 10]⟩) (strB s)
  have hc : Lib.countB (strB s) ⟨#[13, 10]⟩ = Lib.count (strB s).data.toList crlf := rfl
  have hcut : (Lib.splitB ⟨#[13, 10]⟩ 0 (Lib.countB (strB s) ⟨#[13, 10]⟩) (strB s)).map (·.data.toList) = spF [] s := by
    rw [hd, hc, strB_list]; exact split_sp s
  have hv : (Lib.splitB ⟨#[13, 10]⟩ 0 (Lib.countB (strB s) ⟨#[13, 10]⟩) (strB s)).map Value.string = (spF [] s).map strV := by
    rw [← hcut, List.map_map]
    exact List.map_congr_left fun x _ => by show Value.string x = Value.string (strB x.data.toList); rw [strB_of]
  have hlen : Lib.countB (strB s) ⟨#[13, 10]⟩ + 1 = (spF [] s).length := by
    rw [← hcut, List.length_map]
    exact (Lib.splitB_all ⟨#[13, 10]⟩ (by decide) 0 _ (strB s) rfl).symm
  have hle : (spF [] s).length ≤ s.length + 1 := spF_len _ s [] (Nat.le_refl _)
  refine ⟨_, rfl, ?_, below_new _ _⟩
  rw [hv, hlen]
  exact World.ownsRow_lit (base := w.heap.size) (e := 9) (size := 1) w ((spF [] s).map strV).toArray (spF [] s).length (Nat.le_refl _) (by unfold maxLen; omega) (by simp)
end Go.Proofs.YtacfkljpjjnlfaaGreatDoor

/- What strings.IndexAny and ContainsAny return for every string, at characters of ASCII: bytes of longer characters are none of them. -/
namespace Go.Proofs.YtacfkljpjjnlfaaGreatDoor
open Go.RowKit

/-- A byte of 128 or more: it and its continuations are no byte of ASCII, and the rune is at least 128. -/
theorem wide_rune (s : ByteArray) (i : Nat) (hi : i < s.size) (hb : 128 ≤ (s[i]'hi).toNat) :
    i + (Utf8.decode s i).2 ≤ s.size ∧ 1 ≤ (Utf8.decode s i).2 ∧ 128 ≤ (Utf8.decode s i).1 ∧ ((Utf8.decode s i).1 < 55296 ∨ (57343 < (Utf8.decode s i).1 ∧ (Utf8.decode s i).1 ≤ 1114111)) ∧
      ∀ j, i ≤ j → j < i + (Utf8.decode s i).2 → ∀ b, s.data.toList[j]? = some b → 128 ≤ b.toNat := by
  have h0 : (s.data.toList.getD i 0) = s[i] := by
    have : i < s.data.toList.length := by simpa using hi
    rw [List.getD, List.getElem?_eq_getElem this]; rfl
  have hn : s.data.toList.length - i ≥ 1 := by simp; omega
  have hsz : s.data.toList.length = s.size := by simp
  have hd := Lib.decode_N s i
  have hb0 : 128 ≤ (s.data.toList.getD i 0).toNat := by rw [h0]; exact hb
  have hlt : (s.data.toList.getD i 0).toNat < 256 := UInt8.toNat_lt _
  have hs := Lib.decodeN_shape (s.data.toList.length - i) (s.data.toList.getD i 0).toNat (s.data.toList.getD (i + 1) 0).toNat (s.data.toList.getD (i + 2) 0).toNat (s.data.toList.getD (i + 3) 0).toNat
  have hv := Lib.decodeN_valid (s.data.toList.length - i) (s.data.toList.getD i 0).toNat (s.data.toList.getD (i + 1) 0).toNat (s.data.toList.getD (i + 2) 0).toNat (s.data.toList.getD (i + 3) 0).toNat hlt
  have hge := Lib.decodeN_ge1 (s.data.toList.length - i) (s.data.toList.getD i 0).toNat (s.data.toList.getD (i + 1) 0).toNat (s.data.toList.getD (i + 2) 0).toNat (s.data.toList.getD (i + 3) 0).toNat
  rw [← hd] at hs hv hge
  have at' : ∀ j b, s.data.toList[j]? = some b → s.data.toList.getD j 0 = b := fun j b h => by rw [List.getD, h]; rfl
  refine ⟨?_, hge, ?_, hv, ?_⟩
  · rcases hs with ⟨h, e⟩ | ⟨_, h1, _, _, e⟩ | ⟨_, h1, _, _, _, _, e⟩ | ⟨_, h1, _, _, _, _, _, e⟩ | e
    · omega
    all_goals (rw [e]; simp only; omega)
  · rcases hs with ⟨h, e⟩ | ⟨_, h1, _, h2, e⟩ | ⟨_, h1, _, _, h2, _, e⟩ | ⟨_, h1, _, _, _, h2, _, e⟩ | e
    · omega
    all_goals (rw [e]; simp only; omega)
  · intro j hj1 hj2 b hjb
    have hg := at' j b hjb
    have hcase : j = i ∨ j = i + 1 ∨ j = i + 2 ∨ j = i + 3 ∨ i + 4 ≤ j := by omega
    rcases hs with ⟨h, e⟩ | ⟨_, h1, c1, h2, e⟩ | ⟨_, h1, c1, c2, h2, _, e⟩ | ⟨_, h1, c1, c2, c3, h2, _, e⟩ | e
    · omega
    all_goals
      rw [e] at hj2
      simp only at hj2
      rcases hcase with rfl | rfl | rfl | rfl | h4
      all_goals first
        | (rw [hg] at hb0; exact hb0)
        | (rw [hg] at c1; omega)
        | (rw [hg] at c2; omega)
        | (rw [hg] at c3; omega)
        | omega
def Ascii (l : List UInt8) : Prop := ∀ b ∈ l, b.toNat < 128
theorem NoAny.wide {s : ByteArray} {chars : List UInt8} {i n : Nat} (hc : Ascii chars) (h : Lib.NoAny s.data.toList chars i) (hw : ∀ j, i ≤ j → j < i + n → ∀ b, s.data.toList[j]? = some b → 128 ≤ b.toNat) : Lib.NoAny s.data.toList chars (i + n) := by
  intro j b hj hb
  by_cases hji : j < i
  · exact h j b hji hb
  · have := hw j (by omega) hj b hb
    rw [Bool.eq_false_iff]
    intro hm
    have := hc b (by simpa using hm)
    omega
/-- The last byte of a longer character. -/
theorem encode_last (r : Int) (h1 : 128 ≤ r) (h2 : r < 55296 ∨ (57343 < r ∧ r ≤ 1114111)) :
    ∃ k, 1 ≤ k ∧ k ≤ 3 ∧ (Utf8.encode r).size = k + 1 ∧ ∀ h : k < (Utf8.encode r).size, 128 ≤ ((Utf8.encode r)[k]'h).toNat := by
  have hval : Utf8.valid r = true := by
    unfold Utf8.valid
    simp only [Bool.or_eq_true, Bool.and_eq_true, decide_eq_true_eq]
    omega
  have hn : r.toNat ≤ 1114111 := by omega
  have hn1 : 128 ≤ r.toNat := by omega
  have hb : ∀ m : Nat, 128 ≤ (UInt8.ofNat (128 + m % 64)).toNat := fun m => by
    rw [UInt8.toNat_ofNat']; omega
  have hx : ∃ x : ByteArray, Utf8.encode r = x ∧ ∃ k, 1 ≤ k ∧ k ≤ 3 ∧ x.size = k + 1 ∧ ∀ h : k < x.size, 128 ≤ (x[k]'h).toNat := by
    by_cases c1 : r.toNat < 0x800
    · exact ⟨⟨#[UInt8.ofNat (0xC0 + r.toNat / 64), UInt8.ofNat (0x80 + r.toNat % 64)]⟩, by simp only [Utf8.encode, hval, if_true]; rw [if_neg (by omega), if_pos c1], 1, by omega, by omega, rfl, fun _ => hb _⟩
    · by_cases c2 : r.toNat < 0x10000
      · exact ⟨⟨#[UInt8.ofNat (0xE0 + r.toNat / 4096), UInt8.ofNat (0x80 + r.toNat / 64 % 64), UInt8.ofNat (0x80 + r.toNat % 64)]⟩, by simp only [Utf8.encode, hval, if_true]; rw [if_neg (by omega), if_neg c1, if_pos c2], 2, by omega, by omega, rfl, fun _ => hb _⟩
      · exact ⟨⟨#[UInt8.ofNat (0xF0 + r.toNat / 262144), UInt8.ofNat (0x80 + r.toNat / 4096 % 64), UInt8.ofNat (0x80 + r.toNat / 64 % 64), UInt8.ofNat (0x80 + r.toNat % 64)]⟩, by simp only [Utf8.encode, hval, if_true]; rw [if_neg (by omega), if_neg c1, if_neg c2], 3, by omega, by omega, rfl, fun _ => hb _⟩
  obtain ⟨x, e, hk⟩ := hx
  rw [e]; exact hk
theorem conv_rune (r : Int) (w : World) : (convert 21 9 (.int .i32 r)).run Tryz.prog w = .ok (.string (Utf8.encode r)) w := by
  have e1 := run_underlying (w := w) Tryz.underlying21
  have e2 := run_underlying (w := w) Tryz.underlying9
  simp [convert, Sem.run_bind, e1, e2, Result.andThen, Conv.intToString]
theorem indexByte_wide {l : List UInt8} (h : Ascii l) (c : UInt8) (hc : 128 ≤ c.toNat) : Lib.indexByte l c = -1 := by
  induction l with
  | nil => rfl
  | cons b t ih =>
    have hb := h b (by simp)
    rw [Lib.indexByte, ih fun x hx => h x (by simp [hx]), if_neg]
    · rfl
    · intro e
      have : b = c := by simpa using e
      subst this; omega
theorem extract_list (s : ByteArray) (a b : Nat) : (s.extract a b).data.toList = (s.data.toList.drop a).take (b - a) := Lib.extract_data s a b
theorem Ascii.seg {l : List UInt8} (h : Ascii l) (a n : Nat) : Ascii ((l.drop a).take n) := fun b hb => h b (List.mem_of_mem_drop (List.mem_of_mem_take hb))
theorem Ascii.at {s : ByteArray} (h : Ascii s.data.toList) (i : Nat) (hi : i < s.size) : (s[i]'hi).toNat < 128 := h _ (get_mem s i hi)

theorem slice_from (s : ByteArray) (k : Nat) (h : k < s.size) (w : World) : (Instr.slice 9 (.string s) (some (.int .i64 ((k : Int) + 1))) none none).run Tryz.prog w = .ok (.string (s.extract (k + 1) s.size)) w := by
  rw [run_slice_string_l w 9 s Tryz.underlying9 .i64 ((k : Int) + 1) (by omega) (by omega)]
  rw [show ((k : Int) + 1).toNat = k + 1 by omega]
set_option maxHeartbeats 4000000 in
set_option maxRecDepth 1000000 in
theorem indexRune_wide (chars : ByteArray) (r : Int) (w : World) (hc : Ascii chars.data.toList) (_ : chars.size ≤ 8) (h1 : 128 ≤ r) (h2 : r < 55296 ∨ (57343 < r ∧ r ≤ 1114111)) :
    Calls Tryz.prog 105 #[.string chars, .int .i32 r] w fun e w' => e = .returned (.int .i64 (-1)) ∧ Below w.heap.size w w' := by
  have HC := Lib.hid hc
  clear hc
  have hnot : ¬ r < 128 := by omega
  have hle : (0 : Int) ≤ r := by omega
  by_cases h3 : r = 65533
  · subst h3
    clear h1 h2 hnot hle
    go_enter Tryz.func105, Tryz.ntmps105
    go_wp2
    go_loopg [5, 6] chars.size (fun g _ _ wx => ∃ i : Nat, i + g = chars.size ∧ wx = w.iter chars i)
    case atStart => exact ⟨0, by omega, rfl⟩
    case round =>
      obtain ⟨i, hig, rfl⟩ := hrel
      cases gk with
      | zero =>
        obtain rfl : i = chars.size := by omega
        have hnx := run_next_end (P := Tryz.prog) w chars chars.size
        go_wp2
        go_ret
        exact ⟨rfl, below_new _ _⟩
      | succ g =>
        have hi : i < chars.size := by omega
        have ha := HC.out.at i hi
        have hnx := fun ty => run_next_ascii (P := Tryz.prog) w chars i ty hi ha
        have hne : (((chars[i].toNat : Nat) : Int) == 65533) = false := by simp; omega
        go_wp2
        go_roundg g
        case measure => omega
        case rel => exact ⟨i + 1, by omega, rfl⟩
  · obtain ⟨k, hk1, hk3, hks, hlast⟩ := encode_last r h1 h2
    have hcv := conv_rune r
    generalize Utf8.encode r = rs at *
    have hne : (r == 65533) = false := by simpa using h3
    have hkl : k < rs.size := by omega
    have hb := hlast hkl
    have hl1 : (rs.size : Int) - 1 = (k : Int) := by omega
    have hl2 : rs.size ≤ 4 := by omega
    have hl3 : 2 ≤ rs.size := by omega
    clear hlast h3 hks
    go_enter Tryz.func105, Tryz.ntmps105
    go_wp2_with (go_at_call 126; refine (Tryz.utf8_ValidRune _ _).mono ?_; rintro e w' ⟨rfl, rfl⟩)
    · go_ret
      exact ⟨rfl, Below.refl _ _⟩
    · go_step3
      go_wp2_with fail
      go_loop [9] (fun i => i = .int .i64 k) (fun _ => 0)
      case atStart => rfl
      case round =>
        subst hrel
        by_cases hlt : k < chars.size
        · have ha := HC.out.at k hlt
          have hne2 : ((chars[k].toNat : Int) != (rs[k].toNat : Int)) = true := by simp; omega
          have hx : Lib.indexByte (chars.extract (k + 1) chars.size).data.toList rs[k] = -1 := indexByte_wide (by rw [extract_list]; exact HC.out.seg _ _) _ hb
          have hcall : ∀ W, Calls Tryz.prog 125 #[.string (chars.extract (k + 1) chars.size), .int .u8 (rs[k].toNat : Int)] W fun e w' => e = .returned (.int .i64 (-1)) ∧ w' = W := fun W => by
            refine (Tryz.strings_IndexByte _ _ W).mono ?_
            rintro e w' ⟨rfl, rfl⟩
            refine ⟨?_, rfl⟩
            rw [show ((rs[k].toNat : Int)).toNat.toUInt8 = rs[k] by simp, hx]
          have HCall := Lib.hid hcall
          have hw : IntKind.i64.wrap (↑k + 1) = (k : Int) + 1 := IntWalk.i64_in _ (by omega)
          have hw2 : ((k : Int) + 1).toNat = k + 1 := by omega
          have hsl : ∀ W : World, (Instr.slice 9 (.string chars) (some (.int .i64 ((k : Int) + 1))) none none).run Tryz.prog W = .ok (.string (chars.extract (k + 1) chars.size)) W := fun W => slice_from chars k hlt W
          clear hx hcall hb hcv
          go_wp2_with fail
          go_step3
          go_wp2_with fail
          go_quiet (fail)
          have HB : Below w'.heap.size w' (w'.drewN nq) := below_drewN (Below.refl _ _) _
          generalize w'.drewN nq = W2 at HB ⊢
          go_wp2_with fail
          go_quiet ((go_at_call 125; exact Calls.quiet_of_same (HCall.out _)))
          go_wp2_with fail
          dsimp +zetaDelta only
          repeat (first | (unfold Exit.inBlock; dsimp only) | (unfold Exit.then; dsimp only) | (unfold Exit.noGoto; dsimp only))
          go_ret
          exact ⟨rfl, HB.trans (below_drewN (Below.refl _ _) _)⟩
        · go_wp2
          change bodyPost _ _ _ Exit.ret _ _
          go_ret
          exact ⟨rfl, Below.refl _ _⟩
/-- [256]bool, as the search lays it. -/
theorem info256 : (Tryz.prog.info? 135).map (fun i => (i.zero, i.size)) = some (some (.agg (Array.replicate 256 (.bool false))), 256) := by kernel_rfl
theorem indexAny_empty {s : ByteArray} {pos : Nat} {chars : List UInt8} (h : s.size ≤ pos) (hn : Lib.NoAny s.data.toList chars pos) : Lib.indexAny s.data.toList chars = -1 :=
  Lib.indexAny_none fun j b hj hb => hn j b (by have : s.data.toList.length = s.size := by simp
                                                omega) hb
def AnyRel (s : ByteArray) (chars : List UInt8) (w wr : World) (pos : Nat) : Prop :=
  pos ≤ s.size ∧ wr.heap[w.heap.size]? = some (.stringIter s pos) ∧ Below w.heap.size w wr ∧ Lib.NoAny s.data.toList chars pos
set_option maxHeartbeats 8000000 in
set_option maxRecDepth 1000000 in
theorem indexAny_short (s chars : ByteArray) (w : World) (h2 : 2 ≤ chars.size) (hc8 : chars.size ≤ 8) (h8 : s.size ≤ 8) (hc : Ascii chars.data.toList) :
    Calls Tryz.prog 81 #[.string s, .string chars] w fun e w' => e = .returned (.int .i64 (Lib.indexAny s.data.toList chars.data.toList)) ∧ Below w.heap.size w w' := by
  have HC := Lib.hid hc
  clear hc
  have hemp : chars.toList.isEmpty = false := by
    rw [ByteArray.toList_eq]
    cases h : chars.data.toList with
    | nil => have : chars.data.toList.length = chars.size := by simp
             rw [h, List.length_nil] at this; omega
    | cons _ _ => rfl
  have hn1 : ((chars.size : Int) == 1) = false := beq_eq_false_iff_ne.2 (by omega)
  have h8z : decide ((8 : Int) < (s.size : Int)) = false := decide_eq_false (by omega)
  have hk0 : (w.iter s 0).heap[w.heap.size]? = some (.stringIter s 0) := World.iter_heap w s 0
  have HK0 := Lib.hid hk0
  clear hk0
  go_enter Tryz.func81, Tryz.ntmps81
  go_wp2_with (go_at_call 106; refine (Tryz.strings_shouldUseASCIISet _ _).mono ?_; rintro e w' ⟨rfl, hw⟩; rw [hw, h8z])
  go_loopw [9, 10] (fun _ _ wr => ∃ pos : Nat, AnyRel s chars.data.toList w wr pos) (fun _ _ wr => s.size - wr.iterPos w.heap.size)
  case atStart => exact ⟨0, Nat.zero_le _, HK0.out, below_new _ _, Lib.NoAny.zero _ _⟩
  case round =>
    obtain ⟨pos, hps, hk, hnx, hno⟩ := hrel
    have HN := Lib.hid hno
    clear hno
    by_cases hp : pos < s.size
    · have hnext : ∀ ty, (Instr.next (.pointer (some ⟨w.heap.size, 0, none⟩)) true ty).run Tryz.prog wr = _ := fun ty => Lib.run_next_any_at wr w.heap.size s pos ty hk hp
      have hk1 := Lib.iterAt_heap wr w.heap.size s pos (pos + (Utf8.decode s pos).2) hk
      have hnx1 : Below w.heap.size w (wr.iterAt w.heap.size s (pos + (Utf8.decode s pos).2)) := Lib.below_iterAt hnx (Nat.le_refl _) s _
      have hmu : wr.iterPos w.heap.size = pos := by simp [World.iterPos, hk]
      generalize wr.iterAt w.heap.size s (pos + (Utf8.decode s pos).2) = W1 at hnext hk1 hnx1
      have HK1 := Lib.hid hk1
      have HMU := Lib.hid hmu
      clear hk1 hmu hk
      have hz1 := hnx1.size
      obtain ⟨x, hx⟩ : ∃ x : UInt8, s[pos]'hp = x := ⟨_, rfl⟩
      have hxl : s.data.toList[pos]? = some x := by rw [← hx]; exact Lib.data_getElem? s pos hp
      have HX := Lib.hid hxl
      by_cases hb : 128 ≤ x.toNat
      · obtain ⟨w1, w2, w3, w4, w5⟩ := wide_rune s pos hp (by rw [hx]; exact hb)
        have HW := Lib.hid (NoAny.wide HC.out HN.out w5)
        have hr1 : (128 : Int) ≤ ((Utf8.decode s pos).1 : Int) := by omega
        have hr2 : ((Utf8.decode s pos).1 : Int) < 55296 ∨ (57343 < ((Utf8.decode s pos).1 : Int) ∧ ((Utf8.decode s pos).1 : Int) ≤ 1114111) := by omega
        clear w3 w4 w5 hxl hx
        generalize (Utf8.decode s pos).1 = r at *
        generalize (Utf8.decode s pos).2 = n at *
        go_wp2_with (go_at_call 105; refine (indexRune_wide chars _ _ HC.out hc8 hr1 hr2).mono ?_; rintro e W2 ⟨rfl, hB2⟩)
        have hk2 : W2.heap[w.heap.size]? = some (.stringIter s (pos + n)) := by rw [hB2.block w.heap.size (Array.getElem?_eq_some_iff.1 HK1.out).1]; exact HK1.out
        go_roundw
        case rel => exact ⟨pos + n, w1, hk2, hnx1.trans (hB2.mono hnx1.size), HW.out⟩
        case measure =>
          have hmu2 : W2.iterPos w.heap.size = pos + n := by simp [World.iterPos, hk2]
          rw [HMU.out, hmu2]
          omega
      · have hd : Utf8.decode s pos = (x.toNat, 1) := by rw [decode_ascii s pos hp (by rw [hx]; omega), hx]
        rw [hd] at hnext
        have HK2 := Lib.hid (show W1.heap[w.heap.size]? = some (.stringIter s (pos + 1)) by have := HK1.out; rw [hd] at this; exact this)
        have hcon := Lib.contains_iff_indexByte chars.data.toList x
        have hback : ((x.toNat : Int)).toNat.toUInt8 = x := by simp
        clear hd HK1 hxl hx
        cases hin : chars.data.toList.contains x
        · rw [hin] at hcon
          have hlt : ¬ ((0 : Int) ≤ Lib.indexByte chars.data.toList x) := of_decide_eq_false hcon.symm
          have HIN := Lib.hid hin
          clear hcon hin
          go_wp2_with (go_at_call 105; refine (Tryz.strings_IndexRune_ascii _ _ _ (by omega) (by omega)).mono ?_; rintro e w' ⟨rfl, hw⟩; rw [hw, hback])
          go_roundw
          case rel => exact ⟨pos + 1, by omega, HK2.out, hnx1, HN.out.succ HX.out HIN.out⟩
          case measure =>
            have hmu2 : W1.iterPos w.heap.size = pos + 1 := by have := HK2.out; simp [World.iterPos, this]
            rw [HMU.out, hmu2]
            omega
        · rw [hin] at hcon
          have hge : (0 : Int) ≤ Lib.indexByte chars.data.toList x := of_decide_eq_true hcon.symm
          have HIN := Lib.hid hin
          clear hcon hin
          go_wp2_with (go_at_call 105; refine (Tryz.strings_IndexRune_ascii _ _ _ (by omega) (by omega)).mono ?_; rintro e w' ⟨rfl, hw⟩; rw [hw, hback])
          go_ret
          exact ⟨by rw [Lib.indexAny_hit HN.out HX.out HIN.out]; rfl, hnx1⟩
    · have hnext : ∀ ty, (Instr.next (.pointer (some ⟨w.heap.size, 0, none⟩)) true ty).run Tryz.prog wr = _ := fun ty => Lib.run_next_end_at wr w.heap.size s pos ty hk hp
      go_wp2
      go_ret
      exact ⟨by rw [indexAny_empty (by omega) HN.out]; rfl, hnx⟩
set_option maxRecDepth 1000000 in
/-- strings.IndexAny at two to eight characters of ASCII, for every string. -/
theorem indexAny_any (s chars : ByteArray) (w : World) (hs : s.size ≤ 1000000000) (h2 : 2 ≤ chars.size) (hc8 : chars.size ≤ 8) (hc : Ascii chars.data.toList) :
    Calls Tryz.prog 81 #[.string s, .string chars] w fun e w' => e = .returned (.int .i64 (Lib.indexAny s.data.toList chars.data.toList)) ∧ Below w.heap.size w w' := by
  by_cases h8 : s.size ≤ 8
  · exact indexAny_short s chars w h2 hc8 h8 hc
  · refine (Any.strings_IndexAny_long Tryz.lays153 (zero_of_info info256).1 (zero_of_info info256).2 s chars w h2 (by omega) (by omega) (by omega) (fun j b hb => hc b (List.mem_of_getElem? hb))).mono ?_
    rintro e w' ⟨h1, h2⟩
    refine ⟨h1, ?_⟩
    rw [h2]
    exact ((Below.refl _ _).alloc (Nat.le_refl _) _).alloc (by simp) _
theorem indexAny_pos (l chars : List UInt8) : decide (0 ≤ Lib.indexAny l chars) = l.any fun c => chars.contains c := by
  induction l with
  | nil => rfl
  | cons b t ih =>
    have hge := Lib.indexAny_ge chars t
    rw [Lib.indexAny, List.any_cons, ← ih]
    cases h : chars.contains b with
    | true => rfl
    | false =>
      by_cases h2 : Lib.indexAny t chars = -1
      · rw [h2]; rfl
      · rw [Bool.false_or, if_neg (by simp), if_neg (by simpa using h2), decide_eq_decide]; omega
theorem indexAny_zero (l chars : List UInt8) : (Lib.indexAny l chars == 0) = l.head?.any fun c => chars.contains c := by
  cases l with
  | nil => rfl
  | cons b t =>
    have hge := Lib.indexAny_ge chars t
    rw [Lib.indexAny]
    cases h : chars.contains b with
    | true => rw [if_pos rfl]; exact h.symm
    | false =>
      show _ = chars.contains b
      rw [h, if_neg (by simp)]
      by_cases h2 : Lib.indexAny t chars = -1
      · rw [h2]; rfl
      · rw [if_neg (by simpa using h2)]; simp; omega
set_option maxHeartbeats 1000000 in
theorem containsAny_any (s chars : ByteArray) (w : World) (hs : s.size ≤ 1000000000) (h2 : 2 ≤ chars.size) (hc8 : chars.size ≤ 8) (hc : Ascii chars.data.toList) :
    Calls Tryz.prog 49 #[.string s, .string chars] w fun e w' => e = .returned (.bool (s.data.toList.any fun c => chars.data.toList.contains c)) ∧ Below w.heap.size w w' := by
  have H := fun w => indexAny_any s chars w hs h2 hc8 hc
  have HP := Lib.hid (indexAny_pos s.data.toList chars.data.toList)
  generalize Lib.indexAny s.data.toList chars.data.toList = z at *
  clear hs h2 hc8 hc
  go_enter Tryz.func49, Tryz.ntmps49
  go_wp2_with fail
  refine (H _).mono ?_
  rintro e w1 ⟨rfl, hB⟩
  go_wp2_with fail
  go_ret
  exact ⟨ret_bool HP.out, hB⟩
end Go.Proofs.YtacfkljpjjnlfaaGreatDoor
