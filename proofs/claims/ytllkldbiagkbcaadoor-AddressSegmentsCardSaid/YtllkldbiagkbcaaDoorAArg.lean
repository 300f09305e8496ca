/- What Arg, the reference's Arg and the reference's Segments return. -/
import Derived.Test.YtllkldbiagkbcaaDoorAAwake
import Derived.Test.YtllkldbiagkbcaaDoorARefCut
namespace Go.Proofs.YtllkldbiagkbcaaDoor
open Go.RowKit

/-- A part of a query that begins with the name and an equals sign. -/
def hitP (n part : List UInt8) : Bool := (n ++ [61]).isPrefixOf part
def argO (q n : List UInt8) : Option (List UInt8) := (cutL 38 q).findSome? fun part => if hitP n part then some (part.drop (n.length + 1)) else none
def argV (a : Adr) (n : List UInt8) : Value := if a.b then (match argO a.q n with
  | none => .tuple #[.string (strB []), .bool false]
  | some v => .tuple #[.string (strB v), .bool true]) else .tuple #[.string (strB []), .bool false]
theorem argV_off {a : Adr} {n : List UInt8} (h : a.b = false) : argV a n = .tuple #[.string (strB []), .bool false] := by unfold argV; rw [h]; rfl
theorem argV_no {a : Adr} {n : List UInt8} (hb : a.b = true) (h : argO a.q n = none) : argV a n = .tuple #[.string (strB []), .bool false] := by unfold argV; rw [hb, h]; rfl
theorem argV_yes {a : Adr} {n v : List UInt8} (hb : a.b = true) (h : argO a.q n = some v) : argV a n = .tuple #[.string (strB v), .bool true] := by unfold argV; rw [hb, h]; rfl
def missTo (n : List UInt8) (ls : List (List UInt8)) (k : Nat) : Prop := ∀ l ∈ ls.take k, hitP n l = false
theorem missTo0 (n : List UInt8) (ls : List (List UInt8)) : missTo n ls 0 := by intro l h; simp at h
theorem missTo_step {n : List UInt8} {ls : List (List UInt8)} {k : Nat} {l : List UInt8} (hl : ls[k]? = some l) (hn : missTo n ls k) (hb : hitP n l = false) : missTo n ls (k + 1) := by
  intro m hm
  rw [List.take_add_one, hl] at hm
  rcases List.mem_append.mp hm with hm | hm
  · exact hn m hm
  · simp at hm; subst hm; exact hb
theorem find_none {n : List UInt8} : ∀ {ls : List (List UInt8)}, (∀ l ∈ ls, hitP n l = false) → (ls.findSome? fun part => if hitP n part then some (part.drop (n.length + 1)) else none) = none := by
  intro ls h
  rw [List.findSome?_eq_none_iff]
  intro l hl
  rw [h l hl]; rfl
theorem argO_none {q n : List UInt8} {k : Nat} (h : missTo n (cutL 38 q) k) (hk : (cutL 38 q).length ≤ k) : argO q n = none := by
  unfold argO
  refine find_none ?_
  unfold missTo at h; rw [List.take_of_length_le hk] at h; exact h
theorem argO_hit {q n : List UInt8} {k : Nat} {l : List UInt8} (h : missTo n (cutL 38 q) k) (hl : (cutL 38 q)[k]? = some l) (hb : hitP n l = true) : argO q n = some (l.drop (n.length + 1)) := by
  obtain ⟨hk, e⟩ := List.getElem?_eq_some_iff.mp hl
  have hs : cutL 38 q = (cutL 38 q).take k ++ l :: (cutL 38 q).drop (k + 1) := by
    have := List.take_append_drop k (cutL 38 q)
    rw [List.drop_eq_getElem_cons hk, e] at this
    exact this.symm
  unfold argO
  rw [hs, List.findSome?_append, find_none h]
  simp [hb]
set_option maxHeartbeats 4000000 in
set_option maxRecDepth 100000 in
theorem arg_any (a : Adr) (n : ByteArray) (w : World) (hE : Env w) (hq : a.q.length ≤ 10000000) (hn : n.size ≤ 10000000) :
    Calls Tryd.prog 23 #[adrV a, .string n] w fun e w' => e = .returned (argV a n.data.toList) ∧ Below w.heap.size w w' := by
  have HE := Lib.hid hE
  clear hE
  obtain ⟨h, p, q, b⟩ := a
  cases b with
  | false =>
    have HR := Lib.hid (argV_off (a := ⟨h, p, q, false⟩) (n := n.data.toList) rfl)
    go_enter Tryd.func23, Tryd.ntmps23
    go_wp2_with fail
    go_ret2
    exact ⟨by rw [HR.out]; rfl, below_new _ _⟩
  | true =>
    simp only at hq
    have HNO := Lib.hid (fun hh => argV_no (a := ⟨h, p, q, true⟩) (n := n.data.toList) rfl hh)
    have HYES := Lib.hid (fun v hh => argV_yes (a := ⟨h, p, q, true⟩) (n := n.data.toList) (v := v) rfl hh)
    have hqs : (strB q).size ≤ 100000000 := by rw [strB_size]; omega
    have hst : n ++ ⟨#[61]⟩ = strB (n.data.toList ++ [61]) := by
      conv => lhs; rw [← strB_of n]
      exact strB_snoc _ _
    have HST := Lib.hid hst
    clear hst
    go_enter Tryd.func23, Tryd.ntmps23
    go_wp2_with fail
    rw [HST.out]
    have HB0 := Lib.hid (below_new w (.cells #[.string (strB h), .string (strB p), .string (strB q), .bool true] 33))
    generalize w.alloc (.cells #[.string (strB h), .string (strB p), .string (strB q), .bool true] 33) = w0 at *
    refine (split_any 38 (strB q) _ (HE.out.below HB0.out) hqs).mono ?_
    rintro e w1 ⟨v, rfl, hv, hB⟩
    rw [strB_list] at hv
    have HB1 := Lib.hid (HB0.out.trans (hB.mono HB0.out.size))
    have hle := cutL_len 38 q
    have hle' : (cutL 38 q).length ≤ 10000001 := by omega
    rcases hv.open' with ⟨rfl, he⟩ | ⟨g, cap, rfl, hBg, hgs, hcells⟩
    · exact absurd he (cutL_ne 38 _)
    clear hle
    generalize hls : cutL 38 q = ls at *
    have HLS := Lib.hid hls
    have HC := Lib.hid hcells
    clear hls hcells hv hB
    go_wp2_with fail
    go_loop [20] (fun i => ∃ k : Nat, k ≤ ls.length ∧ i = .int .i64 k ∧ missTo n.data.toList ls k) (fun i => ls.length - (intOf i).toNat)
    case atStart => exact ⟨0, by omega, rfl, missTo0 _ _⟩
    case round =>
      obtain ⟨k, hk, rfl, hm⟩ := hrel
      by_cases hlt : k < ls.length
      · obtain ⟨l, hl⟩ : ∃ l, ls[k]? = some l := ⟨ls[k], by simp [hlt]⟩
        have hcell := HC.out k l hl
        have HL := Lib.hid hl
        have HCP := Lib.hid (fun (b : Bool) (hb : hitP n.data.toList l = b) (w : World) => show Calls Tryd.prog 41 #[.string (strB l), .string (strB (n.data.toList ++ [61]))] w fun e w' => e = .returned (.tuple #[.string (strB (if b then l.drop (n.data.toList.length + 1) else l)), .bool b]) ∧ w = w' by
          refine (Tryd.strings_CutPrefix _ _ w).mono ?_
          rintro e w' ⟨rfl, rfl⟩
          refine ⟨?_, rfl⟩
          rw [strB_list, strB_list]
          have e1 : Lib.hasPrefix l (n.data.toList ++ [61]) = b := hb
          unfold Lib.trimPrefix
          rw [e1, List.length_append]; rfl)
        clear hl
        cases hb : hitP n.data.toList l with
        | true =>
          have HR := Lib.hid (HYES.out _ (argO_hit (by rw [HLS.out]; exact hm) (by rw [HLS.out]; exact HL.out) hb))
          have HP := Lib.hid (HCP.out true hb)
          clear hb
          go_wp2_with (go_at_call 41; refine (HP.out _).mono ?_; rintro e w' ⟨rfl, rfl⟩)
          go_ret2
          exact ⟨by rw [HR.out]; rfl, HB1.out⟩
        | false =>
          have HP := Lib.hid (HCP.out false hb)
          have HB := Lib.hid hb
          clear hb
          go_wp2_with (go_at_call 41; refine (HP.out _).mono ?_; rintro e w' ⟨rfl, rfl⟩)
          go_round
          case rel => exact ⟨k + 1, by omega, by go_num, missTo_step HL.out hm HB.out⟩
          case measure => simp [intOf]; omega
      · have HR := Lib.hid (HNO.out (argO_none (k := k) (by rw [HLS.out]; exact hm) (by rw [HLS.out]; omega)))
        go_wp2_with fail
        go_ret2
        exact ⟨by rw [HR.out]; rfl, HB1.out⟩
end Go.Proofs.YtllkldbiagkbcaaDoor
