/- An address as a value; what the methods target and text return; canonicalPath. -/
import Derived.Test.YtfggckdakmnfbaaDoorADots
import Derived.Deep.RegionHeld3
namespace Go.Proofs.YtfggckdakmnfbaaDoor
open Go.RowKit

/-- An address as a value: a struct of four cells. -/
abbrev adrV (a : Adr) : Value := .agg #[.string (strB a.h), .string (strB a.p), .string (strB a.q), .bool a.b]
/-- The parts of an address are no longer than n. -/
def AdrLe (n : Nat) (a : Adr) : Prop := (strB a.h).size ≤ n ∧ (strB a.p).size ≤ n ∧ (strB a.q).size ≤ n
theorem target_size {n : Nat} {a : Adr} (h : AdrLe n a) : (strB a.target).size ≤ 2 * n + 1 := by
  obtain ⟨_, h2, h3⟩ := h
  rw [strB_size] at h2 h3 ⊢
  unfold Adr.target; split
  · rw [List.length_append, List.length_cons]; omega
  · omega
set_option maxHeartbeats 2000000 in
set_option maxRecDepth 100000 in
theorem target_any (a : Adr) (w : World) (ha : AdrLe 1000000000000 a) :
    Calls Tryd.prog 62 #[adrV a] w fun e w' => e = .returned (.string (strB a.target)) ∧ Below w.heap.size w w' := by
  obtain ⟨h1, h2, h3⟩ := ha
  obtain ⟨h, p, q, b⟩ := a
  simp only at h1 h2 h3
  cases b with
  | true =>
    have HR := Lib.hid (show strB (Adr.target ⟨h, p, q, true⟩) = strB p ++ ⟨#[63]⟩ ++ strB q by
      have e1 : strB p ++ ⟨#[63]⟩ = strB (p ++ [63]) := strB_snoc p 63
      have e2 : strB (p ++ [63]) ++ strB q = strB (p ++ [63] ++ q) := by rw [strB_app, strB_list]
      rw [e1, e2]; simp [Adr.target])
    go_enter Tryd.func62, Tryd.ntmps62
    go_wp2
    go_ret
    exact ⟨by rw [HR.out]; rfl, below_new _ _⟩
  | false =>
    have HR := Lib.hid (show strB (Adr.target ⟨h, p, q, false⟩) = strB p by simp [Adr.target])
    go_enter Tryd.func62, Tryd.ntmps62
    go_wp2
    go_ret
    exact ⟨by rw [HR.out]; rfl, below_new _ _⟩
/-- The struct in block B reads as a, and nothing that lay below B in w has changed. -/
def AdrAt (a : Adr) (B : Nat) (w w' : World) : Prop :=
  w'.cell? ⟨B, 0, none⟩ = some (.string (strB a.h)) ∧ w'.cell? ⟨B, 1, none⟩ = some (.string (strB a.p)) ∧ w'.cell? ⟨B, 2, none⟩ = some (.string (strB a.q)) ∧ w'.cell? ⟨B, 3, none⟩ = some (.bool a.b) ∧ B < w'.heap.size ∧ Below w.heap.size w w'
theorem AdrAt.below {a : Adr} {B : Nat} {w w1 w2 : World} (h : AdrAt a B w w1) (hb : Below w1.heap.size w1 w2) : AdrAt a B w w2 := by
  obtain ⟨h0, h1, h2, h3, hB, hw⟩ := h
  exact ⟨(hb.cell (p := ⟨B, 0, none⟩) hB).trans h0, (hb.cell (p := ⟨B, 1, none⟩) hB).trans h1, (hb.cell (p := ⟨B, 2, none⟩) hB).trans h2, (hb.cell (p := ⟨B, 3, none⟩) hB).trans h3, Nat.lt_of_lt_of_le hB hb.size, hw.trans (hb.mono hw.size)⟩
theorem adrAt_new (a : Adr) (w : World) (T : TypeId) : AdrAt a w.heap.size w (w.alloc (.cells #[.string (strB a.h), .string (strB a.p), .string (strB a.q), .bool a.b] T)) := by
  refine ⟨?_, ?_, ?_, ?_, by simp, below_new _ _⟩ <;> rw [World.cell?_alloc_at _ _ _ _ rfl] <;> rfl
theorem target_at {a : Adr} {B : Nat} {w wr : World} (hS : wr.cell? ⟨B, 0, none⟩ = some (.string (strB a.h)) ∧ wr.cell? ⟨B, 1, none⟩ = some (.string (strB a.p)) ∧ wr.cell? ⟨B, 2, none⟩ = some (.string (strB a.q)) ∧ wr.cell? ⟨B, 3, none⟩ = some (.bool a.b) ∧ B < wr.heap.size ∧ Below w.heap.size w wr) (ha : AdrLe 1000000000000 a) :
    Calls Tryd.prog 62 #[adrV a] wr fun e w' => e = .returned (.string (strB a.target)) ∧
      (w'.cell? ⟨B, 0, none⟩ = some (.string (strB a.h)) ∧ w'.cell? ⟨B, 1, none⟩ = some (.string (strB a.p)) ∧ w'.cell? ⟨B, 2, none⟩ = some (.string (strB a.q)) ∧ w'.cell? ⟨B, 3, none⟩ = some (.bool a.b) ∧ B < w'.heap.size ∧ Below w.heap.size w w') ∧ Below wr.heap.size wr w' := by
  refine (target_any a wr ha).mono ?_
  rintro e w' ⟨rfl, hB⟩
  exact ⟨rfl, AdrAt.below (show AdrAt a B w wr from hS) hB, hB⟩
set_option maxHeartbeats 4000000 in
set_option maxRecDepth 100000 in
theorem text_any (a : Adr) (w : World) (ha : AdrLe 1000000000000 a) :
    Calls Tryd.prog 37 #[adrV a] w fun e w' => e = .returned (.string (strB a.text)) ∧ Below w.heap.size w w' := by
  have hts := target_size ha
  have hh := ha.1
  have hsum : ¬ 9223372036854775807 < (strB a.h).size + (strB a.target).size := by omega
  have HA := Lib.hid ha
  have hF := adrAt_new a w 29
  have HR := Lib.hid (show strB a.text = strB a.h ++ strB a.target by rw [strB_app, strB_list]; rfl)
  clear ha
  go_enter Tryd.func37, Tryd.ntmps37
  go_wp2
  generalize w.alloc (.cells #[.string (strB a.h), .string (strB a.p), .string (strB a.q), .bool a.b] 29) = w0 at *
  go_region_held3 (fun w' => w'.cell? ⟨w.heap.size, 0, none⟩ = some (.string (strB a.h)) ∧ w'.cell? ⟨w.heap.size, 1, none⟩ = some (.string (strB a.p)) ∧ w'.cell? ⟨w.heap.size, 2, none⟩ = some (.string (strB a.q)) ∧ w'.cell? ⟨w.heap.size, 3, none⟩ = some (.bool a.b) ∧ w.heap.size < w'.heap.size ∧ Below w.heap.size w w')
    (first | exact hF.below ((Below.refl _ _).drew) | exact h5)
    (first | (go_at_call 62; refine (target_at (by assumption) HA.out).mono ?_; rintro e w' ⟨rfl, h5, _⟩))
  go_wp2
  go_ret
  exact ⟨by rw [HR.out]; rfl, h5.2.2.2.2.2⟩
def pathV (l : List UInt8) : Value := match pathO l with
  | none => .tuple #[.string (strB []), errA 27]
  | some x => .tuple #[.string (strB x), .nilIface]
theorem pathV_no {l : List UInt8} (h : pathO l = none) : pathV l = .tuple #[.string (strB []), errA 27] := by unfold pathV; rw [h]
theorem pathV_of {t y : List UInt8} (h : canO false t = some y) : pathV (47 :: t) = dotV y := by
  unfold pathV dotV
  cases hd : dotsF (cutL 47 y) [] with
  | none =>
    have : pathO (47 :: t) = none := by unfold pathO; rw [canO_plain false (by decide), h]; simp [hd]
    rw [this]
  | some x => rw [pathO_mk h hd]
theorem plnFalse (c : UInt8) : plnB false c = pathB c := by simp [plnB]
theorem canPath_any (s : ByteArray) (w : World) (hE : Env w) (hs : s.size ≤ 100000) :
    Calls Tryd.prog 35 #[.string s, .func (.func 56) #[] #[]] w fun e w' => e = .returned (canV false s.data.toList) ∧ Below w.heap.size w w' :=
  canonical_any false 56 (enters_of Tryd.func56 (by kernel_rfl) rfl) (fun c w => by rw [plnFalse]; exact isPathByte_any c w) s w hE hs
theorem canQuery_any (s : ByteArray) (w : World) (hE : Env w) (hs : s.size ≤ 100000) :
    Calls Tryd.prog 35 #[.string s, .func (.func 36) #[] #[]] w fun e w' => e = .returned (canV true s.data.toList) ∧ Below w.heap.size w w' :=
  canonical_any true 36 (enters_of Tryd.func36 (by kernel_rfl) rfl) isQueryByte_any s w hE hs
theorem prefix47 (l : List UInt8) : Lib.hasPrefix l [47] = true → ∃ t, l = 47 :: t := by
  intro h
  cases l with
  | nil => simp [Lib.hasPrefix] at h
  | cons c t => simp [Lib.hasPrefix, List.isPrefixOf] at h; exact ⟨t, by rw [h]⟩
theorem pathO_noslash {l : List UInt8} (h : Lib.hasPrefix l [47] = false) : pathO l = none := by
  unfold pathO
  split
  · simp [Lib.hasPrefix, List.isPrefixOf] at h
  · rfl
set_option maxHeartbeats 4000000 in
set_option maxRecDepth 100000 in
theorem canonicalPath_any (s : ByteArray) (w : World) (hE : Env w) (hs : s.size ≤ 100000) :
    Calls Tryd.prog 34 #[.string s] w fun e w' => e = .returned (pathV s.data.toList) ∧ Below w.heap.size w w' := by
  have HE := Lib.hid hE
  clear hE
  have hsz : s.data.toList.length = s.size := by rw [Array.length_toList]; rfl
  by_cases hp : Lib.hasPrefix s.data.toList [47] = true
  · obtain ⟨t, ht⟩ := prefix47 _ hp
    have HP := Lib.hid hp
    cases hc : canO false t with
    | none =>
      have HR := Lib.hid (pathV_no (l := s.data.toList) (by rw [ht]; unfold pathO; rw [canO_plain false (by decide), hc]; rfl))
      have HV := Lib.hid (canV_no (q := false) (l := s.data.toList) (by rw [ht, canO_plain false (by decide), hc]; rfl))
      clear hp ht hc hsz
      go_enter Tryd.func34, Tryd.ntmps34
      go_wp2_with (first
        | (go_at_call 55; refine (Tryd.strings_HasPrefix _ _ _).mono ?_; rintro e w' ⟨rfl, rfl⟩; rw [show Lib.hasPrefix s.data.toList (⟨#[47]⟩ : ByteArray).data.toList = true from HP.out])
        | (go_at_call 35; refine (canPath_any s _ HE.out hs).mono ?_; rintro e w1 ⟨rfl, hB⟩; rw [HV.out]))
      go_ret2
      exact ⟨by rw [HR.out]; rfl, hB⟩
    | some y =>
      have HR := Lib.hid (show pathV s.data.toList = dotV y by rw [ht]; exact pathV_of hc)
      have HV := Lib.hid (canV_yes (q := false) (l := s.data.toList) (x := 47 :: y) (by rw [ht, canO_plain false (by decide), hc]; rfl))
      have hyl : (strB (47 :: y)).size ≤ 100000 := by
        have := canO_len hc
        rw [strB_size, List.length_cons]
        rw [ht, List.length_cons] at hsz
        omega
      have HD := Lib.hid (fun w hE => removeDots_any (strB (47 :: y)) y w hE hyl (strB_list _))
      clear hp ht hc hsz
      go_enter Tryd.func34, Tryd.ntmps34
      go_wp2_with (first
        | (go_at_call 55; refine (Tryd.strings_HasPrefix _ _ _).mono ?_; rintro e w' ⟨rfl, rfl⟩; rw [show Lib.hasPrefix s.data.toList (⟨#[47]⟩ : ByteArray).data.toList = true from HP.out])
        | (go_at_call 35; refine (canPath_any s _ HE.out hs).mono ?_; rintro e w1 ⟨rfl, hB⟩; rw [HV.out])
        | (go_at_call 57; refine (HD.out _ (HE.out.below hB)).mono ?_; rintro e w2 ⟨rfl, hB2⟩; refine Hid.out ?_))
      refine Lib.hid ?_
      have hd2 : ∃ v1 v2, dotV y = .tuple #[v1, v2] := by unfold dotV; split <;> exact ⟨_, _, rfl⟩
      obtain ⟨v1, v2, hv⟩ := hd2
      have HV2 := Lib.hid hv
      rw [hv]
      clear hv
      go_wp2
      go_ret2
      exact ⟨by rw [HR.out, HV2.out]; rfl, hB.trans (hB2.mono hB.size)⟩
  · have hp' : Lib.hasPrefix s.data.toList [47] = false := by simpa using hp
    have HP := Lib.hid hp'
    have HR := Lib.hid (pathV_no (pathO_noslash hp'))
    clear hp hp' hsz
    go_enter Tryd.func34, Tryd.ntmps34
    go_wp2_with (go_at_call 55; refine (Tryd.strings_HasPrefix _ _ _).mono ?_; rintro e w' ⟨rfl, rfl⟩; rw [show Lib.hasPrefix s.data.toList (⟨#[47]⟩ : ByteArray).data.toList = false from HP.out])
    go_ret2
    exact ⟨by rw [HR.out]; rfl, Below.refl _ _⟩
end Go.Proofs.YtfggckdakmnfbaaDoor
