import Derived.Test.YtacfkljpjjnlfaaGreatDoorPa2
import Derived.Test.YtacfkljpjjnlfaaGreatDoorPa3
import Derived.Test.YtacfkljpjjnlfaaGreatDoorPa5
import Derived.Lib.Split
import Derived.Lib.IndexMore
import Derived.Test.YtacfkljpjjnlfaaGreatDoorPa0
import Derived.IntWalk
/- The request line: what the program's isMethod, isPath, checkRequestLine and readRequestLine return. -/
namespace Go.Proofs.YtacfkljpjjnlfaaGreatDoor
open Go.RowKit

def upC (c : UInt8) : Bool := decide (65 ≤ c.toNat) && decide (c.toNat ≤ 90)
def tgC (c : UInt8) : Bool := decide (33 ≤ c.toNat) && decide (c.toNat ≤ 126)
def optL : List UInt8 := [79, 80, 84, 73, 79, 78, 83]
def pathL (t : List UInt8) : Bool := t.all tgC && decide (t.head? = some 47) && decide (t.length ≤ 2048)
theorem target_eq (m t : List UInt8) : targetB m t = (pathL t || (decide (t = [42]) && decide (m = optL))) := by
  unfold targetB pathL optL
  have ht : (t.all fun c => decide (33 ≤ c.toNat) && decide (c.toNat ≤ 126)) = t.all tgC := rfl
  rw [ht]
  by_cases h1 : t.all tgC = true
  · rw [h1]
    by_cases h2 : t.head? = some 47
    · have hl : 1 ≤ t.length := by cases t with
        | nil => cases h2
        | cons a b => simp
      have h3 : t ≠ [42] := by rintro rfl; exact absurd h2 (by decide)
      simp [h2, hl, h3]
    · by_cases h4 : t = [42]
      · subst h4; simp
      · simp [h2, h4]
  · have h1' : t.all tgC = false := by simpa using h1
    rw [h1']
    have h4 : t ≠ [42] := by rintro rfl; exact absurd h1' (by decide)
    simp [h4]
theorem upC_mk {c : UInt8} (h : 65 ≤ c.toNat) (h2 : c.toNat ≤ 90) : upC c = true := by simp [upC, h, h2]
theorem upC_not {c : UInt8} (h : ¬ (65 ≤ c.toNat ∧ c.toNat ≤ 90)) : upC c = false := by rw [Bool.eq_false_iff]; simp [upC]; omega
theorem tgC_mk {c : UInt8} (h : 33 ≤ c.toNat) (h2 : c.toNat ≤ 126) : tgC c = true := by simp [tgC, h, h2]
theorem tgC_not {c : UInt8} (h : ¬ (33 ≤ c.toNat ∧ c.toNat ≤ 126)) : tgC c = false := by rw [Bool.eq_false_iff]; simp [tgC]; omega
theorem method_bad {m : List UInt8} (h : m.all upC = false) : methodB m = false := by
  unfold methodB
  have ht : (m.all fun c => decide (65 ≤ c.toNat) && decide (c.toNat ≤ 90)) = m.all upC := rfl
  rw [ht, h]; rfl
theorem method_good {m : List UInt8} (h : m.all upC = true) : methodB m = (decide (1 ≤ m.length) && decide (m.length ≤ 16)) := by
  unfold methodB
  have ht : (m.all fun c => decide (65 ≤ c.toNat) && decide (c.toNat ≤ 90)) = m.all upC := rfl
  rw [ht, h]; rfl
set_option maxHeartbeats 4000000 in
set_option maxRecDepth 100000 in
theorem isMethod_any (s : ByteArray) (w : World) (hs : s.size ≤ 1000000000) :
    Calls Tryz.prog 65 #[.string s] w fun e w' => e = .returned (.bool (methodB s.data.toList)) ∧ w = w' := by
  have hsz : s.data.toList.length = s.size := by rw [Array.length_toList]; rfl
  have HSZ := Lib.hid hsz
  have e1 : s.toList.isEmpty = decide (s.size = 0) := by
    rw [ByteArray.toList_eq]
    cases h : s.data.toList with
    | nil => rw [h, List.length_nil] at hsz; rw [← hsz]; rfl
    | cons a b => rw [h, List.length_cons] at hsz; rw [List.isEmpty_cons, eq_comm, decide_eq_false_iff_not]; omega
  have HE := Lib.hid e1
  clear e1 hsz
  go_enter Tryz.func65, Tryz.ntmps65
  go_wp2
  go_loop [3] (fun i => ∃ k : Nat, k ≤ s.size ∧ i = .int .i64 k ∧ okTo upC s k) (fun i => s.size - (intOf i).toNat)
  case atStart => exact ⟨0, by omega, rfl, okTo0 _ s⟩
  case round =>
    obtain ⟨k, hk, rfl, hn⟩ := hrel
    by_cases hlt : k < s.size
    · by_cases h1 : 65 ≤ s[k].toNat
      · by_cases h2 : s[k].toNat ≤ 90
        · go_wp2
          go_round
          case rel => exact ⟨k + 1, by omega, by go_num, okTo_step hlt hn (upC_mk h1 h2)⟩
          case measure => simp [intOf]; omega
        · go_wp2
          go_ret
          exact ⟨ret_bool (method_bad (okTo_no hlt (upC_not (by omega)))).symm, rfl⟩
      · go_wp2
        go_ret
        exact ⟨ret_bool (method_bad (okTo_no hlt (upC_not (by omega)))).symm, rfl⟩
    · have HG := Lib.hid (method_good (okTo_end (by omega) hn))
      by_cases hz : s.size = 0
      · have e0 : s.toList.isEmpty = true := by rw [HE.out, decide_eq_true hz]
        have e2 : (s.toList == ([] : List UInt8)) = true := by simpa using e0
        go_wp2
        go_ret
        exact ⟨ret_bool (by rw [HG.out, HSZ.out, Bool.eq_iff_iff]; simp; omega), rfl⟩
      · have e0 : s.toList.isEmpty = false := by rw [HE.out, decide_eq_false hz]
        have e2 : (s.toList == ([] : List UInt8)) = false := by simpa using e0
        by_cases h16 : s.size ≤ 16
        · go_wp2
          go_ret
          exact ⟨ret_bool (by rw [HG.out, HSZ.out, Bool.eq_iff_iff]; simp; omega), rfl⟩
        · go_wp2
          go_ret
          exact ⟨ret_bool (by rw [HG.out, HSZ.out, Bool.eq_iff_iff]; simp; omega), rfl⟩
theorem path_bad {m : List UInt8} (h : m.all tgC = false) : pathL m = false := by unfold pathL; rw [h]; rfl
theorem path_good {m : List UInt8} (h : m.all tgC = true) : pathL m = (Lib.hasPrefix m [47] && decide (m.length ≤ 2048)) := by
  unfold pathL Lib.hasPrefix
  rw [h]
  cases m with
  | nil => rfl
  | cons a b =>
    simp [List.isPrefixOf]
    by_cases ha : a = 47
    · subst ha; simp
    · simp [ha, Ne.symm ha]
set_option maxHeartbeats 4000000 in
set_option maxRecDepth 100000 in
theorem isPath_any (s : ByteArray) (w : World) (hs : s.size ≤ 1000000000) :
    Calls Tryz.prog 66 #[.string s] w fun e w' => e = .returned (.bool (pathL s.data.toList)) ∧ w = w' := by
  have hsz : s.data.toList.length = s.size := by rw [Array.length_toList]; rfl
  have HSZ := Lib.hid hsz
  clear hsz
  go_enter Tryz.func66, Tryz.ntmps66
  go_wp2
  go_loop [3] (fun i => ∃ k : Nat, k ≤ s.size ∧ i = .int .i64 k ∧ okTo tgC s k) (fun i => s.size - (intOf i).toNat)
  case atStart => exact ⟨0, by omega, rfl, okTo0 _ s⟩
  case round =>
    obtain ⟨k, hk, rfl, hn⟩ := hrel
    by_cases hlt : k < s.size
    · by_cases h1 : 33 ≤ s[k].toNat
      · by_cases h2 : s[k].toNat ≤ 126
        · go_wp2
          go_round
          case rel => exact ⟨k + 1, by omega, by go_num, okTo_step hlt hn (tgC_mk h1 h2)⟩
          case measure => simp [intOf]; omega
        · go_wp2
          go_ret
          exact ⟨ret_bool (path_bad (okTo_no hlt (tgC_not (by omega)))).symm, rfl⟩
      · go_wp2
        go_ret
        exact ⟨ret_bool (path_bad (okTo_no hlt (tgC_not (by omega)))).symm, rfl⟩
    · have HG := Lib.hid (path_good (okTo_end (by omega) hn))
      cases hp : Lib.hasPrefix s.data.toList [47] with
      | false =>
        have HP := Lib.hid hp
        go_wp2_with (go_at_call 92; refine (Tryz.strings_HasPrefix s ⟨#[47]⟩ _).mono ?_; rintro e w' ⟨rfl, rfl⟩; rw [show Lib.hasPrefix s.data.toList (⟨#[47]⟩ : ByteArray).data.toList = false from HP.out])
        go_ret
        exact ⟨ret_bool (by rw [HG.out, HP.out]; rfl), rfl⟩
      | true =>
        have HP := Lib.hid hp
        by_cases h16 : s.size ≤ 2048
        · go_wp2_with (go_at_call 92; refine (Tryz.strings_HasPrefix s ⟨#[47]⟩ _).mono ?_; rintro e w' ⟨rfl, rfl⟩; rw [show Lib.hasPrefix s.data.toList (⟨#[47]⟩ : ByteArray).data.toList = true from HP.out])
          go_ret
          exact ⟨ret_bool (by rw [HG.out, HP.out, HSZ.out, Bool.eq_iff_iff]; simp; omega), rfl⟩
        · go_wp2_with (go_at_call 92; refine (Tryz.strings_HasPrefix s ⟨#[47]⟩ _).mono ?_; rintro e w' ⟨rfl, rfl⟩; rw [show Lib.hasPrefix s.data.toList (⟨#[47]⟩ : ByteArray).data.toList = true from HP.out])
          go_ret
          exact ⟨ret_bool (by rw [HG.out, HP.out, HSZ.out, Bool.eq_iff_iff]; simp; omega), rfl⟩
/-- The number of the error of a method and a target. -/
def reqC (m t : List UInt8) : Nat := if methodB m = false then 26 else if targetB m t = false then 27 else 0
theorem list_yes {a b : List UInt8} (h : a = b) : ((strB a).toList == b) = true := by subst h; rw [ByteArray.toList_eq, strB_list]; exact beq_self_eq_true _
theorem list_no {a b : List UInt8} (h : a ≠ b) : ((strB a).toList == b) = false := by rw [ByteArray.toList_eq, strB_list]; simpa using h
set_option maxHeartbeats 2000000 in
set_option maxRecDepth 100000 in
theorem checkLine_any (m t : List UInt8) (w : World) (hm : m.length ≤ 1000000) (ht : t.length ≤ 1000000) :
    Calls Tryz.prog 37 #[.string (strB m), .string (strB t)] w fun e w' => e = .returned (errV (reqC m t)) ∧ w = w' := by
  have H1 := fun w => isMethod_any (strB m) w (by rw [strB_size]; omega)
  have H2 := fun w => isPath_any (strB t) w (by rw [strB_size]; omega)
  rw [strB_list] at H1 H2
  clear hm ht
  cases h1 : methodB m with
  | false =>
    rw [h1] at H1
    have HE := Lib.hid (show reqC m t = 26 by unfold reqC; rw [if_pos h1])
    clear h1
    go_enter Tryz.func37, Tryz.ntmps37
    go_wp2_with (go_at_call 65; refine (H1 _).mono ?_; rintro e w' ⟨rfl, rfl⟩)
    go_ret
    exact ⟨by rw [HE.out]; rfl, rfl⟩
  | true =>
    rw [h1] at H1
    cases h2 : pathL t with
    | true =>
      rw [h2] at H2
      have HE := Lib.hid (show reqC m t = 0 by unfold reqC; rw [if_neg (by rw [h1]; simp), target_eq, h2, if_neg (by simp)])
      clear h1 h2
      go_enter Tryz.func37, Tryz.ntmps37
      go_wp2_with (go_at_call 65; refine (H1 _).mono ?_; rintro e w' ⟨rfl, rfl⟩)
      refine (H2 _).mono ?_
      rintro e w' ⟨rfl, rfl⟩
      go_wp2_with fail
      go_ret
      exact ⟨by rw [HE.out]; rfl, rfl⟩
    | false =>
      rw [h2] at H2
      by_cases h3 : t = [42]
      · have q3 := list_yes h3
        by_cases h4 : m = optL
        · have q4 := list_yes h4
          unfold optL at q4
          have HE := Lib.hid (show reqC m t = 0 by unfold reqC; rw [if_neg (by rw [h1]; simp), target_eq, h2, if_neg (by simp [h3, h4])])
          clear h1 h2 h3 h4
          go_enter Tryz.func37, Tryz.ntmps37
          go_wp2_with (go_at_call 65; refine (H1 _).mono ?_; rintro e w' ⟨rfl, rfl⟩)
          refine (H2 _).mono ?_
          rintro e w' ⟨rfl, rfl⟩
          go_wp2_with fail
          go_ret
          exact ⟨by rw [HE.out]; rfl, rfl⟩
        · have q4 := list_no h4
          unfold optL at q4
          have HE := Lib.hid (show reqC m t = 27 by unfold reqC; rw [if_neg (by rw [h1]; simp), target_eq, h2, if_pos (by simp [h4])])
          clear h1 h2 h3 h4
          go_enter Tryz.func37, Tryz.ntmps37
          go_wp2_with (go_at_call 65; refine (H1 _).mono ?_; rintro e w' ⟨rfl, rfl⟩)
          refine (H2 _).mono ?_
          rintro e w' ⟨rfl, rfl⟩
          go_wp2_with fail
          go_ret
          exact ⟨by rw [HE.out]; rfl, rfl⟩
      · have q3 := list_no h3
        have HE := Lib.hid (show reqC m t = 27 by unfold reqC; rw [if_neg (by rw [h1]; simp), target_eq, h2, if_pos (by simp [h3])])
        clear h1 h2 h3
        go_enter Tryz.func37, Tryz.ntmps37
        go_wp2_with (go_at_call 65; refine (H1 _).mono ?_; rintro e w' ⟨rfl, rfl⟩)
        refine (H2 _).mono ?_
        rintro e w' ⟨rfl, rfl⟩
        go_wp2_with fail
        go_ret
        exact ⟨by rw [HE.out]; rfl, rfl⟩
theorem cutG_C (c : UInt8) : ∀ l : List UInt8, cut1 c l = (if (cutC c l).2.2 = true then some ((cutC c l).1, (cutC c l).2.1) else none) ∧ cutG c l = ((cutC c l).1, (cutC c l).2.1) := by
  intro l
  induction l with
  | nil => exact ⟨rfl, rfl⟩
  | cons x t ih =>
    have h1 : cut1 c (x :: t) = (if (cutC c (x :: t)).2.2 = true then some ((cutC c (x :: t)).1, (cutC c (x :: t)).2.1) else none) := by
      rw [cut1, cutC]
      by_cases hx : x = c
      · rw [if_pos hx, if_pos hx]; rfl
      · rw [if_neg hx, if_neg hx, ih.1]
        cases h : (cutC c t).2.2 <;> simp
    refine ⟨h1, ?_⟩
    unfold cutG
    rw [h1]
    by_cases h : (cutC c (x :: t)).2.2 = true
    · rw [if_pos h]; rfl
    · rw [if_neg h]
      have : ∀ l : List UInt8, (cutC c l).2.2 = false → cutC c l = (l, [], false) := by
        intro l
        induction l with
        | nil => intro _; rfl
        | cons y r ih2 =>
          intro h2
          rw [cutC] at h2 ⊢
          by_cases hy : y = c
          · rw [if_pos hy] at h2; cases h2
          · rw [if_neg hy] at h2 ⊢
            rw [ih2 h2]
      rw [this _ (by simpa using h)]; rfl
/-- The number of the error of a request line. -/
def startC (l : List UInt8) : Nat :=
  if reqC (cutG 32 l).1 (cutG 32 (cutG 32 l).2).1 ≠ 0 then reqC (cutG 32 l).1 (cutG 32 (cutG 32 l).2).1 else if (cutG 32 (cutG 32 l).2).2 ≠ verL then 28 else 0
def startV (l : List UInt8) : Value :=
  if startC l = 0 then .tuple #[.string (strB (cutG 32 l).1), .string (strB (cutG 32 (cutG 32 l).2).1), .nilIface] else .tuple #[.string (strB []), .string (strB []), .iface 64 (.int .i64 (startC l))]
theorem cutGM_any (l : List UInt8) (w : World) (hM : HasMax w) (hs : l.length ≤ 1000000) :
    Calls Tryz.prog 50 #[.string (strB l), .string ⟨#[32]⟩] w fun e w' => ∃ b, e = .returned (.tuple #[.string (strB (cutG 32 l).1), .string (strB (cutG 32 l).2), .bool b]) ∧ Below w.heap.size w w' := by
  refine (cutM_any 32 (strB l) w hM (by rw [strB_size]; omega)).mono ?_
  rintro e w' ⟨rfl, n, rfl⟩
  rw [strB_list, (cutG_C 32 l).2]
  exact ⟨_, rfl, below_drewN (Below.refl _ _) n⟩
theorem cutG_len (c : UInt8) (l : List UInt8) : (cutG c l).1.length ≤ l.length ∧ (cutG c l).2.length ≤ l.length := by
  rw [(cutG_C c l).2]; exact cutC_len c l
set_option maxHeartbeats 2000000 in
set_option maxRecDepth 100000 in
theorem readLine_any (l : List UInt8) (w : World) (hM : HasMax w) (hs : l.length ≤ 1000000) :
    Calls Tryz.prog 27 #[.string (strB l)] w fun e w' => e = .returned (startV l) ∧ Below w.heap.size w w' := by
  have hl1 := cutG_len 32 l
  have hl2 := cutG_len 32 (cutG 32 l).2
  have C1 := Lib.hid (fun w hM => cutGM_any l w hM hs)
  have C2 := Lib.hid (fun w hM => cutGM_any (cutG 32 l).2 w hM (by omega))
  have H := fun w => checkLine_any (cutG 32 l).1 (cutG 32 (cutG 32 l).2).1 w (by omega) (by omega)
  have HM := Lib.hid hM
  clear hl1 hl2 hM
  by_cases h1 : reqC (cutG 32 l).1 (cutG 32 (cutG 32 l).2).1 = 0
  · rw [h1, show errV 0 = .nilIface from rfl] at H
    by_cases h2 : (cutG 32 (cutG 32 l).2).2 = verL
    · have HE := Lib.hid (show startV l = .tuple #[.string (strB (cutG 32 l).1), .string (strB (cutG 32 (cutG 32 l).2).1), .nilIface] by
        unfold startV; rw [if_pos (by unfold startC; rw [if_neg (by simp [h1]), if_neg (by simp [h2])])])
      have q := list_yes h2
      unfold verL at q
      clear h1 h2
      go_enter Tryz.func27, Tryz.ntmps27
      go_wp2_with fail
      refine (C1.out _ HM.out).mono ?_
      rintro e w1 ⟨b1, rfl, hB1⟩
      go_wp2_with fail
      refine (C2.out _ (HM.out.below hB1)).mono ?_
      rintro e w2 ⟨b2, rfl, hB2⟩
      have hB2' := hB1.trans (hB2.mono hB1.size)
      go_wp2_with fail
      refine (H _).mono ?_
      rintro e w3 ⟨rfl, rfl⟩
      go_wp2_with fail
      refine bodyPost_ret (v := .tuple #[.string (strB (cutG 32 l).1), .string (strB (cutG 32 (cutG 32 l).2).1), .nilIface]) (by simp [results, Tryz.results27, go_sem]) rfl ?_
      exact ⟨by rw [HE.out], hB2'⟩
    · have HE := Lib.hid (show startV l = .tuple #[.string (strB []), .string (strB []), .iface 64 (.int .i64 28)] by
        unfold startV
        have e : startC l = 28 := by unfold startC; rw [if_neg (by simp [h1]), if_pos h2]
        rw [e]; rfl)
      have q := list_no h2
      unfold verL at q
      clear h1 h2
      go_enter Tryz.func27, Tryz.ntmps27
      go_wp2_with fail
      refine (C1.out _ HM.out).mono ?_
      rintro e w1 ⟨b1, rfl, hB1⟩
      go_wp2_with fail
      refine (C2.out _ (HM.out.below hB1)).mono ?_
      rintro e w2 ⟨b2, rfl, hB2⟩
      have hB2' := hB1.trans (hB2.mono hB1.size)
      go_wp2_with fail
      refine (H _).mono ?_
      rintro e w3 ⟨rfl, rfl⟩
      go_wp2_with fail
      refine bodyPost_ret (v := .tuple #[.string ⟨#[]⟩, .string ⟨#[]⟩, .iface 64 (.int .i64 28)]) (by simp [results, Tryz.results27, go_sem]) rfl ?_
      exact ⟨by rw [HE.out]; rfl, hB2'⟩
  · have HE := Lib.hid (show startV l = .tuple #[.string (strB []), .string (strB []), .iface 64 (.int .i64 (reqC (cutG 32 l).1 (cutG 32 (cutG 32 l).2).1))] by
      unfold startV
      have e : startC l = reqC (cutG 32 l).1 (cutG 32 (cutG 32 l).2).1 := by unfold startC; rw [if_pos h1]
      rw [e, if_neg h1])
    unfold errV at H
    rw [if_neg h1] at H
    clear h1
    generalize reqC (cutG 32 l).1 (cutG 32 (cutG 32 l).2).1 = c at *
    go_enter Tryz.func27, Tryz.ntmps27
    go_wp2_with fail
    refine (C1.out _ HM.out).mono ?_
    rintro e w1 ⟨b1, rfl, hB1⟩
    go_wp2_with fail
    refine (C2.out _ (HM.out.below hB1)).mono ?_
    rintro e w2 ⟨b2, rfl, hB2⟩
    have hB2' := hB1.trans (hB2.mono hB1.size)
    go_wp2_with fail
    refine (H _).mono ?_
    rintro e w3 ⟨rfl, rfl⟩
    go_wp2_with fail
    refine bodyPost_ret (v := .tuple #[.string ⟨#[]⟩, .string ⟨#[]⟩, .iface 64 (.int .i64 c)]) (by simp [results, Tryz.results27, go_sem]) rfl ?_
    exact ⟨by rw [HE.out]; rfl, hB2'⟩
end Go.Proofs.YtacfkljpjjnlfaaGreatDoor

/- How the program divides a head: by the first CR LF CR LF within the limit, and by CR LF; it is how the reference does. -/
namespace Go.Proofs.YtacfkljpjjnlfaaGreatDoor

def crlf : List UInt8 := [13, 10]
def crlf2 : List UInt8 := [13, 10, 13, 10]
/-- The pieces between CR LF; cur is what stands before. -/
def spF (cur : List UInt8) : List UInt8 → List (List UInt8)
  | [] => [cur]
  | c :: r => if c = 13 ∧ r.head? = some 10 then cur :: spF [] r.tail else spF (cur ++ [c]) r
termination_by l => l.length
decreasing_by all_goals simp_wf; all_goals (try have := List.length_tail (l := r)); all_goals (try omega)
theorem pre2 (c : UInt8) (r : List UInt8) : crlf.isPrefixOf (c :: r) = true ↔ c = 13 ∧ r.head? = some 10 := by
  unfold crlf
  cases r with
  | nil => simp [List.isPrefixOf]
  | cons d r => simp [List.isPrefixOf]; constructor <;> (rintro ⟨a, b⟩; exact ⟨a.symm, b.symm⟩)
theorem spF_index : ∀ (s cur : List UInt8), spF cur s = if Lib.index s crlf = -1 then [cur ++ s] else (cur ++ s.take (Lib.index s crlf).toNat) :: spF [] (s.drop ((Lib.index s crlf).toNat + 2)) := by
  intro s
  induction s with
  | nil => intro cur; rw [spF]; simp [Lib.index, crlf]
  | cons c r ih =>
    intro cur
    by_cases h : crlf.isPrefixOf (c :: r) = true
    · rw [spF, if_pos ((pre2 c r).1 h), Lib.index, if_pos h]
      simp
    · have h' : ¬ (c = 13 ∧ r.head? = some 10) := fun e => h ((pre2 c r).2 e)
      rw [spF, if_neg h', ih, Lib.index, if_neg h]
      have hge := Lib.index_ge r crlf
      by_cases h2 : Lib.index r crlf = -1
      · rw [if_pos h2, if_pos (show (Lib.index r crlf == -1) = true by rw [h2]; rfl), if_pos rfl]; simp
      · rw [if_neg h2, if_neg (show ¬ (Lib.index r crlf == -1) = true by simpa using h2), if_neg (by omega)]
        have e : (Lib.index r crlf + 1).toNat = (Lib.index r crlf).toNat + 1 := by omega
        rw [e, show (Lib.index r crlf).toNat + 1 + 2 = (Lib.index r crlf).toNat + 2 + 1 by omega]
        simp
theorem splitK_sp : ∀ (fuel : Nat) (s : List UInt8), s.length < fuel → Lib.splitK crlf 0 (Lib.countFrom crlf fuel s) s = spF [] s := by
  intro fuel
  induction fuel with
  | zero => intro s h; omega
  | succ k ih =>
    intro s hs
    rw [spF_index, Lib.countFrom]
    by_cases h : Lib.index s crlf = -1
    · rw [if_pos (by rw [h]; rfl), if_pos h]; simp [Lib.splitK]
    · have hge := Lib.index_ge s crlf
      have hle : (Lib.index s crlf).toNat + 2 ≤ s.length := by
        have := Lib.index_room s crlf (by omega)
        have h2 : crlf.length = 2 := rfl
        omega
      rw [if_neg (by simpa using h), if_neg h, show 1 + Lib.countFrom crlf k (s.drop ((Lib.index s crlf).toNat + crlf.length)) = Lib.countFrom crlf k (s.drop ((Lib.index s crlf).toNat + crlf.length)) + 1 by omega, Lib.splitK, if_neg (by simpa using h)]
      rw [show crlf.length = 2 from rfl, ih _ (by rw [List.length_drop]; omega)]
      simp
/-- strings.Split at CR LF. -/
theorem split_sp (s : List UInt8) : Lib.split s crlf = spF [] s := splitK_sp _ s (by omega)
theorem pre4 (c : UInt8) (r : List UInt8) : crlf2.isPrefixOf (c :: r) = true ↔ c = 13 ∧ r.take 3 = [10, 13, 10] := by
  unfold crlf2
  match r with
  | [] => simp [List.isPrefixOf]
  | [a] => simp [List.isPrefixOf]
  | [a, b] => simp [List.isPrefixOf]
  | a :: b :: d :: t => simp [List.isPrefixOf]; constructor <;> (rintro ⟨h1, h2, h3, h4⟩; exact ⟨h1.symm, h2.symm, h3.symm, h4.symm⟩)
theorem end4_index : ∀ l : List UInt8, end4 l = if Lib.index l crlf2 = -1 then none else some ((Lib.index l crlf2).toNat + 4) := by
  intro l
  induction l with
  | nil => rfl
  | cons c r ih =>
    rw [end4]
    by_cases h : crlf2.isPrefixOf (c :: r) = true
    · rw [if_pos ((pre4 c r).1 h), Lib.index, if_pos h]; rfl
    · have h' : ¬ (c = 13 ∧ r.take 3 = [10, 13, 10]) := fun e => h ((pre4 c r).2 e)
      rw [if_neg h', ih, Lib.index, if_neg h]
      have hge := Lib.index_ge r crlf2
      by_cases h2 : Lib.index r crlf2 = -1
      · rw [if_pos h2, if_pos (show (Lib.index r crlf2 == -1) = true by rw [h2]; rfl), if_pos rfl]; rfl
      · rw [if_neg h2, if_neg (show ¬ (Lib.index r crlf2 == -1) = true by simpa using h2), if_neg (by omega)]
        simp; omega
theorem linesF_end : ∀ (k : Nat) (a cur : List UInt8), a.length ≤ k → linesF cur (a ++ crlf2) = spF cur a ++ [[]] := by
  intro k
  induction k with
  | zero =>
    intro a cur h
    obtain rfl : a = [] := List.eq_nil_of_length_eq_zero (by omega)
    rw [spF, List.nil_append, crlf2, linesF, if_pos ⟨rfl, rfl⟩, List.tail, linesF, if_pos ⟨rfl, rfl⟩, List.tail, linesF]; rfl
  | succ k ih =>
    intro a cur h
    cases a with
    | nil => exact ih [] cur (by simp)
    | cons c r =>
      rw [List.cons_append, linesF, spF]
      by_cases hc : c = 13 ∧ r.head? = some 10
      · cases r with
        | nil => cases hc.2
        | cons d r2 =>
          rw [if_pos hc, if_pos (by exact hc)]
          show cur :: linesF [] (r2 ++ crlf2) = _
          rw [ih r2 [] (by simp at h; omega)]; rfl
      · have hc' : ¬ (c = 13 ∧ (r ++ crlf2).head? = some 10) := by
          rintro ⟨h1, h2⟩
          apply hc
          refine ⟨h1, ?_⟩
          cases r with
          | nil => exact absurd h2 (by decide)
          | cons d r2 => exact h2
        rw [if_neg hc, if_neg hc', ih r _ (by simp at h; omega)]
def badC (c : UInt8) : Bool := [13, 10, 0].contains c
theorem badC_iff (c : UInt8) : badC c = true ↔ c = 13 ∨ c = 10 ∨ c = 0 := by unfold badC; simp
theorem spF_bad : ∀ (k : Nat) (a cur : List UInt8), a.length ≤ k → cur.any badC = true → (spF cur a).any (·.any badC) = true := by
  intro k
  induction k with
  | zero =>
    intro a cur h hc
    obtain rfl : a = [] := List.eq_nil_of_length_eq_zero (by omega)
    rw [spF]; simp only [List.any_cons, hc, Bool.true_or]
  | succ k ih =>
    intro a cur h hc
    cases a with
    | nil => exact ih [] cur (by simp) hc
    | cons c r =>
      rw [spF]
      split
      · simp only [List.any_cons, hc, Bool.true_or]
      · exact ih r _ (by simp at h; omega) (by rw [List.any_append, hc, Bool.true_or])
theorem bareF_end : ∀ (k : Nat) (a cur : List UInt8) (p : UInt8), a.length ≤ k → p ≠ 13 → cur.any badC = false → bareF p (a ++ crlf2) = (spF cur a).any (·.any badC) := by
  intro k
  induction k with
  | zero =>
    intro a cur p h _ hc
    obtain rfl : a = [] := List.eq_nil_of_length_eq_zero (by omega)
    rw [spF, List.nil_append, crlf2, bareF_crlf, bareF_crlf]
    simp only [List.any_cons, hc]; rfl
  | succ k ih =>
    intro a cur p h hp hc
    cases a with
    | nil => exact ih [] cur p (by simp) hp hc
    | cons c r =>
      by_cases h13 : c = 13 ∧ r.head? = some 10
      · obtain ⟨rfl, h2⟩ := h13
        cases r with
        | nil => cases h2
        | cons d r2 =>
          obtain rfl : d = 10 := Option.some.inj h2
          rw [spF, if_pos ⟨rfl, rfl⟩]
          show bareF p (13 :: 10 :: (r2 ++ crlf2)) = _
          rw [bareF_crlf, ih r2 [] 10 (by simp at h; omega) (by decide) rfl]
          simp only [List.any_cons, hc, Bool.false_or]; rfl
      · rw [spF, if_neg h13, List.cons_append, bareF]
        have hh : ¬ (c = 13 ∧ (r ++ crlf2).head? = some 10) := by
          rintro ⟨h1, h2⟩
          apply h13
          refine ⟨h1, ?_⟩
          cases r with
          | nil => exact absurd h2 (by decide)
          | cons d r2 => exact h2
        by_cases hb : badC c = true
        · rw [spF_bad (k := k) _ _ (by simp at h; omega) (by rw [List.any_append]; simp [hb])]
          rcases (badC_iff c).1 hb with rfl | rfl | rfl
          · have : decide ((r ++ crlf2).head? ≠ some 10) = true := decide_eq_true fun e => hh ⟨rfl, e⟩
            rw [this]; simp
          · simp [hp]
          · simp
        · have hb' := hb
          rw [badC_iff] at hb'
          simp only [not_or] at hb'
          rw [ih r (cur ++ [c]) c (by simp at h; omega) hb'.1 (by rw [List.any_append, hc]; simpa using hb)]
          simp [hb'.1, hb'.2.1, hb'.2.2]
/-- How the program divides a head. -/
def divP (l : List UInt8) : Nat × List (List UInt8) × Nat :=
  if l.take 2 = crlf then (22, [], 0)
  else if Lib.index (l.take 8192) crlf2 = -1 then (if l.length < 8192 then 21 else 5, [], 0)
  else if 65 < (spF [] (l.take (Lib.index (l.take 8192) crlf2).toNat)).length then (5, [], 0)
  else if (spF [] (l.take (Lib.index (l.take 8192) crlf2).toNat)).any (·.any badC) = true then (22, [], 0)
  else (0, spF [] (l.take (Lib.index (l.take 8192) crlf2).toNat), (Lib.index (l.take 8192) crlf2).toNat + 4)
theorem splitG_div (l : List UInt8) : splitG l = divP l := by
  unfold splitG divP
  by_cases h0 : l.take 2 = crlf
  · have e : endO l = some 2 := by unfold endO; rw [if_pos (by exact h0)]
    rw [e, if_pos h0]
    simp only
    have e2 : linesF [] (l.take 2) = [[]] := by rw [h0, crlf, linesF, if_pos ⟨rfl, rfl⟩, List.tail, linesF]
    rw [e2]; simp
  · have e : endO l = end4 l := by unfold endO; rw [if_neg (by exact h0)]
    rw [e, if_neg h0]
    have hi := end4_index (l.take 8192)
    by_cases h1 : Lib.index (l.take 8192) crlf2 = -1
    · rw [if_pos h1] at hi ⊢
      cases h2 : end4 l with
      | none => rfl
      | some n =>
        simp only
        have hn := end4_some h2
        have hlt : 8192 < n := by
          refine Nat.lt_of_not_le fun hle => ?_
          have h3 := end4_pre h2 ((l.drop n).take (8192 - n))
          have h4 : l.take n ++ (l.drop n).take (8192 - n) = l.take 8192 := by
            rw [← List.take_add]; congr 1; omega
          rw [h4, hi] at h3
          cases h3
        rw [if_pos (.inl hlt), if_neg (by omega)]
    · rw [if_neg h1] at hi ⊢
      have hge := Lib.index_ge (l.take 8192) crlf2
      generalize hk : (Lib.index (l.take 8192) crlf2).toNat = k at hi ⊢
      have hn := end4_some hi
      have hk4 : k + 4 ≤ 8192 ∧ k + 4 ≤ l.length := by
        have := hn.2
        rw [List.length_take] at this
        omega
      have h2 : end4 l = some (k + 4) := by
        have := end4_pre hi (l.drop (k + 4))
        rw [List.take_take, Nat.min_eq_left hk4.1, List.take_append_drop] at this
        exact this
      rw [h2]
      simp only
      have h5 : l.take (k + 4) = l.take k ++ crlf2 := by
        have h6 : crlf2.isPrefixOf ((l.take 8192).drop k) = true := by
          rcases Lib.index_spec (l.take 8192) crlf2 with ⟨h, _⟩ | ⟨i, h, _, ho, _⟩
          · exact absurd h h1
          · obtain rfl : i = k := by omega
            exact ho
        rw [List.drop_take] at h6
        have h7 : crlf2 = (l.drop k).take 4 := by
          have := List.isPrefixOf_iff_prefix.1 h6
          have h8 := List.prefix_iff_eq_take.1 this
          rw [List.take_take, show crlf2.length = 4 from rfl, Nat.min_eq_left (by omega)] at h8
          exact h8
        rw [List.take_add, ← h7]
      rw [h5, linesF_end _ _ _ (Nat.le_refl _), bareF_end _ _ [] 0 (Nat.le_refl _) (by decide) rfl, List.dropLast_concat, List.length_append]
      by_cases h6 : 65 < (spF [] (l.take k)).length
      · rw [if_pos (.inr (by simp; omega)), if_pos h6]
      · rw [if_neg (by simp; omega), if_neg h6]
        by_cases h7 : (spF [] (l.take k)).any (·.any badC) = true
        · rw [if_pos (.inr h7), if_pos h7]
        · rw [if_neg (by rintro (h | h); omega; exact h7 h), if_neg h7]
theorem spF_len : ∀ (k : Nat) (s cur : List UInt8), s.length ≤ k → (spF cur s).length ≤ s.length + 1 := by
  intro k
  induction k with
  | zero =>
    intro s cur h
    obtain rfl : s = [] := List.eq_nil_of_length_eq_zero (by omega)
    rw [spF]; simp
  | succ k ih =>
    intro s cur h
    cases s with
    | nil => rw [spF]; simp
    | cons c r =>
      rw [spF]
      split
      · have h2 := List.length_tail (l := r)
        have := ih r.tail [] (by simp at h; omega)
        simp only [List.length_cons]; omega
      · have := ih r (cur ++ [c]) (by simp at h; omega)
        simp only [List.length_cons]; omega
/-- The parts are no longer than the text. -/
theorem spF_part : ∀ (k : Nat) (s cur : List UInt8), s.length ≤ k → ∀ l ∈ spF cur s, l.length ≤ cur.length + s.length := by
  intro k
  induction k with
  | zero =>
    intro s cur h l hl
    obtain rfl : s = [] := List.eq_nil_of_length_eq_zero (by omega)
    rw [spF, List.mem_singleton] at hl
    rw [hl]; simp
  | succ k ih =>
    intro s cur h l hl
    cases s with
    | nil => rw [spF, List.mem_singleton] at hl; rw [hl]; simp
    | cons c r =>
      rw [spF] at hl
      split at hl
      · have h2 := List.length_tail (l := r)
        rcases List.mem_cons.1 hl with rfl | hl
        · simp
        · have := ih r.tail [] (by simp at h; omega) l hl
          simp at this ⊢; omega
      · have := ih r (cur ++ [c]) (by simp at h; omega) l hl
        simp at this ⊢; omega
theorem spF_ne (s cur : List UInt8) : spF cur s ≠ [] := by
  rw [spF_index]; split <;> simp
theorem enc_part : ∀ (ls : List (List UInt8)), ∀ y ∈ ls, y.length ≤ (enc ls).length := by
  intro ls
  induction ls with
  | nil => intro y hy; cases hy
  | cons x t ih =>
    intro y hy
    rw [enc_cons]
    rcases List.mem_cons.1 hy with rfl | hy
    · simp
    · have := ih y hy; simp; omega
end Go.Proofs.YtacfkljpjjnlfaaGreatDoor

/- The reference's end, bare, lines and split: where a head ends, whether it has bare bytes, its lines. -/
namespace Go.Proofs.YtacfkljpjjnlfaaGreatDoor
open Go.RowKit

def endN (l : List UInt8) : Nat := (endO l).getD 0
/-- Up to i no CR LF CR LF begins. -/
def EndTo (l : List UInt8) (i : Nat) : Prop := end4 l = (end4 (l.drop i)).map (· + i)
theorem endTo0 (l : List UInt8) : EndTo l 0 := by unfold EndTo; simp
theorem endTo_step {l : List UInt8} {i : Nat} (h : EndTo l i) (hi : i + 4 ≤ l.length) (hn : (l.drop i).take 4 ≠ crlf2) : EndTo l (i + 1) := by
  unfold EndTo at *
  rw [h]
  have hd : l.drop i = (l[i]'(by omega)) :: l.drop (i + 1) := by rw [List.drop_eq_getElem_cons (by omega)]
  rw [hd, end4, if_neg]
  · cases end4 (l.drop (i + 1)) <;> simp; omega
  · rintro ⟨h1, h2⟩
    apply hn
    rw [hd, List.take_succ_cons, h1, h2]; rfl
theorem endTo_hit {l : List UInt8} {i : Nat} (h : EndTo l i) (hi : i + 4 ≤ l.length) (hn : (l.drop i).take 4 = crlf2) : end4 l = some (i + 4) := by
  unfold EndTo at *
  rw [h]
  have hd : l.drop i = (l[i]'(by omega)) :: l.drop (i + 1) := by rw [List.drop_eq_getElem_cons (by omega)]
  rw [hd, List.take_succ_cons] at hn
  unfold crlf2 at hn
  injection hn with h1 h2
  rw [hd, end4, if_pos ⟨h1, h2⟩]; simp; omega
theorem endTo_end {l : List UInt8} {i : Nat} (h : EndTo l i) (hi : ¬ i + 4 ≤ l.length) : end4 l = none := by
  unfold EndTo at *
  rw [h]
  cases e : end4 (l.drop i) with
  | none => rfl
  | some n => have := end4_some e; rw [List.length_drop] at this; omega
theorem endN_pre {l : List UInt8} (h : l.take 2 = crlf) : endN l = 2 := by unfold endN endO; rw [if_pos (by exact h)]; rfl
theorem endN_some {l : List UInt8} {n : Nat} (h : l.take 2 ≠ crlf) (h2 : end4 l = some n) : endN l = n := by unfold endN endO; rw [if_neg (by exact h), h2]; rfl
theorem endN_none {l : List UInt8} (h : l.take 2 ≠ crlf) (h2 : end4 l = none) : endN l = 0 := by unfold endN endO; rw [if_neg (by exact h), h2]; rfl
theorem ext_list (s : ByteArray) (a b : Nat) : (s.extract a b).toList = (s.data.toList.drop a).take (b - a) := by rw [ByteArray.toList_eq, seg_list]
theorem ret_i64 {a b : Int} (h : a = b) : Ending.returned (.int .i64 a) = .returned (.int .i64 b) := by rw [h]
set_option maxHeartbeats 4000000 in
set_option maxRecDepth 100000 in
theorem refEnd_any (s : ByteArray) (w : World) (hs : s.size ≤ 1000000000) :
    Calls Tryz.prog 55 #[.string s] w fun e w' => e = .returned (.int .i64 (endN s.data.toList : Int)) ∧ w = w' := by
  have hsz : s.data.toList.length = s.size := by rw [Array.length_toList]; rfl
  by_cases h2 : s.data.toList.take 2 = crlf
  · have hl : 2 ≤ s.size := by
      have := congrArg List.length h2
      rw [List.length_take, hsz] at this
      simp [crlf] at this; omega
    have q : ((s.extract 0 2).toList == ([13, 10] : List UInt8)) = true := by rw [ext_list, List.drop_zero, h2]; rfl
    have HE := Lib.hid (endN_pre h2)
    clear h2 hsz
    go_enter Tryz.func55, Tryz.ntmps55
    go_wp2
    go_ret
    exact ⟨ret_i64 (by rw [HE.out]; rfl), rfl⟩
  · have q : ((s.extract 0 2).toList == ([13, 10] : List UInt8)) = false := by
      rw [ext_list, List.drop_zero]
      have : ¬ s.data.toList.take (2 - 0) = [13, 10] := h2
      simpa using this
    have HSZ := Lib.hid hsz
    have H2 := Lib.hid h2
    clear h2 hsz
    by_cases hl : 2 ≤ s.size
    · go_enter Tryz.func55, Tryz.ntmps55
      go_wp2
      go_loop [3] (fun i => ∃ k : Nat, k ≤ s.size ∧ i = .int .i64 k ∧ EndTo s.data.toList k) (fun i => s.size - (intOf i).toNat)
      case atStart => exact ⟨0, by omega, rfl, endTo0 _⟩
      case round =>
        obtain ⟨k, hk, rfl, hn⟩ := hrel
        have HN := Lib.hid hn
        clear hn
        by_cases hlt : k + 4 ≤ s.size
        · by_cases hm : (s.data.toList.drop k).take 4 = crlf2
          · have q2 : ((s.extract k (k + 4)).toList == ([13, 10, 13, 10] : List UInt8)) = true := by rw [ext_list, show k + 4 - k = 4 by omega, hm]; rfl
            have HE := Lib.hid (endN_some H2.out (endTo_hit HN.out (by rw [HSZ.out]; omega) hm))
            clear hm
            go_wp2
            go_ret
            exact ⟨ret_i64 (by rw [HE.out]; rfl), rfl⟩
          · have q2 : ((s.extract k (k + 4)).toList == ([13, 10, 13, 10] : List UInt8)) = false := by
              rw [ext_list, show k + 4 - k = 4 by omega]
              have : ¬ (s.data.toList.drop k).take 4 = [13, 10, 13, 10] := hm
              simpa using this
            have HE := Lib.hid (endTo_step HN.out (by rw [HSZ.out]; omega) hm)
            clear hm
            go_wp2
            go_round
            case rel => exact ⟨k + 1, by omega, by go_num, HE.out⟩
            case measure => simp [intOf]; omega
        · have HE := Lib.hid (endN_none H2.out (endTo_end HN.out (by rw [HSZ.out]; exact hlt)))
          go_wp2
          go_ret
          exact ⟨ret_i64 (by rw [HE.out]; rfl), rfl⟩
    · go_enter Tryz.func55, Tryz.ntmps55
      go_wp2
      go_loop [3] (fun i => ∃ k : Nat, k ≤ s.size ∧ i = .int .i64 k ∧ EndTo s.data.toList k) (fun i => s.size - (intOf i).toNat)
      case atStart => exact ⟨0, by omega, rfl, endTo0 _⟩
      case round =>
        obtain ⟨k, hk, rfl, hn⟩ := hrel
        have HN := Lib.hid hn
        clear hn
        have hlt : ¬ k + 4 ≤ s.size := by omega
        have HE := Lib.hid (endN_none H2.out (endTo_end HN.out (by rw [HSZ.out]; exact hlt)))
        go_wp2
        go_ret
        exact ⟨ret_i64 (by rw [HE.out]; rfl), rfl⟩
/-- The byte before i; 0 at the beginning. -/
def prevB (l : List UInt8) : Nat → UInt8
  | 0 => 0
  | i + 1 => l.getD i 0
def BareTo (l : List UInt8) (i : Nat) : Prop := bareF 0 l = bareF (prevB l i) (l.drop i)
theorem bareTo0 (l : List UInt8) : BareTo l 0 := by unfold BareTo prevB; simp
/-- The test at byte i. -/
def bareAt (l : List UInt8) (i : Nat) : Bool :=
  decide (l.getD i 0 = 0) || (decide (l.getD i 0 = 13) && decide ((l.drop (i + 1)).head? ≠ some 10)) || (decide (l.getD i 0 = 10) && decide (prevB l i ≠ 13))
theorem bare_drop {l : List UInt8} {i : Nat} (hi : i < l.length) : bareF (prevB l i) (l.drop i) = (bareAt l i || bareF (l.getD i 0) (l.drop (i + 1))) := by
  have hd : l.drop i = (l[i]'hi) :: l.drop (i + 1) := by rw [List.drop_eq_getElem_cons hi]
  have hg : l.getD i 0 = l[i]'hi := by rw [List.getD, List.getElem?_eq_getElem hi]; rfl
  rw [hd, bareF, ← hg]; rfl
theorem bareTo_step {l : List UInt8} {i : Nat} (h : BareTo l i) (hi : i < l.length) (hb : bareAt l i = false) : BareTo l (i + 1) := by
  unfold BareTo at *
  rw [h, bare_drop hi, hb]; rfl
theorem bareTo_hit {l : List UInt8} {i : Nat} (h : BareTo l i) (hi : i < l.length) (hb : bareAt l i = true) : true = bareF 0 l := by
  unfold BareTo at h
  rw [h, bare_drop hi, hb]; rfl
theorem bareTo_end {l : List UInt8} {i : Nat} (h : BareTo l i) (hi : l.length ≤ i) : false = bareF 0 l := by
  unfold BareTo at h
  rw [h, List.drop_of_length_le hi]; rfl
theorem at_getD (s : ByteArray) (k : Nat) (h : k < s.size) : s.data.toList.getD k 0 = s[k] := by
  have h' : k < s.data.toList.length := by simpa using h
  rw [List.getD, List.getElem?_eq_getElem h']; rfl
theorem head_drop (s : ByteArray) (k : Nat) : (s.data.toList.drop k).head? = s.data.toList[k]? := by rw [List.head?_drop]
theorem u8_eq {c : UInt8} {n : Nat} (hn : n < 256) (h : c.toNat = n) : c = UInt8.ofNat n := by
  apply UInt8.toNat_inj.mp; rw [h]; simp; omega
set_option maxHeartbeats 8000000 in
set_option maxRecDepth 100000 in
theorem refBare_any (s : ByteArray) (w : World) (hs : s.size ≤ 1000000000) :
    Calls Tryz.prog 57 #[.string s] w fun e w' => e = .returned (.bool (bareF 0 s.data.toList)) ∧ w = w' := by
  have hsz : s.data.toList.length = s.size := by rw [Array.length_toList]; rfl
  have HSZ := Lib.hid hsz
  clear hsz
  go_enter Tryz.func57, Tryz.ntmps57
  go_wp2
  go_loop [3] (fun i => ∃ k : Nat, k ≤ s.size ∧ i = .int .i64 k ∧ BareTo s.data.toList k) (fun i => s.size - (intOf i).toNat)
  case atStart => exact ⟨0, by omega, rfl, bareTo0 _⟩
  case round =>
    obtain ⟨k, hk, rfl, hn⟩ := hrel
    have HN := Lib.hid hn
    clear hn
    by_cases hlt : k < s.size
    · have hll : k < s.data.toList.length := by rw [HSZ.out]; exact hlt
      have hg := at_getD s k hlt
      have hit := fun h => bareTo_hit HN.out hll h
      have step := fun h => bareTo_step HN.out hll h
      have HIT := Lib.hid hit
      have STEP := Lib.hid step
      clear hit step hll
      by_cases h0 : s[k].toNat = 0
      · have a0 : ((s[k].toNat : Int) == 0) = true := by rw [h0]; rfl
        have HR := Lib.hid (HIT.out (by unfold bareAt; rw [hg, u8_eq (n := 0) (by omega) h0]; simp))
        clear h0 hg
        go_wp2
        go_ret
        exact ⟨ret_bool HR.out, rfl⟩
      · have a0 : ((s[k].toNat : Int) == 0) = false := by simp; omega
        have b0 : s[k] ≠ 0 := fun e => h0 (by rw [e]; rfl)
        by_cases h13 : s[k].toNat = 13
        · have a13 : ((s[k].toNat : Int) == 13) = true := by rw [h13]; rfl
          have a10 : ((s[k].toNat : Int) == 10) = false := by rw [h13]; rfl
          have b13 : s[k] = 13 := u8_eq (n := 13) (by omega) h13
          by_cases hE : k + 1 = s.size
          · have aE : ((k : Int) + 1 == (s.size : Int)) = true := by simp; omega
            have HR := Lib.hid (HIT.out (by unfold bareAt; rw [hg, b13, head_drop, List.getElem?_eq_none (by rw [HSZ.out]; omega)]; simp))
            clear h13 hg hE b13 h0 b0
            go_wp2
            go_ret
            exact ⟨ret_bool HR.out, rfl⟩
          · have aE : ((k : Int) + 1 == (s.size : Int)) = false := by simp; omega
            have hlt2 : k + 1 < s.size := by omega
            have hnx : s.data.toList[k + 1]? = some s[k + 1] := Lib.data_getElem? s (k + 1) hlt2
            by_cases h10 : s[k + 1].toNat = 10
            · have c10 : ((s[k + 1].toNat : Int) != 10) = false := by rw [h10]; rfl
              have c10' : ((s[k + 1].toNat : Int) == 10) = true := by rw [h10]; rfl
              have HR := Lib.hid (STEP.out (by unfold bareAt; rw [hg, b13, head_drop, hnx, u8_eq (n := 10) (by omega) h10]; simp))
              clear h13 hg hE b13 h0 b0 h10 hnx
              go_wp2
              go_round
              case rel => exact ⟨k + 1, by omega, by go_num, HR.out⟩
              case measure => simp [intOf]; omega
            · have c10 : ((s[k + 1].toNat : Int) != 10) = true := by simp; omega
              have c10' : ((s[k + 1].toNat : Int) == 10) = false := by simp; omega
              have HR := Lib.hid (HIT.out (by unfold bareAt; rw [hg, b13, head_drop, hnx]; simp; intro e; exact h10 (by rw [e]; rfl)))
              clear h13 hg hE b13 h0 b0 h10 hnx
              go_wp2
              go_ret
              exact ⟨ret_bool HR.out, rfl⟩
        · have a13 : ((s[k].toNat : Int) == 13) = false := by simp; omega
          have b13 : s[k] ≠ 13 := fun e => h13 (by rw [e]; rfl)
          by_cases h10 : s[k].toNat = 10
          · have a10 : ((s[k].toNat : Int) == 10) = true := by rw [h10]; rfl
            have b10 : s[k] = 10 := u8_eq (n := 10) (by omega) h10
            cases k with
            | zero =>
              have HR := Lib.hid (HIT.out (by unfold bareAt prevB; rw [hg, b10]; simp))
              clear h13 hg b13 h0 b0 h10 b10
              go_wp2
              go_ret
              exact ⟨ret_bool HR.out, rfl⟩
            | succ j =>
              have hj : j < s.size := by omega
              have hgj := at_getD s j hj
              have aj : ((((j + 1 : Nat) : Int)) == 0) = false := by simp; omega
              have aj' : (((j : Int) + 1) == 0) = false := by simp; omega
              by_cases hp : s[j].toNat = 13
              · have d13 : ((s[j].toNat : Int) != 13) = false := by rw [hp]; rfl
                have d13' : ((s[j].toNat : Int) == 13) = true := by rw [hp]; rfl
                have HR := Lib.hid (STEP.out (by unfold bareAt; rw [hg, b10, show prevB s.data.toList (j + 1) = s.data.toList.getD j 0 from rfl, hgj, u8_eq (n := 13) (by omega) hp]; simp))
                clear h13 hg b13 h0 b0 h10 b10 hgj hp
                go_wp2
                go_round
                case rel => exact ⟨j + 1 + 1, by omega, by go_num, HR.out⟩
                case measure => simp [intOf]; omega
              · have d13 : ((s[j].toNat : Int) != 13) = true := by simp; omega
                have d13' : ((s[j].toNat : Int) == 13) = false := by simp; omega
                have HR := Lib.hid (HIT.out (by unfold bareAt; rw [hg, b10, show prevB s.data.toList (j + 1) = s.data.toList.getD j 0 from rfl, hgj]; simp; intro e; exact hp (by rw [e]; rfl)))
                clear h13 hg b13 h0 b0 h10 b10 hgj hp
                go_wp2
                go_ret
                exact ⟨ret_bool HR.out, rfl⟩
          · have a10 : ((s[k].toNat : Int) == 10) = false := by simp; omega
            have b10 : s[k] ≠ 10 := fun e => h10 (by rw [e]; rfl)
            have HR := Lib.hid (STEP.out (by unfold bareAt; rw [hg]; simp [b0, b13, b10]))
            clear h13 hg b13 h0 b0 h10 b10
            go_wp2
            go_round
            case rel => exact ⟨k + 1, by omega, by go_num, HR.out⟩
            case measure => simp [intOf]; omega
    · have HE := Lib.hid (bareTo_end HN.out (by rw [HSZ.out]; omega))
      go_wp2
      go_ret
      exact ⟨ret_bool HE.out, rfl⟩
end Go.Proofs.YtacfkljpjjnlfaaGreatDoor
