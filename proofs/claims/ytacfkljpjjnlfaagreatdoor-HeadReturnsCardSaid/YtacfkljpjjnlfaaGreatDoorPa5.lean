import Derived.Test.YtacfkljpjjnlfaaGreatDoorPa4
import Derived.Test.YtacfkljpjjnlfaaGreatDoorPa0
import Derived.Test.YtacfkljpjjnlfaaGreatDoorPa3
/- What the reference's Trim returns: the bytes without blanks at both ends. -/
namespace Go.Proofs.YtacfkljpjjnlfaaGreatDoor
open Go.RowKit

def blank (c : UInt8) : Bool := [32, 9].contains c
theorem blank_iff (c : UInt8) : blank c = true ↔ c.toNat = 32 ∨ c.toNat = 9 := by
  simp only [blank, List.contains_iff_mem, List.mem_cons, List.mem_nil_iff, or_false]
  constructor
  · rintro (h | h) <;> subst h <;> simp
  · rintro (h | h)
    · exact .inl (UInt8.toNat_inj.mp h)
    · exact .inr (UInt8.toNat_inj.mp h)
def tL (l : List UInt8) : List UInt8 := l.dropWhile blank
def tR (l : List UInt8) : List UInt8 := (l.reverse.dropWhile blank).reverse
theorem tR_cons (c : UInt8) (t : List UInt8) : tR (c :: t) = if tR t = [] ∧ blank c = true then [] else c :: tR t := by
  unfold tR
  rw [List.reverse_cons, List.dropWhile_append]
  cases h : t.reverse.dropWhile blank with
  | nil =>
    cases hc : blank c <;> simp [hc]
  | cons a r => simp
theorem tL_cons (c : UInt8) (t : List UInt8) : tL (c :: t) = if blank c = true then tL t else c :: t := by
  unfold tL; rw [List.dropWhile_cons]
theorem tR_tL (l : List UInt8) : tR (tL l) = tL (tR l) := by
  induction l with
  | nil => rfl
  | cons c t ih =>
    rw [tL_cons, tR_cons]
    by_cases hc : blank c = true
    · rw [if_pos hc, ih]
      by_cases ht : tR t = []
      · rw [if_pos ⟨ht, hc⟩, ht]
      · rw [if_neg (fun h => ht h.1), tL_cons, if_pos hc]
    · rw [if_neg hc, if_neg (fun h => hc h.2), tR_cons, if_neg (fun h => hc h.2), tL_cons, if_neg hc]
theorem trimB_eq (l : List UInt8) : trimB l = tR (tL l) := by rw [tR_tL]; rfl
theorem tR_snoc (t : List UInt8) (c : UInt8) : tR (t ++ [c]) = if blank c = true then tR t else t ++ [c] := by
  unfold tR
  rw [List.reverse_append]
  show (List.dropWhile blank (c :: t.reverse)).reverse = _
  rw [List.dropWhile_cons]
  split <;> simp

theorem strB_tail (c : UInt8) (t : List UInt8) : (strB (c :: t)).extract 1 (t.length + 1) = strB t := by
  apply strB_ext; rw [Lib.extract_data, strB_list]; simp
theorem strB_init (t : List UInt8) (c : UInt8) : (strB (t ++ [c])).extract 0 t.length = strB t := by
  apply strB_ext; rw [Lib.extract_data, strB_list]; simp

theorem front (l : List UInt8) : (∃ c t, l = c :: t ∧ blank c = true ∧ ((c.toNat : Int) == 32) = true) ∨ (∃ c t, l = c :: t ∧ blank c = true ∧ ((c.toNat : Int) == 32) = false ∧ ((c.toNat : Int) == 9) = true) ∨
    (l = [] ∨ ∃ c t, l = c :: t ∧ blank c = false ∧ ((c.toNat : Int) == 32) = false ∧ ((c.toNat : Int) == 9) = false) := by
  cases l with
  | nil => exact .inr (.inr (.inl rfl))
  | cons c t =>
    by_cases h1 : c.toNat = 32
    · exact .inl ⟨c, t, rfl, (blank_iff c).mpr (.inl h1), by simp; omega⟩
    · by_cases h2 : c.toNat = 9
      · exact .inr (.inl ⟨c, t, rfl, (blank_iff c).mpr (.inr h2), by simp; omega, by simp; omega⟩)
      · refine .inr (.inr (.inr ⟨c, t, rfl, ?_, by simp; omega, by simp; omega⟩))
        rw [Bool.eq_false_iff]; intro h; rcases (blank_iff c).mp h with h | h
        · exact h1 h
        · exact h2 h
theorem front_done {l : List UInt8} (h : l = [] ∨ ∃ c t, l = c :: t ∧ blank c = false ∧ ((c.toNat : Int) == 32) = false ∧ ((c.toNat : Int) == 9) = false) : tL l = l := by
  rcases h with rfl | ⟨c, t, rfl, hb, _⟩
  · rfl
  · rw [tL_cons, hb]; rfl

def lenV : Value → Nat
  | .string b => b.size
  | _ => 0
theorem lenV_s (l : List UInt8) : lenV (.string (strB l)) = l.length := strB_size l
theorem back (l : List UInt8) : (∃ c t, l = t ++ [c] ∧ blank c = true ∧ ((c.toNat : Int) == 32) = true) ∨ (∃ c t, l = t ++ [c] ∧ blank c = true ∧ ((c.toNat : Int) == 32) = false ∧ ((c.toNat : Int) == 9) = true) ∨
    (l = [] ∨ ∃ c t, l = t ++ [c] ∧ blank c = false ∧ ((c.toNat : Int) == 32) = false ∧ ((c.toNat : Int) == 9) = false) := by
  rcases List.eq_nil_or_concat l with rfl | ⟨t, c, rfl⟩
  · exact .inr (.inr (.inl rfl))
  · rcases front [c] with ⟨c', t', h, r⟩ | ⟨c', t', h, r⟩ | h | ⟨c', t', h, r⟩
    · simp only [List.cons.injEq] at h; obtain ⟨rfl, _⟩ := h; exact .inl ⟨c, t, by simp, r⟩
    · simp only [List.cons.injEq] at h; obtain ⟨rfl, _⟩ := h; exact .inr (.inl ⟨c, t, by simp, r⟩)
    · cases h
    · simp only [List.cons.injEq] at h; obtain ⟨rfl, _⟩ := h; exact .inr (.inr (.inr ⟨c, t, by simp, r⟩))
theorem back_done {l : List UInt8} (h : l = [] ∨ ∃ c t, l = t ++ [c] ∧ blank c = false ∧ ((c.toNat : Int) == 32) = false ∧ ((c.toNat : Int) == 9) = false) : tR l = l := by
  rcases h with rfl | ⟨c, t, rfl, hb, _⟩
  · rfl
  · rw [tR_snoc, hb]; rfl
theorem last_byte (t : List UInt8) (c : UInt8) (h : t.length < (strB (t ++ [c])).size) : (strB (t ++ [c]))[t.length] = c := by
  have : (strB (t ++ [c]))[t.length] = (strB (t ++ [c])).data.toList[t.length]'(by rw [strB_list]; simp) := rfl
  rw [this]; simp only [strB_list]; simp

set_option maxHeartbeats 1000000 in
set_option maxRecDepth 100000 in
theorem refTrim_any (L : List UInt8) (w : World) (hs : L.length ≤ 1000000) :
    Calls Tryz.prog 89 #[.string (strB L)] w fun e w' => e = .returned (.string (strB (trimB L))) ∧ w = w' := by
  go_enter Tryz.func89, Tryz.ntmps89
  go_wp2
  go_loop [0] (fun u => ∃ l : List UInt8, u = .string (strB l) ∧ tL l = tL L ∧ l.length ≤ L.length) (fun u => lenV u)
  case atStart => exact ⟨L, rfl, rfl, Nat.le_refl _⟩
  case round =>
    obtain ⟨l, rfl, hl, hle⟩ := hrel
    have HL := Lib.hid hl
    clear hl
    rcases front l with ⟨c, t, rfl, hb, ha1⟩ | ⟨c, t, rfl, hb, ha1, ha2⟩ | he
    · have ez : (strB (c :: t)).size = t.length + 1 := strB_size _
      have e0 : (strB (c :: t))[0]'(by omega) = c := rfl
      have HB := Lib.hid hb
      simp only [List.length_cons] at hle
      clear hb
      go_wp2
      go_round
      case rel => exact ⟨t, by rw [strB_tail], by rw [← HL.out, tL_cons, if_pos HB.out], by omega⟩
      case measure => rw [strB_tail, lenV_s, lenV_s]; simp
    · have ez : (strB (c :: t)).size = t.length + 1 := strB_size _
      have e0 : (strB (c :: t))[0]'(by omega) = c := rfl
      have HB := Lib.hid hb
      simp only [List.length_cons] at hle
      clear hb
      go_wp2
      go_round
      case rel => exact ⟨t, by rw [strB_tail], by rw [← HL.out, tL_cons, if_pos HB.out], by omega⟩
      case measure => rw [strB_tail, lenV_s, lenV_s]; simp
    · have hlx : tL l = l := front_done he
      have HX := Lib.hid hlx
      clear hlx
      rcases he with rfl | ⟨c, t, rfl, hb, ha1, ha2⟩
      all_goals
        first
        | (have ez : (strB (c :: t)).size = t.length + 1 := strB_size _
           have e0 : (strB (c :: t))[0]'(by omega) = c := rfl
           simp only [List.length_cons] at hle
           have HB := Lib.hid hb
           clear hb)
        | (have ez : (strB []).size = 0 := rfl)
        go_wp2
        go_loop [0] (fun u => ∃ l : List UInt8, u = .string (strB l) ∧ tR l = tR (tL L) ∧ l.length ≤ L.length) (fun u => lenV u)
        case atStart => exact ⟨_, rfl, by rw [← HL.out, HX.out], by first | exact hle | simpa using hle⟩
        case round =>
          obtain ⟨m, rfl, hm, hme⟩ := hrel
          have HM := Lib.hid hm
          clear hm
          try clear e0
          clear ez
          rcases back m with ⟨d, r, rfl, hb, hd1⟩ | ⟨d, r, rfl, hb, hd1, hd2⟩ | he
          · have ez : (strB (r ++ [d])).size = r.length + 1 := by rw [strB_size]; simp
            have e0 := last_byte r d (by omega)
            have HD := Lib.hid hb
            simp only [List.length_append, List.length_singleton] at hme
            clear hb
            go_wp2
            go_round
            case rel => exact ⟨r, by rw [strB_init], by rw [← HM.out, tR_snoc, if_pos HD.out], by omega⟩
            case measure => rw [strB_init, lenV_s, lenV_s]; simp
          · have ez : (strB (r ++ [d])).size = r.length + 1 := by rw [strB_size]; simp
            have e0 := last_byte r d (by omega)
            have HD := Lib.hid hb
            simp only [List.length_append, List.length_singleton] at hme
            clear hb
            go_wp2
            go_round
            case rel => exact ⟨r, by rw [strB_init], by rw [← HM.out, tR_snoc, if_pos HD.out], by omega⟩
            case measure => rw [strB_init, lenV_s, lenV_s]; simp
          · have hmx : tR m = m := back_done he
            have HMX := Lib.hid hmx
            clear hmx
            have fin : strB m = strB (trimB L) := by rw [trimB_eq, ← HM.out, HMX.out]
            have FIN := Lib.hid fin
            clear fin
            rcases he with rfl | ⟨d, r, rfl, hb, hd1, hd2⟩
            · have ez : (strB []).size = 0 := rfl
              go_wp2
              go_ret
              exact ⟨by rw [← FIN.out]; rfl, rfl⟩
            · have ez : (strB (r ++ [d])).size = r.length + 1 := by rw [strB_size]; simp
              have e0 := last_byte r d (by omega)
              have HD := Lib.hid hb
              simp only [List.length_append, List.length_singleton] at hme
              clear hb
              go_wp2
              go_ret
              exact ⟨by rw [← FIN.out]; rfl, rfl⟩
end Go.Proofs.YtacfkljpjjnlfaaGreatDoor

/- What the reference's Lower returns. -/
namespace Go.Proofs.YtacfkljpjjnlfaaGreatDoor
open Go.RowKit

def LowRel (s : ByteArray) (w : World) (o i : Value) (wr : World) : Prop :=
  ∃ k : Nat, i = .int .i64 k ∧ k ≤ s.size ∧ o = .string (strB (lowS (s.data.toList.take k))) ∧ Below w.heap.size w wr
set_option maxHeartbeats 2000000 in
set_option maxRecDepth 100000 in
theorem refLower_any (s : ByteArray) (w : World) (hs : s.size ≤ 1000000000) :
    Calls Tryz.prog 19 #[.string s] w fun e w' => e = .returned (.string (strB (lowS s.data.toList))) ∧ Below w.heap.size w w' := by
  go_enter Tryz.func19, Tryz.ntmps19
  go_wp2
  go_loopw [3, 8] (fun o i wr => LowRel s w o i wr) (fun _ i _ => s.size - (intOf i).toNat)
  case atStart => exact ⟨0, rfl, by omega, rfl, Below.refl _ _⟩
  case round =>
    obtain ⟨k, rfl, hk, rfl, hB⟩ := hrel
    have hsz := hB.size
    have hz : (strB (lowS (s.data.toList.take k))).size ≤ k := by rw [strB_size, lowS_len]; exact List.length_take_le _ _
    by_cases hlt : k < s.size
    · have hstep := lowS_take s k hlt
      have HS := Lib.hid hstep
      clear hstep
      by_cases h1 : 65 ≤ s[k].toNat
      · by_cases h2 : s[k].toNat ≤ 90
        · have hl := lowB_up h1 h2
          have hcv := fun W => conv_one ((s[k].toNat : Int) + 32) (lowB s[k]) (by rw [hl]; omega) W
          clear hl
          go_wp2
          go_roundw
          case rel => exact ⟨k + 1, by go_num, by omega, by rw [HS.out, strB_snoc], hB.alloc hsz _⟩
          case measure => simp [intOf]; omega
        · have hl : lowB s[k] = s[k] := lowB_not (by omega)
          have HLo := Lib.hid hl
          have hcv := fun W => conv_one (s[k].toNat : Int) s[k] rfl W
          clear hl
          go_wp2
          go_roundw
          case rel => exact ⟨k + 1, by go_num, by omega, by rw [HS.out, HLo.out, strB_snoc], hB.alloc hsz _⟩
          case measure => simp [intOf]; omega
      · have hl : lowB s[k] = s[k] := lowB_not (by omega)
        have HLo := Lib.hid hl
        have hcv := fun W => conv_one (s[k].toNat : Int) s[k] rfl W
        clear hl
        go_wp2
        go_roundw
        case rel => exact ⟨k + 1, by go_num, by omega, by rw [HS.out, HLo.out, strB_snoc], hB.alloc hsz _⟩
        case measure => simp [intOf]; omega
    · go_wp2
      go_ret
      exact ⟨by rw [take_all s k (by omega)]; rfl, hB⟩
end Go.Proofs.YtacfkljpjjnlfaaGreatDoor

/- What the code's Name and Value, and the reference's, return, for every string. -/
namespace Go.Proofs.YtacfkljpjjnlfaaGreatDoor
open Go.RowKit

abbrev errLarge : Value := .iface 64 (.int .i64 5)
abbrev errName : Value := .iface 64 (.int .i64 8)
/-- The number of the error of a name; 0 if it is one. -/
def nameC (l : List UInt8) : Nat := if tokS l = true then (if 64 < l.length then 5 else 0) else 8
def nameR (l : List UInt8) : List UInt8 := if nameC l = 0 then lowS l else []
def valueC (l : List UInt8) : Nat := if ctlS l = true then 2 else if 2048 < (trimB l).length then 5 else 0
def valueR (l : List UInt8) : List UInt8 := if valueC l = 0 then trimB l else []
def errV (c : Nat) : Value := if c = 0 then .nilIface else .iface 64 (.int .i64 c)

theorem trimB_le (l : List UInt8) : (trimB l).length ≤ l.length := by
  rw [trimB_eq]
  have h1 : (tL l).length ≤ l.length := (List.dropWhile_sublist _).length_le
  have h2 : (tR (tL l)).length ≤ (tL l).length := by
    unfold tR; rw [List.length_reverse]
    have := (List.dropWhile_sublist (p := blank) (l := (tL l).reverse)).length_le
    simpa using this
  omega
theorem size_list' (s : ByteArray) : s.data.toList.length = s.size := Array.length_toList
theorem ret_two {a b c d : Value} (h1 : a = c) (h2 : b = d) : Ending.returned (.tuple #[a, b]) = .returned (.tuple #[c, d]) := by rw [h1, h2]

set_option maxHeartbeats 400000 in
set_option maxRecDepth 100000 in
theorem name_any (s : ByteArray) (w : World) (hs : s.size ≤ 1000000000) :
    Calls Tryz.prog 67 #[.string s] w fun e w' => e = .returned (.tuple #[.string (strB (nameR s.data.toList)), errV (nameC s.data.toList)]) ∧ Below w.heap.size w w' := by
  have hz := size_list' s
  cases ht : tokS s.data.toList with
  | false =>
    have hc : nameC s.data.toList = 8 := by unfold nameC; rw [if_neg (by rw [ht]; simp)]
    have HT := Lib.hid ht
    have HC := Lib.hid hc
    clear ht hc
    go_enter Tryz.func67, Tryz.ntmps67
    go_wp2_with fail
    refine (token_any s _ (by unfold maxLen; omega)).mono ?_
    rintro e w' ⟨rfl, rfl⟩
    rw [HT.out]
    go_wp2_with fail
    go_ret2
    exact ⟨by unfold nameR; rw [HC.out]; rfl, Below.refl _ _⟩
  | true =>
    have HT := Lib.hid ht
    by_cases hl : 64 < s.size
    · have hc : nameC s.data.toList = 5 := by unfold nameC; rw [if_pos ht, if_pos (by omega)]
      have HC := Lib.hid hc
      clear ht hc
      go_enter Tryz.func67, Tryz.ntmps67
      go_wp2_with fail
      refine (token_any s _ (by unfold maxLen; omega)).mono ?_
      rintro e w' ⟨rfl, rfl⟩
      rw [HT.out]
      go_wp2_with fail
      go_ret2
      exact ⟨by unfold nameR; rw [HC.out]; rfl, Below.refl _ _⟩
    · have hc : nameC s.data.toList = 0 := by unfold nameC; rw [if_pos ht, if_neg (by omega)]
      have HC := Lib.hid hc
      clear ht hc
      go_enter Tryz.func67, Tryz.ntmps67
      go_wp2_with fail
      refine (token_any s _ (by unfold maxLen; omega)).mono ?_
      rintro e w' ⟨rfl, rfl⟩
      rw [HT.out]
      go_wp2_with fail
      refine (lower_any s _ hs).mono ?_
      rintro e w' ⟨rfl, hB⟩
      go_wp2_with fail
      go_ret2
      exact ⟨by unfold nameR; rw [HC.out]; rfl, hB⟩
set_option maxHeartbeats 400000 in
set_option maxRecDepth 100000 in
theorem refName_any (s : ByteArray) (w : World) (hs : s.size ≤ 1000000000) :
    Calls Tryz.prog 60 #[.string s] w fun e w' => e = .returned (.tuple #[.string (strB (nameR s.data.toList)), .int .i64 (nameC s.data.toList)]) ∧ Below w.heap.size w w' := by
  have hz := size_list' s
  cases ht : tokS s.data.toList with
  | false =>
    have hc : nameC s.data.toList = 8 := by unfold nameC; rw [if_neg (by rw [ht]; simp)]
    have HT := Lib.hid ht
    have HC := Lib.hid hc
    clear ht hc
    go_enter Tryz.func60, Tryz.ntmps60
    go_wp2_with fail
    refine (refToken_any s _ (by unfold maxLen; omega)).mono ?_
    rintro e w' ⟨rfl, rfl⟩
    rw [HT.out]
    go_wp2_with fail
    go_ret2
    exact ⟨by unfold nameR; rw [HC.out]; rfl, Below.refl _ _⟩
  | true =>
    have HT := Lib.hid ht
    by_cases hl : 64 < s.size
    · have hc : nameC s.data.toList = 5 := by unfold nameC; rw [if_pos ht, if_pos (by omega)]
      have HC := Lib.hid hc
      clear ht hc
      go_enter Tryz.func60, Tryz.ntmps60
      go_wp2_with fail
      refine (refToken_any s _ (by unfold maxLen; omega)).mono ?_
      rintro e w' ⟨rfl, rfl⟩
      rw [HT.out]
      go_wp2_with fail
      go_ret2
      exact ⟨by unfold nameR; rw [HC.out]; rfl, Below.refl _ _⟩
    · have hc : nameC s.data.toList = 0 := by unfold nameC; rw [if_pos ht, if_neg (by omega)]
      have HC := Lib.hid hc
      clear ht hc
      go_enter Tryz.func60, Tryz.ntmps60
      go_wp2_with fail
      refine (refToken_any s _ (by unfold maxLen; omega)).mono ?_
      rintro e w' ⟨rfl, rfl⟩
      rw [HT.out]
      go_wp2_with fail
      refine (refLower_any s _ hs).mono ?_
      rintro e w' ⟨rfl, hB⟩
      go_wp2_with fail
      go_ret2
      exact ⟨by unfold nameR; rw [HC.out]; rfl, hB⟩

set_option maxHeartbeats 400000 in
set_option maxRecDepth 100000 in
theorem value_any (s : ByteArray) (w : World) (hs : s.size ≤ 1000000000) :
    Calls Tryz.prog 68 #[.string s] w fun e w' => e = .returned (.tuple #[.string (strB (valueR s.data.toList)), errV (valueC s.data.toList)]) ∧ Below w.heap.size w w' := by
  have hz := size_list' s
  have ht := trimB_le s.data.toList
  have hts : (strB (trimB s.data.toList)).size = (trimB s.data.toList).length := strB_size _
  cases hc : ctlS s.data.toList with
  | true =>
    have hv : valueC s.data.toList = 2 := by unfold valueC; rw [if_pos hc]
    have HT := Lib.hid hc
    have HC := Lib.hid hv
    clear hc hv
    go_enter Tryz.func68, Tryz.ntmps68
    go_wp2_with fail
    refine (hasControl_any s _ (by unfold maxLen; omega)).mono ?_
    rintro e w' ⟨rfl, rfl⟩
    rw [HT.out]
    go_wp2_with fail
    go_ret2
    exact ⟨by unfold valueR; rw [HC.out]; rfl, Below.refl _ _⟩
  | false =>
    have HT := Lib.hid hc
    by_cases hl : 2048 < (trimB s.data.toList).length
    · have hv : valueC s.data.toList = 5 := by unfold valueC; rw [if_neg (by rw [hc]; simp), if_pos hl]
      have HC := Lib.hid hv
      clear hc hv
      go_enter Tryz.func68, Tryz.ntmps68
      go_wp2_with fail
      refine (hasControl_any s _ (by unfold maxLen; omega)).mono ?_
      rintro e w' ⟨rfl, rfl⟩
      rw [HT.out]
      go_wp2_with fail
      refine (trimA_any s _ (by omega)).mono ?_
      rintro e w' ⟨rfl, hB⟩
      go_wp2_with fail
      go_ret2
      exact ⟨by unfold valueR; rw [HC.out]; rfl, hB⟩
    · have hv : valueC s.data.toList = 0 := by unfold valueC; rw [if_neg (by rw [hc]; simp), if_neg hl]
      have HC := Lib.hid hv
      clear hc hv
      go_enter Tryz.func68, Tryz.ntmps68
      go_wp2_with fail
      refine (hasControl_any s _ (by unfold maxLen; omega)).mono ?_
      rintro e w' ⟨rfl, rfl⟩
      rw [HT.out]
      go_wp2_with fail
      refine (trimA_any s _ (by omega)).mono ?_
      rintro e w' ⟨rfl, hB⟩
      go_wp2_with fail
      go_ret2
      exact ⟨by unfold valueR; rw [HC.out]; rfl, hB⟩
set_option maxHeartbeats 400000 in
set_option maxRecDepth 100000 in
theorem refValue_any (s : ByteArray) (w : World) (hs : s.size ≤ 1000000) :
    Calls Tryz.prog 61 #[.string s] w fun e w' => e = .returned (.tuple #[.string (strB (valueR s.data.toList)), .int .i64 (valueC s.data.toList)]) ∧ w = w' := by
  have hz := size_list' s
  have ht := trimB_le s.data.toList
  have hts : (strB (trimB s.data.toList)).size = (trimB s.data.toList).length := strB_size _
  have hT := refTrim_any s.data.toList w (by omega)
  rw [strB_of] at hT
  cases hc : ctlS s.data.toList with
  | true =>
    have hv : valueC s.data.toList = 2 := by unfold valueC; rw [if_pos hc]
    have HT := Lib.hid hc
    have HC := Lib.hid hv
    clear hc hv hT
    go_enter Tryz.func61, Tryz.ntmps61
    go_wp2_with fail
    refine (refControl_any s _ (by unfold maxLen; omega)).mono ?_
    rintro e w' ⟨rfl, rfl⟩
    rw [HT.out]
    go_wp2_with fail
    go_ret2
    exact ⟨by unfold valueR; rw [HC.out]; rfl, rfl⟩
  | false =>
    have HT := Lib.hid hc
    by_cases hl : 2048 < (trimB s.data.toList).length
    · have hv : valueC s.data.toList = 5 := by unfold valueC; rw [if_neg (by rw [hc]; simp), if_pos hl]
      have HC := Lib.hid hv
      clear hc hv
      go_enter Tryz.func61, Tryz.ntmps61
      go_wp2_with fail
      refine (refControl_any s _ (by unfold maxLen; omega)).mono ?_
      rintro e w' ⟨rfl, rfl⟩
      rw [HT.out]
      go_wp2_with fail
      refine hT.mono ?_
      rintro e w' ⟨rfl, rfl⟩
      go_wp2_with fail
      go_ret2
      exact ⟨by unfold valueR; rw [HC.out]; rfl, rfl⟩
    · have hv : valueC s.data.toList = 0 := by unfold valueC; rw [if_neg (by rw [hc]; simp), if_neg hl]
      have HC := Lib.hid hv
      clear hc hv
      go_enter Tryz.func61, Tryz.ntmps61
      go_wp2_with fail
      refine (refControl_any s _ (by unfold maxLen; omega)).mono ?_
      rintro e w' ⟨rfl, rfl⟩
      rw [HT.out]
      go_wp2_with fail
      refine hT.mono ?_
      rintro e w' ⟨rfl, rfl⟩
      go_wp2_with fail
      go_ret2
      exact ⟨by unfold valueR; rw [HC.out]; rfl, rfl⟩
end Go.Proofs.YtacfkljpjjnlfaaGreatDoor
