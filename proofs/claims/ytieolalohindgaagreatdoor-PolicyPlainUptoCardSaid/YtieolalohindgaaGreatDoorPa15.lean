import Derived.Test.YtieolalohindgaaGreatDoorPa1
import Derived.Test.YtieolalohindgaaGreatDoorPa2
import Derived.Test.YtieolalohindgaaGreatDoorPa14
import Derived.Laws.IdiomStrings
/- What the reference's Trim returns: the bytes without blanks at both ends. -/
namespace Go.Proofs.YtieolalohindgaaGreatDoor
open Go.RowKit

def blank (c : UInt8) : Bool := [32, 9].contains c
theorem blank_iff (c : UInt8) : blank c = true ↔ c.toNat = 32 ∨ c.toNat = 9 := by
  simp only [blank, List.contains_iff_mem, List.mem_cons, List.mem_nil_iff, or_false]
  constructor
  · rintro (h | h) <;> subst h <;> simp
  · rintro (h | h)
    · exact .inl (UInt8.toNat_inj.mp h)
    · exact .inr (UInt8.toNat_inj.mp h)
def tL (l : List UInt8) : List UInt8 := l.dropWhile blank
def tR (l : List UInt8) : List UInt8 := (l.reverse.dropWhile blank).reverse
theorem tR_cons (c : UInt8) (t : List UInt8) : tR (c :: t) = if tR t = [] ∧ blank c = true then [] else c :: tR t := by
  unfold tR
  rw [List.reverse_cons, List.dropWhile_append]
  cases h : t.reverse.dropWhile blank with
  | nil =>
    cases hc : blank c <;> simp [hc]
  | cons a r => simp
theorem tL_cons (c : UInt8) (t : List UInt8) : tL (c :: t) = if blank c = true then tL t else c :: t := by
  unfold tL; rw [List.dropWhile_cons]
theorem tR_tL (l : List UInt8) : tR (tL l) = tL (tR l) := by
  induction l with
  | nil => rfl
  | cons c t ih =>
    rw [tL_cons, tR_cons]
    by_cases hc : blank c = true
    · rw [if_pos hc, ih]
      by_cases ht : tR t = []
      · rw [if_pos ⟨ht, hc⟩, ht]
      · rw [if_neg (fun h => ht h.1), tL_cons, if_pos hc]
    · rw [if_neg hc, if_neg (fun h => hc h.2), tR_cons, if_neg (fun h => hc h.2), tL_cons, if_neg hc]
theorem trimB_eq (l : List UInt8) : trimB l = tR (tL l) := by rw [tR_tL]; rfl
theorem tR_snoc (t : List UInt8) (c : UInt8) : tR (t ++ [c]) = if blank c = true then tR t else t ++ [c] := by
  unfold tR
  rw [List.reverse_append]
  show (List.dropWhile blank (c :: t.reverse)).reverse = _
  rw [List.dropWhile_cons]
  split <;> simp

theorem strB_tail (c : UInt8) (t : List UInt8) : (strB (c :: t)).extract 1 (t.length + 1) = strB t := by
  apply strB_ext; rw [Lib.extract_data, strB_list]; simp
theorem strB_init (t : List UInt8) (c : UInt8) : (strB (t ++ [c])).extract 0 t.length = strB t := by
  apply strB_ext; rw [Lib.extract_data, strB_list]; simp

theorem front (l : List UInt8) : (∃ c t, l = c :: t ∧ blank c = true ∧ ((c.toNat : Int) == 32) = true) ∨ (∃ c t, l = c :: t ∧ blank c = true ∧ ((c.toNat : Int) == 32) = false ∧ ((c.toNat : Int) == 9) = true) ∨
    (l = [] ∨ ∃ c t, l = c :: t ∧ blank c = false ∧ ((c.toNat : Int) == 32) = false ∧ ((c.toNat : Int) == 9) = false) := by
  cases l with
  | nil => exact .inr (.inr (.inl rfl))
  | cons c t =>
    by_cases h1 : c.toNat = 32
    · exact .inl ⟨c, t, rfl, (blank_iff c).mpr (.inl h1), by simp; omega⟩
    · by_cases h2 : c.toNat = 9
      · exact .inr (.inl ⟨c, t, rfl, (blank_iff c).mpr (.inr h2), by simp; omega, by simp; omega⟩)
      · refine .inr (.inr (.inr ⟨c, t, rfl, ?_, by simp; omega, by simp; omega⟩))
        rw [Bool.eq_false_iff]; intro h; rcases (blank_iff c).mp h with h | h
        · exact h1 h
        · exact h2 h
theorem front_done {l : List UInt8} (h : l = [] ∨ ∃ c t, l = c :: t ∧ blank c = false ∧ ((c.toNat : Int) == 32) = false ∧ ((c.toNat : Int) == 9) = false) : tL l = l := by
  rcases h with rfl | ⟨c, t, rfl, hb, _⟩
  · rfl
  · rw [tL_cons, hb]; rfl

def lenV : Value → Nat
  | .string b => b.size
  | _ => 0
theorem lenV_s (l : List UInt8) : lenV (.string (strB l)) = l.length := strB_size l
theorem back (l : List UInt8) : (∃ c t, l = t ++ [c] ∧ blank c = true ∧ ((c.toNat : Int) == 32) = true) ∨ (∃ c t, l = t ++ [c] ∧ blank c = true ∧ ((c.toNat : Int) == 32) = false ∧ ((c.toNat : Int) == 9) = true) ∨
    (l = [] ∨ ∃ c t, l = t ++ [c] ∧ blank c = false ∧ ((c.toNat : Int) == 32) = false ∧ ((c.toNat : Int) == 9) = false) := by
  rcases List.eq_nil_or_concat l with rfl | ⟨t, c, rfl⟩
  · exact .inr (.inr (.inl rfl))
  · rcases front [c] with ⟨c', t', h, r⟩ | ⟨c', t', h, r⟩ | h | ⟨c', t', h, r⟩
    · simp only [List.cons.injEq] at h; obtain ⟨rfl, _⟩ := h; exact .inl ⟨c, t, by simp, r⟩
    · simp only [List.cons.injEq] at h; obtain ⟨rfl, _⟩ := h; exact .inr (.inl ⟨c, t, by simp, r⟩)
    · cases h
    · simp only [List.cons.injEq] at h; obtain ⟨rfl, _⟩ := h; exact .inr (.inr (.inr ⟨c, t, by simp, r⟩))
theorem back_done {l : List UInt8} (h : l = [] ∨ ∃ c t, l = t ++ [c] ∧ blank c = false ∧ ((c.toNat : Int) == 32) = false ∧ ((c.toNat : Int) == 9) = false) : tR l = l := by
  rcases h with rfl | ⟨c, t, rfl, hb, _⟩
  · rfl
  · rw [tR_snoc, hb]; rfl
theorem last_byte (t : List UInt8) (c : UInt8) (h : t.length < (strB (t ++ [c])).size) : (strB (t ++ [c]))[t.length] = c := by
  have : (strB (t ++ [c]))[t.length] = (strB (t ++ [c])).data.toList[t.length]'(by rw [strB_list]; simp) := rfl
  rw [this]; simp only [strB_list]; simp

set_option maxHeartbeats 1000000 in
set_option maxRecDepth 100000 in
theorem refTrim_any (L : List UInt8) (w : World) (hs : L.length ≤ 1000000) :
    Calls Tryz.prog 115 #[.string (strB L)] w fun e w' => e = .returned (.string (strB (trimB L))) ∧ w = w' := by
  go_enter Tryz.func115, Tryz.ntmps115
  go_wp2
  go_loop [0] (fun u => ∃ l : List UInt8, u = .string (strB l) ∧ tL l = tL L ∧ l.length ≤ L.length) (fun u => lenV u)
  case atStart => exact ⟨L, rfl, rfl, Nat.le_refl _⟩
  case round =>
    obtain ⟨l, rfl, hl, hle⟩ := hrel
    have HL := Lib.hid hl
    clear hl
    rcases front l with ⟨c, t, rfl, hb, ha1⟩ | ⟨c, t, rfl, hb, ha1, ha2⟩ | he
    · have ez : (strB (c :: t)).size = t.length + 1 := strB_size _
      have e0 : (strB (c :: t))[0]'(by omega) = c := rfl
      have HB := Lib.hid hb
      simp only [List.length_cons] at hle
      clear hb
      go_wp2
      go_round
      case rel => exact ⟨t, by rw [strB_tail], by rw [← HL.out, tL_cons, if_pos HB.out], by omega⟩
      case measure => rw [strB_tail, lenV_s, lenV_s]; simp
    · have ez : (strB (c :: t)).size = t.length + 1 := strB_size _
      have e0 : (strB (c :: t))[0]'(by omega) = c := rfl
      have HB := Lib.hid hb
      simp only [List.length_cons] at hle
      clear hb
      go_wp2
      go_round
      case rel => exact ⟨t, by rw [strB_tail], by rw [← HL.out, tL_cons, if_pos HB.out], by omega⟩
      case measure => rw [strB_tail, lenV_s, lenV_s]; simp
    · have hlx : tL l = l := front_done he
      have HX := Lib.hid hlx
      clear hlx
      rcases he with rfl | ⟨c, t, rfl, hb, ha1, ha2⟩
      all_goals
        first
        | (have ez : (strB (c :: t)).size = t.length + 1 := strB_size _
           have e0 : (strB (c :: t))[0]'(by omega) = c := rfl
           simp only [List.length_cons] at hle
           have HB := Lib.hid hb
           clear hb)
        | (have ez : (strB []).size = 0 := rfl)
        go_wp2
        go_loop [0] (fun u => ∃ l : List UInt8, u = .string (strB l) ∧ tR l = tR (tL L) ∧ l.length ≤ L.length) (fun u => lenV u)
        case atStart => exact ⟨_, rfl, by rw [← HL.out, HX.out], by first | exact hle | simpa using hle⟩
        case round =>
          obtain ⟨m, rfl, hm, hme⟩ := hrel
          have HM := Lib.hid hm
          clear hm
          try clear e0
          clear ez
          rcases back m with ⟨d, r, rfl, hb, hd1⟩ | ⟨d, r, rfl, hb, hd1, hd2⟩ | he
          · have ez : (strB (r ++ [d])).size = r.length + 1 := by rw [strB_size]; simp
            have e0 := last_byte r d (by omega)
            have HD := Lib.hid hb
            simp only [List.length_append, List.length_singleton] at hme
            clear hb
            go_wp2
            go_round
            case rel => exact ⟨r, by rw [strB_init], by rw [← HM.out, tR_snoc, if_pos HD.out], by omega⟩
            case measure => rw [strB_init, lenV_s, lenV_s]; simp
          · have ez : (strB (r ++ [d])).size = r.length + 1 := by rw [strB_size]; simp
            have e0 := last_byte r d (by omega)
            have HD := Lib.hid hb
            simp only [List.length_append, List.length_singleton] at hme
            clear hb
            go_wp2
            go_round
            case rel => exact ⟨r, by rw [strB_init], by rw [← HM.out, tR_snoc, if_pos HD.out], by omega⟩
            case measure => rw [strB_init, lenV_s, lenV_s]; simp
          · have hmx : tR m = m := back_done he
            have HMX := Lib.hid hmx
            clear hmx
            have fin : strB m = strB (trimB L) := by rw [trimB_eq, ← HM.out, HMX.out]
            have FIN := Lib.hid fin
            clear fin
            rcases he with rfl | ⟨d, r, rfl, hb, hd1, hd2⟩
            · have ez : (strB []).size = 0 := rfl
              go_wp2
              go_ret
              exact ⟨by rw [← FIN.out]; rfl, rfl⟩
            · have ez : (strB (r ++ [d])).size = r.length + 1 := by rw [strB_size]; simp
              have e0 := last_byte r d (by omega)
              have HD := Lib.hid hb
              simp only [List.length_append, List.length_singleton] at hme
              clear hb
              go_wp2
              go_ret
              exact ⟨by rw [← FIN.out]; rfl, rfl⟩
end Go.Proofs.YtieolalohindgaaGreatDoor

/- What the code's Quote and the reference's Quote return, for every string up to a bound. -/
namespace Go.Proofs.YtieolalohindgaaGreatDoor
open Go.RowKit

def QuoRel (s : ByteArray) (w : World) (i : Value) (wr : World) : Prop :=
  ∃ k : Nat, i = .int .i64 k ∧ k ≤ s.size ∧ Bld w.heap.size w.heap.size (34 :: escS (s.data.toList.take k)) wr ∧ Below w.heap.size w wr
end Go.Proofs.YtieolalohindgaaGreatDoor

/- What the reference's Quote returns, for every string up to a bound. -/
namespace Go.Proofs.YtieolalohindgaaGreatDoor
open Go.RowKit

theorem conv92 (W : World) :
    (convert 123 9 (.slice (some ⟨W.heap.size, 0, none⟩) 1 1)).run Tryz.prog (W.alloc (.cells #[.int .u8 92] 5)) = .ok (.string ⟨#[92]⟩) (W.alloc (.cells #[.int .u8 92] 5)) :=
  run_convert_bytes_back _ _ _ 5 ⟨W.heap.size, 0, none⟩ 1 [92] Tryz.underlying123 Tryz.underlying5 Tryz.underlying9 (fun j hj => by
    have : j = 0 := by simp at hj; omega
    subst this
    simp [Addr.add])
def RQuoRel (s : ByteArray) (w : World) (o i : Value) (wr : World) : Prop :=
  ∃ k : Nat, i = .int .i64 k ∧ k ≤ s.size ∧ o = .string (strB (34 :: escS (s.data.toList.take k))) ∧ Below w.heap.size w wr
end Go.Proofs.YtieolalohindgaaGreatDoor
