import Derived.Lib.Atoi
import Derived.Lib.ItoaNum
import Derived.Test.YtoiampkdmjpljaaGreatDoorPa4
/- Date texts as lists of bytes: what a text is the date text of, and what its parts spell. -/
namespace Go.Proofs.YtoiampkdmjpljaaGreatDoor

def dig (n : Nat) : UInt8 := UInt8.ofNat (48 + n % 10)
theorem dig_nat (n : Nat) : (dig n).toNat = 48 + n % 10 := by unfold dig; rw [UInt8.toNat_ofNat']; omega
/-- Two digits, four digits. -/
def dd (n : Nat) : List UInt8 := [dig (n / 10), dig n]
def d4 (n : Nat) : List UInt8 := [dig (n / 1000), dig (n / 100), dig (n / 10), dig n]
/-- The names of the weekdays and of the months, one after the other. -/
def wdT : List UInt8 := [83, 117, 110, 77, 111, 110, 84, 117, 101, 87, 101, 100, 84, 104, 117, 70, 114, 105, 83, 97, 116]
def moT : List UInt8 := [74, 97, 110, 70, 101, 98, 77, 97, 114, 65, 112, 114, 77, 97, 121, 74, 117, 110, 74, 117, 108, 65, 117, 103, 83, 101, 112, 79, 99, 116, 78, 111, 118, 68, 101, 99]
def wdS (w : Nat) : List UInt8 := (wdT.drop (3 * w)).take 3
def moS (m : Nat) : List UInt8 := (moT.drop (3 * m - 3)).take 3
theorem wdS_len_fin : ∀ w : Fin 7, (wdS w.val).length = 3 := by decide +kernel
theorem wdS_len (w : Nat) (h : w < 7) : (wdS w).length = 3 := wdS_len_fin ⟨w, h⟩
theorem moS_len_fin : ∀ m : Fin 13, 1 ≤ m.val → (moS m.val).length = 3 := by decide +kernel
theorem moS_len (m : Nat) (h1 : 1 ≤ m) (h : m ≤ 12) : (moS m).length = 3 := moS_len_fin ⟨m, by omega⟩ h1
theorem moS_inj_fin : ∀ m k : Fin 13, 1 ≤ m.val → 1 ≤ k.val → moS m.val = moS k.val → m = k := by decide +kernel
theorem moS_inj (m k : Nat) (h1 : 1 ≤ m) (h2 : m ≤ 12) (h3 : 1 ≤ k) (h4 : k ≤ 12) (h : moS m = moS k) : m = k := by
  have := moS_inj_fin ⟨m, by omega⟩ ⟨k, by omega⟩ h1 h3 h
  exact congrArg Fin.val this
theorem three {l : List UInt8} (h : l.length = 3) : ∃ a b c, l = [a, b, c] := by
  match l, h with
  | [a, b, c], _ => exact ⟨a, b, c, rfl⟩
/-- The time of day. -/
def clockS (r : Nat) : List UInt8 := dd (r / 3600) ++ [58] ++ dd (r % 3600 / 60) ++ [58] ++ dd (r % 60)
def dateS (y m d : Nat) : List UInt8 := dd d ++ [32] ++ moS m ++ [32] ++ d4 y
def txt (w y m d r : Nat) : List UInt8 := wdS w ++ [44, 32] ++ dateS y m d ++ [32] ++ clockS r ++ [32, 71, 77, 84]
/-- l is the date text of the second n. -/
def isT (n : Nat) (l : List UInt8) : Prop := n ≤ 253402300799 ∧ ∃ y m d : Nat, isD y m d ((n / 86400 : Nat) : Int) ∧ l = txt ((n / 86400 + 4) % 7) y m d (n % 86400)
theorem isT_ex (n : Nat) (h : n ≤ 253402300799) : ∃ l, isT n l := by
  obtain ⟨y, m, d, hD⟩ := isD_ex (n / 86400) (by omega)
  have b := isD_bd hD
  refine ⟨_, h, y.toNat, m.toNat, d.toNat, ?_, rfl⟩
  rw [Int.toNat_of_nonneg (by omega), Int.toNat_of_nonneg (by omega), Int.toNat_of_nonneg (by omega)]; exact hD
theorem isT_uniq {n : Nat} {l l' : List UInt8} (h : isT n l) (h' : isT n l') : l = l' := by
  obtain ⟨_, y, m, d, a, rfl⟩ := h
  obtain ⟨_, y', m', d', a', rfl⟩ := h'
  obtain ⟨e1, e2, e3⟩ := isD_uniq a a'
  rw [Int.ofNat.inj e1, Int.ofNat.inj e2, Int.ofNat.inj e3]
/-- What Atoi makes of a text. -/
def av (l : List UInt8) : Int := (Lib.atoi l).getD 0
theorem digitVal_dig (n : Nat) : Lib.digitVal (dig n) = some (n % 10) := by
  unfold Lib.digitVal; rw [dig_nat, if_pos (by omega)]; congr 1; omega
theorem dig_ne (n : Nat) (c : UInt8) (h : c.toNat < 48) : (dig n == c) = false := by
  simp; intro e; have := congrArg UInt8.toNat e; rw [dig_nat] at this; omega
theorem av_dd (n : Nat) (h : n < 100) : av (dd n) = n := by
  unfold av dd
  simp only [Lib.atoi]
  rw [dig_ne _ 45 (by decide), dig_ne _ 43 (by decide)]
  simp [Lib.decNat, Lib.decFrom, digitVal_dig]; omega
theorem av_d4 (n : Nat) (h : n < 10000) : av (d4 n) = n := by
  unfold av d4
  simp only [Lib.atoi]
  rw [dig_ne _ 45 (by decide), dig_ne _ 43 (by decide)]
  simp [Lib.decNat, Lib.decFrom, digitVal_dig]; omega
theorem av_bd (l : List UInt8) : -(10 ^ l.length : Nat) ≤ av l ∧ av l ≤ (10 ^ l.length : Nat) := by
  unfold av
  cases h : Lib.atoi l with
  | none => simp; have : 0 ≤ (10 : Int) ^ l.length := Int.pow_nonneg (by omega); omega
  | some n =>
    obtain ⟨b, r, rfl, hc⟩ := Lib.atoi_cases h
    have hp : (10 : Nat) ^ (r.length + 1) = 10 ^ r.length * 10 := Nat.pow_succ ..
    rcases hc with ⟨_, m, _, hm, rfl⟩ | ⟨_, m, _, hm, rfl⟩ | ⟨_, _, m, hm, rfl⟩
    all_goals
      have := Lib.decFrom_lt _ 0 m hm
      simp only [List.length_cons, Option.getD_some] at *
      omega
theorem av_2 (l : List UInt8) (h : l.length = 2) : -100 ≤ av l ∧ av l ≤ 100 := by
  have := av_bd l; rw [h] at this; exact this
theorem av_4 (l : List UInt8) (h : l.length = 4) : -10000 ≤ av l ∧ av l ≤ 10000 := by
  have := av_bd l; rw [h] at this; exact this
/-- The part of l from i to j. -/
def part (l : List UInt8) (i j : Nat) : List UInt8 := (l.drop i).take (j - i)
theorem part_len (l : List UInt8) (i j : Nat) (hij : i ≤ j) (hj : j ≤ l.length) : (part l i j).length = j - i := by unfold part; simp; omega
/-- The parts of a date text. -/
theorem txt_parts (w y m d r : Nat) (hw : w < 7) (h1 : 1 ≤ m) (h2 : m ≤ 12) :
    (txt w y m d r).length = 29 ∧ part (txt w y m d r) 12 16 = d4 y ∧ part (txt w y m d r) 8 11 = moS m ∧ part (txt w y m d r) 5 7 = dd d ∧
      part (txt w y m d r) 17 19 = dd (r / 3600) ∧ part (txt w y m d r) 20 22 = dd (r % 3600 / 60) ∧ part (txt w y m d r) 23 25 = dd (r % 60) := by
  obtain ⟨a, b, c, e⟩ := three (wdS_len w hw)
  obtain ⟨a', b', c', e'⟩ := three (moS_len m h1 h2)
  unfold txt dateS clockS part
  rw [e, e']
  exact ⟨rfl, rfl, rfl, rfl, rfl, rfl, rfl⟩
theorem isT_parts {n : Nat} {l : List UInt8} (h : isT n l) : l.length = 29 ∧ ∃ y m d : Nat, isD y m d ((n / 86400 : Nat) : Int) ∧ part l 12 16 = d4 y ∧ part l 8 11 = moS m ∧ part l 5 7 = dd d ∧
      part l 17 19 = dd (n % 86400 / 3600) ∧ part l 20 22 = dd (n % 86400 % 3600 / 60) ∧ part l 23 25 = dd (n % 86400 % 60) := by
  obtain ⟨_, y, m, d, hD, rfl⟩ := h
  have b := isD_bd hD
  have p := txt_parts ((n / 86400 + 4) % 7) y m d (n % 86400) (by omega) (by omega) (by omega)
  exact ⟨p.1, y, m, d, hD, p.2⟩
/-- A text is that of one second at most. -/
theorem isT_inj {n k : Nat} {l : List UInt8} (h : isT n l) (h' : isT k l) : n = k := by
  obtain ⟨_, y, m, d, hD, p1, p2, p3, p4, p5, p6⟩ := isT_parts h
  obtain ⟨_, y', m', d', hD', q1, q2, q3, q4, q5, q6⟩ := isT_parts h'
  have b := isD_bd hD; have b' := isD_bd hD'
  have e1 := av_d4 y (by omega); rw [← p1, q1, av_d4 y' (by omega)] at e1
  have e2 := moS_inj m' m (by omega) (by omega) (by omega) (by omega) (by rw [← q2, p2])
  have e3 := av_dd d (by omega); rw [← p3, q3, av_dd d' (by omega)] at e3
  have e4 := av_dd (n % 86400 / 3600) (by omega); rw [← p4, q4, av_dd _ (by omega)] at e4
  have e5 := av_dd (n % 86400 % 3600 / 60) (by omega); rw [← p5, q5, av_dd _ (by omega)] at e5
  have e6 := av_dd (n % 86400 % 60) (by omega); rw [← p6, q6, av_dd _ (by omega)] at e6
  have g := hD.2.2.2.2.2.2; have g' := hD'.2.2.2.2.2.2
  rw [← e1, ← e3, ← e2, ← g'] at g
  omega
/-- k is the number of the month of this name, or 0. -/
def isMo (l : List UInt8) (k : Nat) : Prop := (1 ≤ k ∧ k ≤ 12 ∧ moS k = l) ∨ (k = 0 ∧ ∀ j, 1 ≤ j → j ≤ 12 → moS j ≠ l)
theorem isMo_of {l : List UInt8} {k m : Nat} (h : isMo l k) (h1 : 1 ≤ m) (h2 : m ≤ 12) (e : l = moS m) : k = m := by
  rcases h with ⟨a, b, c⟩ | ⟨_, c⟩
  · exact moS_inj k m a b h1 h2 (c.trans e)
  · exact absurd e.symm (c m h1 h2)
theorem isMo_bd {l : List UInt8} {k : Nat} (h : isMo l k) : k ≤ 12 := by
  rcases h with ⟨_, b, _⟩ | ⟨b, _⟩ <;> omega
theorem decDigits_4 (n : Nat) (h1 : 1000 ≤ n) (h2 : n < 10000) : Lib.decDigits n = d4 n := by
  rw [Lib.decDigits, dif_neg (by omega), Lib.decDigits, dif_neg (by omega), Lib.decDigits, dif_neg (by omega), Lib.decDigits, dif_pos (by omega)]
  have e1 : n / 10 / 10 / 10 = n / 1000 := by omega
  have e2 : n / 10 / 10 = n / 100 := by omega
  unfold d4 dig
  rw [e1, e2, Nat.mod_eq_of_lt (show n / 1000 < 10 by omega)]
  rfl
theorem dd_small (n : Nat) (h : n < 10) : [48] ++ Lib.decDigits n = dd n := by
  rw [Lib.decDigits_one h]; unfold dd dig
  rw [Nat.div_eq_of_lt h, Nat.mod_eq_of_lt h]; rfl
theorem dd_big (n : Nat) (h1 : ¬ n < 10) (h2 : n < 100) : Lib.decDigits n = dd n := by
  rw [Lib.decDigits_two h1 h2]; unfold dd dig
  rw [Nat.mod_eq_of_lt (show n / 10 < 10 by omega)]
end Go.Proofs.YtoiampkdmjpljaaGreatDoor

/- Plain mathematics: the date of a text, or none. -/
namespace Go.Proofs.YtoiampkdmjpljaaGreatDoor

/-- A text is the date text of a second, or of none. -/
def DateIs (v : List UInt8) (d : Option Nat) : Prop := match d with
  | some n => isT n v
  | none => ∀ n, ¬ isT n v
theorem date_ex (v : List UInt8) : ∃ d, DateIs v d := by
  by_cases h : ∃ n, isT n v
  · obtain ⟨n, h⟩ := h; exact ⟨some n, h⟩
  · exact ⟨none, fun n hn => h ⟨n, hn⟩⟩
theorem DateIs.uniq {v : List UInt8} {d e : Option Nat} (h : DateIs v d) (g : DateIs v e) : d = e := by
  cases d with
  | none => cases e with
    | none => rfl
    | some n => exact absurd g (h n)
  | some n => cases e with
    | none => exact absurd h (g n)
    | some k => exact congrArg some (isT_inj h g)
theorem date_nil : DateIs [] none := fun n h => by have := (isT_parts h).1; simp at this
end Go.Proofs.YtoiampkdmjpljaaGreatDoor

/- Plain mathematics: the text of a list of one. -/
namespace Go.Proofs.YtoiampkdmjpljaaGreatDoor

/-- The text of a list of one, and whether it is one. -/
def oneL : List (List UInt8) → List UInt8 × Bool
  | [v] => (v, true)
  | _ => ([], false)
theorem oneL_len {l : List (List UInt8)} {M : Nat} (h : ∀ v ∈ l, v.length ≤ M) : (oneL l).1.length ≤ M := by
  match l with
  | [] => exact Nat.zero_le _
  | [v] => exact h v (List.mem_singleton.mpr rfl)
  | _ :: _ :: _ => exact Nat.zero_le _
end Go.Proofs.YtoiampkdmjpljaaGreatDoor
