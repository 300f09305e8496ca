import Derived.Test.YtieolalohindgaaGreatDoorPa2
import Derived.Test.YtieolalohindgaaGreatDoorPa3
import Derived.Lib.ItoaNum
import Derived.Lib.ItoaMem
import Derived.Lib.Hide
/- Plain mathematics of chapter 11: what an element of a Cache-Control list says, what fields say, the text of directives, and which are more careful. -/
namespace Go.Proofs.YtieolalohindgaaGreatDoor

structure Dv where
  ns : Bool
  nc : Bool
  pr : Bool
  pu : Bool
  mr : Bool
  oc : Bool
  ma : Int
  sa : Int
  ws : Int
  oe : Int
  ms : Int
  mf : Int
deriving DecidableEq
def decTD (n : Int) : List UInt8 := Lib.decDigits n.toNat
def noneD : Dv := ⟨false, false, false, false, false, false, -1, -1, -1, -1, -1, -1⟩
def nNS : List UInt8 := [110, 111, 45, 115, 116, 111, 114, 101]
def nNC : List UInt8 := [110, 111, 45, 99, 97, 99, 104, 101]
def nPR : List UInt8 := [112, 114, 105, 118, 97, 116, 101]
def nPU : List UInt8 := [112, 117, 98, 108, 105, 99]
def nMR : List UInt8 := [109, 117, 115, 116, 45, 114, 101, 118, 97, 108, 105, 100, 97, 116, 101]
def nPX : List UInt8 := [112, 114, 111, 120, 121, 45, 114, 101, 118, 97, 108, 105, 100, 97, 116, 101]
def nOC : List UInt8 := [111, 110, 108, 121, 45, 105, 102, 45, 99, 97, 99, 104, 101, 100]
def nMA : List UInt8 := [109, 97, 120, 45, 97, 103, 101]
def nSA : List UInt8 := [115, 45, 109, 97, 120, 97, 103, 101]
def nWS : List UInt8 := [115, 116, 97, 108, 101, 45, 119, 104, 105, 108, 101, 45, 114, 101, 118, 97, 108, 105, 100, 97, 116, 101]
def nOE : List UInt8 := [115, 116, 97, 108, 101, 45, 105, 102, 45, 101, 114, 114, 111, 114]
def nMS : List UInt8 := [109, 97, 120, 45, 115, 116, 97, 108, 101]
def nMF : List UInt8 := [109, 105, 110, 45, 102, 114, 101, 115, 104]
def nCC : List UInt8 := [99, 97, 99, 104, 101, 45, 99, 111, 110, 116, 114, 111, 108]
def leastD (a b : Int) : Int := if a = -1 then b else if b = -1 then a else min a b
/-- The number of decimal digits, 2147483647 at most; none where a byte is no digit. -/
def numA : List UInt8 → Int → Option Int
  | [], n => some n
  | c :: r, n => if 48 ≤ c.toNat ∧ c.toNat ≤ 57 then numA r (min (10 * n + ((c.toNat : Int) - 48)) 2147483647) else none
def argL (a : List UInt8) : List UInt8 := if a.headD 0 = 34 then (unqO a).getD [] else a
def secL (a : List UInt8) : Option Int := if argL a = [] then none else numA (argL a) 0
def kindL (nm : List UInt8) : Nat :=
  if nm = nNS then 0 else if nm = nNC then 1 else if nm = nPR then 2 else if nm = nPU then 3 else if nm = nMR then 4 else if nm = nPX then 4 else if nm = nOC then 5
  else if nm = nMA then 6 else if nm = nSA then 7 else if nm = nWS then 8 else if nm = nOE then 9 else if nm = nMS then 10 else if nm = nMF then 11 else 12
def actD (d : Dv) (k : Nat) (x y z : Int) : Dv :=
  match k with
  | 0 => { d with ns := true }
  | 1 => { d with nc := true }
  | 2 => { d with pr := true }
  | 3 => { d with pu := true }
  | 4 => { d with mr := true }
  | 5 => { d with oc := true }
  | 6 => { d with ma := leastD d.ma x }
  | 7 => { d with sa := leastD d.sa x }
  | 8 => { d with ws := leastD d.ws x }
  | 9 => { d with oe := leastD d.oe x }
  | 10 => { d with ms := leastD d.ms y }
  | 11 => { d with mf := max d.mf z }
  | _ => d
/-- The number of an argument: for most directives, for max-stale, for min-fresh. -/
def argX (arg : Option (List UInt8)) : Int := (arg.bind secL).getD 0
def argY (arg : Option (List UInt8)) : Int := match arg with | none => 2147483647 | some a => (secL a).getD 0
def argZ (arg : Option (List UInt8)) : Int := (arg.bind secL).getD 2147483647
def putD (d : Dv) (nm : List UInt8) (arg : Option (List UInt8)) : Dv := actD d (kindL nm) (argX arg) (argY arg) (argZ arg)
def elemD (d : Dv) (e : List UInt8) : Dv := match cutE e with
  | none => putD d (lowS e) none
  | some (n, a) => putD d (lowS n) (some a)
def valD (d : Dv) (v : List UInt8) : Dv := match listO v with
  | none => { d with ns := true }
  | some ls => ls.foldl elemD d
def parseD (vs : List (List UInt8)) : Dv := vs.foldl valD noneD
def normT (n : Int) : Int := min (max n (-1)) 2147483647
def normD (d : Dv) : Dv := { d with ma := normT d.ma, sa := normT d.sa, ws := normT d.ws, oe := normT d.oe, ms := normT d.ms, mf := normT d.mf }
def mergeD (x y : Dv) : Dv :=
  let a := normD x
  let b := normD y
  ⟨a.ns || b.ns, a.nc || b.nc, a.pr || b.pr, a.pu && b.pu, a.mr || b.mr, a.oc || b.oc, leastD a.ma b.ma, leastD a.sa b.sa, min a.ws b.ws, min a.oe b.oe, min a.ms b.ms, max a.mf b.mf⟩
def timeL (n : List UInt8) (s : Int) : List UInt8 := if n = nMS ∧ s = 2147483647 then n else n ++ 61 :: decTD s
def flagsD (d : Dv) : List (List UInt8 × Bool) := [(nNS, d.ns), (nNC, d.nc), (nPR, d.pr), (nPU, d.pu), (nMR, d.mr), (nOC, d.oc)]
def timesD (d : Dv) : List (List UInt8 × Int) := [(nMA, d.ma), (nSA, d.sa), (nWS, d.ws), (nOE, d.oe), (nMS, d.ms), (nMF, d.mf)]
def flagI (l : List (List UInt8 × Bool)) : List (List UInt8) := (l.filter (·.2)).map (·.1)
def timeI (l : List (List UInt8 × Int)) : List (List UInt8) := (l.filter (fun p => decide (p.2 ≠ -1))).map fun p => timeL p.1 p.2
def itemsD (d : Dv) : List (List UInt8) := flagI (flagsD d) ++ timeI (timesD d)
def fmtD (d : Dv) : List UInt8 := getL (itemsD (normD d))

/-- All times are between -1 and 2147483647. -/
structure Nor (d : Dv) : Prop where
  ma : -1 ≤ d.ma ∧ d.ma ≤ 2147483647
  sa : -1 ≤ d.sa ∧ d.sa ≤ 2147483647
  ws : -1 ≤ d.ws ∧ d.ws ≤ 2147483647
  oe : -1 ≤ d.oe ∧ d.oe ≤ 2147483647
  ms : -1 ≤ d.ms ∧ d.ms ≤ 2147483647
  mf : -1 ≤ d.mf ∧ d.mf ≤ 2147483647
theorem nor_none : Nor noneD := by constructor <;> decide
theorem normT_bd (n : Int) : -1 ≤ normT n ∧ normT n ≤ 2147483647 := by unfold normT; omega
theorem nor_norm (d : Dv) : Nor (normD d) := ⟨normT_bd _, normT_bd _, normT_bd _, normT_bd _, normT_bd _, normT_bd _⟩
theorem normT_id {n : Int} (h : -1 ≤ n ∧ n ≤ 2147483647) : normT n = n := by unfold normT; omega
theorem norm_id {d : Dv} (h : Nor d) : normD d = d := by
  unfold normD
  rw [normT_id h.ma, normT_id h.sa, normT_id h.ws, normT_id h.oe, normT_id h.ms, normT_id h.mf]
theorem numA_bd : ∀ (l : List UInt8) (n m : Int), 0 ≤ n → n ≤ 2147483647 → numA l n = some m → 0 ≤ m ∧ m ≤ 2147483647 := by
  intro l
  induction l with
  | nil => intro n m h1 h2 h; simp only [numA, Option.some.injEq] at h; subst h; exact ⟨h1, h2⟩
  | cons c r ih =>
    intro n m h1 h2 h
    unfold numA at h
    split at h
    · exact ih _ _ (by omega) (by omega) h
    · cases h
theorem sec_bd {a : List UInt8} {n : Int} (h : secL a = some n) : 0 ≤ n ∧ n ≤ 2147483647 := by
  unfold secL at h
  split at h
  · cases h
  · exact numA_bd _ _ _ (by omega) (by omega) h
theorem sec_bdD (a : List UInt8) (c : Int) (hc : 0 ≤ c ∧ c ≤ 2147483647) : 0 ≤ (secL a).getD c ∧ (secL a).getD c ≤ 2147483647 := by
  cases h : secL a with
  | none => simpa using hc
  | some n => simpa using sec_bd h
theorem sec_bdB (a : Option (List UInt8)) (c : Int) (hc : 0 ≤ c ∧ c ≤ 2147483647) : 0 ≤ (a.bind secL).getD c ∧ (a.bind secL).getD c ≤ 2147483647 := by
  cases a with
  | none => simpa using hc
  | some a => exact sec_bdD a c hc
theorem least_bd {a b : Int} (ha : -1 ≤ a ∧ a ≤ 2147483647) (hb : -1 ≤ b ∧ b ≤ 2147483647) : -1 ≤ leastD a b ∧ leastD a b ≤ 2147483647 := by
  unfold leastD; split <;> (try split) <;> omega
theorem nor_act {d : Dv} (h : Nor d) (k : Nat) {x y z : Int} (hx : 0 ≤ x ∧ x ≤ 2147483647) (hy : 0 ≤ y ∧ y ≤ 2147483647) (hz : 0 ≤ z ∧ z ≤ 2147483647) : Nor (actD d k x y z) := by
  obtain ⟨h1, h2, h3, h4, h5, h6⟩ := h
  unfold actD
  split
  all_goals first
    | exact ⟨h1, h2, h3, h4, h5, h6⟩
    | exact ⟨least_bd h1 ⟨by omega, hx.2⟩, h2, h3, h4, h5, h6⟩
    | exact ⟨h1, least_bd h2 ⟨by omega, hx.2⟩, h3, h4, h5, h6⟩
    | exact ⟨h1, h2, least_bd h3 ⟨by omega, hx.2⟩, h4, h5, h6⟩
    | exact ⟨h1, h2, h3, least_bd h4 ⟨by omega, hx.2⟩, h5, h6⟩
    | exact ⟨h1, h2, h3, h4, least_bd h5 ⟨by omega, hy.2⟩, h6⟩
    | exact ⟨h1, h2, h3, h4, h5, by show -1 ≤ max d.mf z ∧ max d.mf z ≤ _; omega⟩
theorem argX_bd (a : Option (List UInt8)) : 0 ≤ argX a ∧ argX a ≤ 2147483647 := sec_bdB a 0 (by omega)
theorem argY_bd (a : Option (List UInt8)) : 0 ≤ argY a ∧ argY a ≤ 2147483647 := by
  cases a with
  | none => exact ⟨by decide, by decide⟩
  | some a => exact sec_bdD a 0 (by omega)
theorem argZ_bd (a : Option (List UInt8)) : 0 ≤ argZ a ∧ argZ a ≤ 2147483647 := sec_bdB a 2147483647 (by omega)
theorem nor_put {d : Dv} (h : Nor d) (nm : List UInt8) (arg : Option (List UInt8)) : Nor (putD d nm arg) := nor_act h _ (argX_bd _) (argY_bd _) (argZ_bd _)
theorem nor_elem {d : Dv} (h : Nor d) (e : List UInt8) : Nor (elemD d e) := by
  unfold elemD; split <;> exact nor_put h _ _
theorem nor_fold : ∀ (ls : List (List UInt8)) {d : Dv}, Nor d → Nor (ls.foldl elemD d) := by
  intro ls
  induction ls with
  | nil => intro d h; exact h
  | cons e r ih => intro d h; exact ih (nor_elem h e)
theorem nor_val {d : Dv} (h : Nor d) (v : List UInt8) : Nor (valD d v) := by
  unfold valD; split
  · exact ⟨h.ma, h.sa, h.ws, h.oe, h.ms, h.mf⟩
  · exact nor_fold _ h
theorem nor_vals : ∀ (vs : List (List UInt8)) {d : Dv}, Nor d → Nor (vs.foldl valD d) := by
  intro vs
  induction vs with
  | nil => intro d h; exact h
  | cons e r ih => intro d h; exact ih (nor_val h e)
theorem nor_parse (vs : List (List UInt8)) : Nor (parseD vs) := nor_vals vs nor_none

/-! ### Order does not matter -/
theorem least_comm (a b : Int) : leastD a b = leastD b a := by
  unfold leastD; split <;> split <;> omega
theorem least_assoc (a b c : Int) : leastD (leastD a b) c = leastD a (leastD b c) := by
  unfold leastD
  by_cases h1 : a = -1 <;> by_cases h2 : b = -1 <;> by_cases h3 : c = -1 <;> simp [h1, h2, h3]
  all_goals (repeat' split) <;> omega
theorem least_right (a b c : Int) : leastD (leastD a b) c = leastD (leastD a c) b := by
  rw [least_assoc, least_comm b c, ← least_assoc]
theorem max_right (a b c : Int) : max (max a b) c = max (max a c) b := by omega
theorem act_comm (d : Dv) (k j : Nat) (x y z u v w : Int) : actD (actD d k x y z) j u v w = actD (actD d j u v w) k x y z := by
  have hk : k = 0 ∨ k = 1 ∨ k = 2 ∨ k = 3 ∨ k = 4 ∨ k = 5 ∨ k = 6 ∨ k = 7 ∨ k = 8 ∨ k = 9 ∨ k = 10 ∨ k = 11 ∨ 12 ≤ k := by omega
  have hj : j = 0 ∨ j = 1 ∨ j = 2 ∨ j = 3 ∨ j = 4 ∨ j = 5 ∨ j = 6 ∨ j = 7 ∨ j = 8 ∨ j = 9 ∨ j = 10 ∨ j = 11 ∨ 12 ≤ j := by omega
  have big : ∀ (d : Dv) (k : Nat) (x y z : Int), 12 ≤ k → actD d k x y z = d := by
    intro d k x y z h
    obtain ⟨m, rfl⟩ : ∃ m, k = m + 12 := ⟨k - 12, by omega⟩
    rfl
  rcases hk with rfl | rfl | rfl | rfl | rfl | rfl | rfl | rfl | rfl | rfl | rfl | rfl | hk
  all_goals try (rw [big _ _ _ _ _ hk, big _ _ _ _ _ hk])
  all_goals rcases hj with rfl | rfl | rfl | rfl | rfl | rfl | rfl | rfl | rfl | rfl | rfl | rfl | hj
  all_goals try (rw [big _ _ _ _ _ hj, big _ _ _ _ _ hj])
  all_goals first
    | rfl
    | (simp only [actD, least_right _ x u]; done)
    | (simp only [actD, least_right _ y v]; done)
    | (simp only [actD, max_right _ z w]; done)
theorem elem_act (_ : Dv) (e : List UInt8) : ∃ k x y z, ∀ d : Dv, elemD d e = actD d k x y z := by
  unfold elemD putD
  cases cutE e with
  | none => exact ⟨_, _, _, _, fun d => rfl⟩
  | some p => exact ⟨_, _, _, _, fun d => rfl⟩
theorem elem_comm (d : Dv) (e f : List UInt8) : elemD (elemD d e) f = elemD (elemD d f) e := by
  obtain ⟨k, x, y, z, h⟩ := elem_act d e
  obtain ⟨j, u, v, w, g⟩ := elem_act d f
  rw [h, g, h, g]; exact act_comm _ _ _ _ _ _ _ _ _
theorem elem_ns (d : Dv) (e : List UInt8) : elemD { d with ns := true } e = { elemD d e with ns := true } := by
  obtain ⟨k, x, y, z, h⟩ := elem_act d e
  rw [h, h]; exact act_comm d 0 k 0 0 0 x y z
theorem fold_elem (e : List UInt8) : ∀ (ls : List (List UInt8)) (d : Dv), ls.foldl elemD (elemD d e) = elemD (ls.foldl elemD d) e := by
  intro ls
  induction ls with
  | nil => intro d; rfl
  | cons f r ih => intro d; rw [List.foldl_cons, List.foldl_cons, elem_comm, ih]
theorem fold_ns : ∀ (ls : List (List UInt8)) (d : Dv), ls.foldl elemD { d with ns := true } = { ls.foldl elemD d with ns := true } := by
  intro ls
  induction ls with
  | nil => intro d; rfl
  | cons f r ih => intro d; rw [List.foldl_cons, List.foldl_cons, elem_ns, ih]
theorem fold_fold (ls : List (List UInt8)) : ∀ (ms : List (List UInt8)) (d : Dv), ms.foldl elemD (ls.foldl elemD d) = ls.foldl elemD (ms.foldl elemD d) := by
  intro ms
  induction ms with
  | nil => intro d; rfl
  | cons f r ih => intro d; rw [List.foldl_cons, List.foldl_cons, ← fold_elem f ls d, ih]
theorem val_comm (d : Dv) (v u : List UInt8) : valD (valD d v) u = valD (valD d u) v := by
  unfold valD
  cases listO v <;> cases listO u
  · rfl
  · exact fold_ns _ _
  · exact (fold_ns _ _).symm
  · exact fold_fold _ _ _
theorem vals_one (v : List UInt8) : ∀ (vs : List (List UInt8)) (d : Dv), vs.foldl valD (valD d v) = valD (vs.foldl valD d) v := by
  intro vs
  induction vs with
  | nil => intro d; rfl
  | cons u r ih => intro d; rw [List.foldl_cons, List.foldl_cons, val_comm, ih]
theorem parse_snoc (vs : List (List UInt8)) (v : List UInt8) : parseD (vs ++ [v]) = valD (parseD vs) v := by
  unfold parseD; rw [List.foldl_append]; rfl
theorem parse_cons (v : List UInt8) (vs : List (List UInt8)) : parseD (v :: vs) = valD (parseD vs) v := by
  unfold parseD; rw [List.foldl_cons, vals_one]
theorem parse_reverse : ∀ vs : List (List UInt8), parseD vs.reverse = parseD vs := by
  intro vs
  induction vs with
  | nil => rfl
  | cons v r ih => rw [List.reverse_cons, parse_snoc, parse_cons, ih]

end Go.Proofs.YtieolalohindgaaGreatDoor

/- Pure: the arithmetic of clocks that drift within a bound: the ends of Elapsed, Hold and Wait as formulas, what they say about products, and the laws. -/
namespace Go.Proofs.YtieolalohindgaaGreatDoor

/-- A time within its limits; a drift within its limits. -/
def tk (n : Int) : Int := max 0 (min n 1099511627776)
def pm (n : Int) : Int := max 0 (min n 100000)
theorem tk_bd (n : Int) : 0 ≤ tk n ∧ tk n ≤ 1099511627776 := by unfold tk; omega
theorem pm_bd (n : Int) : 0 ≤ pm n ∧ pm n ≤ 100000 := by unfold pm; omega
def loE (n p : Int) : Int := if n = 0 then 0 else (n - 1) * 1000000 / (1000000 + p) + 1
def hiE (n p : Int) : Int := ((n + 1) * 1000000 + (1000000 - p) - 1) / (1000000 - p) - 1
def hoE (l p : Int) : Int := l * (1000000 - p) / 1000000
def waE (l p : Int) : Int := if l = 0 then 0 else ((l - 1) * (1000000 + p) + 999999) / 1000000 + 1

theorem div_lo (a b : Int) (h : 0 < b) : a / b * b ≤ a := Int.ediv_mul_le a (by omega)
theorem div_hi (a b : Int) (h : 0 < b) : a < a / b * b + b := by
  have := Int.lt_ediv_add_one_mul_self a h
  rw [Int.add_mul, Int.one_mul] at this
  exact this
/-- What loE says: the products. -/
theorem lo_spec (n p : Int) (hn : 0 < n) (hp : 0 ≤ p) : (loE n p - 1) * (1000000 + p) ≤ (n - 1) * 1000000 ∧ (n - 1) * 1000000 < loE n p * (1000000 + p) := by
  have e : loE n p = (n - 1) * 1000000 / (1000000 + p) + 1 := if_neg (by omega)
  have h1 := div_lo ((n - 1) * 1000000) (1000000 + p) (by omega)
  have h2 := div_hi ((n - 1) * 1000000) (1000000 + p) (by omega)
  rw [e, Int.add_sub_cancel, Int.add_mul, Int.one_mul]
  exact ⟨h1, h2⟩
theorem lo_zero (p : Int) : loE 0 p = 0 := rfl
theorem hi_spec (n p : Int) (hp : p ≤ 100000) : hiE n p * (1000000 - p) < (n + 1) * 1000000 ∧ (n + 1) * 1000000 ≤ (hiE n p + 1) * (1000000 - p) := by
  have h1 := div_lo ((n + 1) * 1000000 + (1000000 - p) - 1) (1000000 - p) (by omega)
  have h2 := div_hi ((n + 1) * 1000000 + (1000000 - p) - 1) (1000000 - p) (by omega)
  have e : hiE n p = ((n + 1) * 1000000 + (1000000 - p) - 1) / (1000000 - p) - 1 := rfl
  rw [e, Int.sub_add_cancel, Int.sub_mul, Int.one_mul]
  constructor <;> omega
theorem ho_spec (l p : Int) : hoE l p * 1000000 ≤ l * (1000000 - p) ∧ l * (1000000 - p) < (hoE l p + 1) * 1000000 := by
  unfold hoE; omega
theorem wa_spec (l p : Int) (hl : 0 < l) : (waE l p - 2) * 1000000 < (l - 1) * (1000000 + p) ∧ (l - 1) * (1000000 + p) ≤ (waE l p - 1) * 1000000 := by
  have e : waE l p = ((l - 1) * (1000000 + p) + 999999) / 1000000 + 1 := if_neg (by omega)
  rw [e]; omega
theorem wa_zero (p : Int) : waE 0 p = 0 := rfl
theorem mono_r {a b c : Int} (h : a ≤ b) (hc : 0 ≤ c) : a * c ≤ b * c := Int.mul_le_mul_of_nonneg_right h hc
theorem mono_l {a b c : Int} (h : a ≤ b) (hc : 0 ≤ c) : c * a ≤ c * b := Int.mul_le_mul_of_nonneg_left h hc
theorem lt_of_prod {a b c : Int} (h : a * c < b * c) (hc : 0 ≤ c) : a < b := Int.lt_of_mul_lt_mul_right h hc
theorem le_of_prod {a b c : Int} (h : a * c ≤ b * c) (hc : 0 < c) : a ≤ b := Int.le_of_mul_le_mul_right h hc

/-- A reading's products: 0 ≤ l (M - p) ≤ l M and l M ≤ l (M + p) ≤ 2 l M. -/
theorem prod_bd (l p : Int) (hl : 0 ≤ l) (h0 : 0 ≤ p) (h1 : p ≤ 100000) :
    0 ≤ l * p ∧ l * p ≤ l * 100000 ∧ l * (1000000 - p) = l * 1000000 - l * p ∧ l * (1000000 + p) = l * 1000000 + l * p := by
  have a := Int.mul_nonneg hl h0
  have b := mono_l h1 hl
  exact ⟨a, b, Int.mul_sub _ _ _, Int.mul_add _ _ _⟩

theorem lo_bd (n p : Int) (hn : 0 ≤ n) (h0 : 0 ≤ p) (h1 : p ≤ 100000) : 0 ≤ loE n p ∧ loE n p ≤ n := by
  by_cases h : n = 0
  · subst h; rw [lo_zero]; omega
  · obtain ⟨a, b⟩ := lo_spec n p (by omega) h0
    have c : 0 < loE n p := lt_of_prod (c := 1000000 + p) (by omega) (by omega)
    have q := prod_bd (loE n p - 1) p (by omega) h0 h1
    omega
theorem hi_bd (n p : Int) (hn : 0 ≤ n) (h0 : 0 ≤ p) (h1 : p ≤ 100000) : n ≤ hiE n p ∧ hiE n p * 9 < (n + 1) * 10 := by
  obtain ⟨a, b⟩ := hi_spec n p h1
  have c : 0 < hiE n p + 1 := lt_of_prod (c := 1000000 - p) (by omega) (by omega)
  have q := prod_bd (hiE n p) p (by omega) h0 h1
  have q' := prod_bd (hiE n p + 1) p (by omega) h0 h1
  omega
theorem ho_bd (l p : Int) (hl : 0 ≤ l) (h0 : 0 ≤ p) (h1 : p ≤ 100000) : 0 ≤ hoE l p ∧ hoE l p ≤ l := by
  obtain ⟨a, b⟩ := ho_spec l p
  have q := prod_bd l p hl h0 h1
  omega
theorem wa_bd (l p : Int) (hl : 0 ≤ l) (h0 : 0 ≤ p) (h1 : p ≤ 100000) : l ≤ waE l p ∧ waE l p * 10 ≤ l * 11 + 20 := by
  by_cases h : l = 0
  · subst h; rw [wa_zero]; omega
  · obtain ⟨a, b⟩ := wa_spec l p (by omega)
    have q := prod_bd (l - 1) p (by omega) h0 h1
    omega

/-- Possible, of the reference: whether a difference d is possible after t ticks. -/
def posB (d t p : Int) : Bool := decide (0 ≤ t ∧ (d - 1) * 1000000 < t * (1000000 + p) ∧ t * (1000000 - p) < (d + 1) * 1000000)
theorem pos_lo (n p : Int) (hn : 0 ≤ n) (h0 : 0 ≤ p) (h1 : p ≤ 100000) : posB n (loE n p) p = true ∧ posB n (loE n p - 1) p = false := by
  have bd := lo_bd n p hn h0 h1
  by_cases h : n = 0
  · subst h; rw [lo_zero]
    exact ⟨decide_eq_true (by omega), decide_eq_false (by omega)⟩
  · obtain ⟨a, b⟩ := lo_spec n p (by omega) h0
    have q := prod_bd (loE n p) p (by omega) h0 h1
    have c : 0 < loE n p := lt_of_prod (c := 1000000 + p) (by omega) (by omega)
    have q' := prod_bd (loE n p - 1) p (by omega) h0 h1
    exact ⟨decide_eq_true (by omega), decide_eq_false (by omega)⟩
theorem pos_hi (n p : Int) (hn : 0 ≤ n) (h0 : 0 ≤ p) (h1 : p ≤ 100000) : posB n (hiE n p) p = true ∧ posB n (hiE n p + 1) p = false := by
  have bd := hi_bd n p hn h0 h1
  obtain ⟨a, b⟩ := hi_spec n p h1
  have q := prod_bd (hiE n p) p (by omega) h0 h1
  have q' := prod_bd (hiE n p + 1) p (by omega) h0 h1
  exact ⟨decide_eq_true (by omega), decide_eq_false (by omega)⟩
theorem pos_ho (n p : Int) (hn : 0 < n) (h0 : 0 ≤ p) (h1 : p ≤ 100000) : posB (hoE n p - 1) n p = false ∧ posB (hoE n p) n p = true := by
  have bd := ho_bd n p (by omega) h0 h1
  obtain ⟨a, b⟩ := ho_spec n p
  have q := prod_bd n p (by omega) h0 h1
  exact ⟨decide_eq_false (by omega), decide_eq_true (by omega)⟩
theorem pos_wa (n p : Int) (hn : 0 < n) (h0 : 0 ≤ p) (h1 : p ≤ 100000) : posB (waE n p) (n - 1) p = false ∧ posB (waE n p - 1) (n - 1) p = true := by
  have bd := wa_bd n p (by omega) h0 h1
  obtain ⟨a, b⟩ := wa_spec n p (by omega)
  have q := prod_bd (n - 1) p (by omega) h0 h1
  exact ⟨decide_eq_false (by omega), decide_eq_true (by omega)⟩

/- What grows. -/
theorem lo_n (n m p : Int) (hn : 0 ≤ n) (hm : n ≤ m) (h0 : 0 ≤ p) (h1 : p ≤ 100000) : loE n p ≤ loE m p := by
  by_cases h : n = 0
  · subst h; rw [lo_zero]; exact (lo_bd m p hm h0 h1).1
  · obtain ⟨a, b⟩ := lo_spec n p (by omega) h0
    obtain ⟨c, d⟩ := lo_spec m p (by omega) h0
    have : loE n p - 1 < loE m p := lt_of_prod (c := 1000000 + p) (by omega) (by omega)
    omega
theorem lo_p (n p q : Int) (hn : 0 ≤ n) (h0 : 0 ≤ p) (h1 : p ≤ q) (h2 : q ≤ 100000) : loE n q ≤ loE n p := by
  by_cases h : n = 0
  · subst h; rw [lo_zero, lo_zero]; omega
  · obtain ⟨a, b⟩ := lo_spec n p (by omega) h0
    obtain ⟨c, d⟩ := lo_spec n q (by omega) (by omega)
    have e := mono_l (c := loE n p) (show 1000000 + p ≤ 1000000 + q by omega) (lo_bd n p hn h0 (by omega)).1
    have : loE n q - 1 < loE n p := lt_of_prod (c := 1000000 + q) (by omega) (by omega)
    omega
theorem hi_n (n m p : Int) (hm : n ≤ m) (h1 : p ≤ 100000) : hiE n p ≤ hiE m p := by
  obtain ⟨a, b⟩ := hi_spec n p h1
  obtain ⟨c, d⟩ := hi_spec m p h1
  have : hiE n p < hiE m p + 1 := lt_of_prod (c := 1000000 - p) (by omega) (by omega)
  omega
theorem hi_p (n p q : Int) (hn : 0 ≤ n) (h0 : 0 ≤ p) (h1 : p ≤ q) (h2 : q ≤ 100000) : hiE n p ≤ hiE n q := by
  obtain ⟨a, b⟩ := hi_spec n p (by omega)
  obtain ⟨c, d⟩ := hi_spec n q h2
  have e := mono_l (c := hiE n p) (show 1000000 - q ≤ 1000000 - p by omega) (by have := hi_bd n p hn h0 (by omega); omega)
  have : hiE n p < hiE n q + 1 := lt_of_prod (c := 1000000 - q) (by omega) (by omega)
  omega
theorem ho_l (l m p : Int) (hm : l ≤ m) (h1 : p ≤ 100000) : hoE l p ≤ hoE m p := by
  have := mono_r hm (show 0 ≤ 1000000 - p by omega)
  unfold hoE; omega
theorem ho_p (l p q : Int) (hl : 0 ≤ l) (h1 : p ≤ q) : hoE l q ≤ hoE l p := by
  have := mono_l (show 1000000 - q ≤ 1000000 - p by omega) hl
  unfold hoE; omega
theorem wa_l (l m p : Int) (hl : 0 ≤ l) (hm : l ≤ m) (h0 : 0 ≤ p) (h1 : p ≤ 100000) : waE l p ≤ waE m p := by
  by_cases h : l = 0
  · subst h; rw [wa_zero]; have := wa_bd m p hm h0 h1; omega
  · obtain ⟨a, b⟩ := wa_spec l p (by omega)
    obtain ⟨c, d⟩ := wa_spec m p (by omega)
    have := mono_r (show l - 1 ≤ m - 1 by omega) (show 0 ≤ 1000000 + p by omega)
    omega
theorem wa_p (l p q : Int) (hl : 0 ≤ l) (h1 : p ≤ q) : waE l p ≤ waE l q := by
  by_cases h : l = 0
  · subst h; rw [wa_zero, wa_zero]; omega
  · obtain ⟨a, b⟩ := wa_spec l p (by omega)
    obtain ⟨c, d⟩ := wa_spec l q (by omega)
    have := mono_l (c := l - 1) (show 1000000 + p ≤ 1000000 + q by omega) (by omega)
    omega

/- A clock's reading, with the rate N / 1024. -/
/-- The difference of two readings: floor(to N / 1024) - floor(from N / 1024). -/
theorem diff_bd (f t N d : Int) (h : d = t * N / 1024 - f * N / 1024) : (d - 1) * 1024 < (t - f) * N ∧ (t - f) * N < (d + 1) * 1024 := by
  rw [Int.sub_mul t f N]; omega
/-- A rate within the bound. -/
theorem rate_prod (D N p : Int) (hD : 0 ≤ D) (a : N * 1000000 ≤ 1024 * (1000000 + p)) (b : 1024 * (1000000 - p) ≤ N * 1000000) :
    D * N * 1000000 ≤ D * (1000000 + p) * 1024 ∧ D * (1000000 - p) * 1024 ≤ D * N * 1000000 := by
  have x := mono_l a hD
  have y := mono_l b hD
  rw [Int.mul_left_comm D 1024, Int.mul_comm 1024] at x y
  rw [← Int.mul_assoc D N] at x y
  exact ⟨x, y⟩
theorem contains_pure (f t N d p : Int) (hft : f ≤ t) (hd : 0 ≤ d) (h0 : 0 ≤ p) (h1 : p ≤ 100000) (h : d = t * N / 1024 - f * N / 1024)
    (a : N * 1000000 ≤ 1024 * (1000000 + p)) (b : 1024 * (1000000 - p) ≤ N * 1000000) : loE d p ≤ t - f ∧ t - f ≤ hiE d p := by
  obtain ⟨u, v⟩ := diff_bd f t N d h
  obtain ⟨x, y⟩ := rate_prod (t - f) N p (by omega) a b
  constructor
  · by_cases hz : d = 0
    · rw [hz, lo_zero]; omega
    · obtain ⟨q, r⟩ := lo_spec d p (by omega) h0
      have : loE d p - 1 < t - f := lt_of_prod (c := 1000000 + p) (by omega) (by omega)
      omega
  · obtain ⟨q, r⟩ := hi_spec d p h1
    have : t - f < hiE d p + 1 := lt_of_prod (c := 1000000 - p) (by omega) (by omega)
    omega
theorem leases_pure (s h g w N K d e l p : Int) (hsh : s ≤ h) (hgw : g ≤ w) (hsg : s ≤ g) (hl : 0 ≤ l) (h0 : 0 ≤ p) (h1 : p ≤ 100000) (hd0 : 0 ≤ d) (hd : d = h * N / 1024 - s * N / 1024) (he : e = w * K / 1024 - g * K / 1024)
    (a : N * 1000000 ≤ 1024 * (1000000 + p)) (b : 1024 * (1000000 - p) ≤ N * 1000000) (a' : K * 1000000 ≤ 1024 * (1000000 + p)) (b' : 1024 * (1000000 - p) ≤ K * 1000000)
    (hold : d < hoE l p) (wait : waE l p ≤ e) : h < w := by
  obtain ⟨u, v⟩ := diff_bd s h N d hd
  obtain ⟨u', v'⟩ := diff_bd g w K e he
  obtain ⟨x, y⟩ := rate_prod (h - s) N p (by omega) a b
  obtain ⟨x', y'⟩ := rate_prod (w - g) K p (by omega) a' b'
  obtain ⟨q, r⟩ := ho_spec l p
  have hl0 : 0 < l := by
    by_cases hz : l = 0
    · subst hz; unfold hoE at hold; omega
    · omega
  obtain ⟨q', r'⟩ := wa_spec l p hl0
  have t1 : h - s < l := lt_of_prod (c := 1000000 - p) (by omega) (by omega)
  have t2 : l - 1 < w - g := lt_of_prod (c := 1000000 + p) (by omega) (by omega)
  omega
end Go.Proofs.YtieolalohindgaaGreatDoor

/- Pure: the bounds of an age: what At says of times, a reading and a drift; for how many readings a response stays fresh. -/
namespace Go.Proofs.YtieolalohindgaaGreatDoor

/-- What an Age field adds to the upper bound. -/
def addA (a : Int) : Int := if a < 0 then 0 else (min a 2147483647 + 1) * 1000
theorem addA_bd (a : Int) : 0 ≤ addA a ∧ addA a ≤ 2147483648000 := by unfold addA; split <;> omega
/-- The order of the clipped readings. -/
def okA (s r n : Int) : Bool := decide (tk s ≤ tk r ∧ tk r ≤ tk n)
def lowA (r n p : Int) : Int := loE (tk n - tk r) (pm p)
def topA (s a n p : Int) : Int := hiE (tk n - tk s) (pm p) + addA a
theorem top_bd {s r a n p : Int} (h : okA s r n = true) : 0 ≤ lowA r n p ∧ lowA r n p ≤ 1099511627776 ∧ 0 ≤ topA s a n p ∧ topA s a n p ≤ 4398046511104 := by
  have h := of_decide_eq_true h
  have b1 := tk_bd s
  have b2 := tk_bd r
  have b3 := tk_bd n
  have b4 := pm_bd p
  have l := lo_bd (tk n - tk r) (pm p) (by omega) b4.1 b4.2
  have u := hi_bd (tk n - tk s) (pm p) (by omega) b4.1 b4.2
  have c := addA_bd a
  unfold lowA topA
  omega
theorem low_top {s r a n p : Int} (h : okA s r n = true) : lowA r n p ≤ topA s a n p := by
  have h := of_decide_eq_true h
  have b1 := tk_bd s
  have b2 := tk_bd r
  have b3 := tk_bd n
  have b4 := pm_bd p
  have l := lo_bd (tk n - tk r) (pm p) (by omega) b4.1 b4.2
  have u := hi_bd (tk n - tk s) (pm p) (by omega) b4.1 b4.2
  have c := addA_bd a
  unfold lowA topA
  omega
/-- Fresh and Stale. -/
def frA (s r a n p l : Int) : Bool := okA s r n && decide (topA s a n p < l)
def stA (s r n p l : Int) : Bool := okA s r n && decide (l ≤ lowA r n p)
theorem tk_tk (n : Int) : tk (tk n) = tk n := by unfold tk; omega
theorem tk_add {n : Int} {k : Nat} (h : (k : Int) < 1099511627777 - tk n) : tk (tk n + k) = tk n + k := by
  have := tk_bd n
  unfold tk at *; omega
/-- What is fresh at a later reading is fresh at an earlier one, from a reading without an error on. -/
theorem fr_anti {s r a n p l : Int} {i j : Nat} (ok : okA s r n = true) (hij : i ≤ j) (hj : (j : Int) < 1099511627777 - tk n) (h : frA s r a (tk n + j) p l = true) : frA s r a (tk n + i) p l = true := by
  have ok := of_decide_eq_true ok
  have b1 := tk_bd s
  have b4 := pm_bd p
  unfold frA at h ⊢
  rw [Bool.and_eq_true] at h ⊢
  obtain ⟨h1, h2⟩ := h
  have h2 := of_decide_eq_true h2
  refine ⟨decide_eq_true (by rw [tk_add (by omega)]; omega), decide_eq_true ?_⟩
  unfold topA at h2 ⊢
  rw [tk_add hj] at h2
  rw [tk_add (by omega)]
  have := hi_n (tk n + i - tk s) (tk n + j - tk s) (pm p) (by omega) b4.2
  omega
/-- N counts the places below M at which f holds: these are the first ones. -/
def CountIs (f : Nat → Bool) (M N : Nat) : Prop := N ≤ M ∧ (∀ k, k < N → f k = true) ∧ (∀ k, N ≤ k → k < M → f k = false)
theorem CountIs.uniq {f : Nat → Bool} {M N K : Nat} (h : CountIs f M N) (g : CountIs f M K) : N = K := by
  obtain ⟨h1, h2, h3⟩ := h
  obtain ⟨g1, g2, g3⟩ := g
  rcases Nat.lt_trichotomy N K with q | q | q
  · have := g2 N q; rw [h3 N (Nat.le_refl _) (by omega)] at this; cases this
  · exact q
  · have := h2 K q; rw [g3 K (Nat.le_refl _) (by omega)] at this; cases this
theorem countIs_countP (f : Nat → Bool) (M : Nat) (h : ∀ a b, a ≤ b → b < M → f b = true → f a = true) : CountIs f M ((List.range M).countP f) := by
  induction M with
  | zero => exact ⟨Nat.le_refl _, fun k hk => by simp at hk, fun k _ hk => absurd hk (Nat.not_lt_zero _)⟩
  | succ M ih =>
    obtain ⟨i1, i2, i3⟩ := ih fun a b hab hb => h a b hab (by omega)
    rw [List.range_succ, List.countP_append]
    generalize (List.range M).countP f = c at *
    cases hM : f M with
    | true =>
      have all : ∀ k, k < M → f k = true := fun k hk => h k M (by omega) (by omega) hM
      have hc : c = M := by
        rcases Nat.lt_or_ge c M with q | q
        · have := all c q; rw [i3 c (Nat.le_refl _) q] at this; cases this
        · omega
      subst hc
      simp [hM]
      exact ⟨by omega, fun k hk => if q : k < c then all k q else by rw [show k = c by omega]; exact hM, fun k h1 h2 => by omega⟩
    | false =>
      simp [hM]
      exact ⟨by omega, i2, fun k h1 h2 => if q : k < M then i3 k h1 q else by rw [show k = M by omega]; exact hM⟩
/-- Left. -/
def LeftIs (s r a n p l : Int) (N : Nat) : Prop := CountIs (fun k => frA s r a (tk n + k) p l) (1099511627777 - tk n).toNat N
/-- A chain's step: the next hop's true age is within its bounds, its statement too. -/
theorem div_bd (x : Int) : x < (x / 1000 + 1) * 1000 := by omega
end Go.Proofs.YtieolalohindgaaGreatDoor
