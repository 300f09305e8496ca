/- Plain mathematics of chapter 11: what an element of a Cache-Control list says, what fields say, the text of directives, and which are more careful. -/
import Derived.Test.YtnjjjfbklgdgpaaDoorList
import Derived.Test.YtnjjjfbklgdgpaaDoorCut
import Derived.Test.YtnjjjfbklgdgpaaDoorFSpec
import Derived.Lib.ItoaNum
import Derived.Lib.ItoaMem
namespace Go.Proofs.YtnjjjfbklgdgpaaDoor

structure Dv where
  ns : Bool
  nc : Bool
  pr : Bool
  pu : Bool
  mr : Bool
  oc : Bool
  ma : Int
  sa : Int
  ws : Int
  oe : Int
  ms : Int
  mf : Int
deriving DecidableEq
def decT (n : Int) : List UInt8 := Lib.decDigits n.toNat
def noneD : Dv := ⟨false, false, false, false, false, false, -1, -1, -1, -1, -1, -1⟩
def nNS : List UInt8 := [110, 111, 45, 115, 116, 111, 114, 101]
def nNC : List UInt8 := [110, 111, 45, 99, 97, 99, 104, 101]
def nPR : List UInt8 := [112, 114, 105, 118, 97, 116, 101]
def nPU : List UInt8 := [112, 117, 98, 108, 105, 99]
def nMR : List UInt8 := [109, 117, 115, 116, 45, 114, 101, 118, 97, 108, 105, 100, 97, 116, 101]
def nPX : List UInt8 := [112, 114, 111, 120, 121, 45, 114, 101, 118, 97, 108, 105, 100, 97, 116, 101]
def nOC : List UInt8 := [111, 110, 108, 121, 45, 105, 102, 45, 99, 97, 99, 104, 101, 100]
def nMA : List UInt8 := [109, 97, 120, 45, 97, 103, 101]
def nSA : List UInt8 := [115, 45, 109, 97, 120, 97, 103, 101]
def nWS : List UInt8 := [115, 116, 97, 108, 101, 45, 119, 104, 105, 108, 101, 45, 114, 101, 118, 97, 108, 105, 100, 97, 116, 101]
def nOE : List UInt8 := [115, 116, 97, 108, 101, 45, 105, 102, 45, 101, 114, 114, 111, 114]
def nMS : List UInt8 := [109, 97, 120, 45, 115, 116, 97, 108, 101]
def nMF : List UInt8 := [109, 105, 110, 45, 102, 114, 101, 115, 104]
def nCC : List UInt8 := [99, 97, 99, 104, 101, 45, 99, 111, 110, 116, 114, 111, 108]
def leastD (a b : Int) : Int := if a = -1 then b else if b = -1 then a else min a b
/-- The number of decimal digits, 2147483647 at most; none where a byte is no digit. -/
def numA : List UInt8 → Int → Option Int
  | [], n => some n
  | c :: r, n => if 48 ≤ c.toNat ∧ c.toNat ≤ 57 then numA r (min (10 * n + ((c.toNat : Int) - 48)) 2147483647) else none
def argL (a : List UInt8) : List UInt8 := if a.headD 0 = 34 then (unqO a).getD [] else a
def secL (a : List UInt8) : Option Int := if argL a = [] then none else numA (argL a) 0
def kindL (nm : List UInt8) : Nat :=
  if nm = nNS then 0 else if nm = nNC then 1 else if nm = nPR then 2 else if nm = nPU then 3 else if nm = nMR then 4 else if nm = nPX then 4 else if nm = nOC then 5
  else if nm = nMA then 6 else if nm = nSA then 7 else if nm = nWS then 8 else if nm = nOE then 9 else if nm = nMS then 10 else if nm = nMF then 11 else 12
def actD (d : Dv) (k : Nat) (x y z : Int) : Dv :=
  match k with
  | 0 => { d with ns := true }
  | 1 => { d with nc := true }
  | 2 => { d with pr := true }
  | 3 => { d with pu := true }
  | 4 => { d with mr := true }
  | 5 => { d with oc := true }
  | 6 => { d with ma := leastD d.ma x }
  | 7 => { d with sa := leastD d.sa x }
  | 8 => { d with ws := leastD d.ws x }
  | 9 => { d with oe := leastD d.oe x }
  | 10 => { d with ms := leastD d.ms y }
  | 11 => { d with mf := max d.mf z }
  | _ => d
/-- The number of an argument: for most directives, for max-stale, for min-fresh. -/
def argX (arg : Option (List UInt8)) : Int := (arg.bind secL).getD 0
def argY (arg : Option (List UInt8)) : Int := match arg with | none => 2147483647 | some a => (secL a).getD 0
def argZ (arg : Option (List UInt8)) : Int := (arg.bind secL).getD 2147483647
def putD (d : Dv) (nm : List UInt8) (arg : Option (List UInt8)) : Dv := actD d (kindL nm) (argX arg) (argY arg) (argZ arg)
def elemD (d : Dv) (e : List UInt8) : Dv := match cutE e with
  | none => putD d (lowS e) none
  | some (n, a) => putD d (lowS n) (some a)
def valD (d : Dv) (v : List UInt8) : Dv := match listO v with
  | none => { d with ns := true }
  | some ls => ls.foldl elemD d
def parseD (vs : List (List UInt8)) : Dv := vs.foldl valD noneD
def normT (n : Int) : Int := min (max n (-1)) 2147483647
def normD (d : Dv) : Dv := { d with ma := normT d.ma, sa := normT d.sa, ws := normT d.ws, oe := normT d.oe, ms := normT d.ms, mf := normT d.mf }
def mergeD (x y : Dv) : Dv :=
  let a := normD x
  let b := normD y
  ⟨a.ns || b.ns, a.nc || b.nc, a.pr || b.pr, a.pu && b.pu, a.mr || b.mr, a.oc || b.oc, leastD a.ma b.ma, leastD a.sa b.sa, min a.ws b.ws, min a.oe b.oe, min a.ms b.ms, max a.mf b.mf⟩
def timeL (n : List UInt8) (s : Int) : List UInt8 := if n = nMS ∧ s = 2147483647 then n else n ++ 61 :: decT s
def flagsD (d : Dv) : List (List UInt8 × Bool) := [(nNS, d.ns), (nNC, d.nc), (nPR, d.pr), (nPU, d.pu), (nMR, d.mr), (nOC, d.oc)]
def timesD (d : Dv) : List (List UInt8 × Int) := [(nMA, d.ma), (nSA, d.sa), (nWS, d.ws), (nOE, d.oe), (nMS, d.ms), (nMF, d.mf)]
def flagI (l : List (List UInt8 × Bool)) : List (List UInt8) := (l.filter (·.2)).map (·.1)
def timeI (l : List (List UInt8 × Int)) : List (List UInt8) := (l.filter (fun p => decide (p.2 ≠ -1))).map fun p => timeL p.1 p.2
def itemsD (d : Dv) : List (List UInt8) := flagI (flagsD d) ++ timeI (timesD d)
def fmtD (d : Dv) : List UInt8 := getL (itemsD (normD d))

/-- All times are between -1 and 2147483647. -/
structure Nor (d : Dv) : Prop where
  ma : -1 ≤ d.ma ∧ d.ma ≤ 2147483647
  sa : -1 ≤ d.sa ∧ d.sa ≤ 2147483647
  ws : -1 ≤ d.ws ∧ d.ws ≤ 2147483647
  oe : -1 ≤ d.oe ∧ d.oe ≤ 2147483647
  ms : -1 ≤ d.ms ∧ d.ms ≤ 2147483647
  mf : -1 ≤ d.mf ∧ d.mf ≤ 2147483647
theorem nor_none : Nor noneD := by constructor <;> decide
theorem normT_bd (n : Int) : -1 ≤ normT n ∧ normT n ≤ 2147483647 := by unfold normT; omega
theorem nor_norm (d : Dv) : Nor (normD d) := ⟨normT_bd _, normT_bd _, normT_bd _, normT_bd _, normT_bd _, normT_bd _⟩
theorem normT_id {n : Int} (h : -1 ≤ n ∧ n ≤ 2147483647) : normT n = n := by unfold normT; omega
theorem norm_id {d : Dv} (h : Nor d) : normD d = d := by
  unfold normD
  rw [normT_id h.ma, normT_id h.sa, normT_id h.ws, normT_id h.oe, normT_id h.ms, normT_id h.mf]
theorem numA_bd : ∀ (l : List UInt8) (n m : Int), 0 ≤ n → n ≤ 2147483647 → numA l n = some m → 0 ≤ m ∧ m ≤ 2147483647 := by
  intro l
  induction l with
  | nil => intro n m h1 h2 h; simp only [numA, Option.some.injEq] at h; subst h; exact ⟨h1, h2⟩
  | cons c r ih =>
    intro n m h1 h2 h
    unfold numA at h
    split at h
    · exact ih _ _ (by omega) (by omega) h
    · cases h
theorem sec_bd {a : List UInt8} {n : Int} (h : secL a = some n) : 0 ≤ n ∧ n ≤ 2147483647 := by
  unfold secL at h
  split at h
  · cases h
  · exact numA_bd _ _ _ (by omega) (by omega) h
theorem sec_bdD (a : List UInt8) (c : Int) (hc : 0 ≤ c ∧ c ≤ 2147483647) : 0 ≤ (secL a).getD c ∧ (secL a).getD c ≤ 2147483647 := by
  cases h : secL a with
  | none => simpa using hc
  | some n => simpa using sec_bd h
theorem sec_bdB (a : Option (List UInt8)) (c : Int) (hc : 0 ≤ c ∧ c ≤ 2147483647) : 0 ≤ (a.bind secL).getD c ∧ (a.bind secL).getD c ≤ 2147483647 := by
  cases a with
  | none => simpa using hc
  | some a => exact sec_bdD a c hc
theorem least_bd {a b : Int} (ha : -1 ≤ a ∧ a ≤ 2147483647) (hb : -1 ≤ b ∧ b ≤ 2147483647) : -1 ≤ leastD a b ∧ leastD a b ≤ 2147483647 := by
  unfold leastD; split <;> (try split) <;> omega
theorem nor_act {d : Dv} (h : Nor d) (k : Nat) {x y z : Int} (hx : 0 ≤ x ∧ x ≤ 2147483647) (hy : 0 ≤ y ∧ y ≤ 2147483647) (hz : 0 ≤ z ∧ z ≤ 2147483647) : Nor (actD d k x y z) := by
  obtain ⟨h1, h2, h3, h4, h5, h6⟩ := h
  unfold actD
  split
  all_goals first
    | exact ⟨h1, h2, h3, h4, h5, h6⟩
    | exact ⟨least_bd h1 ⟨by omega, hx.2⟩, h2, h3, h4, h5, h6⟩
    | exact ⟨h1, least_bd h2 ⟨by omega, hx.2⟩, h3, h4, h5, h6⟩
    | exact ⟨h1, h2, least_bd h3 ⟨by omega, hx.2⟩, h4, h5, h6⟩
    | exact ⟨h1, h2, h3, least_bd h4 ⟨by omega, hx.2⟩, h5, h6⟩
    | exact ⟨h1, h2, h3, h4, least_bd h5 ⟨by omega, hy.2⟩, h6⟩
    | exact ⟨h1, h2, h3, h4, h5, by show -1 ≤ max d.mf z ∧ max d.mf z ≤ _; omega⟩
theorem argX_bd (a : Option (List UInt8)) : 0 ≤ argX a ∧ argX a ≤ 2147483647 := sec_bdB a 0 (by omega)
theorem argY_bd (a : Option (List UInt8)) : 0 ≤ argY a ∧ argY a ≤ 2147483647 := by
  cases a with
  | none => exact ⟨by decide, by decide⟩
  | some a => exact sec_bdD a 0 (by omega)
theorem argZ_bd (a : Option (List UInt8)) : 0 ≤ argZ a ∧ argZ a ≤ 2147483647 := sec_bdB a 2147483647 (by omega)
theorem nor_put {d : Dv} (h : Nor d) (nm : List UInt8) (arg : Option (List UInt8)) : Nor (putD d nm arg) := nor_act h _ (argX_bd _) (argY_bd _) (argZ_bd _)
theorem nor_elem {d : Dv} (h : Nor d) (e : List UInt8) : Nor (elemD d e) := by
  unfold elemD; split <;> exact nor_put h _ _
theorem nor_fold : ∀ (ls : List (List UInt8)) {d : Dv}, Nor d → Nor (ls.foldl elemD d) := by
  intro ls
  induction ls with
  | nil => intro d h; exact h
  | cons e r ih => intro d h; exact ih (nor_elem h e)
theorem nor_val {d : Dv} (h : Nor d) (v : List UInt8) : Nor (valD d v) := by
  unfold valD; split
  · exact ⟨h.ma, h.sa, h.ws, h.oe, h.ms, h.mf⟩
  · exact nor_fold _ h
theorem nor_vals : ∀ (vs : List (List UInt8)) {d : Dv}, Nor d → Nor (vs.foldl valD d) := by
  intro vs
  induction vs with
  | nil => intro d h; exact h
  | cons e r ih => intro d h; exact ih (nor_val h e)
theorem nor_parse (vs : List (List UInt8)) : Nor (parseD vs) := nor_vals vs nor_none

/-! ### Order does not matter -/
theorem least_comm (a b : Int) : leastD a b = leastD b a := by
  unfold leastD; split <;> split <;> omega
theorem least_assoc (a b c : Int) : leastD (leastD a b) c = leastD a (leastD b c) := by
  unfold leastD
  by_cases h1 : a = -1 <;> by_cases h2 : b = -1 <;> by_cases h3 : c = -1 <;> simp [h1, h2, h3]
  all_goals (repeat' split) <;> omega
theorem least_right (a b c : Int) : leastD (leastD a b) c = leastD (leastD a c) b := by
  rw [least_assoc, least_comm b c, ← least_assoc]
theorem max_right (a b c : Int) : max (max a b) c = max (max a c) b := by omega
theorem act_comm (d : Dv) (k j : Nat) (x y z u v w : Int) : actD (actD d k x y z) j u v w = actD (actD d j u v w) k x y z := by
  have hk : k = 0 ∨ k = 1 ∨ k = 2 ∨ k = 3 ∨ k = 4 ∨ k = 5 ∨ k = 6 ∨ k = 7 ∨ k = 8 ∨ k = 9 ∨ k = 10 ∨ k = 11 ∨ 12 ≤ k := by omega
  have hj : j = 0 ∨ j = 1 ∨ j = 2 ∨ j = 3 ∨ j = 4 ∨ j = 5 ∨ j = 6 ∨ j = 7 ∨ j = 8 ∨ j = 9 ∨ j = 10 ∨ j = 11 ∨ 12 ≤ j := by omega
  have big : ∀ (d : Dv) (k : Nat) (x y z : Int), 12 ≤ k → actD d k x y z = d := by
    intro d k x y z h
    obtain ⟨m, rfl⟩ : ∃ m, k = m + 12 := ⟨k - 12, by omega⟩
    rfl
  rcases hk with rfl | rfl | rfl | rfl | rfl | rfl | rfl | rfl | rfl | rfl | rfl | rfl | hk
  all_goals try (rw [big _ _ _ _ _ hk, big _ _ _ _ _ hk])
  all_goals rcases hj with rfl | rfl | rfl | rfl | rfl | rfl | rfl | rfl | rfl | rfl | rfl | rfl | hj
  all_goals try (rw [big _ _ _ _ _ hj, big _ _ _ _ _ hj])
  all_goals first
    | rfl
    | (simp only [actD, least_right _ x u]; done)
    | (simp only [actD, least_right _ y v]; done)
    | (simp only [actD, max_right _ z w]; done)
theorem elem_act (d : Dv) (e : List UInt8) : ∃ k x y z, ∀ d : Dv, elemD d e = actD d k x y z := by
  unfold elemD putD
  cases cutE e with
  | none => exact ⟨_, _, _, _, fun d => rfl⟩
  | some p => exact ⟨_, _, _, _, fun d => rfl⟩
theorem elem_comm (d : Dv) (e f : List UInt8) : elemD (elemD d e) f = elemD (elemD d f) e := by
  obtain ⟨k, x, y, z, h⟩ := elem_act d e
  obtain ⟨j, u, v, w, g⟩ := elem_act d f
  rw [h, g, h, g]; exact act_comm _ _ _ _ _ _ _ _ _
theorem elem_ns (d : Dv) (e : List UInt8) : elemD { d with ns := true } e = { elemD d e with ns := true } := by
  obtain ⟨k, x, y, z, h⟩ := elem_act d e
  rw [h, h]; exact act_comm d 0 k 0 0 0 x y z
theorem fold_elem (e : List UInt8) : ∀ (ls : List (List UInt8)) (d : Dv), ls.foldl elemD (elemD d e) = elemD (ls.foldl elemD d) e := by
  intro ls
  induction ls with
  | nil => intro d; rfl
  | cons f r ih => intro d; rw [List.foldl_cons, List.foldl_cons, elem_comm, ih]
theorem fold_ns : ∀ (ls : List (List UInt8)) (d : Dv), ls.foldl elemD { d with ns := true } = { ls.foldl elemD d with ns := true } := by
  intro ls
  induction ls with
  | nil => intro d; rfl
  | cons f r ih => intro d; rw [List.foldl_cons, List.foldl_cons, elem_ns, ih]
theorem fold_fold (ls : List (List UInt8)) : ∀ (ms : List (List UInt8)) (d : Dv), ms.foldl elemD (ls.foldl elemD d) = ls.foldl elemD (ms.foldl elemD d) := by
  intro ms
  induction ms with
  | nil => intro d; rfl
  | cons f r ih => intro d; rw [List.foldl_cons, List.foldl_cons, ← fold_elem f ls d, ih]
theorem val_comm (d : Dv) (v u : List UInt8) : valD (valD d v) u = valD (valD d u) v := by
  unfold valD
  cases listO v <;> cases listO u
  · rfl
  · exact fold_ns _ _
  · exact (fold_ns _ _).symm
  · exact fold_fold _ _ _
theorem vals_one (v : List UInt8) : ∀ (vs : List (List UInt8)) (d : Dv), vs.foldl valD (valD d v) = valD (vs.foldl valD d) v := by
  intro vs
  induction vs with
  | nil => intro d; rfl
  | cons u r ih => intro d; rw [List.foldl_cons, List.foldl_cons, val_comm, ih]
theorem parse_snoc (vs : List (List UInt8)) (v : List UInt8) : parseD (vs ++ [v]) = valD (parseD vs) v := by
  unfold parseD; rw [List.foldl_append]; rfl
theorem parse_cons (v : List UInt8) (vs : List (List UInt8)) : parseD (v :: vs) = valD (parseD vs) v := by
  unfold parseD; rw [List.foldl_cons, vals_one]
theorem parse_reverse : ∀ vs : List (List UInt8), parseD vs.reverse = parseD vs := by
  intro vs
  induction vs with
  | nil => rfl
  | cons v r ih => rw [List.reverse_cons, parse_snoc, parse_cons, ih]

end Go.Proofs.YtnjjjfbklgdgpaaDoor
