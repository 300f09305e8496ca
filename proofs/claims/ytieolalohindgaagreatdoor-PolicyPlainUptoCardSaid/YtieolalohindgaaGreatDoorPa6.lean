import Derived.Test.YtieolalohindgaaGreatDoorPa3
import Derived.Test.YtieolalohindgaaGreatDoorPa4
import Derived.Test.YtieolalohindgaaGreatDoorPa5
/- Plain mathematics: the text of a list of one. -/
namespace Go.Proofs.YtieolalohindgaaGreatDoor

/-- The text of a list of one, and whether it is one. -/
def oneL : List (List UInt8) → List UInt8 × Bool
  | [v] => (v, true)
  | _ => ([], false)
theorem oneL_len {l : List (List UInt8)} {M : Nat} (h : ∀ v ∈ l, v.length ≤ M) : (oneL l).1.length ≤ M := by
  match l with
  | [] => exact Nat.zero_le _
  | [v] => exact h v (List.mem_singleton.mpr rfl)
  | _ :: _ :: _ => exact Nat.zero_le _
end Go.Proofs.YtieolalohindgaaGreatDoor

/- Plain mathematics of chapter 14: the lifetime of a response, and what it may be served for longer. -/
namespace Go.Proofs.YtieolalohindgaaGreatDoor

def nDA : List UInt8 := [100, 97, 116, 101]
def nEX : List UInt8 := [101, 120, 112, 105, 114, 101, 115]
def nLM : List UInt8 := [108, 97, 115, 116, 45, 109, 111, 100, 105, 102, 105, 101, 100]
def hasF (ps : Flds) (n : List UInt8) : Bool := decide (0 < (allL ps n).length)
/-- The date of a list of one text, or none. -/
def OneIs : List (List UInt8) → Option Nat → Prop
  | [v], d => DateIs v d
  | _, d => d = none
theorem oneIs_ex (l : List (List UInt8)) : ∃ d, OneIs l d := by
  match l with
  | [] => exact ⟨none, rfl⟩
  | [v] => exact date_ex v
  | _ :: _ :: _ => exact ⟨none, rfl⟩
theorem oneIs_len {l : List (List UInt8)} {d : Option Nat} (h : OneIs l d) (hl : l.length ≠ 1) : d = none := by
  match l with
  | [] => exact h
  | [v] => simp at hl
  | _ :: _ :: _ => exact h
theorem oneIs_one {l : List (List UInt8)} {d : Option Nat} (h : OneIs l d) (hl : l.length = 1) : ∃ v, l = [v] ∧ DateIs v d := by
  match l with
  | [] => simp at hl
  | [v] => exact ⟨v, rfl, h⟩
  | _ :: _ :: _ => simp at hl
theorem OneIs.uniq {l : List (List UInt8)} {d e : Option Nat} (h : OneIs l d) (g : OneIs l e) : d = e := by
  match l with
  | [] => exact h.trans g.symm
  | [v] => exact DateIs.uniq h g
  | _ :: _ :: _ => exact h.trans g.symm
theorem oneIs_le {l : List (List UInt8)} {k : Nat} (h : OneIs l (some k)) : k ≤ 253402300799 := by
  match l with
  | [] => cases h
  | [v] => exact h.1
  | _ :: _ :: _ => cases h
theorem oneIs_val {l : List (List UInt8)} {d : Option Nat} (h : OneIs l d) : DateIs (oneL l).1 d := by
  match l with
  | [] => obtain rfl : d = none := h; exact date_nil
  | [v] => exact h
  | _ :: _ :: _ => obtain rfl : d = none := h; exact date_nil
def DatF (ps : Flds) (n : List UInt8) (d : Option Nat) : Prop := OneIs (allL ps n) d
/-- The ticks from a date to a later one. -/
def betV : Option Nat → Option Nat → Int
  | some a, some b => 1000 * max ((b : Int) - (a : Int)) 0
  | _, _ => 0
theorem bet_none (a : Option Nat) : betV a none = 0 := by cases a <;> rfl
theorem bet_nn (a b : Option Nat) : 0 ≤ betV a b := by
  cases a with
  | none => exact Int.le_refl _
  | some a => cases b with
    | none => exact Int.le_refl _
    | some b => show 0 ≤ 1000 * max ((b : Int) - (a : Int)) 0; omega
theorem bet_le {a b : Option Nat} (hb : ∀ k, b = some k → k ≤ 253402300799) : betV a b ≤ 1000 * 253402300799 := by
  cases a with
  | none => exact (by decide : (0 : Int) ≤ 1000 * 253402300799)
  | some a => cases b with
    | none => exact (by decide : (0 : Int) ≤ 1000 * 253402300799)
    | some b => have := hb b rfl; show 1000 * max ((b : Int) - (a : Int)) 0 ≤ _; omega
def negB (s : Int) : Bool := decide (s = 404 ∨ s = 405 ∨ s = 410 ∨ s = 414 ∨ s = 501)
def cacB (s : Int) : Bool := decide (s = 200 ∨ s = 203 ∨ s = 204 ∨ s = 206 ∨ s = 300 ∨ s = 301 ∨ s = 308) || negB s
/-- The lifetime that is stated, and its kind. -/
def expV (d : Dv) (x : Bool) (dd de : Option Nat) : Int × Int :=
  if 0 ≤ d.sa then (1000 * d.sa, 1) else if 0 ≤ d.ma then (1000 * d.ma, 2) else if x = true then (betV dd de, 3) else (0, 5)
/-- The lifetime of what states none. -/
def heuV (s : Int) (dl dd : Option Nat) : Int × Int :=
  if betV dl dd = 0 then (0, 5) else (min (betV dl dd / 10) (if negB s = true then 10000 else 86400000), 4)
def ofV (s : Int) (d : Dv) (x : Bool) (dd de dl : Option Nat) : Int × Int :=
  if (expV d x dd de).2 = 5 ∧ cacB s = true then heuV s dl dd else expV d x dd de
def allowV (d : Dv) : Int × Int := if (d.mr || d.nc || decide (0 ≤ d.sa)) = true then (0, 0) else (1000 * max d.ws 0, 1000 * max d.oe 0)
end Go.Proofs.YtieolalohindgaaGreatDoor

/- Plain mathematics of chapter 17: the verdict on a stored response, whether it may be served after a failure, its limit; what the laws say of these. -/
namespace Go.Proofs.YtieolalohindgaaGreatDoor

/-- The age is below the request's max-age, and more ticks, if there is one. -/
def belB (hi s more : Int) : Bool := decide (s < 0) || decide (hi < 1000 * s + more)
/-- The three verdicts that serve, and the others. -/
def useB (ok : Bool) (d q : Dv) : Bool := ok && !d.nc && !q.nc
def freB (q : Dv) (life hi : Int) : Bool := decide (hi < life) && belB hi q.ma 0 && (decide (q.mf < 0) || decide (hi + 1000 * q.mf < life))
def refB (q : Dv) (life wl hi : Int) : Bool := decide (hi < life + wl) && decide (q.ma < 0) && decide (q.mf < 0)
def staB (d q : Dv) (life hi : Int) : Bool := decide (0 ≤ q.ms) && decide (q.mf < 0) && !d.mr && decide (d.sa < 0) && decide (hi < life + 1000 * q.ms) && belB hi q.ma (1000 * q.ms)
def jdgV (ok : Bool) (d q : Dv) (life wl hi : Int) (hv : Bool) : Int :=
  if (useB ok d q && freB q life hi) = true then 1 else if (useB ok d q && refB q life wl hi) = true then 2 else if (useB ok d q && staB d q life hi) = true then 3 else if hv = true then 4 else 5
def onV (ok : Bool) (d : Dv) (life on hi : Int) : Bool := ok && !d.nc && decide (hi < life + on)
def limV (d : Dv) (life wl on : Int) : Int := if d.nc = true then 0 else life + max wl on
theorem jdg_bd (ok : Bool) (d q : Dv) (life wl hi : Int) (hv : Bool) : 1 ≤ jdgV ok d q life wl hi hv ∧ jdgV ok d q life wl hi hv ≤ 5 := by
  unfold jdgV
  repeat' split
  all_goals omega
theorem jdg_not {ok : Bool} {d q : Dv} (h : useB ok d q = false) (life wl hi : Int) (hv : Bool) : jdgV ok d q life wl hi hv = if hv = true then 4 else 5 := by
  unfold jdgV
  rw [h]
  simp
/-- What is Serve: the age is below the lifetime. -/
theorem jdg_one {ok : Bool} {d q : Dv} {life wl hi : Int} {hv : Bool} (h : jdgV ok d q life wl hi hv = 1) : ok = true ∧ d.nc = false ∧ hi < life := by
  unfold jdgV at h
  split at h
  · next g =>
    simp only [useB, freB, Bool.and_eq_true, decide_eq_true_eq, Bool.not_eq_true'] at g
    exact ⟨g.1.1.1, g.1.1.2, g.2.1.1⟩
  · repeat' split at h
    all_goals omega
theorem jdg_two {ok : Bool} {d q : Dv} {life wl hi : Int} {hv : Bool} (h : jdgV ok d q life wl hi hv = 2) : ok = true ∧ d.nc = false ∧ hi < life + wl := by
  unfold jdgV at h
  split at h
  · omega
  · split at h
    · next g =>
      simp only [useB, refB, Bool.and_eq_true, decide_eq_true_eq, Bool.not_eq_true'] at g
      exact ⟨g.1.1.1, g.1.1.2, g.2.1.1⟩
    · repeat' split at h
      all_goals omega
/-- P17.2. -/
theorem truth_one {ok : Bool} {d q : Dv} {life wl hi old : Int} {hv : Bool} (h : jdgV ok d q life wl hi hv = 1) (ho : ok = true → old ≤ hi) : old < life := by
  obtain ⟨a, b, c⟩ := jdg_one h
  have := ho a; omega
theorem truth_two {ok : Bool} {d q : Dv} {life wl on hi old : Int} {hv : Bool} (h : jdgV ok d q life wl hi hv = 2) (ho : ok = true → old ≤ hi) : old < limV d life wl on := by
  obtain ⟨a, b, c⟩ := jdg_two h
  have := ho a
  unfold limV
  rw [if_neg (by rw [b]; simp)]
  omega
theorem truth_on {ok : Bool} {d : Dv} {life wl on hi old : Int} (h : onV ok d life on hi = true) (ho : ok = true → old ≤ hi) : old < limV d life wl on := by
  simp only [onV, Bool.and_eq_true, decide_eq_true_eq, Bool.not_eq_true'] at h
  have := ho h.1.1
  unfold limV
  rw [if_neg (by rw [h.1.2]; simp)]
  omega
/-- A verdict by its three questions. -/
theorem jdg_le {u u' f f' r r' s s' : Bool} {hv : Bool} (hu : u' = true → u = true) (hf : f' = true → f = true) (hr : r' = true → f = true ∨ r = true) (hs : s' = true → f = true ∨ r = true ∨ s = true) :
    (if (u && f) = true then (1 : Int) else if (u && r) = true then 2 else if (u && s) = true then 3 else if hv = true then 4 else 5) ≤ (if (u' && f') = true then (1 : Int) else if (u' && r') = true then 2 else if (u' && s') = true then 3 else if hv = true then 4 else 5) := by
  cases u' <;> cases f' <;> cases r' <;> cases s' <;> cases u <;> cases f <;> cases r <;> cases s <;> cases hv <;> simp_all
/-- P17.3: a stricter request. -/
theorem strict_nc (ok : Bool) (d q : Dv) (life wl hi : Int) (hv : Bool) : jdgV ok d q life wl hi hv ≤ jdgV ok d { q with nc := true } life wl hi hv ∧ 4 ≤ jdgV ok d { q with nc := true } life wl hi hv := by
  have e : jdgV ok d { q with nc := true } life wl hi hv = if hv = true then 4 else 5 := jdg_not (by simp [useB]) ..
  rw [e]
  unfold jdgV
  constructor
  · repeat' split
    all_goals omega
  · split <;> omega
theorem strict_ma (ok : Bool) (d q : Dv) (life wl hi m : Int) (hv : Bool) (hm : 0 ≤ m) (hq : 0 ≤ q.ma → m ≤ q.ma) : jdgV ok d q life wl hi hv ≤ jdgV ok d { q with ma := m } life wl hi hv := by
  unfold jdgV
  refine jdg_le (by unfold useB; cases ok <;> simp) ?_ ?_ ?_
  all_goals
    simp only [freB, refB, staB, belB]
    cases d.mr <;> simp <;> omega
theorem strict_mf (ok : Bool) (d q : Dv) (life wl hi m : Int) (hv : Bool) (hm : 0 ≤ m) (hq : q.mf ≤ m) : jdgV ok d q life wl hi hv ≤ jdgV ok d { q with mf := m } life wl hi hv := by
  unfold jdgV
  refine jdg_le (by unfold useB; cases ok <;> simp) ?_ ?_ ?_
  all_goals
    simp only [freB, refB, staB, belB]
    cases d.mr <;> simp <;> omega
/-- P17.3: a later reading. -/
theorem later_jdg (ok : Bool) (d q : Dv) (life wl hi hj : Int) (hv : Bool) (h : hi ≤ hj) : jdgV true d q life wl hi hv ≤ jdgV ok d q life wl hj hv := by
  unfold jdgV
  refine jdg_le (by unfold useB; cases ok <;> simp) ?_ ?_ ?_
  all_goals
    simp only [freB, refB, staB, belB]
    cases d.mr <;> simp <;> omega
theorem later_on (ok : Bool) (d : Dv) (life on hi hj : Int) (h : hi ≤ hj) : (onV true d life on hi || !onV ok d life on hj) = true := by
  unfold onV
  cases ok <;> cases d.nc <;> simp
  omega
/-- Without directives in the request. -/
theorem plain_one {d : Dv} (hd : d.nc = false) (ok : Bool) (life wl hi : Int) (hv : Bool) : (jdgV ok d noneD life wl hi hv = 1) = ((ok && decide (hi < life)) = true) := by
  unfold jdgV useB freB refB staB belB noneD
  rw [hd]
  cases ok <;> cases hv <;> by_cases h : hi < life <;> by_cases g : hi < life + wl <;> simp [h, g]
theorem plain_three (ok : Bool) (d : Dv) (life wl hi : Int) (hv : Bool) : jdgV ok d noneD life wl hi hv ≠ 3 := by
  unfold jdgV
  have : staB d noneD life hi = false := by unfold staB noneD; simp
  rw [this, Bool.and_false]
  repeat' split
  all_goals first | omega | contradiction | simp
theorem jdg_four {ok : Bool} {d q : Dv} {life wl hi : Int} {hv : Bool} (h : jdgV ok d q life wl hi hv = 4) : hv = true := by
  unfold jdgV at h
  split at h
  · omega
  · split at h
    · omega
    · split at h
      · omega
      · split at h
        · assumption
        · omega
/-- HasValidator. -/
theorem valid_two (ok : Bool) (d q : Dv) (life wl hi : Int) : (jdgV ok d q life wl hi true = 4 ∧ jdgV ok d q life wl hi false = 5) ∨ (jdgV ok d q life wl hi true = jdgV ok d q life wl hi false ∧ 1 ≤ jdgV ok d q life wl hi true ∧ jdgV ok d q life wl hi true ≤ 3) := by
  unfold jdgV
  by_cases a : (useB ok d q && freB q life hi) = true
  · rw [if_pos a, if_pos a]; right; omega
  · rw [if_neg a, if_neg a]
    by_cases b : (useB ok d q && refB q life wl hi) = true
    · rw [if_pos b, if_pos b]; right; omega
    · rw [if_neg b, if_neg b]
      by_cases c : (useB ok d q && staB d q life hi) = true
      · rw [if_pos c, if_pos c]; right; omega
      · rw [if_neg c, if_neg c]; left; simp
/-- The age at a later reading. -/
theorem top_later {s r n m : Int} (a p : Int) (h : okA s r n = true) (hnm : tk n ≤ tk m) : okA s r m = true ∧ topA s a n p ≤ topA s a m p := by
  have h := of_decide_eq_true h
  refine ⟨decide_eq_true (by omega), ?_⟩
  unfold topA
  have := hi_n (tk n - tk s) (tk m - tk s) (pm p) (by omega) (pm_bd p).2
  omega
/-- The bounds of a lifetime and of allowances. -/
theorem life_bd {d : Dv} (h : Nor d) {dd de : Option Nat} (x : Bool) (hd : ∀ k, dd = some k → k ≤ 253402300799) (he : ∀ k, de = some k → k ≤ 253402300799) (s : Int) (dl : Option Nat) :
    0 ≤ (ofV s d x dd de dl).1 ∧ (ofV s d x dd de dl).1 ≤ 253402300799000 := by
  have b1 := bet_nn dd de
  have b2 := bet_le (a := dd) (b := de) he
  have b3 := bet_nn dl dd
  have b4 := bet_le (a := dl) (b := dd) hd
  have hs := h.sa
  have hm := h.ma
  have e1 : 0 ≤ (expV d x dd de).1 ∧ (expV d x dd de).1 ≤ 253402300799000 := by
    unfold expV
    repeat' split
    all_goals simp only
    all_goals omega
  unfold ofV
  split
  · unfold heuV
    repeat' split
    all_goals simp only
    all_goals omega
  · exact e1
theorem allow_bd {d : Dv} (h : Nor d) : (0 ≤ (allowV d).1 ∧ (allowV d).1 ≤ 2147483647000) ∧ 0 ≤ (allowV d).2 ∧ (allowV d).2 ≤ 2147483647000 := by
  have hs := h.ws
  have hm := h.oe
  unfold allowV
  split
  all_goals simp only
  all_goals omega
/-- What is merged with itself is normal. -/
theorem merge_same (d : Dv) : mergeD d d = normD d := by
  have e : ∀ n, leastD n n = n := fun n => by unfold leastD; repeat' split; all_goals omega
  unfold mergeD
  simp only [Bool.or_self, Bool.and_self, e, Int.min_self, Int.max_self]
end Go.Proofs.YtieolalohindgaaGreatDoor
