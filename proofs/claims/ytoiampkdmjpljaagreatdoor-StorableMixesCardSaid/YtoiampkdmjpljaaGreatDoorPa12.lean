import Derived.Test.YtoiampkdmjpljaaGreatDoorPa11
import Derived.Test.YtoiampkdmjpljaaGreatDoorPa2
import Derived.Test.YtoiampkdmjpljaaGreatDoorPa6
import Derived.Test.YtoiampkdmjpljaaGreatDoorPa9
import Derived.Test.YtoiampkdmjpljaaGreatDoorPa0
import Derived.Deep.QuietTactic
import Derived.BigQuiet
/- Plain mathematics: the fields that may be forwarded; a set of names in a map. -/
namespace Go.Proofs.YtoiampkdmjpljaaGreatDoor
open Go.RowKit

def connN : List UInt8 := [99, 111, 110, 110, 101, 99, 116, 105, 111, 110]
def hopL : List (List UInt8) := [connN, [107, 101, 101, 112, 45, 97, 108, 105, 118, 101], [112, 114, 111, 120, 121, 45, 99, 111, 110, 110, 101, 99, 116, 105, 111, 110],
  [112, 114, 111, 120, 121, 45, 97, 117, 116, 104, 101, 110, 116, 105, 99, 97, 116, 101], [112, 114, 111, 120, 121, 45, 97, 117, 116, 104, 111, 114, 105, 122, 97, 116, 105, 111, 110], [116, 101], [116, 114, 97, 105, 108, 101, 114],
  [116, 114, 97, 110, 115, 102, 101, 114, 45, 101, 110, 99, 111, 100, 105, 110, 103], [117, 112, 103, 114, 97, 100, 101]]
def elemsO (v : List UInt8) : List (List UInt8) := (listO v).getD []
def elemsL (ps : Flds) : List (List UInt8) := (allL ps connN).flatMap elemsO
def dropL (ps : Flds) : List (List UInt8) := hopL ++ elemsL ps
def stripL (ps : Flds) : Flds := ps.filter fun p => !decide (lowS p.1 ∈ (dropL ps).map lowS)
theorem hop_low : hopL.map lowS = hopL := by decide
theorem conn_low : lowS connN = connN := by decide
theorem conn_hop : connN ∈ hopL := List.mem_cons_self ..
theorem elemsO_len {v : List UInt8} : ∀ l ∈ elemsO v, l.length ≤ v.length := by
  intro l hl
  unfold elemsO listO at hl
  cases hp : partsO 44 v with
  | none => rw [hp] at hl; simp at hl
  | some ps =>
    rw [hp] at hl
    simp only [Option.map_some, Option.getD_some] at hl
    exact partsO_len hp l (List.mem_filter.mp hl).1
theorem strip_conn (ps : Flds) : allL (stripL ps) connN = [] := by
  unfold allL stripL
  rw [List.filter_filter]
  have : (ps.filter fun p => ofN connN p && !decide (lowS p.1 ∈ (dropL ps).map lowS)) = [] := by
    rw [List.filter_eq_nil_iff]
    intro p _
    by_cases h : lowS p.1 = lowS connN
    · have hm : lowS p.1 ∈ (dropL ps).map lowS := by
        rw [h]
        exact List.mem_map_of_mem (List.mem_append_left _ conn_hop)
      simp [hm]
    · unfold ofN; simp [h]
  rw [this]; rfl
theorem strip_again (ps : Flds) : stripL (stripL ps) = stripL ps := by
  have he : dropL (stripL ps) = hopL := by unfold dropL elemsL; rw [strip_conn]; simp
  show (stripL ps).filter (fun p => !decide (lowS p.1 ∈ (dropL (stripL ps)).map lowS)) = stripL ps
  rw [he]
  unfold stripL
  rw [List.filter_filter]
  refine List.filter_congr fun p _ => ?_
  by_cases h : lowS p.1 ∈ (dropL ps).map lowS
  · simp [h]
  · have h2 : lowS p.1 ∉ hopL.map lowS := fun hm => h (by unfold dropL; rw [List.map_append]; exact List.mem_append_left _ hm)
    simp [h, h2]
theorem strip_mem {ps : Flds} {p : List UInt8 × List UInt8} (h : p ∈ stripL ps) : p ∈ ps := (List.mem_filter.mp h).1
theorem strip_len (ps : Flds) : (stripL ps).length ≤ ps.length := List.length_filter_le _ _
/-- One name after the other left out. -/
def remAll (ps : Flds) (ds : List (List UInt8)) : Flds := ds.foldl remL ps
theorem remAll_snoc (ps : Flds) (ds : List (List UInt8)) (d : List UInt8) : remAll ps (ds ++ [d]) = remL (remAll ps ds) d := by unfold remAll; rw [List.foldl_append]; rfl
theorem remAll_filter (ds : List (List UInt8)) : ∀ ps : Flds, remAll ps ds = ps.filter fun p => !decide (lowS p.1 ∈ ds.map lowS) := by
  induction ds with
  | nil => intro ps; show ps = ps.filter _; rw [List.filter_eq_self.mpr (fun p _ => by simp)]
  | cons d r ih =>
    intro ps
    show remAll (remL ps d) r = _
    rw [ih]
    unfold remL
    rw [List.filter_filter]
    refine List.filter_congr fun p _ => ?_
    unfold ofN
    by_cases h1 : lowS p.1 = lowS d
    · simp [h1]
    · by_cases h2 : lowS p.1 ∈ r.map lowS
      · simp [h1, h2]
      · simp [h1, h2]
theorem remAll_drop (ps : Flds) : remAll ps (dropL ps) = stripL ps := remAll_filter _ ps
theorem remAll_mem {ps : Flds} {ds : List (List UInt8)} {p : List UInt8 × List UInt8} (h : p ∈ remAll ps ds) : p ∈ ps := by
  rw [remAll_filter] at h; exact (List.mem_filter.mp h).1
theorem remAll_len (ps : Flds) (ds : List (List UInt8)) : (remAll ps ds).length ≤ ps.length := by rw [remAll_filter]; exact List.length_filter_le _ _
theorem flat_take {vs : List (List UInt8)} {k : Nat} {v : List UInt8} (h : vs[k]? = some v) : (vs.take (k + 1)).flatMap elemsO = (vs.take k).flatMap elemsO ++ elemsO v := by
  rw [take_more h, List.flatMap_append]; simp

/-- A map of at most n names, and these are the names that it has, whatever their order. -/
def HasL (w : World) (b n : Nat) (L : List (List UInt8)) : Prop := ∃ ks, HasNames w b n ks ∧ ∀ x, x ∈ ks ↔ x ∈ L
theorem HasL.below {w w' : World} {b n : Nat} {L : List (List UInt8)} (h : HasL w b n L) (hb : Below w.heap.size w w') : HasL w' b n L := by
  obtain ⟨ks, h1, h2⟩ := h; exact ⟨ks, h1.below hb, h2⟩
theorem HasL.put {w : World} {b n : Nat} {L : List (List UInt8)} (h : HasL w b n L) (x : List UInt8) (hx : x.length ≤ maxLen) (hn : n < maxLen) :
    ∃ w', (Instr.mapUpdate 72 (.map (some b)) (.string (strB x)) (.bool true)).run Tryz.prog w = .ok () w' ∧ HasL w' b (n + 1) (L ++ [x]) ∧ w.grownBy w' (some b) := by
  obtain ⟨ks, h1, h2⟩ := h
  obtain ⟨w', hrun, h3, h4⟩ := h1.put x hx hn
  refine ⟨w', hrun, ⟨_, h3, fun y => ?_⟩, h4⟩
  simp only [List.mem_cons, List.mem_append, List.not_mem_nil, or_false, h2 y]
  exact Or.comm
theorem without_l (fv : Value) (ps : Flds) (b n : Nat) (L : List (List UInt8)) (w : World) (hr : ReadsQ w fv ps) (hl : ps.length ≤ 100000) (hb : ∀ p ∈ ps, p.1.length + p.2.length ≤ 1000000) (hN : HasL w b n L) :
    Calls Tryz.prog 93 #[fv, .map (some b)] w fun e w' => ∃ v, e = .returned v ∧ OwnsP 58 w.heap.size w' v (ps.filter fun p => !decide (lowS p.1 ∈ L)) ∧ Below w.heap.size w w' := by
  obtain ⟨ks, h1, h2⟩ := hN
  have e : (ps.filter fun p => !decide (lowS p.1 ∈ L)) = ps.filter fun p => !decide (lowS p.1 ∈ ks) := by
    refine List.filter_congr fun p _ => ?_
    by_cases h : lowS p.1 ∈ ks
    · rw [decide_eq_true h, decide_eq_true ((h2 _).1 h)]
    · rw [decide_eq_false h, decide_eq_false (fun h' => h ((h2 _).2 h'))]
  rw [e]
  exact without_any fv ps b n ks w hr hl hb h1
end Go.Proofs.YtoiampkdmjpljaaGreatDoor

/- Plain mathematics of chapter 15: why a response may not be stored, and what a 304 makes of the fields of a stored one. -/
namespace Go.Proofs.YtoiampkdmjpljaaGreatDoor

def nET : List UInt8 := [101, 116, 97, 103]
def nVY : List UInt8 := [118, 97, 114, 121]
def nSC : List UInt8 := [115, 101, 116, 45, 99, 111, 111, 107, 105, 101]
def nAU : List UInt8 := [97, 117, 116, 104, 111, 114, 105, 122, 97, 116, 105, 111, 110]
def nCL : List UInt8 := [99, 111, 110, 116, 101, 110, 116, 45, 108, 101, 110, 103, 116, 104]
def nCE : List UInt8 := [99, 111, 110, 116, 101, 110, 116, 45, 101, 110, 99, 111, 100, 105, 110, 103]
def nCG : List UInt8 := [99, 111, 110, 116, 101, 110, 116, 45, 114, 97, 110, 103, 101]
def tagO (ls : List (List UInt8)) : Option Tg := readTL (oneL ls).1
theorem tagO_nil : tagO [] = none := by decide
def starV (v : List UInt8) : Bool := match listO v with
  | none => true
  | some l => decide ([42] ∈ l)
def wholeB (s : Int) : Bool := decide (200 ≤ s) && (decide (s ≤ 599) && (decide (s ≠ 206) && decide (s ≠ 304)))
def permB (d : Dv) : Bool := d.pu || (d.mr || decide (0 ≤ d.sa))
/-- The reason, by what is asked for in order. -/
def reaV (a b c d e f g h : Bool) : Int :=
  if a = true then 1 else if b = true then 2 else if c = true then 3 else if d = true then 4 else if e = true then 5 else if f = true then 6 else if g = true then 7 else if h = true then 8 else 0
def whyS (r : Flds) (s : Int) (dd de : Option Nat) : Bool := !wholeB s || (!cacB s && decide ((expV (parseD (allL r nCC)) (hasF r nEX) dd de).2 = 5))
def whyU (r : Flds) (s : Int) (dd de dl : Option Nat) : Bool := decide ((ofV s (parseD (allL r nCC)) (hasF r nEX) dd de dl).2 = 5) && ((tagO (allL r nET)).isNone && dl.isNone)
def storV (m : List UInt8) (q r : Flds) (s : Int) (dd de dl : Option Nat) : Int :=
  reaV (decide (m ≠ mGET)) (whyS r s dd de) ((parseD (allL q nCC)).ns || (parseD (allL r nCC)).ns) (parseD (allL r nCC)).pr (hasF r nSC) ((allL r nVY).any starV)
    (hasF q nAU && !permB (parseD (allL r nCC))) (whyU r s dd de dl)
theorem rea_forbid {a b c d e f : Bool} (g h : Bool) (hx : (c || (d || (e || f))) = true) : reaV a b c d e f g h ≠ 0 ∧ reaV a b c d e f g h ≠ 8 ∧ reaV a b c d e f g h ≠ 7 := by
  revert hx; cases a <;> cases b <;> cases c <;> cases d <;> cases e <;> cases f <;> cases g <;> cases h <;> decide
theorem rea_auth (a b c d e f g h : Bool) : reaV a b c d e f g h = reaV a b c d e f false h ∨ reaV a b c d e f g h = 7 ∧ (reaV a b c d e f false h = 0 ∨ reaV a b c d e f false h = 8) := by
  cases a <;> cases b <;> cases c <;> cases d <;> cases e <;> cases f <;> cases g <;> cases h <;> decide
theorem rea_perm (a b c d e f h : Bool) : reaV a b c d e f false h ≠ 7 := by
  cases a <;> cases b <;> cases c <;> cases d <;> cases e <;> cases f <;> cases h <;> decide
theorem rea_not (b c d e f g h : Bool) : reaV true b c d e f g h = 1 := rfl
theorem rea_range (a b c d e f g h : Bool) : 0 ≤ reaV a b c d e f g h ∧ reaV a b c d e f g h ≤ 8 := by
  cases a <;> cases b <;> cases c <;> cases d <;> cases e <;> cases f <;> cases g <;> cases h <;> decide

/-! ### One field more, one name less -/
def vNS : List UInt8 := [110, 111, 45, 115, 116, 111, 114, 101]
def vPX : List UInt8 := [112, 114, 105, 118, 97, 116, 101, 61, 34, 120, 34]
def vCK : List UInt8 := [97, 61, 98]
def vST : List UInt8 := [97, 99, 99, 101, 112, 116, 44, 32, 42]
def vOP : List UInt8 := [34, 111, 112, 101, 110]
def vXX : List UInt8 := [120]
def vS9 : List UInt8 := [115, 45, 109, 97, 120, 97, 103, 101, 61, 57]
theorem hasF_app (ps qs : Flds) (n : List UInt8) : hasF (ps ++ qs) n = (hasF ps n || hasF qs n) := by
  unfold hasF; rw [all_app, List.length_append, Bool.eq_iff_iff]
  simp only [decide_eq_true_eq, Bool.or_eq_true]
  omega
theorem cc_snoc (r : Flds) (v : List UInt8) : parseD (allL (r ++ [(nCC, v)]) nCC) = valD (parseD (allL r nCC)) v := by
  rw [all_app, show allL [(nCC, v)] nCC = [v] from rfl, parse_snoc]
theorem val_ns (d : Dv) : (valD d vNS).ns = true := by
  have h : listO vNS = some [vNS] := by decide
  unfold valD; rw [h]
  show (elemD d vNS).ns = true
  unfold elemD
  rw [show cutE vNS = none by decide]
  show (actD d (kindL (lowS vNS)) (argX none) (argY none) (argZ none)).ns = true
  rw [show kindL (lowS vNS) = 0 by decide]; rfl
theorem val_pr (d : Dv) : (valD d vPX).pr = true := by
  have h : listO vPX = some [vPX] := by decide
  unfold valD; rw [h]
  show (elemD d vPX).pr = true
  unfold elemD
  rw [show cutE vPX = some (nPR, [34, 120, 34]) by decide]
  show (actD d (kindL (lowS nPR)) _ _ _).pr = true
  rw [show kindL (lowS nPR) = 2 by decide]; rfl
theorem val_pu (d : Dv) : (valD d nPU).pu = true := by
  have h : listO nPU = some [nPU] := by decide
  unfold valD; rw [h]
  show (elemD d nPU).pu = true
  unfold elemD
  rw [show cutE nPU = none by decide]
  show (actD d (kindL (lowS nPU)) _ _ _).pu = true
  rw [show kindL (lowS nPU) = 3 by decide]; rfl
theorem val_mr (d : Dv) : (valD d nMR).mr = true := by
  have h : listO nMR = some [nMR] := by decide
  unfold valD; rw [h]
  show (elemD d nMR).mr = true
  unfold elemD
  rw [show cutE nMR = none by decide]
  show (actD d (kindL (lowS nMR)) _ _ _).mr = true
  rw [show kindL (lowS nMR) = 4 by decide]; rfl
theorem val_px (d : Dv) : (valD d nPX).mr = true := by
  have h : listO nPX = some [nPX] := by decide
  unfold valD; rw [h]
  show (elemD d nPX).mr = true
  unfold elemD
  rw [show cutE nPX = none by decide]
  show (actD d (kindL (lowS nPX)) _ _ _).mr = true
  rw [show kindL (lowS nPX) = 4 by decide]; rfl
theorem val_sa {d : Dv} (hn : Nor d) : 0 ≤ (valD d vS9).sa := by
  have h : listO vS9 = some [vS9] := by decide
  unfold valD; rw [h]
  show 0 ≤ (elemD d vS9).sa
  unfold elemD
  rw [show cutE vS9 = some (nSA, [57]) by decide]
  show 0 ≤ (actD d (kindL (lowS nSA)) (argX (some [57])) _ _).sa
  rw [show kindL (lowS nSA) = 7 by decide, show argX (some [57]) = 9 by decide]
  show 0 ≤ leastD d.sa 9
  have := hn.sa
  unfold leastD; split <;> (try split) <;> omega
theorem star_st : starV vST = true := by decide
theorem star_op : starV vOP = true := by decide
/-- What is added where a response is to be forbidden. -/
def forbF : Nat → List UInt8 × List UInt8
  | 0 => (nCC, vNS)
  | 1 => (nCC, vPX)
  | 2 => (nSC, vCK)
  | 3 => (nVY, vST)
  | _ => (nVY, vOP)
theorem stor_forbid (m : List UInt8) (q r : Flds) (s : Int) (dd de dl : Option Nat) (k : Nat) : storV m q (r ++ [forbF k]) s dd de dl ≠ 0 ∧ storV m q (r ++ [forbF k]) s dd de dl ≠ 8 ∧ storV m q (r ++ [forbF k]) s dd de dl ≠ 7 := by
  unfold storV
  refine rea_forbid _ _ ?_
  match k with
  | 0 => rw [show forbF 0 = (nCC, vNS) from rfl, cc_snoc, val_ns]; simp
  | 1 => rw [show forbF 1 = (nCC, vPX) from rfl, cc_snoc, val_pr]; simp
  | 2 => rw [show hasF (r ++ [forbF 2]) nSC = true by rw [hasF_app, show hasF [forbF 2] nSC = true by decide]; simp]; simp
  | 3 => rw [show (allL (r ++ [forbF 3]) nVY).any starV = true by rw [all_app, List.any_append, show (allL [forbF 3] nVY).any starV = true by decide]; simp]; simp
  | k + 4 => rw [show (allL (r ++ [forbF (k + 4)]) nVY).any starV = true by rw [all_app, List.any_append, show (allL [forbF (k + 4)] nVY).any starV = true from (by decide : (allL [(nVY, vOP)] nVY).any starV = true)]; simp]; simp
/-- What is added where a request's authorization is not to matter. -/
def permF : Nat → List UInt8
  | 0 => nPU
  | 1 => nMR
  | 2 => vS9
  | _ => nPX
theorem perm_val {d : Dv} (hn : Nor d) (k : Nat) : permB (valD d (permF k)) = true := by
  unfold permB
  match k with
  | 0 => rw [show permF 0 = nPU from rfl, val_pu]; rfl
  | 1 => rw [show permF 1 = nMR from rfl, val_mr]; simp
  | 2 => rw [show permF 2 = vS9 from rfl, decide_eq_true (val_sa hn)]; simp
  | k + 3 => rw [show permF (k + 3) = nPX from rfl, val_px]; simp
theorem auth_cc (q : Flds) (v : List UInt8) : allL (remL q nAU ++ [(nAU, v)]) nCC = allL (remL q nAU) nCC := by
  rw [all_app, show allL [(nAU, v)] nCC = [] from rfl, List.append_nil]
theorem auth_has (q : Flds) (v : List UInt8) : hasF (remL q nAU ++ [(nAU, v)]) nAU = true := by
  rw [hasF_app, show hasF [(nAU, v)] nAU = true from rfl]; simp
theorem auth_not (q : Flds) : hasF (remL q nAU) nAU = false := by
  unfold hasF; rw [all_rem_same rfl]; rfl
theorem stor_auth (m : List UInt8) (q r : Flds) (v : List UInt8) (s : Int) (dd de dl : Option Nat) :
    storV m (remL q nAU ++ [(nAU, v)]) r s dd de dl = storV m (remL q nAU) r s dd de dl ∨
      storV m (remL q nAU ++ [(nAU, v)]) r s dd de dl = 7 ∧ (storV m (remL q nAU) r s dd de dl = 0 ∨ storV m (remL q nAU) r s dd de dl = 8) := by
  unfold storV
  rw [auth_cc, auth_has, auth_not]
  simp only [Bool.true_and, Bool.false_and]
  exact rea_auth _ _ _ _ _ _ _ _
theorem stor_perm (m : List UInt8) (q r : Flds) (v : List UInt8) (s : Int) (dd de dl : Option Nat) (k : Nat) :
    storV m (remL q nAU ++ [(nAU, v)]) (r ++ [(nCC, permF k)]) s dd de dl = storV m (remL q nAU) (r ++ [(nCC, permF k)]) s dd de dl ∧
      storV m (remL q nAU ++ [(nAU, v)]) (r ++ [(nCC, permF k)]) s dd de dl ≠ 7 := by
  unfold storV
  rw [auth_cc, auth_has, auth_not, cc_snoc, perm_val (nor_parse _) k]
  simp only [Bool.not_true, Bool.and_false]
  exact ⟨by first | rfl | trivial, rea_perm _ _ _ _ _ _ _⟩
theorem stor_get {m : List UInt8} (h : m ≠ mGET) (q r : Flds) (s : Int) (dd de dl : Option Nat) : storV m q r s dd de dl = 1 := by
  unfold storV; rw [decide_eq_true h]; rfl
theorem stor_same {m : List UInt8} {q q' r r' : Flds} {s : Int} {dd de dl : Option Nat} (hq : ∀ n, allL q' n = allL q n) (hr : ∀ n, allL r' n = allL r n) :
    storV m q' r' s dd de dl = storV m q r s dd de dl := by
  unfold storV whyS whyU hasF; simp only [hq, hr]

/-! ### A 304 -/
def sameW (a b : Option Tg) : Bool := match a, b with
  | some x, some y => decide (x.2 = y.2)
  | _, _ => false
/-- The tags of the two may be others. -/
def mixB (old now : List (List UInt8)) : Bool := if old = [] ∨ now = [] ∨ old = now then false else !sameW (tagO old) (tagO now)
def putL (b : Flds) : Flds := remL (remL (remL (stripL b) nCL) nCE) nCG
def inN (b : Flds) (p : List UInt8 × List UInt8) : Bool := decide (lowS p.1 ∈ b.map fun p => lowS p.1)
def updL (a b : Flds) : Flds := (a.filter fun p => !inN (putL b) p) ++ putL b
theorem inN_mem {b : Flds} {p : List UInt8 × List UInt8} (h : p ∈ b) : inN b p = true := decide_eq_true (List.mem_map.mpr ⟨p, h, rfl⟩)
theorem inN_all (b : Flds) (p : List UInt8 × List UInt8) : inN b p = decide (allL b p.1 ≠ []) := by
  unfold inN
  by_cases h : lowS p.1 ∈ b.map fun p => lowS p.1
  · rw [decide_eq_true h]
    obtain ⟨q, hq, he⟩ := List.mem_map.mp h
    refine (decide_eq_true ?_).symm
    intro e
    have : q.2 ∈ allL b p.1 := by
      unfold allL
      exact List.mem_map.mpr ⟨q, List.mem_filter.mpr ⟨hq, decide_eq_true he⟩, rfl⟩
    rw [e] at this; cases this
  · rw [decide_eq_false h]
    refine (decide_eq_false ?_).symm
    intro e
    refine e ?_
    unfold allL
    rw [List.map_eq_nil_iff, List.filter_eq_nil_iff]
    exact fun q hq hk => h (List.mem_map.mpr ⟨q, hq, of_decide_eq_true hk⟩)
theorem fil_all (a : Flds) (f : List UInt8 × List UInt8 → Bool) (n : List UInt8) (h : ∀ p, lowS p.1 = lowS n → f p = true) : allL (a.filter f) n = allL a n := by
  unfold allL
  rw [List.filter_filter]
  congr 1
  refine List.filter_congr fun p _ => ?_
  by_cases hp : ofN n p = true
  · rw [h p (of_decide_eq_true hp), hp]; rfl
  · simp [hp]
theorem fil_none (a : Flds) (f : List UInt8 × List UInt8 → Bool) (n : List UInt8) (h : ∀ p, lowS p.1 = lowS n → f p = false) : allL (a.filter f) n = [] := by
  unfold allL
  rw [List.filter_filter]
  rw [List.map_eq_nil_iff, List.filter_eq_nil_iff]
  intro p _ hk
  simp only [Bool.and_eq_true] at hk
  rw [h p (of_decide_eq_true hk.1)] at hk
  cases hk.2
theorem inN_low (b : Flds) {p q : List UInt8 × List UInt8} (h : lowS p.1 = lowS q.1) : inN b p = inN b q := by unfold inN; rw [h]
theorem upd_other {a b : Flds} {n : List UInt8} (h : allL (putL b) n = []) : allL (updL a b) n = allL a n := by
  have hn : ∀ p : List UInt8 × List UInt8, lowS p.1 = lowS n → (!inN (putL b) p) = true := by
    intro p hp
    rw [inN_low (putL b) (q := (n, [])) hp, inN_all]
    simp [h]
  unfold updL
  rw [all_app, h, List.append_nil, fil_all a _ n hn]
theorem upd_same {a b : Flds} {n : List UInt8} (h : allL (putL b) n ≠ []) : allL (updL a b) n = allL (putL b) n := by
  have hn : ∀ p : List UInt8 × List UInt8, lowS p.1 = lowS n → (!inN (putL b) p) = false := by
    intro p hp
    rw [inN_low (putL b) (q := (n, [])) hp, inN_all]
    simp [h]
  unfold updL
  rw [all_app, fil_none a _ n hn, List.nil_append]
theorem upd_again (a b : Flds) : updL (updL a b) b = updL a b := by
  unfold updL
  rw [List.filter_append, List.filter_filter]
  have h1 : (putL b).filter (fun p => !inN (putL b) p) = [] := by
    rw [List.filter_eq_nil_iff]
    intro p hp; rw [inN_mem hp]; simp
  rw [h1, List.append_nil]
  congr 2
  funext p
  cases inN (putL b) p <;> rfl
theorem strip_all (b : Flds) (n : List UInt8) : allL (stripL b) n = [] ∨ allL (stripL b) n = allL b n := by
  by_cases h : lowS n ∈ (dropL b).map lowS
  · refine .inl (fil_none b _ n fun p hp => ?_)
    rw [hp]; simp [h]
  · refine .inr (fil_all b _ n fun p hp => ?_)
    rw [hp]; simp [h]
theorem put_sub (b : Flds) (n : List UInt8) : allL (putL b) n = [] ∨ allL (putL b) n = allL b n := by
  unfold putL
  by_cases h1 : lowS nCG = lowS n
  · exact .inl (all_rem_same h1)
  · rw [all_rem_other h1]
    by_cases h2 : lowS nCE = lowS n
    · exact .inl (all_rem_same h2)
    · rw [all_rem_other h2]
      by_cases h3 : lowS nCL = lowS n
      · exact .inl (all_rem_same h3)
      · rw [all_rem_other h3]; exact strip_all b n
theorem put_cl (b : Flds) : allL (putL b) nCL = [] := by
  unfold putL; rw [all_rem_other (by decide), all_rem_other (by decide), all_rem_same rfl]
theorem put_ce (b : Flds) : allL (putL b) nCE = [] := by
  unfold putL; rw [all_rem_other (by decide), all_rem_same rfl]
theorem put_cg (b : Flds) : allL (putL b) nCG = [] := by
  unfold putL; rw [all_rem_same rfl]
theorem put_mem {b : Flds} {p : List UInt8 × List UInt8} (h : p ∈ putL b) : p ∈ b :=
  strip_mem (List.mem_filter.mp (List.mem_filter.mp (List.mem_filter.mp h).1).1).1
theorem put_len (b : Flds) : (putL b).length ≤ b.length :=
  Nat.le_trans (rem_len _ _) (Nat.le_trans (rem_len _ _) (Nat.le_trans (rem_len _ _) (strip_len b)))
theorem upd_len (a b : Flds) : (updL a b).length ≤ a.length + b.length := by
  unfold updL
  rw [List.length_append]
  exact Nat.add_le_add (List.length_filter_le _ _) (put_len b)
theorem upd_mem {a b : Flds} {p : List UInt8 × List UInt8} (h : p ∈ updL a b) : p ∈ a ∨ p ∈ b := by
  rcases List.mem_append.mp h with h | h
  · exact .inl (List.mem_filter.mp h).1
  · exact .inr (put_mem h)
theorem mix_again {a b : Flds} (h : mixB (allL a nET) (allL b nET) = false) : mixB (allL (updL a b) nET) (allL b nET) = false := by
  by_cases hp : allL (putL b) nET = []
  · rw [upd_other hp]; exact h
  · rw [upd_same hp]
    rcases put_sub b nET with h1 | h1
    · exact absurd h1 hp
    · rw [h1]; unfold mixB; simp
/-- A name that the 304 doesn't have keeps its values. -/
theorem upd_kept {a b : Flds} {n : List UInt8} (h : hasF b n = false) : allL (updL a b) n = allL a n := by
  have h0 : allL b n = [] := List.eq_nil_of_length_eq_zero (by unfold hasF at h; simpa using h)
  refine upd_other ?_
  rcases put_sub b n with h1 | h1
  · exact h1
  · rw [h1, h0]
theorem tag_tex {t : Tg} (h : txtB t.2 = true) : tagO [texL t] = some t := readTL_tex t h
theorem mix_tex {t u : Tg} (ht : txtB t.2 = true) (hu : txtB u.2 = true) : mixB [texL t] [texL u] = decide (t.2 ≠ u.2) := by
  unfold mixB
  rw [tag_tex ht, tag_tex hu]
  by_cases he : texL t = texL u
  · have e : t = u := Option.some.inj ((readTL_tex t ht).symm.trans ((congrArg readTL he).trans (readTL_tex u hu)))
    rw [if_pos (by simp [he]), e]; simp
  · rw [if_neg (by simp [he])]
    unfold sameW
    by_cases h : t.2 = u.2 <;> simp [h]
end Go.Proofs.YtoiampkdmjpljaaGreatDoor

/- What Texts says of two slices of strings: whether they hold the same strings. -/
namespace Go.Proofs.YtoiampkdmjpljaaGreatDoor
open Go.RowKit

def sameTo (la lb : List (List UInt8)) (k : Nat) : Prop := la.take k = lb.take k
theorem sameTo_step {la lb : List (List UInt8)} {k : Nat} {l : List UInt8} (h : sameTo la lb k) (ha : la[k]? = some l) (hb : lb[k]? = some l) : sameTo la lb (k + 1) := by
  unfold sameTo at *; rw [List.take_add_one, List.take_add_one, h, ha, hb]
theorem sameTo_no {la lb : List (List UInt8)} {k : Nat} {l m : List UInt8} (ha : la[k]? = some l) (hb : lb[k]? = some m) (h : l ≠ m) : false = decide (la = lb) := by
  rw [eq_comm, decide_eq_false_iff_not]; intro e; rw [e, hb] at ha; simp at ha; exact h ha.symm
theorem sameTo_end {la lb : List (List UInt8)} {k : Nat} (h : sameTo la lb k) (ha : la.length ≤ k) (hb : lb.length ≤ k) : true = decide (la = lb) := by
  unfold sameTo at h; rw [List.take_of_length_le ha, List.take_of_length_le hb] at h; simp [h]
set_option maxHeartbeats 2000000 in
set_option maxRecDepth 100000 in
theorem texts_big (va vb : Value) (la lb : List (List UInt8)) (w : World) (ha : ReadsS w va la) (hb : ReadsS w vb lb) (hla : la.length ≤ 100000000) (_hlb : lb.length ≤ 100000000) :
    Calls Tryz.prog 24 #[va, vb] w fun e w' => e = .returned (.bool (decide (la = lb))) ∧ ∃ n, w' = w.drewN n := by
  obtain ⟨ao, ca, rfl, hca⟩ := ha
  obtain ⟨bo, cb, rfl, hcb⟩ := hb
  by_cases hne : la.length = lb.length
  · have hne1 : la.length ≤ lb.length := by omega
    have hne2 : lb.length ≤ la.length := by omega
    have Hne := Lib.hid hne
    have HA := Lib.hid hca
    have HB := Lib.hid hcb
    clear hne hca hcb
    go_enter Tryz.func24, Tryz.ntmps24
    go_wp2
    go_loopw [13] (fun i wr => ∃ k n : Nat, i = .int .i64 k ∧ k ≤ la.length ∧ sameTo la lb k ∧ wr = w.drewN n) (fun i _ => la.length - (intOf i).toNat)
    case atStart => exact ⟨0, 0, rfl, Nat.zero_le _, rfl, rfl⟩
    case round =>
      obtain ⟨k, n, rfl, hk, hs, rfl⟩ := hrel
      have HS := Lib.hid hs
      clear hs
      by_cases hlt : k < la.length
      · obtain ⟨l, hl⟩ : ∃ l, la[k]? = some l := ⟨la[k], by simp [hlt]⟩
        obtain ⟨m, hm⟩ : ∃ m, lb[k]? = some m := ⟨lb[k]'(by omega), by simp⟩
        obtain ⟨g, off, rfl, hg, hc1⟩ := HA.out k l hl
        obtain ⟨g', off', rfl, hg', hc2⟩ := HB.out k m hm
        have HL := Lib.hid hl
        have HM := Lib.hid hm
        clear hl hm
        by_cases hlm : l = m
        · have heq : ((strB l).toList == (strB m).toList) = true := by rw [hlm]; exact beq_self_eq_true _
          have HLM := Lib.hid hlm
          clear hlm
          go_wp2
          go_quiet (fail)
          go_wp2
          go_roundw
          case rel => exact ⟨k + 1, _, by go_num, by omega, sameTo_step HS.out HL.out (by rw [HLM.out]; exact HM.out), rfl⟩
          case measure => simp [intOf]; omega
        · have heq : ((strB l).toList == (strB m).toList) = false := by
            rw [ByteArray.toList_eq, ByteArray.toList_eq]
            simpa [strB] using hlm
          go_wp2
          go_quiet (fail)
          go_wp2
          go_ret
          exact ⟨ret_bool (sameTo_no HL.out HM.out hlm), n + nq, by first | exact World.drewN_drewN .. | rfl⟩
      · go_wp2
        go_ret
        exact ⟨ret_bool (sameTo_end HS.out (by omega) (by omega)), _, rfl⟩
  · go_enter Tryz.func24, Tryz.ntmps24
    have h0 : ((la.length : Int) != (lb.length : Int)) = true := by simp; omega
    go_wp2
    go_ret
    exact ⟨ret_bool (by simp; intro h; exact hne (by rw [h])), 0, rfl⟩
theorem texts_any (va vb : Value) (la lb : List (List UInt8)) (w : World) (ha : ReadsS w va la) (hb : ReadsS w vb lb) (hla : la.length ≤ 1000000) (hlb : lb.length ≤ 1000000) :
    Calls Tryz.prog 24 #[va, vb] w fun e w' => e = .returned (.bool (decide (la = lb))) ∧ ∃ n, w' = w.drewN n :=
  texts_big va vb la lb w ha hb (by omega) (by omega)
end Go.Proofs.YtoiampkdmjpljaaGreatDoor
