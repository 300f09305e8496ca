/- Plain mathematics: the fields that may be forwarded; a set of names in a map. -/
import Derived.Test.YtjcekkgoohkomaaDoorFWithout
import Derived.Test.YtjcekkgoohkomaaDoorPartsLen
import Derived.Test.YtjcekkgoohkomaaDoorList
namespace Go.Proofs.YtjcekkgoohkomaaDoor
open Go.RowKit

def connN : List UInt8 := [99, 111, 110, 110, 101, 99, 116, 105, 111, 110]
def hopL : List (List UInt8) := [connN, [107, 101, 101, 112, 45, 97, 108, 105, 118, 101], [112, 114, 111, 120, 121, 45, 99, 111, 110, 110, 101, 99, 116, 105, 111, 110],
  [112, 114, 111, 120, 121, 45, 97, 117, 116, 104, 101, 110, 116, 105, 99, 97, 116, 101], [112, 114, 111, 120, 121, 45, 97, 117, 116, 104, 111, 114, 105, 122, 97, 116, 105, 111, 110], [116, 101], [116, 114, 97, 105, 108, 101, 114],
  [116, 114, 97, 110, 115, 102, 101, 114, 45, 101, 110, 99, 111, 100, 105, 110, 103], [117, 112, 103, 114, 97, 100, 101]]
def elemsO (v : List UInt8) : List (List UInt8) := (listO v).getD []
def elemsL (ps : Flds) : List (List UInt8) := (allL ps connN).flatMap elemsO
def dropL (ps : Flds) : List (List UInt8) := hopL ++ elemsL ps
def stripL (ps : Flds) : Flds := ps.filter fun p => !decide (lowS p.1 ∈ (dropL ps).map lowS)
theorem hop_low : hopL.map lowS = hopL := by decide
theorem conn_low : lowS connN = connN := by decide
theorem conn_hop : connN ∈ hopL := List.mem_cons_self ..
theorem elemsO_len {v : List UInt8} : ∀ l ∈ elemsO v, l.length ≤ v.length := by
  intro l hl
  unfold elemsO listO at hl
  cases hp : partsO 44 v with
  | none => rw [hp] at hl; simp at hl
  | some ps =>
    rw [hp] at hl
    simp only [Option.map_some, Option.getD_some] at hl
    exact partsO_len hp l (List.mem_filter.mp hl).1
theorem strip_conn (ps : Flds) : allL (stripL ps) connN = [] := by
  unfold allL stripL
  rw [List.filter_filter]
  have : (ps.filter fun p => ofN connN p && !decide (lowS p.1 ∈ (dropL ps).map lowS)) = [] := by
    rw [List.filter_eq_nil_iff]
    intro p _
    by_cases h : lowS p.1 = lowS connN
    · have hm : lowS p.1 ∈ (dropL ps).map lowS := by
        rw [h]
        exact List.mem_map_of_mem (List.mem_append_left _ conn_hop)
      simp [hm]
    · unfold ofN; simp [h]
  rw [this]; rfl
theorem strip_again (ps : Flds) : stripL (stripL ps) = stripL ps := by
  have he : dropL (stripL ps) = hopL := by unfold dropL elemsL; rw [strip_conn]; simp
  show (stripL ps).filter (fun p => !decide (lowS p.1 ∈ (dropL (stripL ps)).map lowS)) = stripL ps
  rw [he]
  unfold stripL
  rw [List.filter_filter]
  refine List.filter_congr fun p _ => ?_
  by_cases h : lowS p.1 ∈ (dropL ps).map lowS
  · simp [h]
  · have h2 : lowS p.1 ∉ hopL.map lowS := fun hm => h (by unfold dropL; rw [List.map_append]; exact List.mem_append_left _ hm)
    simp [h, h2]
theorem strip_mem {ps : Flds} {p : List UInt8 × List UInt8} (h : p ∈ stripL ps) : p ∈ ps := (List.mem_filter.mp h).1
theorem strip_len (ps : Flds) : (stripL ps).length ≤ ps.length := List.length_filter_le _ _
/-- One name after the other left out. -/
def remAll (ps : Flds) (ds : List (List UInt8)) : Flds := ds.foldl remL ps
theorem remAll_snoc (ps : Flds) (ds : List (List UInt8)) (d : List UInt8) : remAll ps (ds ++ [d]) = remL (remAll ps ds) d := by unfold remAll; rw [List.foldl_append]; rfl
theorem remAll_filter (ds : List (List UInt8)) : ∀ ps : Flds, remAll ps ds = ps.filter fun p => !decide (lowS p.1 ∈ ds.map lowS) := by
  induction ds with
  | nil => intro ps; show ps = ps.filter _; rw [List.filter_eq_self.mpr (fun p _ => by simp)]
  | cons d r ih =>
    intro ps
    show remAll (remL ps d) r = _
    rw [ih]
    unfold remL
    rw [List.filter_filter]
    refine List.filter_congr fun p _ => ?_
    unfold ofN
    by_cases h1 : lowS p.1 = lowS d
    · simp [h1]
    · by_cases h2 : lowS p.1 ∈ r.map lowS
      · simp [h1, h2]
      · simp [h1, h2]
theorem remAll_drop (ps : Flds) : remAll ps (dropL ps) = stripL ps := remAll_filter _ ps
theorem remAll_mem {ps : Flds} {ds : List (List UInt8)} {p : List UInt8 × List UInt8} (h : p ∈ remAll ps ds) : p ∈ ps := by
  rw [remAll_filter] at h; exact (List.mem_filter.mp h).1
theorem remAll_len (ps : Flds) (ds : List (List UInt8)) : (remAll ps ds).length ≤ ps.length := by rw [remAll_filter]; exact List.length_filter_le _ _
theorem flat_take {vs : List (List UInt8)} {k : Nat} {v : List UInt8} (h : vs[k]? = some v) : (vs.take (k + 1)).flatMap elemsO = (vs.take k).flatMap elemsO ++ elemsO v := by
  rw [take_more h, List.flatMap_append]; simp

/-- A map of at most n names, and these are the names that it has, whatever their order. -/
def HasL (w : World) (b n : Nat) (L : List (List UInt8)) : Prop := ∃ ks, HasNames w b n ks ∧ ∀ x, x ∈ ks ↔ x ∈ L
theorem HasL.below {w w' : World} {b n : Nat} {L : List (List UInt8)} (h : HasL w b n L) (hb : Below w.heap.size w w') : HasL w' b n L := by
  obtain ⟨ks, h1, h2⟩ := h; exact ⟨ks, h1.below hb, h2⟩
theorem HasL.put {w : World} {b n : Nat} {L : List (List UInt8)} (h : HasL w b n L) (x : List UInt8) (hx : x.length ≤ maxLen) (hn : n < maxLen) :
    ∃ w', (Instr.mapUpdate 89 (.map (some b)) (.string (strB x)) (.bool true)).run Tryd.prog w = .ok () w' ∧ HasL w' b (n + 1) (L ++ [x]) ∧ w.grownBy w' (some b) := by
  obtain ⟨ks, h1, h2⟩ := h
  obtain ⟨w', hrun, h3, h4⟩ := h1.put x hx hn
  refine ⟨w', hrun, ⟨_, h3, fun y => ?_⟩, h4⟩
  simp only [List.mem_cons, List.mem_append, List.not_mem_nil, or_false, h2 y]
  exact Or.comm
theorem without_l (fv : Value) (ps : Flds) (b n : Nat) (L : List (List UInt8)) (w : World) (hr : ReadsQ w fv ps) (hl : ps.length ≤ 100000) (hb : ∀ p ∈ ps, p.1.length + p.2.length ≤ 1000000) (hN : HasL w b n L) :
    Calls Tryd.prog 65 #[fv, .map (some b)] w fun e w' => ∃ v, e = .returned v ∧ OwnsP 70 w.heap.size w' v (ps.filter fun p => !decide (lowS p.1 ∈ L)) ∧ Below w.heap.size w w' := by
  obtain ⟨ks, h1, h2⟩ := hN
  have e : (ps.filter fun p => !decide (lowS p.1 ∈ L)) = ps.filter fun p => !decide (lowS p.1 ∈ ks) := by
    refine List.filter_congr fun p _ => ?_
    by_cases h : lowS p.1 ∈ ks
    · rw [decide_eq_true h, decide_eq_true ((h2 _).1 h)]
    · rw [decide_eq_false h, decide_eq_false (fun h' => h ((h2 _).2 h'))]
  rw [e]
  exact without_any fv ps b n ks w hr hl hb h1
end Go.Proofs.YtjcekkgoohkomaaDoor
