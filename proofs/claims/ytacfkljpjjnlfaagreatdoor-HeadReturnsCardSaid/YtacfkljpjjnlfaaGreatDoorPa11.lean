import Derived.Test.YtacfkljpjjnlfaaGreatDoorPa9
import Derived.Test.YtacfkljpjjnlfaaGreatDoorPa10
import Derived.Test.YtacfkljpjjnlfaaGreatDoorPa6
import Derived.Test.YtacfkljpjjnlfaaGreatDoorPa7
import Derived.Test.YtacfkljpjjnlfaaGreatDoorPa8
import Derived.Test.YtacfkljpjjnlfaaGreatDoorPa2
/- The host of a request as the program puts it in; header lines and fields one after the other; plain mathematics. -/
namespace Go.Proofs.YtacfkljpjjnlfaaGreatDoor
open Go.RowKit

theorem hostN_low : lowS hostN = hostN := by decide
theorem ofN_host (p : List UInt8 × List UInt8) : ofN hostN p = decide (lowS p.1 = hostN) := by unfold ofN; rw [hostN_low]
section
variable (hs : List UInt8 → Option (List UInt8))
/-- The program's way: all values of the name; the only one is read, and set. -/
def withH (fs : Fs) : Option Fs :=
  match allL fs hostN with
  | [v] => (hs v).map fun h => setL fs hostN h
  | _ => none
/-- A field with its host read. -/
def updH (f : List UInt8 × List UInt8) : List UInt8 × List UInt8 := if lowS f.1 = hostN then (f.1, (hs f.2).getD []) else f
end
section
variable {hs : List UInt8 → Option (List UInt8)}
theorem allL_yes {f : List UInt8 × List UInt8} (h : lowS f.1 = hostN) (r : Fs) : allL (f :: r) hostN = f.2 :: allL r hostN := by
  unfold allL; rw [List.filter_cons, ofN_host, if_pos (by simpa using h)]; rfl
theorem allL_no {f : List UInt8 × List UInt8} (h : lowS f.1 ≠ hostN) (r : Fs) : allL (f :: r) hostN = allL r hostN := by
  unfold allL; rw [List.filter_cons, ofN_host, if_neg (by simpa using h)]
theorem hostF_all : ∀ (fs : Fs), (∀ v ∈ allL fs hostN, (hs v).isSome = true) → hostF hs lowS fs = some (fs.map (updH hs), (allL fs hostN).length) := by
  intro fs
  induction fs with
  | nil => intro _; rfl
  | cons f r ih =>
    intro h
    rw [hostF]
    by_cases hf : lowS f.1 = hostN
    · rw [allL_yes hf] at h ⊢
      obtain ⟨y, hy⟩ := Option.isSome_iff_exists.1 (h f.2 (by simp))
      rw [if_pos hf, hy, ih fun v hv => h v (by simp [hv])]
      simp [updH, hf, hy]
    · rw [allL_no hf] at h ⊢
      rw [if_neg hf, ih h]
      simp [updH, hf]
theorem hostF_none : ∀ (fs : Fs), (∃ v ∈ allL fs hostN, hs v = none) → hostF hs lowS fs = none := by
  intro fs
  induction fs with
  | nil => rintro ⟨v, hv, _⟩; simp [allL] at hv
  | cons f r ih =>
    rintro ⟨v, hv, hn⟩
    rw [hostF]
    by_cases hf : lowS f.1 = hostN
    · rw [allL_yes hf] at hv
      rw [if_pos hf]
      rcases List.mem_cons.1 hv with rfl | hv
      · rw [hn]; rfl
      · rw [ih ⟨v, hv, hn⟩]; cases hs f.2 <;> rfl
    · rw [allL_no hf] at hv
      rw [if_neg hf, ih ⟨v, hv, hn⟩]; rfl
theorem upd_none : ∀ (fs : Fs), allL fs hostN = [] → fs.map (updH hs) = fs ∧ remL fs hostN = fs := by
  intro fs
  induction fs with
  | nil => intro _; exact ⟨rfl, rfl⟩
  | cons f r ih =>
    intro h
    by_cases hf : lowS f.1 = hostN
    · rw [allL_yes hf] at h; cases h
    · rw [allL_no hf] at h
      obtain ⟨h1, h2⟩ := ih h
      refine ⟨by rw [List.map_cons, h1]; unfold updH; rw [if_neg hf], ?_⟩
      unfold remL at h2 ⊢
      rw [List.filter_cons, ofN_host, if_pos (by simpa using hf), h2]
theorem upd_set : ∀ (fs : Fs), (∀ f ∈ fs, lowS f.1 = f.1) → ∀ v h, allL fs hostN = [v] → hs v = some h → fs.map (updH hs) = setL fs hostN h := by
  intro fs
  induction fs with
  | nil => intro _ v h e; cases e
  | cons f r ih =>
    intro hl v h e hv
    rw [setL]
    by_cases hf : lowS f.1 = hostN
    · rw [allL_yes hf] at e
      injection e with e1 e2
      obtain ⟨h1, h2⟩ := upd_none (hs := hs) r e2
      rw [if_pos (by rw [ofN_host]; simpa using hf), List.map_cons, h1, h2]
      unfold updH
      rw [if_pos hf, e1, hv, hostN_low, ← hf, hl f (by simp)]; rfl
    · rw [allL_no hf] at e
      rw [if_neg (by rw [ofN_host]; simpa using hf), List.map_cons, ih (fun g hg => hl g (by simp [hg])) v h e hv]
      unfold updH; rw [if_neg hf]
/-- The reference's way and the program's. -/
theorem hosted_with {fs : Fs} (hl : ∀ f ∈ fs, lowS f.1 = f.1) : hosted hs lowS fs = withH hs fs := by
  unfold hosted withH
  by_cases h : ∃ v ∈ allL fs hostN, hs v = none
  · rw [hostF_none fs h]
    obtain ⟨v, hv, hn⟩ := h
    split
    · rename_i u e
      rw [e, List.mem_singleton] at hv
      rw [← hv, hn]; rfl
    · rfl
  · have h' : ∀ v ∈ allL fs hostN, (hs v).isSome = true := fun v hv => by
      cases e : hs v with
      | none => exact absurd ⟨v, hv, e⟩ h
      | some y => rfl
    rw [hostF_all fs h']
    split
    · rename_i u e
      obtain ⟨y, hy⟩ := Option.isSome_iff_exists.1 (h' u (by rw [e]; simp))
      rw [e, hy]
      simp [upd_set fs hl u y e hy]
    · rename_i hne
      simp only [Option.bind_some]
      rw [if_neg]
      intro e1
      obtain ⟨u, hu⟩ := List.length_eq_one_iff.1 e1
      exact hne u hu
/-- With the names in lower case. -/
def low1 (f : List UInt8 × List UInt8) : List UInt8 × List UInt8 := (lowS f.1, f.2)
theorem hostF_low : ∀ (fs : Fs), hostF hs lowS (fs.map low1) = (hostF hs lowS fs).map fun q => (q.1.map low1, q.2) := by
  intro fs
  induction fs with
  | nil => rfl
  | cons f r ih =>
    rw [List.map_cons, hostF, hostF, ih]
    have e : lowS (low1 f).1 = lowS f.1 := lowS_low _
    rw [e]
    by_cases hf : lowS f.1 = hostN
    · rw [if_pos hf, if_pos hf]
      show (hs f.2).bind _ = _
      cases hs f.2 <;> cases hostF hs lowS r <;> rfl
    · rw [if_neg hf, if_neg hf]
      cases hostF hs lowS r <;> rfl
theorem withH_low (fs : Fs) : withH hs (fs.map low1) = (hosted hs lowS fs).map fun q => q.map low1 := by
  rw [← hosted_with (by intro f hf; obtain ⟨g, _, rfl⟩ := List.mem_map.1 hf; exact lowS_low _)]
  unfold hosted
  rw [hostF_low]
  cases hostF hs lowS fs with
  | none => rfl
  | some q =>
    show (if q.2 = 1 then some (q.1.map low1) else none) = Option.map _ (if q.2 = 1 then some q.1 else none)
    split <;> rfl
end
/-- A header line of a field. -/
def wline (f : List UInt8 × List UInt8) : List UInt8 := f.1 ++ 58 :: 32 :: f.2
theorem wline_low {f : List UInt8 × List UInt8} (h : (nmO f.1).isSome = true) : wline (low1 f) = lineW nmO f := by
  obtain ⟨y, hy⟩ := Option.isSome_iff_exists.1 h
  unfold wline lineW
  rw [hy, (nmO_some hy).1]; rfl
section
variable {nm vl : List UInt8 → Option (List UInt8)}
/-- All of the first k lines are header lines. -/
def goodTo (nm vl : List UInt8 → Option (List UInt8)) (ls : List (List UInt8)) (k : Nat) : Prop := ∀ l ∈ ls.take k, (readF nm vl l).1 = 0
def fsTo (nm vl : List UInt8 → Option (List UInt8)) (ls : List (List UInt8)) (k : Nat) : Fs := (ls.take k).map fun l => (readF nm vl l).2
theorem goodTo0 (ls : List (List UInt8)) : goodTo nm vl ls 0 := fun l h => by simp at h
theorem goodTo_step {ls : List (List UInt8)} {k : Nat} {l : List UInt8} (h : goodTo nm vl ls k) (hl : ls[k]? = some l) (h0 : (readF nm vl l).1 = 0) : goodTo nm vl ls (k + 1) := by
  intro x hx
  rw [take_more hl] at hx
  rcases List.mem_append.1 hx with hx | hx
  · exact h x hx
  · rw [List.mem_singleton] at hx; rw [hx]; exact h0
theorem fsTo_step {ls : List (List UInt8)} {k : Nat} {l : List UInt8} (hl : ls[k]? = some l) : fsTo nm vl ls (k + 1) = fsTo nm vl ls k ++ [(readF nm vl l).2] := by
  unfold fsTo; rw [take_more hl, List.map_append]; rfl
theorem fsTo_len (ls : List (List UInt8)) (k : Nat) : (fsTo nm vl ls k).length ≤ k := by unfold fsTo; rw [List.length_map]; exact List.length_take_le _ _
theorem readFs_app {a : List (List UInt8)} (h : ∀ l ∈ a, (readF nm vl l).1 = 0) (b : List (List UInt8)) :
    readFs nm vl (a ++ b) = if (readFs nm vl b).1 ≠ 0 then ((readFs nm vl b).1, []) else (0, (a.map fun l => (readF nm vl l).2) ++ (readFs nm vl b).2) := by
  induction a with
  | nil =>
    rw [List.nil_append]
    by_cases hb : (readFs nm vl b).1 ≠ 0
    · rw [if_pos hb]
      cases b with
      | nil => exact absurd rfl hb
      | cons x t =>
        rw [readFs] at hb ⊢
        by_cases h1 : (readF nm vl x).1 ≠ 0
        · rw [if_pos h1]
        · rw [if_neg h1] at hb ⊢
          by_cases h2 : (readFs nm vl t).1 ≠ 0
          · rw [if_pos h2]
          · rw [if_neg h2] at hb; exact absurd rfl hb
    · rw [if_neg hb]
      simp only [ne_eq, Decidable.not_not] at hb
      exact Prod.ext hb rfl
  | cons x t ih =>
    have hx := h x (by simp)
    rw [List.cons_append, readFs, if_neg (by rw [hx]; simp), ih fun l hl => h l (by simp [hl])]
    by_cases hb : (readFs nm vl b).1 ≠ 0
    · simp only [if_pos hb]
    · simp only [if_neg hb]; simp
theorem readFs_bad {ls : List (List UInt8)} {k : Nat} {l : List UInt8} (h : goodTo nm vl ls k) (hl : ls[k]? = some l) (h0 : (readF nm vl l).1 ≠ 0) : readFs nm vl ls = ((readF nm vl l).1, []) := by
  have hd : ls = ls.take k ++ (l :: ls.drop (k + 1)) := by
    conv => lhs; rw [← List.take_append_drop k ls]
    obtain ⟨hk, e⟩ := List.getElem?_eq_some_iff.mp hl
    rw [List.drop_eq_getElem_cons hk, e]
  have e : readFs nm vl (l :: ls.drop (k + 1)) = ((readF nm vl l).1, []) := by rw [readFs, if_pos h0]
  rw [hd, readFs_app h, e, if_pos h0]
theorem readFs_end {ls : List (List UInt8)} {k : Nat} (h : goodTo nm vl ls k) (hk : ls.length ≤ k) : readFs nm vl ls = (0, fsTo nm vl ls k) := by
  unfold goodTo at h
  unfold fsTo
  rw [List.take_of_length_le hk] at h ⊢
  have := readFs_app (nm := nm) (vl := vl) h []
  rw [List.append_nil] at this
  rw [this]; simp [readFs]
/-- The names that are read are in lower case. -/
theorem readF_low (hf : ∀ {x y}, nm x = some y → y = lowS x) (l : List UInt8) (h : (readF nm vl l).1 = 0) : lowS (readF nm vl l).2.1 = (readF nm vl l).2.1 := by
  unfold readF at h ⊢
  by_cases h1 : l.head?.any wsB = true
  · rw [if_pos h1] at h; cases h
  · rw [if_neg h1] at h ⊢
    cases e : cut1 58 l with
    | none => rw [e] at h; cases h
    | some p =>
      obtain ⟨b, a⟩ := p
      rw [e] at h
      simp only at h ⊢
      by_cases h2 : b = []
      · rw [if_pos h2] at h; cases h
      · rw [if_neg h2] at h ⊢
        by_cases h3 : b.any wsB = true
        · rw [if_pos h3] at h; cases h
        · rw [if_neg h3] at h ⊢
          cases e1 : nm b with
          | none => rw [e1] at h; cases h
          | some y =>
            cases e2 : vl a with
            | none => rw [e1, e2] at h; cases h
            | some v => simp only; rw [hf e1]; exact lowS_low _
theorem fsTo_low (hf : ∀ {x y}, nm x = some y → y = lowS x) (ls : List (List UInt8)) (k : Nat) (h : goodTo nm vl ls k) : ∀ f ∈ fsTo nm vl ls k, lowS f.1 = f.1 := by
  intro f hf'
  obtain ⟨l, hl, rfl⟩ := List.mem_map.1 hf'
  exact readF_low hf l (h l hl)
end
end Go.Proofs.YtacfkljpjjnlfaaGreatDoor

/- Header lines: what the program's readField and readFields return. -/
namespace Go.Proofs.YtacfkljpjjnlfaaGreatDoor
open Go.RowKit

theorem wsB_any (l : List UInt8) : (l.any fun c => [32, 9].contains c) = l.any wsB := by
  congr 1
  funext c
  unfold wsB
  simp
theorem wsB_head (l : List UInt8) : (l.head?.any fun c => [32, 9].contains c) = l.head?.any wsB := by
  cases l with
  | nil => rfl
  | cons c t => have := wsB_any [c]; simpa using this
abbrev rdF (l : List UInt8) := readF nmO vlO l
def fieldV (l : List UInt8) : Value := .tuple #[.agg #[.string (strB (rdF l).2.1), .string (strB (rdF l).2.2)], errV (rdF l).1]
theorem fieldV_err {l : List UInt8} {c : Nat} (h : rdF l = (c, [], [])) (hc : c ≠ 0) : fieldV l = .tuple #[.agg #[.string ⟨#[]⟩, .string ⟨#[]⟩], .iface 64 (.int .i64 c)] := by
  unfold fieldV errV; rw [h, if_neg hc]; rfl
theorem fieldV_good {l n v : List UInt8} (h : rdF l = (0, n, v)) : fieldV l = .tuple #[.agg #[.string (strB n), .string (strB v)], .nilIface] := by
  unfold fieldV errV; rw [h]; rfl
theorem errV_no {c : Nat} (h : c ≠ 0) : errV c = .iface 64 (.int .i64 c) := by unfold errV; rw [if_neg h]
theorem rdF_fold {l : List UInt8} (h : l.head?.any wsB = true) : rdF l = (23, [], []) := by unfold rdF readF; rw [if_pos h]
theorem rdF_cut {l : List UInt8} (h : l.head?.any wsB = false) (h2 : (cutC 58 l).2.2 = false) : rdF l = (25, [], []) := by
  unfold rdF readF; rw [if_neg (by rw [h]; simp), (cutG_C 58 l).1, if_neg (by rw [h2]; simp)]
theorem rdF_empty {l : List UInt8} (h : l.head?.any wsB = false) (h2 : (cutC 58 l).2.2 = true) (h3 : (cutC 58 l).1 = []) : rdF l = (25, [], []) := by
  unfold rdF readF; rw [if_neg (by rw [h]; simp), (cutG_C 58 l).1, if_pos h2]; simp only; rw [if_pos h3]
theorem rdF_space {l : List UInt8} (h : l.head?.any wsB = false) (h2 : (cutC 58 l).2.2 = true) (h3 : (cutC 58 l).1 ≠ []) (h4 : (cutC 58 l).1.any wsB = true) : rdF l = (24, [], []) := by
  unfold rdF readF; rw [if_neg (by rw [h]; simp), (cutG_C 58 l).1, if_pos h2]; simp only; rw [if_neg h3, if_pos h4]
theorem rdF_name {l : List UInt8} (h : l.head?.any wsB = false) (h2 : (cutC 58 l).2.2 = true) (h3 : (cutC 58 l).1 ≠ []) (h4 : (cutC 58 l).1.any wsB = false) (h5 : nameC (cutC 58 l).1 ≠ 0) : rdF l = (25, [], []) := by
  unfold rdF readF; rw [if_neg (by rw [h]; simp), (cutG_C 58 l).1, if_pos h2]; simp only; rw [if_neg h3, if_neg (by rw [h4]; simp)]
  unfold nmO; rw [if_neg h5]
theorem rdF_value {l : List UInt8} (h : l.head?.any wsB = false) (h2 : (cutC 58 l).2.2 = true) (h3 : (cutC 58 l).1 ≠ []) (h4 : (cutC 58 l).1.any wsB = false) (h5 : nameC (cutC 58 l).1 = 0) (h6 : valueC (cutC 58 l).2.1 ≠ 0) : rdF l = (25, [], []) := by
  unfold rdF readF; rw [if_neg (by rw [h]; simp), (cutG_C 58 l).1, if_pos h2]; simp only; rw [if_neg h3, if_neg (by rw [h4]; simp)]
  unfold nmO vlO; rw [if_pos h5, if_neg h6]
theorem rdF_good {l : List UInt8} (h : l.head?.any wsB = false) (h2 : (cutC 58 l).2.2 = true) (h3 : (cutC 58 l).1 ≠ []) (h4 : (cutC 58 l).1.any wsB = false) (h5 : nameC (cutC 58 l).1 = 0) (h6 : valueC (cutC 58 l).2.1 = 0) :
    rdF l = (0, nameR (cutC 58 l).1, valueR (cutC 58 l).2.1) := by
  unfold rdF readF; rw [if_neg (by rw [h]; simp), (cutG_C 58 l).1, if_pos h2]; simp only; rw [if_neg h3, if_neg (by rw [h4]; simp)]
  unfold nmO vlO nameR valueR; rw [if_pos h5, if_pos h6]; simp only; rw [if_pos h5, if_pos h6]
theorem blanks_ascii : Ascii (⟨#[32, 9]⟩ : ByteArray).data.toList := by intro b hb; have : b ∈ [32, 9] := hb; simp at this; rcases this with rfl | rfl <;> decide
theorem fold_any (l : List UInt8) (w : World) (hl : l.length ≤ 1000000) :
    Calls Tryz.prog 81 #[.string (strB l), .string ⟨#[32, 9]⟩] w fun e w' => ∃ z : Int, e = .returned (.int .i64 z) ∧ (z == 0) = l.head?.any wsB ∧ Below w.heap.size w w' := by
  refine (indexAny_any (strB l) ⟨#[32, 9]⟩ w (by rw [strB_size]; omega) (by decide) (by decide) blanks_ascii).mono ?_
  rintro e w' ⟨rfl, hB⟩
  refine ⟨_, rfl, ?_, hB⟩
  rw [indexAny_zero, strB_list]; exact wsB_head l
theorem space_any (l : List UInt8) (w : World) (hl : l.length ≤ 1000000) :
    Calls Tryz.prog 49 #[.string (strB l), .string ⟨#[32, 9]⟩] w fun e w' => e = .returned (.bool (l.any wsB)) ∧ Below w.heap.size w w' := by
  refine (containsAny_any (strB l) ⟨#[32, 9]⟩ w (by rw [strB_size]; omega) (by decide) (by decide) blanks_ascii).mono ?_
  rintro e w' ⟨rfl, hB⟩
  refine ⟨?_, hB⟩
  rw [strB_list, ← wsB_any]
theorem cut58_any (l : List UInt8) (w : World) (hM : HasMax w) (hs : l.length ≤ 1000000) :
    Calls Tryz.prog 50 #[.string (strB l), .string ⟨#[58]⟩] w fun e w' => e = .returned (.tuple #[.string (strB (cutC 58 l).1), .string (strB (cutC 58 l).2.1), .bool (cutC 58 l).2.2]) ∧ Below w.heap.size w w' := by
  refine (cutM_any 58 (strB l) w hM (by rw [strB_size]; omega)).mono ?_
  rintro e w' ⟨rfl, n, rfl⟩
  rw [strB_list]
  exact ⟨rfl, below_drewN (Below.refl _ _) n⟩
theorem HasMax.alloc {w : World} (h : HasMax w) (o : Obj) : HasMax (w.alloc o) := h.below (below_new w o)
set_option maxHeartbeats 4000000 in
set_option maxRecDepth 100000 in
theorem readField_any (l : List UInt8) (w : World) (hM : HasMax w) (hl : l.length ≤ 1000000) :
    Calls Tryz.prog 51 #[.string (strB l)] w fun e w' => e = .returned (fieldV l) ∧ Below w.heap.size w w' := by
  have HM := Lib.hid (hM.alloc (.cells #[.string ⟨#[]⟩, .string ⟨#[]⟩] 91))
  have I := fun w => fold_any l w hl
  have C := Lib.hid (fun w hM => cut58_any l w hM hl)
  have hlen := cutC_len 58 l
  have S := Lib.hid (fun w => space_any (cutC 58 l).1 w (by omega))
  have N := Lib.hid (fun w => name_any (strB (cutC 58 l).1) w (by rw [strB_size]; omega))
  have V := Lib.hid (fun w => value_any (strB (cutC 58 l).2.1) w (by rw [strB_size]; omega))
  rw [strB_list] at N V
  clear hM hlen hl
  cases h1 : l.head?.any wsB with
  | true =>
    have HE := Lib.hid (fieldV_err (rdF_fold h1) (by decide))
    have h1' : ∀ z : Int, (z == 0) = l.head?.any wsB → (z == 0) = true := fun z h => h.trans h1
    clear h1
    go_enter Tryz.func51, Tryz.ntmps51
    go_wp2_with fail
    refine (I _).mono ?_
    rintro e w1 ⟨z, rfl, hz, hB⟩
    have hz' := h1' z hz
    clear hz h1'
    obtain ⟨c0, c1, f0, f1, hsz⟩ := two_kept w 0 hB
    go_wp2_with fail
    refine bodyPost_ret (v := .tuple #[.agg #[.string ⟨#[]⟩, .string ⟨#[]⟩], .iface 64 (.int .i64 23)]) (by simp [results, Tryz.results51, go_sem, c0, c1]) rfl ?_
    exact ⟨by first | (rw [HE.out]; done) | (rw [HE.out]; rfl), below_two ((below_new w _).trans (hB.mono (by simp))) _ _⟩
  | false =>
    have h1' : ∀ z : Int, (z == 0) = l.head?.any wsB → (z == 0) = false := fun z h => h.trans h1
    cases h2 : (cutC 58 l).2.2 with
    | false =>
      have HE := Lib.hid (fieldV_err (rdF_cut h1 h2) (by decide))
      rw [h2] at C
      clear h1 h2
      go_enter Tryz.func51, Tryz.ntmps51
      go_wp2_with fail
      refine (I _).mono ?_
      rintro e w1 ⟨z, rfl, hz, hB⟩
      have hz' := h1' z hz
      clear hz h1'
      go_wp2_with fail
      refine (C.out _ (HM.out.below hB)).mono ?_
      rintro e w2 ⟨rfl, hB2⟩
      have hB := hB.trans (hB2.mono hB.size)
      clear hB2
      obtain ⟨c0, c1, f0, f1, hsz⟩ := two_kept w 0 hB
      go_wp2_with fail
      refine bodyPost_ret (v := .tuple #[.agg #[.string ⟨#[]⟩, .string ⟨#[]⟩], .iface 64 (.int .i64 25)]) (by simp [results, Tryz.results51, go_sem, c0, c1]) rfl ?_
      exact ⟨by first | (rw [HE.out]; done) | (rw [HE.out]; rfl), below_two ((below_new w _).trans (hB.mono (by simp))) _ _⟩
    | true =>
      by_cases h3 : (cutC 58 l).1 = []
      · have HE := Lib.hid (fieldV_err (rdF_empty h1 h2 h3) (by decide))
        have q3 := empty_yes h3
        have q4 := list_yes h3
        rw [h2] at C
        clear h1 h2 h3
        go_enter Tryz.func51, Tryz.ntmps51
        go_wp2_with fail
        refine (I _).mono ?_
        rintro e w1 ⟨z, rfl, hz, hB⟩
        have hz' := h1' z hz
        clear hz h1'
        go_wp2_with fail
        refine (C.out _ (HM.out.below hB)).mono ?_
        rintro e w2 ⟨rfl, hB2⟩
        have hB := hB.trans (hB2.mono hB.size)
        clear hB2
        obtain ⟨c0, c1, f0, f1, hsz⟩ := two_kept w 0 hB
        go_wp2_with fail
        refine bodyPost_ret (v := .tuple #[.agg #[.string ⟨#[]⟩, .string ⟨#[]⟩], .iface 64 (.int .i64 25)]) (by simp [results, Tryz.results51, go_sem, c0, c1]) rfl ?_
        exact ⟨by first | (rw [HE.out]; done) | (rw [HE.out]; rfl), below_two ((below_new w _).trans (hB.mono (by simp))) _ _⟩
      · have q3 := empty_no h3
        have q5 := list_no h3
        cases h4 : (cutC 58 l).1.any wsB with
        | true =>
          have HE := Lib.hid (fieldV_err (rdF_space h1 h2 h3 h4) (by decide))
          rw [h2] at C
          rw [h4] at S
          clear h1 h2 h3 h4
          go_enter Tryz.func51, Tryz.ntmps51
          go_wp2_with fail
          refine (I _).mono ?_
          rintro e w1 ⟨z, rfl, hz, hB⟩
          have hz' := h1' z hz
          clear hz h1'
          go_wp2_with fail
          refine (C.out _ (HM.out.below hB)).mono ?_
          rintro e w2 ⟨rfl, hB2⟩
          have hB := hB.trans (hB2.mono hB.size)
          clear hB2
          go_wp2_with fail
          refine (S.out _).mono ?_
          rintro e w3 ⟨rfl, hB2⟩
          have hB := hB.trans (hB2.mono hB.size)
          clear hB2
          obtain ⟨c0, c1, f0, f1, hsz⟩ := two_kept w 0 hB
          go_wp2_with fail
          refine bodyPost_ret (v := .tuple #[.agg #[.string ⟨#[]⟩, .string ⟨#[]⟩], .iface 64 (.int .i64 24)]) (by simp [results, Tryz.results51, go_sem, c0, c1]) rfl ?_
          exact ⟨by first | (rw [HE.out]; done) | (rw [HE.out]; rfl), below_two ((below_new w _).trans (hB.mono (by simp))) _ _⟩
        | false =>
          by_cases h5 : nameC (cutC 58 l).1 = 0
          · by_cases h6 : valueC (cutC 58 l).2.1 = 0
            · have HE := Lib.hid (fieldV_good (rdF_good h1 h2 h3 h4 h5 h6))
              rw [h2] at C
              rw [h4] at S
              rw [h5] at N
              rw [h6] at V
              rw [show errV 0 = .nilIface from rfl] at N V
              clear h1 h2 h3 h4 h5 h6
              go_enter Tryz.func51, Tryz.ntmps51
              go_wp2_with fail
              refine (I _).mono ?_
              rintro e w1 ⟨z, rfl, hz, hB⟩
              have hz' := h1' z hz
              clear hz h1'
              go_wp2_with fail
              refine (C.out _ (HM.out.below hB)).mono ?_
              rintro e w2 ⟨rfl, hB2⟩
              have hB := hB.trans (hB2.mono hB.size)
              clear hB2
              go_wp2_with fail
              refine (S.out _).mono ?_
              rintro e w3 ⟨rfl, hB2⟩
              have hB := hB.trans (hB2.mono hB.size)
              clear hB2
              go_wp2_with fail
              refine (N.out _).mono ?_
              rintro e w4 ⟨rfl, hB2⟩
              have hB := hB.trans (hB2.mono hB.size)
              clear hB2
              go_wp2_with fail
              refine (V.out _).mono ?_
              rintro e w5 ⟨rfl, hB2⟩
              have hB := hB.trans (hB2.mono hB.size)
              clear hB2
              obtain ⟨c0, c1, f0, f1, hsz⟩ := two_kept w 0 hB
              go_wp2_with fail
              refine bodyPost_ret (v := .tuple #[.agg #[.string (strB (nameR (cutC 58 l).1)), .string (strB (valueR (cutC 58 l).2.1))], .nilIface]) (by simp [results, Tryz.results51, go_sem, c0, c1]) rfl ?_
              exact ⟨by first | (rw [HE.out]; done) | (rw [HE.out]; rfl), below_two ((below_new w _).trans (hB.mono (by simp))) _ _⟩
            · have HE := Lib.hid (fieldV_err (rdF_value h1 h2 h3 h4 h5 h6) (by decide))
              rw [h2] at C
              rw [h4] at S
              rw [h5, show errV 0 = .nilIface from rfl] at N
              rw [errV_no h6] at V
              clear h1 h2 h3 h4 h5 h6
              go_enter Tryz.func51, Tryz.ntmps51
              go_wp2_with fail
              refine (I _).mono ?_
              rintro e w1 ⟨z, rfl, hz, hB⟩
              have hz' := h1' z hz
              clear hz h1'
              go_wp2_with fail
              refine (C.out _ (HM.out.below hB)).mono ?_
              rintro e w2 ⟨rfl, hB2⟩
              have hB := hB.trans (hB2.mono hB.size)
              clear hB2
              go_wp2_with fail
              refine (S.out _).mono ?_
              rintro e w3 ⟨rfl, hB2⟩
              have hB := hB.trans (hB2.mono hB.size)
              clear hB2
              go_wp2_with fail
              refine (N.out _).mono ?_
              rintro e w4 ⟨rfl, hB2⟩
              have hB := hB.trans (hB2.mono hB.size)
              clear hB2
              go_wp2_with fail
              refine (V.out _).mono ?_
              rintro e w5 ⟨rfl, hB2⟩
              have hB := hB.trans (hB2.mono hB.size)
              clear hB2
              obtain ⟨c0, c1, f0, f1, hsz⟩ := two_kept w 0 hB
              go_wp2_with fail
              refine bodyPost_ret (v := .tuple #[.agg #[.string ⟨#[]⟩, .string ⟨#[]⟩], .iface 64 (.int .i64 25)]) (by simp [results, Tryz.results51, go_sem, c0, c1]) rfl ?_
              exact ⟨by first | (rw [HE.out]; done) | (rw [HE.out]; rfl), below_two ((below_new w _).trans (hB.mono (by simp))) _ _⟩
          · have HE := Lib.hid (fieldV_err (rdF_name h1 h2 h3 h4 h5) (by decide))
            rw [h2] at C
            rw [h4] at S
            rw [errV_no h5] at N
            clear h1 h2 h3 h4 h5
            go_enter Tryz.func51, Tryz.ntmps51
            go_wp2_with fail
            refine (I _).mono ?_
            rintro e w1 ⟨z, rfl, hz, hB⟩
            have hz' := h1' z hz
            clear hz h1'
            go_wp2_with fail
            refine (C.out _ (HM.out.below hB)).mono ?_
            rintro e w2 ⟨rfl, hB2⟩
            have hB := hB.trans (hB2.mono hB.size)
            clear hB2
            go_wp2_with fail
            refine (S.out _).mono ?_
            rintro e w3 ⟨rfl, hB2⟩
            have hB := hB.trans (hB2.mono hB.size)
            clear hB2
            go_wp2_with fail
            refine (N.out _).mono ?_
            rintro e w4 ⟨rfl, hB2⟩
            have hB := hB.trans (hB2.mono hB.size)
            clear hB2
            obtain ⟨c0, c1, f0, f1, hsz⟩ := two_kept w 0 hB
            go_wp2_with fail
            refine bodyPost_ret (v := .tuple #[.agg #[.string ⟨#[]⟩, .string ⟨#[]⟩], .iface 64 (.int .i64 25)]) (by simp [results, Tryz.results51, go_sem, c0, c1]) rfl ?_
            exact ⟨by first | (rw [HE.out]; done) | (rw [HE.out]; rfl), below_two ((below_new w _).trans (hB.mono (by simp))) _ _⟩
theorem new_twoF (W : World) (a b : List UInt8) (T T' : TypeId) : ∀ (j : Nat) (u : Value), [strV a, strV b][j]? = some u →
    ((W.alloc (.cells #[.string (strB a), .string (strB b)] T)).alloc (.cells #[.string (strB a), .string (strB b)] T')).cell? ((⟨W.heap.size + 1, 0, none⟩ : Addr).add j) = some u := by
  intro j u h
  rw [Addr.add_lit, Nat.zero_add, World.cell?_alloc_at _ _ _ _ (by simp)]
  match j, h with
  | 0, h => simpa using h
  | 1, h => simpa using h
  | j + 2, h => simp at h
/-- What readFields leaves. -/
def FieldsPost (ls : List (List UInt8)) (w : World) (e : Ending) (w' : World) : Prop :=
  ∃ v, e = .returned (.tuple #[v, errV (readFs nmO vlO ls).1]) ∧ OwnsP 91 w.heap.size w' v (readFs nmO vlO ls).2 ∧ Below w.heap.size w w'
theorem fieldsPost_err {ls : List (List UInt8)} {w w' : World} {c : Nat} (h : readFs nmO vlO ls = (c, [])) (hc : c ≠ 0) (hB : Below w.heap.size w w') : FieldsPost ls w (.returned (.tuple #[.slice none 0 0, .iface 64 (.int .i64 c)])) w' :=
  ⟨.slice none 0 0, by rw [h, errV_no hc], by rw [h]; exact OwnsP.nil _ _ _, hB⟩
theorem rdF_len (l : List UInt8) : (rdF l).2.1.length + (rdF l).2.2.length ≤ 2 * l.length := by
  unfold rdF readF
  have h1 := cutC_len 58 l
  split
  · simp
  · rw [(cutG_C 58 l).1]
    split
    · simp
    · rename_i b a e
      split at e
      · obtain ⟨rfl, rfl⟩ := Prod.mk.inj (Option.some.inj e)
        split
        · simp
        · split
          · simp
          · split
            · rename_i y v e1 e2
              have := (nmO_some e1).1
              have h3 := (vlO_some e2).1
              have h4 := trimB_le (cutC 58 l).2.1
              subst this h3
              rw [lowS_len]; simp only; omega
            · simp
      · cases e
set_option maxHeartbeats 4000000 in
set_option maxRecDepth 100000 in
theorem readFields_any (v : Value) (ls : List (List UInt8)) (w : World) (hr : ReadsS w v ls) (hM : HasMax w) (hl : ls.length ≤ 1000) (hb : ∀ l ∈ ls, l.length ≤ 1000000) :
    Calls Tryz.prog 28 #[v] w (FieldsPost ls w) := by
  obtain ⟨i0, hi, hz0, hz1, hz2⟩ := info_parts Tryz.infoF
  obtain ⟨ao, cap, rfl, hc⟩ := hr
  have HC := Lib.hid hc
  have HBig := Lib.hid hb
  have HM := Lib.hid hM
  clear hc hb hM
  go_enter Tryz.func28, Tryz.ntmps28
  go_wp2_with fail
  go_loopw [4, 11] (fun u i wr => ∃ k : Nat, i = .int .i64 k ∧ k ≤ ls.length ∧ goodTo nmO vlO ls k ∧ OwnsP 91 w.heap.size wr u (fsTo nmO vlO ls k) ∧ Below w.heap.size w wr) (fun _ i _ => ls.length - (intOf i).toNat)
  case atStart => exact ⟨0, rfl, Nat.zero_le _, goodTo0 _, OwnsP.nil _ _ _, Below.refl _ _⟩
  case round =>
    obtain ⟨k, rfl, hk, hg, hO, hBr⟩ := hrel
    have hbr := hBr.size
    have HG := Lib.hid hg
    clear hg
    have hfl := fsTo_len (nm := nmO) (vl := vlO) ls k
    by_cases hlt : k < ls.length
    · obtain ⟨l, hl⟩ : ∃ l, ls[k]? = some l := ⟨ls[k], by simp [hlt]⟩
      obtain ⟨g, off, rfl, hg1, h1⟩ := HC.out k l hl
      have hcell : wr.cell? ⟨g, off + k, none⟩ = some (.string (strB l)) := (hBr.cell (p := ⟨g, off + k, none⟩) hg1).trans h1
      have R := readField_any l wr (HM.out.below hBr) (HBig.out l (List.mem_of_getElem? hl))
      have HL := Lib.hid hl
      clear hl h1
      by_cases h0 : (rdF l).1 = 0
      · have HN := Lib.hid (goodTo_step HG.out HL.out h0)
        have HS := Lib.hid (fsTo_step (nm := nmO) (vl := vlO) HL.out)
        unfold fieldV at R
        rw [h0, show errV 0 = .nilIface from rfl] at R
        clear h0
        go_wp2_with fail
        refine R.mono ?_
        rintro e w2 ⟨rfl, hB2⟩
        have hs2 := hB2.size
        have hO2 := OwnsP.below hO hB2
        clear R
        go_wp2_with (at_builtin; go_must (refine wpList_append_own _ rfl _ _ 25 rfl w.heap.size 91 i0 (.agg #[.string ByteArray.empty, .string ByteArray.empty]) 2 32 Tryz.underlying25 hi hz0 hz1 hz2 rfl (by decide) _ _ _ rfl ((World.ownsRow.alloc hO2 _).alloc _) ⟨w2.heap.size + 1, 0, none⟩ 1 1 [strV (rdF l).2.1, strV (rdF l).2.2] rfl rfl (new_twoF w2 (rdF l).2.1 (rdF l).2.2 _ _) (fun u hu => by simp at hu; rcases hu with rfl | rfl <;> rfl) (by unfold maxLen; omega) (by omega) (by simp; omega) ?_); intro v' w4 hown' hgrow _)
        go_roundw
        case rel => exact ⟨k + 1, by go_num, by omega, HN.out, by rw [HS.out]; exact OwnsP.snoc hown', below_appendP hBr hbr (hB2.alloc (Nat.le_of_lt_succ (by omega)) _) hO hgrow⟩
        case measure => simp [intOf]; omega
      · have HE := Lib.hid (readFs_bad HG.out HL.out h0)
        unfold fieldV at R
        rw [errV_no h0] at R
        have h0' := h0
        have H0 := Lib.hid h0'
        clear h0 h0'
        go_wp2_with fail
        refine R.mono ?_
        rintro e w2 ⟨rfl, hB2⟩
        have hs2 := hB2.size
        clear R
        go_wp2_with fail
        go_ret2
        exact fieldsPost_err HE.out H0.out (hBr.trans ((hB2.alloc (by omega) _).mono hbr))
    · have HE := Lib.hid (readFs_end HG.out (by omega))
      go_wp2_with fail
      go_ret2
      exact ⟨_, by rw [HE.out]; rfl, by rw [HE.out]; exact hO, hBr⟩
end Go.Proofs.YtacfkljpjjnlfaaGreatDoor

/- What Host returns: the host in lower case, or ErrName. -/
namespace Go.Proofs.YtacfkljpjjnlfaaGreatDoor
open Go.RowKit

/-- An error of package api, as a value. -/
abbrev errA (n : Int) : Value := .iface 64 (.int .i64 n)
def hostV (l : List UInt8) : Value := match hostO l with
  | none => .tuple #[.string (strB []), errA 8]
  | some h => .tuple #[.string (strB h), .nilIface]
theorem hostV_no {l : List UInt8} (h : hostO l = none) : hostV l = .tuple #[.string (strB []), errA 8] := by unfold hostV; rw [h]
theorem hostV_yes {l h : List UInt8} (e : hostO l = some h) : hostV l = .tuple #[.string (strB h), .nilIface] := by unfold hostV; rw [e]
theorem hostO_long {l : List UInt8} (h : 100 < l.length) : hostO l = none := by unfold hostO; rw [if_neg (by omega)]
theorem hostO_bad {l s : List UInt8} (h : s ∈ cutL 46 l) (hb : lblB s = false) : hostO l = none := by
  unfold hostO; rw [if_neg]
  rintro ⟨_, ha⟩
  rw [List.all_eq_true.mp ha s h] at hb; cases hb
theorem hostO_good {l : List UInt8} (h : l.length ≤ 100) (ha : (cutL 46 l).all lblB = true) : hostO l = some (lowS l) := by unfold hostO; rw [if_pos ⟨h, ha⟩]
def lblTo (ls : List (List UInt8)) (k : Nat) : Prop := (ls.take k).all lblB = true
theorem lblTo_step {ls : List (List UInt8)} {k : Nat} {l : List UInt8} (hl : ls[k]? = some l) (hn : lblTo ls k) (hb : lblB l = true) : lblTo ls (k + 1) := by
  unfold lblTo at *; rw [List.take_add_one, List.all_append, hn, hl]; simp [hb]
theorem lblTo_end {ls : List (List UInt8)} {k : Nat} (h : ls.length ≤ k) (hn : lblTo ls k) : ls.all lblB = true := by
  unfold lblTo at hn; rw [List.take_of_length_le h] at hn; exact hn
set_option maxHeartbeats 2000000 in
set_option maxRecDepth 100000 in
theorem hostM_any (s : ByteArray) (w : World) (hE : HasMax w) (hs : s.size ≤ maxLen) :
    Calls Tryz.prog 53 #[.string s] w fun e w' => e = .returned (hostV s.data.toList) ∧ Below w.heap.size w w' := by
  have hsz : s.data.toList.length = s.size := by rw [Array.length_toList]; rfl
  by_cases h100 : 100 < s.size
  · have HR := Lib.hid (hostV_no (hostO_long (l := s.data.toList) (by omega)))
    clear hsz
    unfold maxLen at hs
    go_enter Tryz.func53, Tryz.ntmps53
    go_wp2
    go_ret2
    exact ⟨by rw [HR.out]; rfl, Below.refl _ _⟩
  · have HSZ := Lib.hid hsz
    clear hsz hs
    have hs : s.size ≤ 100 := by omega
    have HE := Lib.hid hE
    clear hE h100
    go_enter Tryz.func53, Tryz.ntmps53
    go_wp2_with fail
    refine (splitM_any 46 s _ HE.out (by omega)).mono ?_
    rintro e w1 ⟨v, rfl, hv, hB⟩
    have hle := cutL_len 46 s.data.toList
    have hle' : (cutL 46 s.data.toList).length ≤ 101 := by rw [HSZ.out] at hle; omega
    clear hle
    have hne : 0 < (cutL 46 s.data.toList).length := List.length_pos_iff.mpr (cutL_ne 46 _)
    rcases hv.open' with ⟨rfl, he⟩ | ⟨g, cap, rfl, hBg, hgs, hcells⟩
    · exact absurd he (cutL_ne 46 _)
    generalize hls : cutL 46 s.data.toList = ls at *
    have HLS := Lib.hid hls
    have HC := Lib.hid hcells
    clear hls hcells hv
    go_wp2_with fail
    go_loop [13] (fun i => ∃ k : Nat, k ≤ ls.length ∧ i = .int .i64 k ∧ lblTo ls k) (fun i => ls.length - (intOf i).toNat)
    case atStart => exact ⟨0, by omega, rfl, by simp [lblTo]⟩
    case round =>
      obtain ⟨k, hk, rfl, hn⟩ := hrel
      by_cases hlt : k < ls.length
      · obtain ⟨l, hl⟩ : ∃ l, ls[k]? = some l := ⟨ls[k], by simp [hlt]⟩
        have hcell := HC.out k l hl
        have hll : (strB l).size ≤ 1000000000 := by
          rw [strB_size]
          have hm : l ∈ cutL 46 s.data.toList := by rw [HLS.out]; exact List.mem_of_getElem? hl
          have := cutL_part_le 46 s.data.toList l hm
          rw [HSZ.out] at this; omega
        have HL := Lib.hid hl
        clear hl
        by_cases hb : lblB l = true
        · go_wp2_with (go_at_call 84; refine (isLabel_any _ _ hll).mono ?_; rintro e w' ⟨rfl, rfl⟩; rw [strB_list, hb])
          go_round
          case rel => exact ⟨k + 1, by omega, by go_num, lblTo_step HL.out hn hb⟩
          case measure => simp [intOf]; omega
        · have hb' : lblB l = false := by simpa using hb
          go_wp2_with (go_at_call 84; refine (isLabel_any _ _ hll).mono ?_; rintro e w' ⟨rfl, rfl⟩; rw [strB_list, hb'])
          go_ret2
          exact ⟨by rw [hostV_no (hostO_bad (s := l) (by rw [HLS.out]; exact List.mem_of_getElem? HL.out) hb')]; rfl, hB⟩
      · go_wp2_with (go_at_call 85; refine (lower_any _ _ (by omega)).mono ?_; rintro e w2 ⟨rfl, hB2⟩)
        go_ret2
        have hg := hostO_good (l := s.data.toList) (by rw [HSZ.out]; omega) (by rw [HLS.out]; exact lblTo_end (by omega) hn)
        exact ⟨by rw [hostV_yes hg]; rfl, hB.trans (hB2.mono hB.size)⟩
end Go.Proofs.YtacfkljpjjnlfaaGreatDoor
