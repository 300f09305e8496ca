/- AddressEquals, without the program: a path whose segments are written with an encoded unreserved byte, and with dot segments that lead nowhere put before them, has the same address. -/
import Derived.Test.YtfggckdakmnfbaaDoorASpec
namespace Go.Proofs.YtfggckdakmnfbaaDoor

/-- A segment: its text, how it is written, what is put before it. -/
structure Pc where
  t : List UInt8
  w : List UInt8
  b : List UInt8
def plainL (ls : List Pc) : List UInt8 := ls.flatMap fun p => 47 :: p.t
def otherL (ls : List Pc) : List UInt8 := ls.flatMap fun p => 47 :: (p.b ++ p.w)
def midL (ls : List Pc) : List UInt8 := ls.flatMap fun p => 47 :: (p.b ++ p.t)
/-- The text written so is read as the text, whatever follows. -/
def Wr (t w : List UInt8) : Prop := 63 ∉ w ∧ ∀ rest, canO false (w ++ rest) = if t.all (plnB false) then (canO false rest).map (t ++ ·) else none
theorem wr_self {t : List UInt8} (h1 : 37 ∉ t) (h2 : 63 ∉ t) : Wr t t := ⟨h2, fun rest => canO_app_plain t h1 rest⟩
theorem eqEnc_unr {c : UInt8} (h : unrB c = true) : encB c.toNat = [c] := by
  unfold encB; rw [UInt8.ofNat_toNat, if_pos h]
theorem eqPln_unr {c : UInt8} (h : unrB c = true) : plnB false c = true := by
  have := (unr_fin ⟨c.toNat, UInt8.toNat_lt c⟩ (by simpa using h)).2.2
  simp only [UInt8.ofNat_toNat] at this
  exact plnB_of_path this
theorem wr_enc {pre post : List UInt8} {c a b : UInt8} (h1 : 37 ∉ pre ++ c :: post) (h2 : 63 ∉ pre ++ c :: post) (hc : unrB c = true) (hok : okB a b = true) (hv : valN a b = c.toNat) (ha : a ≠ 63) (hb : b ≠ 63) : Wr (pre ++ c :: post) (pre ++ 37 :: a :: b :: post) := by
  simp only [List.mem_append, List.mem_cons, not_or] at h1 h2
  refine ⟨?_, fun rest => ?_⟩
  · simp only [List.mem_append, List.mem_cons, not_or]
    exact ⟨h2.1, by decide, fun e => ha e.symm, fun e => hb e.symm, h2.2.2⟩
  · have e : pre ++ 37 :: a :: b :: post ++ rest = pre ++ (37 :: a :: b :: (post ++ rest)) := by simp
    rw [e, canO_app_plain pre h1.1, canO_pct, if_pos hok, hv, eqEnc_unr hc, canO_app_plain post h1.2.2]
    have hp := eqPln_unr hc
    by_cases hpre : pre.all (plnB false) = true
    · by_cases hpost : post.all (plnB false) = true
      · rw [if_pos hpre, if_pos hpost, if_pos (by rw [List.all_append, List.all_cons, hpre, hp, hpost]; rfl)]
        cases canO false rest <;> simp
      · rw [if_pos hpre, if_neg hpost, if_neg (by rw [List.all_append, List.all_cons, hpre, hp]; simpa using hpost)]; rfl
    · rw [if_neg hpre, if_neg (by rw [List.all_append]; simp only [Bool.and_eq_true, not_and]; intro h; exact absurd h hpre)]
/-- What is put before a segment, and the segments that it makes. -/
def Bef (b : List UInt8) (s : List (List UInt8)) : Prop := (b = [] ∧ s = []) ∨ (b = [46, 47] ∧ s = [[46]]) ∨ (b = [120, 47, 46, 46, 47] ∧ s = [[120], [46, 46]]) ∨ (b = [46, 47, 46, 47] ∧ s = [[46], [46]])
theorem bef_can {b : List UInt8} {s : List (List UInt8)} (h : Bef b s) : canO false b = some b := by
  rcases h with ⟨rfl, _⟩ | ⟨rfl, _⟩ | ⟨rfl, _⟩ | ⟨rfl, _⟩ <;> decide
theorem bef_cut {b : List UInt8} {s : List (List UInt8)} (h : Bef b s) (t : List UInt8) : cutL 47 (b ++ t) = s ++ cutL 47 t := by
  rcases h with ⟨rfl, rfl⟩ | ⟨rfl, rfl⟩ | ⟨rfl, rfl⟩ | ⟨rfl, rfl⟩
  · rfl
  · exact cutL_app 47 [46] t
  · rw [show ([120, 47, 46, 46, 47] : List UInt8) ++ t = [120] ++ 47 :: ([46, 46] ++ 47 :: t) from rfl, cutL_app, cutL_app]; rfl
  · rw [show ([46, 47, 46, 47] : List UInt8) ++ t = [46] ++ 47 :: ([46] ++ 47 :: t) from rfl, cutL_app, cutL_app]; rfl
theorem bef_dots {b : List UInt8} {s : List (List UInt8)} (h : Bef b s) {r : List (List UInt8)} (hr : r ≠ []) (out : List (List UInt8)) : dotsF (s ++ r) out = dotsF r out := by
  rcases h with ⟨rfl, rfl⟩ | ⟨rfl, rfl⟩ | ⟨rfl, rfl⟩ | ⟨rfl, rfl⟩
  · rfl
  · exact dotsF_dot hr out
  · exact dotsF_back hr [120] (by decide) out
  · exact (dotsF_dot (r := [46] :: r) (by simp) out).trans (dotsF_dot hr out)
theorem bef_noq {b : List UInt8} {s : List (List UInt8)} (h : Bef b s) : 63 ∉ b := by
  rcases h with ⟨rfl, _⟩ | ⟨rfl, _⟩ | ⟨rfl, _⟩ | ⟨rfl, _⟩ <;> decide
def Good (p : Pc) : Prop := 37 ∉ p.t ∧ 63 ∉ p.t ∧ Wr p.t p.w ∧ ∃ s, Bef p.b s
theorem can_plainL : ∀ (ls : List Pc), (∀ p ∈ ls, Good p) → canO false (plainL ls) = if ls.all (fun p => p.t.all (plnB false)) then some (plainL ls) else none := by
  intro ls
  induction ls with
  | nil => intro _; rfl
  | cons p r ih =>
    intro h
    obtain ⟨h1, h2, _, _⟩ := h p (by simp)
    have hr := ih fun q hq => h q (by simp [hq])
    show canO false (47 :: (p.t ++ plainL r)) = _
    rw [canO_plain false (by decide), canO_app_plain p.t h1, hr]
    by_cases ht : p.t.all (plnB false) = true
    · by_cases hr2 : r.all (fun p => p.t.all (plnB false)) = true
      · rw [if_pos ht, if_pos hr2, if_pos (by rw [List.all_cons, ht, hr2]; rfl)]; rfl
      · rw [if_pos ht, if_neg hr2, if_neg (by rw [List.all_cons, ht]; simpa using hr2)]; rfl
    · rw [if_neg ht, if_neg (by rw [List.all_cons]; simp only [Bool.and_eq_true, not_and]; intro h; exact absurd h ht)]; rfl
theorem can_otherL : ∀ (ls : List Pc), (∀ p ∈ ls, Good p) → canO false (otherL ls) = if ls.all (fun p => p.t.all (plnB false)) then some (midL ls) else none := by
  intro ls
  induction ls with
  | nil => intro _; rfl
  | cons p r ih =>
    intro h
    obtain ⟨h1, h2, hw, s, hb⟩ := h p (by simp)
    have hr := ih fun q hq => h q (by simp [hq])
    have e : otherL (p :: r) = 47 :: (p.b ++ (p.w ++ otherL r)) := by simp [otherL]
    have em : midL (p :: r) = 47 :: (p.b ++ (p.t ++ midL r)) := by simp [midL]
    rw [e, em, canO_plain false (by decide), canO_app (bef_can hb), hw.2, hr]
    by_cases ht : p.t.all (plnB false) = true
    · by_cases hr2 : r.all (fun p => p.t.all (plnB false)) = true
      · rw [if_pos ht, if_pos hr2, if_pos (by rw [List.all_cons, ht, hr2]; rfl)]; rfl
      · rw [if_pos ht, if_neg hr2, if_neg (by rw [List.all_cons, ht]; simpa using hr2)]; rfl
    · rw [if_neg ht, if_neg (by rw [List.all_cons]; simp only [Bool.and_eq_true, not_and]; intro h; exact absurd h ht)]; rfl
theorem cut_tail : ∀ (f : Pc → List UInt8) (p : Pc) (r : List Pc), cutL 47 ((p :: r).flatMap fun p => 47 :: f p).tail = (p :: r).flatMap fun p => cutL 47 (f p) := by
  intro f p r
  induction r generalizing p with
  | nil => simp
  | cons p2 r ih =>
    have e : ((p :: p2 :: r).flatMap fun p => 47 :: f p).tail = f p ++ 47 :: ((p2 :: r).flatMap fun p => 47 :: f p).tail := by simp
    rw [e, cutL_app, ih p2]; simp
theorem dots_mid : ∀ (ls : List Pc), (∀ p ∈ ls, Good p) → (((ls.flatMap fun p => cutL 47 (p.b ++ p.t)) = [] ↔ (ls.flatMap fun p => cutL 47 p.t) = []) ∧ ∀ out, dotsF (ls.flatMap fun p => cutL 47 (p.b ++ p.t)) out = dotsF (ls.flatMap fun p => cutL 47 p.t) out) := by
  intro ls
  induction ls with
  | nil => intro _; exact ⟨Iff.rfl, fun _ => rfl⟩
  | cons p r ih =>
    intro h
    obtain ⟨_, _, _, s, hb⟩ := h p (by simp)
    obtain ⟨hr1, hr2⟩ := ih fun q hq => h q (by simp [hq])
    rw [List.flatMap_cons, List.flatMap_cons, bef_cut hb]
    have hne : cutL 47 p.t ≠ [] := cutL_ne 47 p.t
    refine ⟨by simp [hne], fun out => ?_⟩
    rw [List.append_assoc, bef_dots hb (by simp [hne]) out]
    exact dotsF_congr hr1 hr2 _ out
theorem path_same {ls : List Pc} (h : ∀ p ∈ ls, Good p) : pathO (otherL ls) = pathO (plainL ls) := by
  cases ls with
  | nil => rfl
  | cons p r =>
    have e1 : pathO (plainL (p :: r)) = (canO false (plainL (p :: r))).bind fun x => (dotsF (cutL 47 x.tail) []).map slashed := rfl
    have e2 : pathO (otherL (p :: r)) = (canO false (otherL (p :: r))).bind fun x => (dotsF (cutL 47 x.tail) []).map slashed := rfl
    rw [e1, e2, can_plainL _ h, can_otherL _ h]
    by_cases ha : (p :: r).all (fun p => p.t.all (plnB false)) = true
    · rw [if_pos ha, if_pos ha]
      show Option.map slashed (dotsF (cutL 47 (midL (p :: r)).tail) []) = Option.map slashed (dotsF (cutL 47 (plainL (p :: r)).tail) [])
      unfold midL plainL
      rw [cut_tail (fun p => p.b ++ p.t), cut_tail (fun p => p.t), (dots_mid (p :: r) h).2]
    · rw [if_neg ha, if_neg ha]
theorem plainL_noq {ls : List Pc} (h : ∀ p ∈ ls, Good p) : 63 ∉ plainL ls := by
  unfold plainL
  rw [List.mem_flatMap]
  rintro ⟨p, hp, hm⟩
  rw [List.mem_cons] at hm
  rcases hm with hm | hm
  · exact absurd hm (by decide)
  · exact (h p hp).2.1 hm
theorem otherL_noq {ls : List Pc} (h : ∀ p ∈ ls, Good p) : 63 ∉ otherL ls := by
  unfold otherL
  rw [List.mem_flatMap]
  rintro ⟨p, hp, hm⟩
  obtain ⟨_, _, hw, s, hb⟩ := h p hp
  rw [List.mem_cons, List.mem_append] at hm
  rcases hm with hm | hm | hm
  · exact absurd hm (by decide)
  · exact bef_noq hb hm
  · exact hw.1 hm
theorem equals_same {ls : List Pc} (h : ∀ p ∈ ls, Good p) (q : List UInt8) : parseA [72] (otherL ls ++ 63 :: q) = parseA [104] (plainL ls ++ 63 :: q) := by
  have hh : hostO [72] = hostO [104] := by decide
  unfold parseA
  rw [cutC_at (plainL_noq h), cutC_at (otherL_noq h), path_same h, hh]
end Go.Proofs.YtfggckdakmnfbaaDoor
