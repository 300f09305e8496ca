import Derived.Test.YtfmgfcddnnggeaaGreatDoorPa25
import Derived.Test.YtfmgfcddnnggeaaGreatDoorPa5
/- What the connection's takeBody returns. -/
namespace Go.Proofs.YtfmgfcddnnggeaaGreatDoor
open Go.RowKit

/-- The event of the data d: none if there are none. -/
def evD (d : List UInt8) : Ev := if d = [] then ⟨0, noQ, noP, [], []⟩ else dat d
def TbPost (B P : Nat) (X : Nat → Prop) (r : Cn × List UInt8 × Nat × Nat) (w : World) (e : Ending) (w' : World) : Prop :=
  ∃ v X', e = .returned (.tuple #[evV (evD r.2.1) noV noV v noV, .int .i64 (r.2.2.1 : Int), errV r.2.2.2]) ∧ (∀ k, X' k → X k ∨ w.heap.size ≤ k) ∧ Con B P X' r.1 w' ∧ Only X w w' ∧ OwnB w.heap.size w' v r.2.1 ∧ (∀ k, v.ownBlock = some k → ¬ X' k)
theorem eight_only (w : World) {t : TypeId} {a0 a1 a2 a3 a4 a5 a6 a7 : Value} {X : Nat → Prop} {w1 : World} (h : Only X (w.alloc (.cells #[a0, a1, a2, a3, a4, a5, a6, a7] t)) w1) (hX : ∀ k, X k → k < w.heap.size) :
    ∀ j, w1.cell? ⟨w.heap.size, j, none⟩ = #[a0, a1, a2, a3, a4, a5, a6, a7][j]? ∧ w1.frozen? ⟨w.heap.size, j, none⟩ = false := by
  have hs : w.heap.size < (w.alloc (.cells #[a0, a1, a2, a3, a4, a5, a6, a7] t)).heap.size := by simp
  have hh := heap_alloc_new w (.cells #[a0, a1, a2, a3, a4, a5, a6, a7] t)
  exact fun j => ⟨(h.cell (p := ⟨w.heap.size, j, none⟩) hs (fun a => Nat.lt_irrefl _ (hX _ a))).trans (by rw [Lib.cell_of_heap hh]), (h.frozen (p := ⟨w.heap.size, j, none⟩) hs (fun a => Nat.lt_irrefl _ (hX _ a))).trans (Lib.frozen_of_heap hh j)⟩
theorem tb_post {B P n er : Nat} {X X' : Nat → Prop} {s' : Cn} {d : List UInt8} {v u : Value} {w w1 wF : World} {o : Obj} (hlt : ∀ k, X k → k < w.heap.size) (hX : ∀ k, X' k → X k ∨ (w.alloc o).heap.size ≤ k) (hC : Con B P X' s' w1) (hO : Only X (w.alloc o) w1) (hv : OwnB (w.alloc o).heap.size w1 v d) (hn : ∀ k, v.ownBlock = some k → ¬ X' k) (hF : Only (fun k => k = w.heap.size) w1 wF) (hu : u = v ∨ (d = [] ∧ u = noV)) :
    TbPost B P X (s', d, n, er) w (.returned (.tuple #[evV (evD d) noV noV u noV, .int .i64 (n : Int), errV er])) wF := by
  have hs : (w.alloc o).heap.size = w.heap.size + 1 := by simp
  have hbox : ∀ k, X' k → k ≠ w.heap.size := fun k hk e => (hX k hk).elim (fun a => by have := hlt k a; omega) (fun a => by omega)
  have hvF : OwnB w.heap.size wF v d := OwnB.mono (C := (w.alloc o).heap.size) (by omega) (hv.only hF (fun k hk e => by have := (World.ownsRow.lt hv k hk).1; omega))
  have hO2 : Only X w wF := ((Only.alloc X w o).trans' hO).trans hF (fun i hi => .inr (by omega))
  have hCF : Con B P X' s' wF := hC.only hF (fun k hk e => hbox k hk e)
  have hX2 : ∀ k, X' k → X k ∨ w.heap.size ≤ k := fun k hk => (hX k hk).imp id (fun a => by omega)
  rcases hu with rfl | ⟨rfl, rfl⟩
  · exact ⟨u, X', rfl, hX2, hCF, hO2, hvF, hn⟩
  · exact ⟨noV, X', rfl, hX2, hCF, hO2, OwnB.nil _ _, fun k hk => by cases hk⟩
set_option maxHeartbeats 2000000 in
set_option maxRecDepth 100000 in
theorem takeBody_any {B P : Nat} {X : Nat → Prop} {s : Cn} (bv : Value) (l : List UInt8) (w : World) (h : Con B P X s w) (hok : s.Ok) (h0 : s.fk ≠ 0) (hb : ReadsD w bv l) (hbX : l ≠ [] → ∀ k, bv.ownBlock = some k → ¬ X k) (hM : MaxB B w) (hl : l.length ≤ 1000000000) :
    Calls Tryz.prog 18 #[.pointer (some ⟨P, 0, none⟩), bv] w (TbPost B P X (tdC s l) w) := by
  have HLT := Lib.hid (fun k hk => (h.lt.2.2 k hk).2)
  have HT := Lib.hid (fun o => cnData_any bv l (w.alloc o) (h.below (below_new w o)) hok h0 (hb.below (below_new w o)) hbX (hM.to ((below_new w o).mono (Nat.le_of_lt (Nat.lt_of_le_of_lt (h.lt.2.2 P h.lt.2.1).1 h.lt.1)))) hl)
  clear h hok h0 hb hbX hM hl
  generalize tdC s l = r at *
  obtain ⟨s', d, n, er⟩ := r
  go_enter Tryz.func18, Tryz.ntmps18
  go_wp2_with fail
  refine (HT.out _).mono ?_
  rintro e w1 ⟨v, X', rfl, hX, hC, hO, hv, hn⟩
  obtain ⟨va, vc, rfl⟩ := hv.isSlice
  have K := eight_only w hO HLT.out
  have k0 := (K 0).2
  have k1 := (K 1).2
  have k2 := (K 2).2
  have k3 := (K 3).2
  have k4 := (K 4).2
  have k5 := (K 5).2
  have k6 := (K 6).2
  have k7 := (K 7).2
  have j0 : w1.cell? ⟨w.heap.size, 0, none⟩ = some (.int .i64 0) := (K 0).1
  have j1 : w1.cell? ⟨w.heap.size, 1, none⟩ = some (.string ⟨#[]⟩) := (K 1).1
  have j2 : w1.cell? ⟨w.heap.size, 2, none⟩ = some (.string ⟨#[]⟩) := (K 2).1
  have j3 : w1.cell? ⟨w.heap.size, 3, none⟩ = some noV := (K 3).1
  have j4 : w1.cell? ⟨w.heap.size, 4, none⟩ = some (.int .i64 0) := (K 4).1
  have j5 : w1.cell? ⟨w.heap.size, 5, none⟩ = some noV := (K 5).1
  have j6 : w1.cell? ⟨w.heap.size, 6, none⟩ = some noV := (K 6).1
  have j7 : w1.cell? ⟨w.heap.size, 7, none⟩ = some noV := (K 7).1
  have HPO := Lib.hid (fun u wF hu hF => tb_post (u := u) (n := n) (er := er) (wF := wF) HLT.out hX hC hO hv hn hF hu)
  clear K hX hC hO hv hn
  by_cases hd : d = []
  · subst hd
    go_wp2_with fail
    refine bodyPost_ret (v := .tuple #[evV (evD []) noV noV noV noV, .int .i64 (n : Int), errV er]) (by simp (maxDischargeDepth := 9) [results, Tryz.results18, go_sem, evD, strB, j0, j1, j2, j3, j4, j5, j6, j7]) rfl ?_
    exact HPO.out noV _ (.inr (by simp)) (only8 _ _ _ _ _ _ _ _ _ _)
  · have hz : ((d.length : Int) == 0) = false := by simp [hd]
    have HE : Hid (evD d = dat d) := Lib.hid (by unfold evD; rw [if_neg hd])
    have HP2 := Lib.hid (fun wF (hF : Only (fun k => k = w.heap.size) w1 wF) => by have h := HPO.out (.slice va d.length vc) wF (.inl rfl) hF; rw [HE.out] at h; exact h)
    clear hd
    go_wp2_with fail
    refine bodyPost_ret (v := .tuple #[evV (dat d) noV noV (.slice va d.length vc) noV, .int .i64 (n : Int), errV er]) (by simp (maxDischargeDepth := 9) [results, Tryz.results18, go_sem, dat, strB, j0, j1, j2, j3, j4, j5, j6, j7]) rfl ?_
    exact HP2.out _ (only8 _ _ _ _ _ _ _ _ _ _)
end Go.Proofs.YtfmgfcddnnggeaaGreatDoor

/- What a body takes, against the machine that takes byte after byte. -/
namespace Go.Proofs.YtfmgfcddnnggeaaGreatDoor

theorem body_run {s : Cn} {l : List UInt8} (hok : s.Ok) (he : s.er = 0) (h0 : s.fk ≠ 0) (hl : l ≠ []) :
    ((tdC s l).2.2.2 ≠ 0 → runC s l = ({ (tdC s l).1 with er := (tdC s l).2.2.2 }, bytesE (tdC s l).2.1) ∧ complB (tdC s l).1 = false) ∧
    ((tdC s l).2.2.2 = 0 → runC s (l.take (tdC s l).2.2.1) = offC (tdC s l).1 (bytesE (tdC s l).2.1) ∧ 0 < (tdC s l).2.2.1 ∧ (tdC s l).2.2.1 ≤ l.length) := by
  have hll : 0 < l.length := List.length_pos_iff.2 hl
  rcases hok.o2 with h | h | h | h
  · exact absurd h h0
  · have e : tdC s l = ({ s with fl := s.fl - min l.length s.fl }, l.take (min l.length s.fl), min l.length s.fl, 0) := by
      unfold tdC; rw [if_neg (by rw [h]; decide), if_pos h]
    rw [e]
    have h3 := hok.o3 h
    refine ⟨fun hn => absurd rfl hn, fun _ => ⟨runC_len (min l.length s.fl) he h (by omega) (by omega) (by omega), by show 0 < min l.length s.fl; omega, by show min l.length s.fl ≤ l.length; omega⟩⟩
  · obtain ⟨d, hd, _, hz, h8⟩ := hok.o5 h
    have e : tdC s l = ({ s with dc := some (wrD d l).1 }, (wrD d l).2.1, (wrD d l).2.2, (wrD d l).1.er) := by
      unfold tdC; rw [if_pos h, hd]
    rw [e]
    obtain ⟨i1, i2⟩ := runC_chunk l he h hd (hz he) h8
    have hc : complB { s with dc := some (wrD d l).1 } = decide ((wrD d l).1.pl = 8) := doneO_dec s (wrD d l).1 h
    refine ⟨fun hn => ⟨i1 hn, ?_⟩, fun hn => ?_⟩
    · show complB { s with dc := some (wrD d l).1 } = false
      rw [hc]; exact decide_eq_false (wrD_bad_pl l (hz he) hn)
    · have hn' : (wrD d l).1.er = 0 := hn
      have i3 := i2 hn'
      have hs : decC s (wrD d l).1 = { s with dc := some (wrD d l).1 } := by unfold decC; rw [hn', ← he]
      rw [hs] at i3
      refine ⟨i3, ?_, (wrD_len l d).1⟩
      show 0 < (wrD d l).2.2
      by_cases hp : (wrD d l).1.pl = 8
      · rcases Nat.eq_zero_or_pos (wrD d l).2.2 with hz0 | hz0
        · rw [hz0, List.take_zero] at i3
          unfold offC at i3
          rw [hc, decide_eq_true hp] at i3
          have := congrArg (fun r => r.2.length) i3
          simp [runC] at this
        · exact hz0
      · rw [wrD_full hn' hp]; exact hll
  · have e : tdC s l = (s, l, l.length, 0) := by
      unfold tdC; rw [if_neg (by rw [h]; decide), if_neg (by rw [h]; decide)]
    rw [e]
    have hc : complB s = false := by
      unfold complB; rw [if_neg (by rw [h]; decide), if_neg (by rw [h]; decide), h]; rfl
    refine ⟨fun hn => absurd rfl hn, fun _ => ⟨?_, hll, Nat.le_refl _⟩⟩
    show runC s (l.take l.length) = offC s (bytesE l)
    rw [List.take_length, runC_close l he h]
    unfold offC; rw [hc]; rfl
abbrev ev0 : Ev := ⟨0, noQ, noP, [], []⟩
/-- What arrives of a head with the bytes l: no more than MaxHead. -/
def rmC (s : Cn) (l : List UInt8) : Nat := min l.length (8192 - s.st.length)
def rdC (s : Cn) (l : List UInt8) : Nat × Ev × Nat := hdR s.rs (s.st ++ l.take (rmC s l))
/-- What takeHead leaves, makes and takes: the connection, the event, the number of bytes, the error's number. -/
def thC (s : Cn) (l : List UInt8) : Cn × Ev × Nat × Nat :=
  if (rdC s l).1 = 21 then ({ s with st := s.st ++ l.take (rmC s l) }, ev0, rmC s l, 0)
  else if (rdC s l).1 ≠ 0 then ({ s with st := [] }, ev0, 0, (rdC s l).1)
  else if s.hd = 64 then ({ s with st := [] }, ev0, 0, 5)
  else if (frC s (rdC s l).2.1).1 ≠ 0 then ({ s with st := [] }, ev0, 0, (frC s (rdC s l).2.1).1)
  else if interB s (rdC s l).2.1 = true then ({ s with st := [], hd := s.hd + 1 }, (rdC s l).2.1, (rdC s l).2.2 - s.st.length, 0)
  else (beginC { s with st := [], hd := s.hd + 1 } (frC s (rdC s l).2.1).2.1 (frC s (rdC s l).2.1).2.2, (rdC s l).2.1, (rdC s l).2.2 - s.st.length, 0)
theorem compl_none {s : Cn} (h : s.fk = 0) : complB s = false := by
  unfold complB; rw [if_neg (by rw [h]; decide), if_neg (by rw [h]; decide), h]; rfl
theorem offC_none {s : Cn} (h : s.fk = 0) (evs : List Ev) : offC s evs = (s, evs) := by
  unfold offC; rw [compl_none h]; rfl
theorem hdR_k (b : Bool) (l : List UInt8) : (hdR b l).2.1.k = 1 := by unfold hdR; split <;> rfl
theorem runC_off {s t : Cn} {l : List UInt8} (n : Nat) (h : runC s (l.take n) = (t, [])) (he : t.er ≠ 0) : runC s l = (t, []) := by
  rw [← List.take_append_drop n l, runC_app, h]
  simp only
  rw [runC_stop he]; rfl
theorem head_run {s : Cn} {l : List UInt8} (hok : s.Ok) (ha : atHead s) (hl : l ≠ []) :
    ((thC s l).2.2.2 ≠ 0 → runC s l = ({ (thC s l).1 with er := (thC s l).2.2.2 }, []) ∧ (thC s l).2.1.k = 0 ∧ complB (thC s l).1 = false) ∧
    ((thC s l).2.2.2 = 0 → runC s (l.take (thC s l).2.2.1) = offC (thC s l).1 (if (thC s l).2.1.k = 0 then [] else [(thC s l).2.1]) ∧ 0 < (thC s l).2.2.1 ∧ (thC s l).2.2.1 ≤ l.length) := by
  have hll : 0 < l.length := List.length_pos_iff.2 hl
  have h21 := hok.o1 ha.1 ha.2.1
  have h10 := hok.o10
  have hrm : rmC s l ≤ l.length := Nat.min_le_left _ _
  have hlt : (l.take (rmC s l)).length = rmC s l := by rw [List.length_take]; omega
  by_cases h1 : (rdC s l).1 = 21
  · have e : thC s l = ({ s with st := s.st ++ l.take (rmC s l) }, ev0, rmC s l, 0) := by unfold thC; rw [if_pos h1]
    rw [e]
    have hx := hdR_len h1
    rw [List.length_append, hlt] at hx
    have hr : rmC s l = l.length := by unfold rmC at hx ⊢; omega
    refine ⟨fun hn => absurd rfl hn, fun _ => ⟨?_, by show 0 < rmC s l; omega, hrm⟩⟩
    show runC s (l.take (rmC s l)) = offC { s with st := s.st ++ l.take (rmC s l) } []
    rw [offC_none (by exact ha.2.1), runC_wait _ ha h21 h1]
  · by_cases h2 : (rdC s l).1 = 0
    · obtain ⟨i1, i2, i3⟩ := runC_head (l.take (rmC s l)) ha h21 h2
      rw [hlt] at i2
      have hm : (rdC s l).2.2 - s.st.length ≤ rmC s l := by show (hdR s.rs (s.st ++ l.take (rmC s l))).2.2 - s.st.length ≤ rmC s l; omega
      have hp : 0 < (rdC s l).2.2 - s.st.length := by show 0 < (hdR s.rs (s.st ++ l.take (rmC s l))).2.2 - s.st.length; omega
      have i4 : runC s (l.take ((rdC s l).2.2 - s.st.length)) = headC s (rdC s l).2.1 := by
        rw [List.take_take, show min ((hdR s.rs (s.st ++ l.take (rmC s l))).2.2 - s.st.length) (rmC s l) = (rdC s l).2.2 - s.st.length from Nat.min_eq_left hm] at i3
        exact i3
      have hk : (rdC s l).2.1.k = 1 := hdR_k _ _
      by_cases h3 : s.hd = 64
      · have e : thC s l = ({ s with st := [] }, ev0, 0, 5) := by unfold thC; rw [if_neg h1, if_neg (by simp [h2]), if_pos h3]
        rw [e]
        have e2 : headC s (rdC s l).2.1 = ({ s with st := [], er := 5 }, []) := by unfold headC; rw [if_pos h3]
        rw [e2] at i4
        exact ⟨fun _ => ⟨runC_off _ i4 (by simp), rfl, compl_none (by exact ha.2.1)⟩, fun h => by cases h⟩
      · by_cases h4 : (frC s (rdC s l).2.1).1 = 0
        · by_cases h5 : interB s (rdC s l).2.1 = true
          · have e : thC s l = ({ s with st := [], hd := s.hd + 1 }, (rdC s l).2.1, (rdC s l).2.2 - s.st.length, 0) := by
              unfold thC; rw [if_neg h1, if_neg (by simp [h2]), if_neg h3, if_neg (by simp [h4]), if_pos h5]
            rw [e]
            have e2 : headC s (rdC s l).2.1 = ({ s with st := [], hd := s.hd + 1 }, [(rdC s l).2.1]) := by
              unfold headC; rw [if_neg h3, if_neg (by simp [h4]), if_pos h5]
            refine ⟨fun hn => absurd rfl hn, fun _ => ⟨?_, hp, Nat.le_trans hm hrm⟩⟩
            simp only
            rw [i4, e2, hk, if_neg (by decide), offC_none (by exact ha.2.1)]
          · have e : thC s l = (beginC { s with st := [], hd := s.hd + 1 } (frC s (rdC s l).2.1).2.1 (frC s (rdC s l).2.1).2.2, (rdC s l).2.1, (rdC s l).2.2 - s.st.length, 0) := by
              unfold thC; rw [if_neg h1, if_neg (by simp [h2]), if_neg h3, if_neg (by simp [h4]), if_neg h5]
            rw [e]
            have e2 : headC s (rdC s l).2.1 = offC (beginC { s with st := [], hd := s.hd + 1 } (frC s (rdC s l).2.1).2.1 (frC s (rdC s l).2.1).2.2) [(rdC s l).2.1] := by
              unfold headC; rw [if_neg h3, if_neg (by simp [h4]), if_neg h5]
            refine ⟨fun hn => absurd rfl hn, fun _ => ⟨?_, hp, Nat.le_trans hm hrm⟩⟩
            simp only
            rw [i4, e2, hk, if_neg (by decide)]
        · have e : thC s l = ({ s with st := [] }, ev0, 0, (frC s (rdC s l).2.1).1) := by
            unfold thC; rw [if_neg h1, if_neg (by simp [h2]), if_neg h3, if_pos h4]
          rw [e]
          have e2 : headC s (rdC s l).2.1 = ({ s with st := [], er := (frC s (rdC s l).2.1).1 }, []) := by unfold headC; rw [if_neg h3, if_pos h4]
          rw [e2] at i4
          exact ⟨fun _ => ⟨runC_off _ i4 h4, rfl, compl_none (by exact ha.2.1)⟩, fun h => absurd h h4⟩
    · have e : thC s l = ({ s with st := [] }, ev0, 0, (rdC s l).1) := by unfold thC; rw [if_neg h1, if_pos h2]
      rw [e]
      have i1 := runC_fault (l.take (rmC s l)) ha h21 h1 h2
      exact ⟨fun _ => ⟨runC_off _ i1 h2, rfl, compl_none (by exact ha.2.1)⟩, fun h => absurd h h2⟩
end Go.Proofs.YtfmgfcddnnggeaaGreatDoor

/- A slice of slices of bytes that is read; its sum; what sum and fits return. -/
namespace Go.Proofs.YtfmgfcddnnggeaaGreatDoor
open Go.RowKit

/-- The value v is a slice of slices of bytes that reads as ls in the world w. -/
def ReadsL (w : World) (v : Value) (ls : List (List UInt8)) : Prop :=
  ∃ ao cap, v = .slice ao ls.length cap ∧ ∀ j l, ls[j]? = some l → ∃ g off u, ao = some ⟨g, off, none⟩ ∧ g < w.heap.size ∧ w.cell? ⟨g, off + j, none⟩ = some u ∧ ReadsD w u l
theorem ReadsL.below {w w' : World} {v : Value} {ls : List (List UInt8)} (h : ReadsL w v ls) (hb : Below w.heap.size w w') : ReadsL w' v ls := by
  obtain ⟨ao, cap, rfl, hc⟩ := h
  refine ⟨ao, cap, rfl, fun j l hj => ?_⟩
  obtain ⟨g, off, u, h1, h2, h3, h4⟩ := hc j l hj
  exact ⟨g, off, u, h1, Nat.lt_of_lt_of_le h2 hb.size, (hb.cell (p := ⟨g, off + j, none⟩) h2).trans h3, h4.below hb⟩
def sumL (ls : List (List UInt8)) : Nat := (ls.map List.length).foldr (· + ·) 0
theorem sumL_cons (l : List UInt8) (r : List (List UInt8)) : sumL (l :: r) = l.length + sumL r := rfl
theorem sumL_app (a b : List (List UInt8)) : sumL (a ++ b) = sumL a + sumL b := by
  induction a with
  | nil => simp [sumL]
  | cons x r ih => rw [List.cons_append, sumL_cons, sumL_cons, ih]; omega
theorem sumL_flat (a : List (List UInt8)) : a.flatten.length = sumL a := by
  induction a with
  | nil => rfl
  | cons x r ih => rw [List.flatten_cons, List.length_append, ih, sumL_cons]
theorem moreK_at {α : Type} {ls : List α} {k : Nat} {l : α} (h : ls[k]? = some l) : ls.take (k + 1) = ls.take k ++ [l] := by
  rw [List.take_add_one, h]; rfl
theorem sumL_more {ls : List (List UInt8)} {k : Nat} {l : List UInt8} (h : ls[k]? = some l) : sumL (ls.take (k + 1)) = sumL (ls.take k) + l.length := by
  rw [moreK_at h, sumL_app]; simp [sumL]
theorem sumL_le {ls : List (List UInt8)} {M : Nat} (hb : ∀ l ∈ ls, l.length ≤ M) (k : Nat) : sumL (ls.take k) ≤ k * M := by
  induction k with
  | zero => simp [sumL]
  | succ k ih =>
    cases hp : ls[k]? with
    | none =>
      have e : ls.take (k + 1) = ls.take k := by rw [List.take_add_one, hp]; simp
      rw [e]; exact Nat.le_trans ih (Nat.mul_le_mul_right _ (Nat.le_succ k))
    | some p =>
      rw [sumL_more hp, Nat.succ_mul]
      have := hb p (List.mem_of_getElem? hp)
      omega
theorem sumL_take_le (ls : List (List UInt8)) (k : Nat) : sumL (ls.take k) ≤ sumL ls := by
  have := sumL_app (ls.take k) (ls.drop k)
  rw [List.take_append_drop] at this; omega
theorem sumL_mem {ls : List (List UInt8)} {l : List UInt8} (h : l ∈ ls) : l.length ≤ sumL ls := by
  induction ls with
  | nil => cases h
  | cons x r ih =>
    rw [sumL_cons]
    rcases List.mem_cons.1 h with rfl | h
    · omega
    · have := ih h; omega
def fits7B (ls : List (List UInt8)) : Bool := decide (ls.length ≤ 100 ∧ sumL ls ≤ 12000)
end Go.Proofs.YtfmgfcddnnggeaaGreatDoor
