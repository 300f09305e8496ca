import Derived.Test.YtfmgfcddnnggeaaGreatDoorPa14
import Derived.Test.YtfmgfcddnnggeaaGreatDoorPa13
import Derived.Test.YtfmgfcddnnggeaaGreatDoorPa4
/- The frame of the values of content-length and of transfer-encoding, step by step. -/
namespace Go.Proofs.YtfmgfcddnnggeaaGreatDoor

def lensS (ls : List (List UInt8)) : Nat × Nat × Nat := match elemsF ls with
  | some (e :: r) => match numO e with
    | none => (30, 0, 0)
    | some n => if r.all (fun x => decide (x = e)) = true then (if 65536 < n then (5, 0, 0) else (0, 2, n)) else (30, 0, 0)
  | _ => (30, 0, 0)
def codS (cs : List (List UInt8)) : Nat × Nat × Nat := match elemsF cs with
  | some [c] => if lowS c = chunkedL then (0, 3, 0) else (32, 0, 0)
  | _ => (32, 0, 0)
/-- The frame; o: the kind where there are neither lengths nor codings. -/
def ofO (o : Nat) (ls cs : List (List UInt8)) : Nat × Nat × Nat :=
  if ls ≠ [] ∧ cs ≠ [] then (31, 0, 0) else if cs ≠ [] then codS cs else if ls = [] then (0, o, 0) else lensS ls
theorem ofS_ofO (ls cs : List (List UInt8)) : ofS ls cs = ofO 1 ls cs := rfl
theorem ofO_both {o : Nat} {ls cs : List (List UInt8)} (h1 : ls ≠ []) (h2 : cs ≠ []) : ofO o ls cs = (31, 0, 0) := by unfold ofO; rw [if_pos ⟨h1, h2⟩]
theorem ofO_cod {o : Nat} {ls cs : List (List UInt8)} (h1 : ls = []) (h2 : cs ≠ []) : ofO o ls cs = codS cs := by unfold ofO; rw [if_neg (fun h => h.1 h1), if_pos h2]
theorem ofO_len {o : Nat} {ls cs : List (List UInt8)} (h1 : ls ≠ []) (h2 : cs = []) : ofO o ls cs = lensS ls := by unfold ofO; rw [if_neg (fun h => h.2 h2), if_neg (fun h => h h2), if_neg h1]
theorem ofO_none {o : Nat} {ls cs : List (List UInt8)} (h1 : ls = []) (h2 : cs = []) : ofO o ls cs = (0, o, 0) := by unfold ofO; rw [if_neg (fun h => h.2 h2), if_neg (fun h => h h2), if_pos h1]
theorem cod_none {cs : List (List UInt8)} (h : elemsF cs = none) : codS cs = (32, 0, 0) := by unfold codS; rw [h]
theorem cod_len {cs es : List (List UInt8)} (h : elemsF cs = some es) (h1 : es.length ≠ 1) : codS cs = (32, 0, 0) := by
  unfold codS; rw [h]
  match es, h1 with
  | [], _ => rfl
  | [_], h1 => exact absurd rfl h1
  | _ :: _ :: _, _ => rfl
theorem cod_yes {cs : List (List UInt8)} {c : List UInt8} (h : elemsF cs = some [c]) (h1 : lowS c = chunkedL) : codS cs = (0, 3, 0) := by unfold codS; rw [h]; simp only [if_pos h1]
theorem cod_no {cs : List (List UInt8)} {c : List UInt8} (h : elemsF cs = some [c]) (h1 : lowS c ≠ chunkedL) : codS cs = (32, 0, 0) := by unfold codS; rw [h]; simp only [if_neg h1]
theorem len_none {ls : List (List UInt8)} (h : elemsF ls = none) : lensS ls = (30, 0, 0) := by unfold lensS; rw [h]
theorem len_nil {ls : List (List UInt8)} (h : elemsF ls = some []) : lensS ls = (30, 0, 0) := by unfold lensS; rw [h]
theorem len_mix {ls r : List (List UInt8)} {e x : List UInt8} (h : elemsF ls = some (e :: r)) (hx : x ∈ e :: r) (hn : x ≠ e) : lensS ls = (30, 0, 0) := by
  unfold lensS; rw [h]
  have hr : r.all (fun x => decide (x = e)) = false := by
    rw [Bool.eq_false_iff]
    intro ha
    rcases List.mem_cons.1 hx with hx | hx
    · exact hn hx
    · exact hn (of_decide_eq_true (List.all_eq_true.1 ha x hx))
  simp only [hr]
  split <;> rfl
theorem len_nonum {ls r : List (List UInt8)} {e : List UInt8} (h : elemsF ls = some (e :: r)) (hn : numO e = none) : lensS ls = (30, 0, 0) := by unfold lensS; rw [h]; simp only [hn]
theorem len_large {ls r : List (List UInt8)} {e : List UInt8} {n : Nat} (h : elemsF ls = some (e :: r)) (ha : ∀ x ∈ e :: r, x = e) (hn : numO e = some n) (hl : 65536 < n) : lensS ls = (5, 0, 0) := by
  unfold lensS; rw [h]; simp only [hn]
  rw [if_pos (List.all_eq_true.2 fun x hx => decide_eq_true (ha x (by simp [hx]))), if_pos hl]
theorem len_good {ls r : List (List UInt8)} {e : List UInt8} {n : Nat} (h : elemsF ls = some (e :: r)) (ha : ∀ x ∈ e :: r, x = e) (hn : numO e = some n) (hl : ¬ 65536 < n) : lensS ls = (0, 2, n) := by
  unfold lensS; rw [h]; simp only [hn]
  rw [if_pos (List.all_eq_true.2 fun x hx => decide_eq_true (ha x (by simp [hx]))), if_neg hl]
theorem cod_err (cs : List (List UInt8)) (h : (codS cs).1 ≠ 0) : codS cs = ((codS cs).1, 0, 0) := by
  unfold codS at h ⊢
  repeat' split
  all_goals first | rfl | simp_all
theorem len_err (ls : List (List UInt8)) (h : (lensS ls).1 ≠ 0) : lensS ls = ((lensS ls).1, 0, 0) := by
  unfold lensS at h ⊢
  repeat' split
  all_goals first | rfl | simp_all
theorem ofO_err {o : Nat} {ls cs : List (List UInt8)} (h : (ofO o ls cs).1 ≠ 0) : ofO o ls cs = ((ofO o ls cs).1, 0, 0) := by
  by_cases h1 : ls = []
  · by_cases h2 : cs = []
    · rw [ofO_none h1 h2] at h; exact absurd rfl h
    · rw [ofO_cod h1 h2] at h ⊢; exact cod_err cs h
  · by_cases h2 : cs = []
    · rw [ofO_len h1 h2] at h ⊢; exact len_err ls h
    · rw [ofO_both h1 h2]
/-- The frame of a response; hd: it has no body whatever its fields say. -/
def ofR (hd : Bool) (ls cs : List (List UInt8)) : Nat × Nat × Nat := if (ofO 4 ls cs).1 = 0 ∧ hd = true then (0, 1, 0) else ofO 4 ls cs
theorem ofR_err {hd : Bool} {ls cs : List (List UInt8)} (h : (ofO 4 ls cs).1 ≠ 0) : ofR hd ls cs = ((ofO 4 ls cs).1, 0, 0) := by unfold ofR; rw [if_neg (fun e => h e.1)]; exact ofO_err h
theorem ofR_hd {ls cs : List (List UInt8)} (h : (ofO 4 ls cs).1 = 0) : ofR true ls cs = (0, 1, 0) := by unfold ofR; rw [if_pos ⟨h, rfl⟩]
theorem ofR_body {ls cs : List (List UInt8)} : ofR false ls cs = ofO 4 ls cs := by unfold ofR; rw [if_neg (by simp)]
def bodB (z : Int) : Bool := (decide (100 ≤ z) && decide (z ≤ 199)) || decide (z = 204) || decide (z = 304)
def headL : List UInt8 := [72, 69, 65, 68]
def clN : List UInt8 := [99, 111, 110, 116, 101, 110, 116, 45, 108, 101, 110, 103, 116, 104]
def teN : List UInt8 := [116, 114, 97, 110, 115, 102, 101, 114, 45, 101, 110, 99, 111, 100, 105, 110, 103]
/-- The values of the two fields. -/
abbrev lsF (ps : Flds) := allL ps clN
abbrev csF (ps : Flds) := allL ps teN
/-- A frame as a value. -/
abbrev frV (k n : Nat) : Value := .agg #[.int .i64 (k : Int), .int .i64 (n : Int)]
end Go.Proofs.YtfmgfcddnnggeaaGreatDoor

/- The connection as a machine that takes byte after byte: the plain part. -/
namespace Go.Proofs.YtfmgfcddnnggeaaGreatDoor

/-- An event: its kind, its request, its response, its data, its trailers. -/
structure Ev where
  k : Nat
  q : Rq
  p : Rp
  d : List UInt8
  t : Fs
abbrev noQ : Rq := ([], [], [])
abbrev noP : Rp := (0, [])
def dat (d : List UInt8) : Ev := ⟨2, noQ, noP, d, []⟩
/-- What a connection holds. -/
structure Cn where
  rs : Bool
  ms : List (List UInt8)
  hd : Nat
  st : List UInt8
  fk : Nat
  fl : Nat
  dc : Option Dc
  cl : Bool
  er : Nat
def Cn.reqs : Cn := ⟨false, [], 0, [], 0, 0, none, false, 0⟩
def Cn.resps (ms : List (List UInt8)) : Cn := ⟨true, ms, 0, [], 0, 0, none, false, 0⟩
/-- The trailers of a decoder, if there is one. -/
def trsO : Option Dc → Fs
  | some d => if d.pl = 8 then d.trs else []
  | none => []
def doneO : Option Dc → Bool
  | some d => decide (d.pl = 8)
  | none => false
def endE (s : Cn) : Ev := ⟨3, noQ, noP, [], trsO s.dc⟩
def endC (s : Cn) : Cn := { s with fk := 0, fl := 0, dc := none, ms := if s.rs = true then s.ms.tail else s.ms }
/-- Does the body need no more bytes? -/
def complB (s : Cn) : Bool := if s.fk = 2 then decide (s.fl = 0) else if s.fk = 3 then doneO s.dc else decide (s.fk = 1)
def offC (s : Cn) (evs : List Ev) : Cn × List Ev := if complB s = true then (endC s, evs ++ [endE s]) else (s, evs)
/-- What has arrived, read as a head: the error's number, the event, the number of bytes. -/
def hdR (rs : Bool) (l : List UInt8) : Nat × Ev × Nat :=
  if rs = true then ((readP nmO vlO l).1, ⟨1, noQ, (readP nmO vlO l).2.1, [], []⟩, (readP nmO vlO l).2.2)
  else ((readQ nmO vlO hostO lowS l).1, ⟨1, (readQ nmO vlO hostO lowS l).2.1, noP, [], []⟩, (readQ nmO vlO hostO lowS l).2.2)
/-- The frame of a head: the error's number, the kind, the length. -/
def frC (s : Cn) (e : Ev) : Nat × Nat × Nat :=
  if s.rs = true then ofR (decide (s.ms.headD [] = headL) || bodB (e.p.1 : Int)) (lsF e.p.2) (csF e.p.2) else ofO 1 (lsF e.q.2.2) (csF e.q.2.2)
def interB (s : Cn) (e : Ev) : Bool := s.rs && decide (100 ≤ e.p.1) && decide (e.p.1 ≤ 199)
def beginC (s : Cn) (k n : Nat) : Cn := { s with fk := k, fl := n, dc := if k = 3 then some Dc.new else s.dc }
/-- A head that is complete. -/
def headC (s : Cn) (e : Ev) : Cn × List Ev :=
  if s.hd = 64 then ({ s with st := [], er := 5 }, [])
  else if (frC s e).1 ≠ 0 then ({ s with st := [], er := (frC s e).1 }, [])
  else if interB s e = true then ({ s with st := [], hd := s.hd + 1 }, [e])
  else offC (beginC { s with st := [], hd := s.hd + 1 } (frC s e).2.1 (frC s e).2.2) [e]
/-- Data of a body, if there are any. -/
def datL (d : List UInt8) : List Ev := if d = [] then [] else [dat d]
def decC (s : Cn) (d : Dc) : Cn := { s with dc := some d, er := d.er }
def bodyC (s : Cn) (c : UInt8) : Cn × List Ev :=
  if s.fk = 2 then offC { s with fl := s.fl - 1 } [dat [c]]
  else if s.fk = 3 then match s.dc with
    | some d => offC (decC s (wrD d [c]).1) (datL (wrD d [c]).2.1)
    | none => (s, [])
  else (s, [dat [c]])
def stepC (s : Cn) (c : UInt8) : Cn × List Ev :=
  if s.er ≠ 0 then (s, [])
  else if s.fk ≠ 0 then bodyC s c
  else if s.cl = true ∨ (s.rs = true ∧ s.ms = []) then ({ s with er := 6 }, [])
  else if (hdR s.rs (s.st ++ [c])).1 = 21 then ({ s with st := s.st ++ [c] }, [])
  else if (hdR s.rs (s.st ++ [c])).1 ≠ 0 then ({ s with st := [], er := (hdR s.rs (s.st ++ [c])).1 }, [])
  else headC s (hdR s.rs (s.st ++ [c])).2.1
def runC : Cn → List UInt8 → Cn × List Ev
  | s, [] => (s, [])
  | s, c :: l => ((runC (stepC s c).1 l).1, (stepC s c).2 ++ (runC (stepC s c).1 l).2)
theorem runC_app : ∀ (a : List UInt8) (s : Cn) (b : List UInt8), runC s (a ++ b) = ((runC (runC s a).1 b).1, (runC s a).2 ++ (runC (runC s a).1 b).2) := by
  intro a
  induction a with
  | nil => intro s b; simp [runC]
  | cons c t ih => intro s b; rw [List.cons_append, runC, ih, runC]; simp
theorem stepC_stop {s : Cn} (h : s.er ≠ 0) (c : UInt8) : stepC s c = (s, []) := by unfold stepC; rw [if_pos h]
theorem runC_stop {s : Cn} (h : s.er ≠ 0) (l : List UInt8) : runC s l = (s, []) := by
  induction l with
  | nil => rfl
  | cons c t ih => rw [runC, stepC_stop h, ih]; rfl
/-- What holds of a connection between two bytes. -/
structure Cn.Ok (s : Cn) : Prop where
  o1 : s.er = 0 → s.fk = 0 → (hdR s.rs s.st).1 = 21
  o2 : s.fk = 0 ∨ s.fk = 2 ∨ s.fk = 3 ∨ s.fk = 4
  o3 : s.fk = 2 → 0 < s.fl
  o4 : s.fl ≤ 65536
  o5 : s.fk = 3 → ∃ d, s.dc = some d ∧ d.Ok ∧ (s.er = 0 → d.er = 0) ∧ d.pl ≠ 8
  o6 : s.fk ≠ 3 → s.dc = none
  o7 : s.hd ≤ 64
  o8 : s.fk ≠ 0 → s.st = []
  o9 : s.rs = true → s.fk ≠ 0 → s.ms ≠ []
  o10 : s.st.length < 8192
  o11 : s.fk ≠ 2 → s.fl = 0
theorem hdR_nil (b : Bool) : (hdR b []).1 = 21 := by
  cases b <;> decide
theorem hdR_21 {b : Bool} {l : List UInt8} : (hdR b l).1 = 21 ↔ (splitG l).1 = 21 := by
  cases b
  · exact readQ_21
  · exact readP_21
theorem hdR_more {b : Bool} {l : List UInt8} (h : (hdR b l).1 ≠ 21) (r : List UInt8) : hdR b (l ++ r) = hdR b l := by
  cases b
  · unfold hdR at h ⊢
    rw [if_neg (by simp)] at h
    rw [if_neg (by simp), if_neg (by simp), readQ_more h]
  · unfold hdR at h ⊢
    rw [if_pos rfl] at h
    rw [if_pos rfl, if_pos rfl, readP_more h]
theorem hdR_last {b : Bool} {l : List UInt8} {c : UInt8} (h0 : (hdR b l).1 = 21) (h : (hdR b (l ++ [c])).1 = 0) : (hdR b (l ++ [c])).2.2 = l.length + 1 := by
  have hs := hdR_21.1 h0
  cases b
  · unfold hdR at h ⊢
    rw [if_neg (by simp)] at h ⊢
    obtain ⟨h1, h2⟩ := readQ_zero h
    simp only at h2 ⊢
    rw [h2]; exact splitG_last hs h1
  · unfold hdR at h ⊢
    rw [if_pos rfl] at h ⊢
    obtain ⟨h1, h2⟩ := readP_zero h
    simp only at h2 ⊢
    rw [h2]; exact splitG_last hs h1
theorem hdR_len {b : Bool} {l : List UInt8} (h : (hdR b l).1 = 21) : l.length < 8192 := splitG_len (hdR_21.1 h)
/-- May the next byte belong to a head? -/
def atHead (s : Cn) : Prop := s.er = 0 ∧ s.fk = 0 ∧ ¬ (s.cl = true ∨ (s.rs = true ∧ s.ms = []))
theorem stepC_more {s : Cn} (h : atHead s) {c : UInt8} (h1 : (hdR s.rs (s.st ++ [c])).1 = 21) : stepC s c = ({ s with st := s.st ++ [c] }, []) := by
  unfold stepC; rw [if_neg (by simp [h.1]), if_neg (by simp [h.2.1]), if_neg h.2.2, if_pos h1]
theorem stepC_bad {s : Cn} (h : atHead s) {c : UInt8} (h1 : (hdR s.rs (s.st ++ [c])).1 ≠ 21) (h2 : (hdR s.rs (s.st ++ [c])).1 ≠ 0) : stepC s c = ({ s with st := [], er := (hdR s.rs (s.st ++ [c])).1 }, []) := by
  unfold stepC; rw [if_neg (by simp [h.1]), if_neg (by simp [h.2.1]), if_neg h.2.2, if_neg h1, if_pos h2]
theorem stepC_head {s : Cn} (h : atHead s) {c : UInt8} (h2 : (hdR s.rs (s.st ++ [c])).1 = 0) : stepC s c = headC s (hdR s.rs (s.st ++ [c])).2.1 := by
  unfold stepC; rw [if_neg (by simp [h.1]), if_neg (by simp [h.2.1]), if_neg h.2.2, if_neg (by rw [h2]; decide), if_neg (by rw [h2]; decide)]
theorem headC_st (s : Cn) (x : List UInt8) (e : Ev) : headC { s with st := x } e = headC s e := rfl
/-- Bytes that do not complete a head. -/
theorem runC_wait : ∀ (l : List UInt8) {s : Cn}, atHead s → (hdR s.rs s.st).1 = 21 → (hdR s.rs (s.st ++ l)).1 = 21 → runC s l = ({ s with st := s.st ++ l }, []) := by
  intro l
  induction l with
  | nil => intro s _ _ _; simp [runC]
  | cons c t ih =>
    intro s h h0 h1
    have hc : (hdR s.rs (s.st ++ [c])).1 = 21 := by
      by_cases hc : (hdR s.rs (s.st ++ [c])).1 = 21
      · exact hc
      · have := hdR_more hc t
        rw [List.append_assoc, List.singleton_append] at this
        rw [this] at h1; exact absurd h1 hc
    have := ih (s := { s with st := s.st ++ [c] }) h hc (by simp only [List.append_assoc, List.singleton_append]; exact h1)
    rw [runC, stepC_more h hc, this]
    simp
/-- Bytes that make a head faulty. -/
theorem runC_fault : ∀ (l : List UInt8) {s : Cn}, atHead s → (hdR s.rs s.st).1 = 21 → (hdR s.rs (s.st ++ l)).1 ≠ 21 → (hdR s.rs (s.st ++ l)).1 ≠ 0 → runC s l = ({ s with st := [], er := (hdR s.rs (s.st ++ l)).1 }, []) := by
  intro l
  induction l with
  | nil => intro s _ h0 h1; rw [List.append_nil] at h1; exact absurd h0 h1
  | cons c t ih =>
    intro s h h0 h1 h2
    have hcl : s.st ++ c :: t = s.st ++ [c] ++ t := by simp
    by_cases hc : (hdR s.rs (s.st ++ [c])).1 = 21
    · have := ih (s := { s with st := s.st ++ [c] }) h hc (by simp only; rw [← hcl]; exact h1) (by simp only; rw [← hcl]; exact h2)
      rw [runC, stepC_more h hc, this]
      simp
    · have hm := hdR_more hc t
      rw [← hcl] at hm
      rw [hm] at h2 ⊢
      rw [runC, stepC_bad h hc h2, runC_stop (by exact h2)]
      simp
/-- Bytes that complete a head. -/
theorem runC_head : ∀ (l : List UInt8) {s : Cn}, atHead s → (hdR s.rs s.st).1 = 21 → (hdR s.rs (s.st ++ l)).1 = 0 →
    s.st.length < (hdR s.rs (s.st ++ l)).2.2 ∧ (hdR s.rs (s.st ++ l)).2.2 ≤ s.st.length + l.length ∧ runC s (l.take ((hdR s.rs (s.st ++ l)).2.2 - s.st.length)) = headC s (hdR s.rs (s.st ++ l)).2.1 := by
  intro l
  induction l with
  | nil => intro s _ h0 h1; rw [List.append_nil, h0] at h1; cases h1
  | cons c t ih =>
    intro s h h0 h1
    have hcl : s.st ++ c :: t = s.st ++ [c] ++ t := by simp
    by_cases hc : (hdR s.rs (s.st ++ [c])).1 = 21
    · obtain ⟨i1, i2, i3⟩ := ih (s := { s with st := s.st ++ [c] }) h hc (by simp only; rw [← hcl]; exact h1)
      simp only [List.length_append, List.length_singleton] at i1 i2 i3
      rw [← hcl] at i1 i2 i3
      refine ⟨by omega, by simp; omega, ?_⟩
      obtain ⟨k, hk⟩ : ∃ k, (hdR s.rs (s.st ++ c :: t)).2.2 - s.st.length = k + 1 := ⟨(hdR s.rs (s.st ++ c :: t)).2.2 - s.st.length - 1, by omega⟩
      rw [hk, List.take_succ_cons, runC, stepC_more h hc]
      rw [show (hdR s.rs (s.st ++ c :: t)).2.2 - (s.st.length + 1) = k by omega] at i3
      rw [i3, headC_st]
      simp
    · have hm := hdR_more hc t
      rw [← hcl] at hm
      rw [hm] at h1 ⊢
      have hl := hdR_last h0 h1
      rw [hl]
      refine ⟨by omega, by simp, ?_⟩
      rw [show s.st.length + 1 - s.st.length = 0 + 1 by omega, List.take_succ_cons, runC, stepC_head h h1]
      simp [runC]
/-- Data, byte by byte. -/
def bytesE (l : List UInt8) : List Ev := l.map fun c => dat [c]
theorem runC_len : ∀ (n : Nat) {s : Cn} {l : List UInt8}, s.er = 0 → s.fk = 2 → 0 < n → n ≤ s.fl → n ≤ l.length → runC s (l.take n) = offC { s with fl := s.fl - n } (bytesE (l.take n)) := by
  intro n
  induction n with
  | zero => intro s l _ _ h; omega
  | succ n ih =>
    intro s l he hk _ hf hl
    cases l with
    | nil => simp at hl
    | cons c t =>
      have hs : stepC s c = offC { s with fl := s.fl - 1 } [dat [c]] := by
        unfold stepC bodyC; rw [if_neg (by simp [he]), if_pos (by rw [hk]; decide), if_pos hk]
      rw [List.take_succ_cons, runC, hs]
      by_cases hn : n = 0
      · subst hn; simp [runC, bytesE]
      · have hc : complB { s with fl := s.fl - 1 } = false := by unfold complB; simp only; rw [if_pos hk]; exact decide_eq_false (by omega)
        have ho : offC { s with fl := s.fl - 1 } [dat [c]] = ({ s with fl := s.fl - 1 }, [dat [c]]) := by unfold offC; rw [hc]; rfl
        rw [ho]
        have := ih (s := { s with fl := s.fl - 1 }) (l := t) he hk (by omega) (by simp only; omega) (by simp at hl; omega)
        simp only at this ⊢
        rw [this, show s.fl - 1 - n = s.fl - (n + 1) by omega]
        unfold offC
        split <;> simp [bytesE]
theorem runC_close : ∀ (l : List UInt8) {s : Cn}, s.er = 0 → s.fk = 4 → runC s l = (s, bytesE l) := by
  intro l
  induction l with
  | nil => intro s _ _; rfl
  | cons c t ih =>
    intro s he hk
    have hs : stepC s c = (s, [dat [c]]) := by
      unfold stepC bodyC; rw [if_neg (by simp [he]), if_pos (by rw [hk]; decide), if_neg (by rw [hk]; decide), if_neg (by rw [hk]; decide)]
    rw [runC, hs, ih he hk]; rfl
end Go.Proofs.YtfmgfcddnnggeaaGreatDoor

/- The reference's machine of chunked bodies, plain, and what it has to do with the program's. -/
namespace Go.Proofs.YtfmgfcddnnggeaaGreatDoor

/-- A state of the reference. -/
structure Rs where
  p : Nat
  d : Nat
  n : Nat
  ln : Nat
  tt : Nat
  lf : Nat
  se : Nat
  tx : List UInt8
  fs : List (List UInt8 × List UInt8)
  bad : Nat
def Rs.new : Rs := ⟨0, 0, 0, 0, 0, 0, 0, [], [], 0⟩
def badR (r : Rs) (e : Nat) : Rs := { r with bad := e }
def sizedR (r : Rs) (c : UInt8) : Rs :=
  if c.toNat = 13 ∧ 0 < r.d then { r with p := 2 }
  else if r.ln = 256 then badR r 33
  else if r.p = 1 then (if ctlB c = true then badR r 33 else { r with ln := r.ln + 1 })
  else if c.toNat = 59 ∧ 0 < r.d then { r with p := 1, ln := r.ln + 1 }
  else match hexV c with
    | none => badR r 33
    | some v => if r.d = 8 then badR r 33
      else if 65536 < r.tt + (16 * r.n + v) then { r with d := r.d + 1, n := 16 * r.n + v, bad := 5 }
      else { r with d := r.d + 1, n := 16 * r.n + v, ln := r.ln + 1 }
def endedR (r : Rs) (c : UInt8) : Rs :=
  if r.se = 8192 ∨ c.toNat = 0 ∨ ((decide (c.toNat = 10)) != decide (r.p = 7)) = true then badR r 34
  else if c.toNat = 13 then { r with p := 7, se := r.se + 1 }
  else if c.toNat ≠ 10 then { r with tx := r.tx ++ [c], se := r.se + 1 }
  else if r.tx = [] then { r with p := 8, se := r.se + 1 }
  else if ((cutC 58 r.tx).2.2 = false ∨ trB (cutC 58 r.tx).1 (cutC 58 r.tx).2.1 = false) ∨ r.fs.length = 64 then badR r 34
  else { r with fs := r.fs ++ [(nameR (cutC 58 r.tx).1, valueR (cutC 58 r.tx).2.1)], p := 6, tx := [], se := r.se + 1 }
def stepR (r : Rs) (c : UInt8) : Rs :=
  if r.p = 0 ∨ r.p = 1 then sizedR r c
  else if r.p = 2 then (if c.toNat ≠ 10 then badR r 33 else { r with p := if r.n = 0 then 6 else 3, lf := r.n })
  else if r.p = 3 then { r with lf := r.lf - 1, tt := r.tt + 1, p := if r.lf - 1 = 0 then 4 else 3 }
  else if r.p = 4 then (if c.toNat ≠ 13 then badR r 33 else { r with p := 5 })
  else if r.p = 5 then (if c.toNat ≠ 10 then badR r 33 else { r with p := 0, d := 0, n := 0, ln := 0 })
  else endedR r c
/-- What the two machines' states have to do with one another while there is no error. -/
structure RelR (s : Dc) (r : Rs) : Prop where
  a0 : s.pl = 0 → r.d = s.len ∧ r.ln = s.len ∧ r.n = s.sz ∧ r.tt = s.tot
  a1 : s.pl = 1 → 0 < r.d ∧ r.ln = s.len ∧ r.n = s.sz ∧ r.tt = s.tot
  a2 : s.pl = 2 → r.n = s.sz ∧ r.tt = s.tot
  a3 : s.pl = 3 → r.lf = s.sz ∧ r.tt = s.tot
  a4 : s.pl = 4 ∨ s.pl = 5 → r.tt = s.tot ∧ s.sz = 0
  a5 : s.pl ≤ 5 → r.se = 0 ∧ r.tx = []
  a6 : s.pl = 6 ∨ s.pl = 7 → r.se = s.len ∧ r.tx = s.line
structure RelS (s : Dc) (r : Rs) : Prop where
  hp : r.p = s.pl
  hb : r.bad = s.er
  hf : r.fs = s.trs
  hr : s.er = 0 → RelR s r
/-- The reference's numbers are small, so that nothing wraps. -/
structure RsOk (r : Rs) : Prop where
  p : r.p ≤ 8
  d : r.d ≤ 8
  n : r.n ≤ 1048576 + 16
  ln : r.ln ≤ 256
  tt : r.tt ≤ 65536
  lf : r.lf ≤ 1048576 + 16
  l3 : r.p = 3 → 0 < r.lf ∧ r.tt + r.lf ≤ 65536
  n0 : r.p = 0 → r.tt + r.n ≤ 65536
  n1 : r.p = 1 → r.tt + r.n ≤ 65536
  n2 : r.p = 2 → r.tt + r.n ≤ 65536
  se : r.se ≤ 8192
  tx : r.tx.length ≤ r.se
  fs : r.fs.length ≤ 64
theorem rel_new : RelS Dc.new Rs.new := by
  refine ⟨rfl, rfl, rfl, fun _ => ?_⟩
  constructor <;> simp [Dc.new, Rs.new]
theorem rsok_new : RsOk Rs.new := by constructor <;> simp [Rs.new]
/-- The error of a step. -/
def afterS (s : Dc) (c : UInt8) : Dc := if s.pl = 3 then dataS s 1 else if (stepS s c).1 = 0 then (stepS s c).2 else { (stepS s c).2 with er := (stepS s c).1 }
theorem after_er {s : Dc} {c : UInt8} (h3 : s.pl ≠ 3) {t : Dc} {e : Nat} (h : stepS s c = (e, t)) (he : e ≠ 0) : afterS s c = { t with er := e } := by
  unfold afterS; rw [if_neg h3, h, if_neg he]
theorem after_ok {s : Dc} {c : UInt8} (h3 : s.pl ≠ 3) {t : Dc} (h : stepS s c = (0, t)) : afterS s c = t := by
  unfold afterS; rw [if_neg h3, h, if_pos rfl]
theorem rel_bad {s : Dc} {r : Rs} (h : RelS s r) {t : Dc} {q : Rs} {e : Nat} (he : e ≠ 0) (h1 : t.pl = s.pl) (h2 : t.trs = s.trs) (q1 : q.p = r.p) (q2 : q.fs = r.fs) (q3 : q.bad = e) : RelS { t with er := e } q :=
  ⟨q1.trans (h.hp.trans h1.symm), q3, q2.trans (h.hf.trans h2.symm), fun e0 => absurd e0 he⟩
theorem hex_not {c : UInt8} {v : Nat} (h : hexV c = some v) : c.toNat ≠ 13 ∧ c.toNat ≠ 59 := by
  unfold hexV at h
  constructor <;> intro e <;> rw [e] at h <;> simp at h
theorem rel_step {s : Dc} {r : Rs} (h : RelS s r) (hok : s.Ok) (he : s.er = 0) (h8 : s.pl ≠ 8) (c : UInt8) : RelS (afterS s c) (stepR r c) := by
  have hR := h.hr he
  have hp := h.hp
  have hf := h.hf
  have hbd : r.bad = 0 := h.hb.trans he
  have h11 := hok.b11
  rcases (show s.pl = 0 ∨ s.pl = 1 ∨ s.pl = 2 ∨ s.pl = 3 ∨ s.pl = 4 ∨ s.pl = 5 ∨ s.pl = 6 ∨ s.pl = 7 by omega) with p | p | p | p | p | p | p | p
  · obtain ⟨d1, d2, d3, d4⟩ := hR.a0 p
    have d5 := hR.a5 (by omega)
    have hl := hok.b2 p
    have e1 : stepS s c = sizeS s c := by unfold stepS; rw [if_pos p]
    have e2 : stepR r c = sizedR r c := by unfold stepR; rw [if_pos (.inl (by omega))]
    rw [e2]
    unfold sizedR
    unfold sizeS at e1
    cases hv : hexV c with
    | some v =>
      obtain ⟨n1, n2⟩ := hex_not hv
      rw [hv] at e1
      simp only at e1
      unfold digS at e1
      rw [if_neg (fun e => n1 e.1), if_neg (by omega), if_neg (by omega), if_neg (fun e => n2 e.1)]
      simp only
      by_cases q1 : s.len = 8
      · rw [if_pos q1] at e1
        rw [if_pos (by omega), after_er (by omega) e1 (by decide)]
        exact rel_bad h (by decide) rfl rfl rfl rfl rfl
      · rw [if_neg q1] at e1
        rw [if_neg (by omega)]
        by_cases q2 : 65536 < s.tot + (s.sz * 16 + v)
        · rw [if_pos q2] at e1
          rw [if_pos (by omega), after_er (by omega) e1 (by decide)]
          exact rel_bad h (by decide) rfl rfl rfl rfl rfl
        · rw [if_neg q2] at e1
          rw [if_neg (by omega), after_ok (by omega) e1]
          refine ⟨by simp only; omega, by simp only; omega, hf, fun _ => ⟨fun _ => ⟨by simp only; omega, by simp only; omega, by simp only; omega, d4⟩, fun q => by simp only at q; omega, fun q => by simp only at q; omega, fun q => by simp only at q; omega, fun q => by simp only at q; omega, fun _ => d5, fun q => by simp only at q; omega⟩⟩
    | none =>
      rw [hv] at e1
      simp only at e1
      by_cases q1 : s.len = 0
      · rw [if_pos q1] at e1
        rw [if_neg (fun e => by omega), if_neg (by omega), if_neg (by omega), if_neg (fun e => by omega)]
        simp only
        rw [after_er (by omega) e1 (by decide)]
        exact rel_bad h (by decide) rfl rfl rfl rfl rfl
      · rw [if_neg q1] at e1
        by_cases q2 : c.toNat = 59
        · rw [if_pos q2] at e1
          rw [if_neg (fun e => by omega), if_neg (by omega), if_neg (by omega), if_pos ⟨q2, by omega⟩, after_ok (by omega) e1]
          exact ⟨rfl, by simp only; omega, hf, fun _ => ⟨fun q => (by cases q), fun _ => ⟨by simp only; omega, by simp only; omega, d3, d4⟩, fun q => (by cases q), fun q => (by cases q), fun q => (by rcases q with q | q <;> cases q), fun _ => d5, fun q => (by rcases q with q | q <;> cases q)⟩⟩
        · rw [if_neg q2] at e1
          unfold expS at e1
          by_cases q3 : c.toNat = 13
          · rw [if_pos q3] at e1
            rw [if_pos ⟨q3, by omega⟩, after_ok (by omega) e1]
            exact ⟨rfl, by simp only; omega, hf, fun _ => ⟨fun q => (by cases q), fun q => (by cases q), fun _ => ⟨d3, d4⟩, fun q => (by cases q), fun q => (by rcases q with q | q <;> cases q), fun _ => d5, fun q => (by rcases q with q | q <;> cases q)⟩⟩
          · rw [if_neg q3] at e1
            rw [if_neg (fun e => q3 e.1), if_neg (by omega), if_neg (by omega), if_neg (fun e => q2 e.1)]
            simp only
            rw [after_er (by omega) e1 (by decide)]
            exact rel_bad h (by decide) rfl rfl rfl rfl rfl
  · obtain ⟨d1, d2, d3, d4⟩ := hR.a1 p
    have d5 := hR.a5 (by omega)
    have e1 : stepS s c = extS s c := by unfold stepS; rw [if_neg (by omega), if_pos p]
    have e2 : stepR r c = sizedR r c := by unfold stepR; rw [if_pos (.inr (by omega))]
    rw [e2]
    unfold sizedR
    unfold extS at e1
    by_cases q3 : c.toNat = 13
    · rw [if_pos q3] at e1
      rw [if_pos ⟨q3, d1⟩, after_ok (by omega) e1]
      exact ⟨rfl, by simp only; omega, hf, fun _ => ⟨fun q => (by cases q), fun q => (by cases q), fun _ => ⟨d3, d4⟩, fun q => (by cases q), fun q => (by rcases q with q | q <;> cases q), fun _ => d5, fun q => (by rcases q with q | q <;> cases q)⟩⟩
    · rw [if_neg q3] at e1
      rw [if_neg (fun e => q3 e.1)]
      by_cases q4 : s.len = 256
      · rw [if_pos (.inr q4)] at e1
        rw [if_pos (by omega), after_er (by omega) e1 (by decide)]
        exact rel_bad h (by decide) rfl rfl rfl rfl rfl
      · rw [if_neg (by omega), if_pos (by omega)]
        cases q5 : ctlB c with
        | true =>
          rw [if_pos (.inl q5)] at e1
          rw [if_pos rfl, after_er (by omega) e1 (by decide)]
          exact rel_bad h (by decide) rfl rfl rfl rfl rfl
        | false =>
          rw [if_neg (by simp [q5, q4])] at e1
          rw [if_neg (by simp), after_ok (by omega) e1]
          exact ⟨hp, by simp only; omega, hf, fun _ => ⟨fun q => by simp only at q; omega, fun _ => ⟨d1, by simp only; omega, d3, d4⟩, fun q => by simp only at q; omega, fun q => by simp only at q; omega, fun q => by simp only at q; omega, fun _ => d5, fun q => by simp only at q; omega⟩⟩
  · obtain ⟨d3, d4⟩ := hR.a2 p
    have d5 := hR.a5 (by omega)
    have hb6 := hok.b6 (by omega)
    have e1 : stepS s c = endS s c := by unfold stepS; rw [if_neg (by omega), if_neg (by omega), if_pos p]
    have e2 : stepR r c = if c.toNat ≠ 10 then badR r 33 else { r with p := if r.n = 0 then 6 else 3, lf := r.n } := by unfold stepR; rw [if_neg (by omega), if_pos (by omega)]
    rw [e2]
    unfold endS expS at e1
    by_cases q1 : c.toNat = 10
    · rw [if_neg (by simp [q1])]
      by_cases q2 : s.sz = 0
      · rw [if_pos q2, if_pos q1] at e1
        rw [if_pos (by omega), after_ok (by omega) e1]
        exact ⟨rfl, by simp only; omega, hf, fun _ => ⟨fun q => (by cases q), fun q => (by cases q), fun q => (by cases q), fun q => (by cases q), fun q => (by rcases q with q | q <;> cases q), fun q => by simp only at q; omega, fun _ => ⟨d5.1, by rw [d5.2]; exact (List.eq_nil_of_length_eq_zero hb6).symm⟩⟩⟩
      · rw [if_neg q2, if_pos q1] at e1
        rw [if_neg (by omega), after_ok (by omega) e1]
        exact ⟨rfl, by simp only; omega, hf, fun _ => ⟨fun q => (by cases q), fun q => (by cases q), fun q => (by cases q), fun _ => ⟨d3, d4⟩, fun q => (by rcases q with q | q <;> cases q), fun _ => d5, fun q => (by rcases q with q | q <;> cases q)⟩⟩
    · rw [if_pos q1]
      rw [if_neg q1, if_neg q1, ite_self] at e1
      rw [after_er (by omega) e1 (by decide)]
      exact rel_bad h (by decide) rfl rfl rfl rfl rfl
  · obtain ⟨d3, d4⟩ := hR.a3 p
    have d5 := hR.a5 (by omega)
    have e2 : stepR r c = { r with lf := r.lf - 1, tt := r.tt + 1, p := if r.lf - 1 = 0 then 4 else 3 } := by unfold stepR; rw [if_neg (by omega), if_neg (by omega), if_pos (by omega)]
    have e1 : afterS s c = dataS s 1 := by unfold afterS; rw [if_pos p]
    rw [e2, e1]
    unfold dataS
    have hz : (r.lf - 1 = 0) = (s.sz - 1 = 0) := by rw [d3]
    refine ⟨by simp only [hz], by simp only; omega, hf, fun _ => ?_⟩
    by_cases q : s.sz - 1 = 0
    · refine ⟨?_, ?_, ?_, ?_, fun _ => ⟨by simp only; omega, q⟩, fun _ => d5, ?_⟩ <;> simp [q]
    · refine ⟨?_, ?_, ?_, fun _ => ⟨by simp only; omega, by simp only; omega⟩, ?_, fun _ => d5, ?_⟩ <;> simp [q]
  · obtain ⟨d4, d6⟩ := hR.a4 (.inl p)
    have d5 := hR.a5 (by omega)
    have e1 : stepS s c = expS s c 13 5 := by unfold stepS; rw [if_neg (by omega), if_neg (by omega), if_neg (by omega), if_pos p]
    have e2 : stepR r c = if c.toNat ≠ 13 then badR r 33 else { r with p := 5 } := by unfold stepR; rw [if_neg (by omega), if_neg (by omega), if_neg (by omega), if_pos (by omega)]
    rw [e2]
    unfold expS at e1
    by_cases q1 : c.toNat = 13
    · rw [if_pos q1] at e1
      rw [if_neg (by simp [q1]), after_ok (by omega) e1]
      exact ⟨rfl, by simp only; omega, hf, fun _ => ⟨fun q => (by cases q), fun q => (by cases q), fun q => (by cases q), fun q => (by cases q), fun _ => ⟨d4, d6⟩, fun _ => d5, fun q => (by rcases q with q | q <;> cases q)⟩⟩
    · rw [if_neg q1] at e1
      rw [if_pos q1, after_er (by omega) e1 (by decide)]
      exact rel_bad h (by decide) rfl rfl rfl rfl rfl
  · obtain ⟨d4, d6⟩ := hR.a4 (.inr p)
    have d5 := hR.a5 (by omega)
    have e1 : stepS s c = expS s c 10 0 := by unfold stepS; rw [if_neg (by omega), if_neg (by omega), if_neg (by omega), if_neg (by omega), if_pos p]
    have e2 : stepR r c = if c.toNat ≠ 10 then badR r 33 else { r with p := 0, d := 0, n := 0, ln := 0 } := by unfold stepR; rw [if_neg (by omega), if_neg (by omega), if_neg (by omega), if_neg (by omega), if_pos (by omega)]
    have hb4 := hok.b4 (by omega) (by omega)
    rw [e2]
    unfold expS at e1
    by_cases q1 : c.toNat = 10
    · rw [if_pos q1] at e1
      rw [if_neg (by simp [q1]), after_ok (by omega) e1]
      exact ⟨rfl, by simp only; omega, hf, fun _ => ⟨fun _ => ⟨hb4.symm, hb4.symm, d6.symm, d4⟩, fun q => (by cases q), fun q => (by cases q), fun q => (by cases q), fun q => (by rcases q with q | q <;> cases q), fun _ => d5, fun q => (by rcases q with q | q <;> cases q)⟩⟩
    · rw [if_neg q1] at e1
      rw [if_pos q1, after_er (by omega) e1 (by decide)]
      exact rel_bad h (by decide) rfl rfl rfl rfl rfl
  all_goals
    obtain ⟨d3, d4⟩ := hR.a6 (by omega)
    have e1 : stepS s c = trlS s c := by unfold stepS; rw [if_neg (by omega), if_neg (by omega), if_neg (by omega), if_neg (by omega), if_neg (by omega)]
    have e2 : stepR r c = endedR r c := by unfold stepR; rw [if_neg (by omega), if_neg (by omega), if_neg (by omega), if_neg (by omega), if_neg (by omega)]
    have hw := hok.b7 (by omega)
    rw [e2]
    unfold endedR
    unfold trlS at e1
    have hcond : (r.se = 8192 ∨ c.toNat = 0 ∨ ((decide (c.toNat = 10)) != decide (r.p = 7)) = true) = (s.len = 8192 ∨ c.toNat = 0 ∨ ((decide (c.toNat = 10)) != decide (s.pl = 7)) = true) := by rw [d3, hp]
    by_cases q0 : s.len = 8192 ∨ c.toNat = 0 ∨ ((decide (c.toNat = 10)) != decide (s.pl = 7)) = true
    · rw [if_pos q0] at e1
      rw [if_pos (hcond ▸ q0), after_er (by omega) e1 (by decide)]
      exact rel_bad h (by decide) rfl rfl rfl rfl rfl
    · rw [if_neg q0] at e1
      rw [if_neg (hcond ▸ q0)]
      by_cases q1 : c.toNat = 10
      · rw [if_pos q1] at e1
        rw [if_neg (by omega), if_neg (by simp [q1])]
        unfold lineS at e1
        simp only at e1
        by_cases q2 : s.line = []
        · rw [if_pos q2] at e1
          rw [if_pos (d4.trans q2), after_ok (by omega) e1]
          exact ⟨rfl, by simp only; omega, hf, fun _ => ⟨fun q => (by cases q), fun q => (by cases q), fun q => (by cases q), fun q => (by cases q), fun q => (by rcases q with q | q <;> cases q), fun q => by simp only at q; omega, fun q => (by rcases q with q | q <;> cases q)⟩⟩
        · rw [if_neg q2] at e1
          rw [if_neg (by rw [d4]; exact q2), d4, hf]
          by_cases q3 : (cutC 58 s.line).2.2 = false ∨ s.trs.length = 64
          · rw [if_pos q3] at e1
            rw [if_pos (by rcases q3 with q | q; exact .inl (.inl q); exact .inr q), after_er (by omega) e1 (by decide)]
            exact rel_bad h (by decide) rfl rfl rfl rfl rfl
          · rw [if_neg q3] at e1
            by_cases q4 : trB (cutC 58 s.line).1 (cutC 58 s.line).2.1 = false
            · rw [if_pos q4] at e1
              rw [if_pos (.inl (.inr q4)), after_er (by omega) e1 (by decide)]
              exact rel_bad h (by decide) rfl rfl rfl rfl rfl
            · rw [if_neg q4] at e1
              rw [if_neg (by rintro ((q | q) | q); exact q3 (.inl q); exact q4 q; exact q3 (.inr q)), after_ok (by omega) e1]
              exact ⟨rfl, by simp only; omega, by simp only, fun _ => ⟨fun q => (by cases q), fun q => (by cases q), fun q => (by cases q), fun q => (by cases q), fun q => (by rcases q with q | q <;> cases q), fun q => by simp only at q; omega, fun _ => ⟨by simp only; omega, rfl⟩⟩⟩
      · rw [if_neg q1] at e1
        by_cases q2 : c.toNat = 13
        · rw [if_pos q2] at e1
          rw [if_pos q2, after_ok (by omega) e1]
          exact ⟨rfl, by simp only; omega, hf, fun _ => ⟨fun q => (by cases q), fun q => (by cases q), fun q => (by cases q), fun q => (by cases q), fun q => (by rcases q with q | q <;> cases q), fun q => by simp only at q; omega, fun _ => ⟨by simp only; omega, d4⟩⟩⟩
        · rw [if_neg q2] at e1
          rw [if_neg q2, if_pos q1, after_ok (by omega) e1]
          exact ⟨hp, by simp only; omega, hf, fun _ => ⟨fun q => by simp only at q; omega, fun q => by simp only at q; omega, fun q => by simp only at q; omega, fun q => by simp only at q; omega, fun q => by simp only at q; omega, fun q => by simp only at q; omega, fun _ => ⟨by simp only; omega, by simp only [d4]⟩⟩⟩
end Go.Proofs.YtfmgfcddnnggeaaGreatDoor
