import Derived.Test.YtfmgfcddnnggeaaGreatDoorPa27
import Derived.Test.YtfmgfcddnnggeaaGreatDoorPa13
/- The last chunk and the trailers as they are written, and what a decoder makes of them: the plain part. -/
namespace Go.Proofs.YtfmgfcddnnggeaaGreatDoor

/-- May a field be written as a trailer? -/
def goodTr (p : List UInt8 × List UInt8) : Bool := decide (nameC p.1 = 0) && decide (valueC p.2 = 0) && decide (trimB p.2 = p.2) && !forbB (lowS p.1)
/-- A trailer line without its end. -/
def trLine (p : List UInt8 × List UInt8) : List UInt8 := lowS p.1 ++ 58 :: 32 :: p.2
def linesT (ts : List (List UInt8 × List UInt8)) : List UInt8 := ts.flatMap fun p => trLine p ++ [13, 10]
def lastL (ts : List (List UInt8 × List UInt8)) : List UInt8 := 48 :: 13 :: 10 :: (linesT ts ++ [13, 10])
theorem linesT_cons (p : List UInt8 × List UInt8) (ts : List (List UInt8 × List UInt8)) : linesT (p :: ts) = trLine p ++ [13, 10] ++ linesT ts := rfl
structure GoodTr (p : List UInt8 × List UInt8) : Prop where
  nm : nmO p.1 = some (lowS p.1)
  nm2 : nmO (lowS p.1) = some (lowS p.1)
  vl : vlO p.2 = some p.2
  fb : forbB (lowS p.1) = false
theorem nmO_zero {n y : List UInt8} (h : nmO n = some y) : nameC n = 0 ∧ y = lowS n := by
  unfold nmO at h
  by_cases h0 : nameC n = 0
  · rw [if_pos h0] at h; exact ⟨h0, (Option.some.inj h).symm⟩
  · rw [if_neg h0] at h; cases h
theorem vlO_zero {n y : List UInt8} (h : vlO n = some y) : valueC n = 0 ∧ y = trimB n := by
  unfold vlO at h
  by_cases h0 : valueC n = 0
  · rw [if_pos h0] at h; exact ⟨h0, (Option.some.inj h).symm⟩
  · rw [if_neg h0] at h; cases h
theorem goodTr_of {p : List UInt8 × List UInt8} (h : goodTr p = true) : GoodTr p := by
  unfold goodTr at h
  simp only [Bool.and_eq_true, decide_eq_true_eq, Bool.not_eq_true'] at h
  obtain ⟨⟨⟨h1, h2⟩, h3⟩, h4⟩ := h
  have hn : nmO p.1 = some (lowS p.1) := by unfold nmO; rw [if_pos h1]
  refine ⟨hn, flk.nm_id hn, ?_, h4⟩
  unfold vlO; rw [if_pos h2, h3]
theorem trLine_clean {p : List UInt8 × List UInt8} (h : GoodTr p) : Clean (trLine p) := by
  intro c hc
  unfold trLine at hc
  rw [List.mem_append] at hc
  rcases hc with hc | hc
  · have := (flk.nm_ok h.nm2).2 c hc
    exact ⟨this.1, this.2.1, this.2.2.1⟩
  · rcases List.mem_cons.1 hc with rfl | hc
    · decide
    · rcases List.mem_cons.1 hc with rfl | hc
      · decide
      · exact flk.vl_ok h.vl c hc
theorem trLine_cut {p : List UInt8 × List UInt8} (h : GoodTr p) : cutC 58 (trLine p) = (lowS p.1, 32 :: p.2, true) := by
  unfold trLine
  exact cutC_at (fun hc => ((flk.nm_ok h.nm2).2 58 hc).2.2.2.1 rfl) _
theorem trLine_read {p : List UInt8 × List UInt8} (h : GoodTr p) : trB (lowS p.1) (32 :: p.2) = true ∧ nameR (lowS p.1) = lowS p.1 ∧ valueR (32 :: p.2) = p.2 := by
  obtain ⟨n1, n2⟩ := nmO_zero h.nm2
  obtain ⟨v1, v2⟩ := vlO_zero (flk.vl_sp h.vl)
  have hr : nameR (lowS p.1) = lowS p.1 := by unfold nameR; rw [if_pos n1]; exact n2.symm
  refine ⟨?_, hr, ?_⟩
  · unfold trB; rw [hr, h.fb, decide_eq_true n1, decide_eq_true v1]; rfl
  · unfold valueR; rw [if_pos v1]; exact v2.symm
theorem natK {c d : UInt8} (h : c.toNat = d.toNat) : c = d := UInt8.toNat_inj.1 h
/-- Bytes of a trailer line. -/
theorem wrD_clean : ∀ (x : List UInt8) {s : Dc}, s.er = 0 → s.pl = 6 → Clean x → s.len + x.length ≤ 8192 → wrD s x = ({ s with len := s.len + x.length, line := s.line ++ x }, [], x.length) := by
  intro x
  induction x with
  | nil => intro s _ _ _ _; cases s; simp [wrD]
  | cons c t ih =>
    intro s he hp hc hl
    rw [clean_cons] at hc
    obtain ⟨⟨c0, c13, c10⟩, hct⟩ := hc
    have n0 : c.toNat ≠ 0 := fun e => c0 (natK (by exact e))
    have n13 : c.toNat ≠ 13 := fun e => c13 (natK (by exact e))
    have n10 : c.toNat ≠ 10 := fun e => c10 (natK (by exact e))
    have hs : stepS s c = (0, { s with len := s.len + 1, line := s.line ++ [c] }) := by
      unfold stepS
      rw [if_neg (by omega), if_neg (by omega), if_neg (by omega), if_neg (by omega), if_neg (by omega)]
      unfold trlS
      simp only [List.length_cons] at hl
      rw [if_neg (by
        rintro (h | h | h)
        · omega
        · exact n0 h
        · rw [decide_eq_false n10, decide_eq_false (by omega)] at h; cases h), if_neg n10, if_neg n13]
    have := ih (s := { s with len := s.len + 1, line := s.line ++ [c] }) he hp hct (by simp only [List.length_cons] at hl; simp only; omega)
    rw [wrD_step he (by omega) (by omega) (by rw [hs]), hs]
    simp only
    rw [this]
    simp; omega
theorem step_cr {s : Dc} (hp : s.pl = 6) (hl : s.len < 8192) : stepS s 13 = (0, { s with len := s.len + 1, pl := 7 }) := by
  unfold stepS
  rw [if_neg (by omega), if_neg (by omega), if_neg (by omega), if_neg (by omega), if_neg (by omega)]
  unfold trlS
  rw [if_neg (by
    rintro (h | h | h)
    · omega
    · cases h
    · rw [decide_eq_false (by omega : ¬ s.pl = 7)] at h; cases h), if_neg (by decide), if_pos (by decide)]
theorem step_lf {s : Dc} (hp : s.pl = 7) (hl : s.len < 8192) : stepS s 10 = lineS { s with len := s.len + 1 } := by
  unfold stepS
  rw [if_neg (by omega), if_neg (by omega), if_neg (by omega), if_neg (by omega), if_neg (by omega)]
  unfold trlS
  rw [if_neg (by
    rintro (h | h | h)
    · omega
    · cases h
    · rw [decide_eq_true hp] at h; cases h), if_pos (by decide)]
/-- A trailer line with its end. -/
theorem wrD_line {p : List UInt8 × List UInt8} (h : GoodTr p) {s : Dc} (he : s.er = 0) (hp : s.pl = 6) (hn : s.line = []) (ht : s.trs.length < 64) (hl : s.len + (trLine p).length + 2 ≤ 8192) :
    wrD s (trLine p ++ [13, 10]) = ({ s with len := s.len + (trLine p).length + 2, trs := s.trs ++ [(lowS p.1, p.2)] }, [], (trLine p).length + 2) := by
  rw [wrD_app, wrD_clean (trLine p) he hp (trLine_clean h) (by omega)]
  simp only
  have s1 := step_cr (s := { s with len := s.len + (trLine p).length, line := s.line ++ trLine p }) hp (by simp only; omega)
  have s2 := step_lf (s := { s with len := s.len + (trLine p).length + 1, line := s.line ++ trLine p, pl := 7 }) rfl (by simp only; omega)
  have hne : trLine p ≠ [] := by unfold trLine; simp
  obtain ⟨t1, t2, t3⟩ := trLine_read h
  have s3 : lineS { s with len := s.len + (trLine p).length + 1 + 1, line := s.line ++ trLine p, pl := 7 } = (0, { s with len := s.len + (trLine p).length + 1 + 1, trs := s.trs ++ [(lowS p.1, p.2)], line := [], pl := 6 }) := by
    unfold lineS
    simp only [hn, List.nil_append]
    rw [if_neg hne, trLine_cut h]
    simp only
    rw [if_neg (by rintro (h | h); cases h; omega), if_neg (by rw [t1]; decide), t2, t3]
  simp only at s1 s2
  rw [s3] at s2
  rw [wrD_step (s := { s with len := s.len + (trLine p).length, line := s.line ++ trLine p }) he (by simp only; omega) (by simp only; omega) (by rw [s1]), s1]
  simp only
  rw [wrD_step (s := { s with len := s.len + (trLine p).length + 1, line := s.line ++ trLine p, pl := 7 }) he (by simp) (by simp) (by rw [s2]), s2]
  cases s
  simp only at hp hn
  subst hp hn
  simp [wrD]
def lowP (p : List UInt8 × List UInt8) : List UInt8 × List UInt8 := (lowS p.1, p.2)
theorem wrD_lines : ∀ (ts : List (List UInt8 × List UInt8)) {s : Dc}, (∀ p ∈ ts, GoodTr p) → s.er = 0 → s.pl = 6 → s.line = [] → s.trs.length + ts.length ≤ 64 → s.len + (linesT ts).length ≤ 8192 →
    wrD s (linesT ts) = ({ s with len := s.len + (linesT ts).length, trs := s.trs ++ ts.map lowP }, [], (linesT ts).length) := by
  intro ts
  induction ts with
  | nil => intro s _ _ _ _ _ _; cases s; simp [linesT, wrD]
  | cons p r ih =>
    intro s hg he hp hn ht hl
    rw [linesT_cons] at hl ⊢
    simp only [List.length_append, List.length_cons, List.length_nil] at hl ht
    rw [wrD_app, wrD_line (hg p (by simp)) he hp hn (by omega) (by omega)]
    simp only
    rw [ih (s := { s with len := s.len + (trLine p).length + 2, trs := s.trs ++ [(lowS p.1, p.2)] }) (fun q hq => hg q (by simp [hq])) he hp hn (by simp; omega) (by simp only; omega)]
    simp [lowP]; omega
/-- The last chunk, the trailers and the end: a decoder at the beginning of a chunk comes to its end. -/
theorem wrD_last {s : Dc} (h : AtSize s) (hln : s.line = []) (htr : s.trs = []) (h0 : s.tot ≤ 65536) {ts : List (List UInt8 × List UInt8)} (hg : ∀ p ∈ ts, GoodTr p) (ht : ts.length ≤ 64) (hl : (linesT ts).length + 2 ≤ 8192) :
    (wrD s (lastL ts)).1.er = 0 ∧ (wrD s (lastL ts)).1.pl = 8 ∧ (wrD s (lastL ts)).1.trs = ts.map lowP ∧ (wrD s (lastL ts)).2 = ([], (lastL ts).length) := by
  have e0 : lastL ts = [48, 13, 10] ++ (linesT ts ++ [13, 10]) := rfl
  have s1 : stepS s 48 = (0, { s with sz := 0, len := 1 }) := by
    unfold stepS; rw [if_pos h.pl]; unfold sizeS
    rw [show hexV 48 = some 0 by decide]
    simp only
    unfold digS
    rw [h.len, h.sz, if_neg (by decide), if_neg (by omega)]
  have s2 : stepS { s with sz := 0, len := 1 } 13 = (0, { s with sz := 0, len := 1, pl := 2 }) := by
    unfold stepS; rw [if_pos h.pl]; unfold sizeS
    rw [show hexV 13 = none by decide]
    simp only
    rw [if_neg (by decide), if_neg (by decide)]; rfl
  have s3 : stepS { s with sz := 0, len := 1, pl := 2 } 10 = (0, { s with sz := 0, len := 0, pl := 6 }) := by
    unfold stepS
    rw [if_neg (by simp), if_neg (by simp), if_pos rfl]
    unfold endS
    simp only
    rw [if_pos trivial]; rfl
  have w0 : wrD s [48, 13, 10] = ({ s with sz := 0, len := 0, pl := 6 }, [], 3) := by
    rw [wrD_step h.er (by rw [h.pl]; decide) (by rw [h.pl]; decide) (by rw [s1]), s1]
    simp only
    rw [wrD_step (s := { s with sz := 0, len := 1 }) h.er (by simp only; rw [h.pl]; decide) (by simp only; rw [h.pl]; decide) (by rw [s2]), s2]
    simp only
    rw [wrD_step (s := { s with sz := 0, len := 1, pl := 2 }) h.er (by simp) (by simp) (by rw [s3]), s3]
    simp [wrD]
  have w1 := wrD_lines ts (s := { s with sz := 0, len := 0, pl := 6 }) hg h.er rfl hln (by simp only [htr]; simp; omega) (by simp only; omega)
  have s4 := step_cr (s := { s with sz := 0, len := 0 + (linesT ts).length, pl := 6, trs := s.trs ++ ts.map lowP }) rfl (by simp only; omega)
  have s5 := step_lf (s := { s with sz := 0, len := 0 + (linesT ts).length + 1, pl := 7, trs := s.trs ++ ts.map lowP }) rfl (by simp only; omega)
  have s6 : lineS { s with sz := 0, len := 0 + (linesT ts).length + 1 + 1, pl := 7, trs := s.trs ++ ts.map lowP } = (0, { s with sz := 0, len := 0 + (linesT ts).length + 1 + 1, pl := 8, trs := s.trs ++ ts.map lowP }) := by
    unfold lineS; simp only [hln]; rw [if_pos trivial]
  simp only at s4 s5
  rw [s6] at s5
  have w2 : wrD { s with sz := 0, len := 0 + (linesT ts).length, pl := 6, trs := s.trs ++ ts.map lowP } [13, 10] = ({ s with sz := 0, len := 0 + (linesT ts).length + 1 + 1, pl := 8, trs := s.trs ++ ts.map lowP }, [], 2) := by
    rw [wrD_step (s := { s with sz := 0, len := 0 + (linesT ts).length, pl := 6, trs := s.trs ++ ts.map lowP }) h.er (by simp) (by simp) (by rw [s4]), s4]
    simp only
    rw [wrD_step (s := { s with sz := 0, len := 0 + (linesT ts).length + 1, pl := 7, trs := s.trs ++ ts.map lowP }) h.er (by simp) (by simp) (by rw [s5]), s5]
    simp [wrD]
  rw [e0, wrD_app, w0]
  simp only
  rw [wrD_app, w1]
  simp only
  rw [w2, htr]
  refine ⟨h.er, rfl, by simp, by simp; omega⟩
end Go.Proofs.YtfmgfcddnnggeaaGreatDoor

/- Whole bodies as they are written, and read again, also in part; spoilt chunks: the plain part. -/
namespace Go.Proofs.YtfmgfcddnnggeaaGreatDoor

def chunksL (ls : List (List UInt8)) : List UInt8 := (ls.map chunkL).flatten
theorem chunksL_cons (l : List UInt8) (ls : List (List UInt8)) : chunksL (l :: ls) = chunkL l ++ chunksL ls := rfl
theorem wrD_chunks : ∀ (ls : List (List UInt8)) {s : Dc}, AtSize s → s.tot + ls.flatten.length ≤ 65536 → wrD s (chunksL ls) = ({ s with tot := s.tot + ls.flatten.length }, ls.flatten, (chunksL ls).length) ∧ AtSize { s with tot := s.tot + ls.flatten.length } := by
  intro ls
  induction ls with
  | nil => intro s h _; exact ⟨by cases s; simp [chunksL, wrD], ⟨h.pl, h.er, h.len, h.sz⟩⟩
  | cons l r ih =>
    intro s h ht
    rw [List.flatten_cons, List.length_append] at ht
    obtain ⟨h1, h2⟩ := wrD_chunk h (b := l) (by omega) (by omega)
    obtain ⟨h3, _⟩ := ih h2 (by simp only; omega)
    refine ⟨?_, ⟨h.pl, h.er, h.len, h.sz⟩⟩
    rw [chunksL_cons, wrD_app, h1]
    simp only at h3 ⊢
    rw [h3]
    simp; omega
/-- A body as Encode writes it. -/
def encL (ls : List (List UInt8)) (ts : List (List UInt8 × List UInt8)) : List UInt8 := chunksL ls ++ lastL ts
theorem atSize_new : AtSize Dc.new := ⟨rfl, rfl, rfl, rfl⟩
theorem wrD_enc {ls : List (List UInt8)} {ts : List (List UInt8 × List UInt8)} (hs : ls.flatten.length ≤ 65536) (hg : ∀ p ∈ ts, GoodTr p) (ht : ts.length ≤ 64) (hl : (linesT ts).length + 2 ≤ 8192) :
    (wrD Dc.new (encL ls ts)).1.er = 0 ∧ (wrD Dc.new (encL ls ts)).1.pl = 8 ∧ (wrD Dc.new (encL ls ts)).1.trs = ts.map lowP ∧ (wrD Dc.new (encL ls ts)).2 = (ls.flatten, (encL ls ts).length) := by
  obtain ⟨h1, h2⟩ := wrD_chunks ls atSize_new (show 0 + ls.flatten.length ≤ 65536 by omega)
  obtain ⟨l1, l2, l3, l4⟩ := wrD_last h2 rfl rfl (show 0 + ls.flatten.length ≤ 65536 by omega) hg ht hl
  unfold encL
  rw [wrD_app, h1]
  simp only
  refine ⟨l1, l2, l3, ?_⟩
  rw [l4]; simp
/-- No proper prefix of what is taken whole is faulty or the end. -/
theorem wrD_before {s : Dc} {l : List UInt8} (he : (wrD s l).1.er = 0) (hn : (wrD s l).2.2 = l.length) {i : Nat} (hi : i < l.length) :
    (wrD s (l.take i)).1.er = 0 ∧ (wrD s (l.take i)).1.pl ≠ 8 ∧ (wrD s (l.take i)).2.2 = i := by
  have h := wrD_app (l.take i) s (l.drop i)
  rw [List.take_append_drop] at h
  have hle := (wrD_len (l.take i) s).1
  rw [List.length_take] at hle
  have e1 : (wrD s (l.take i)).1.er = 0 := by
    by_cases e : (wrD s (l.take i)).1.er = 0
    · exact e
    · rw [wrD_stop (.inl e)] at h; rw [h] at he; exact absurd he e
  have e2 : (wrD s (l.take i)).1.pl ≠ 8 := by
    intro e
    rw [wrD_stop (.inr e)] at h
    rw [h] at hn
    simp only at hn
    omega
  refine ⟨e1, e2, ?_⟩
  have := wrD_full e1 e2
  rw [this, List.length_take]; omega
theorem wrD_over {s : Dc} {l : List UInt8} (h8 : (wrD s l).1.pl = 8) (r : List UInt8) : wrD s (l ++ r) = wrD s l := by
  rw [wrD_app, wrD_stop (.inr h8)]; simp
/-- A part that makes a decoder faulty. -/
theorem wrD_err {s : Dc} {a : List UInt8} {t : Dc} {d : List UInt8} (h : wrD s a = (t, d, a.length)) (he : t.er = 0) (h8 : t.pl ≠ 8) (h3 : t.pl ≠ 3) {c : UInt8} {u : Dc} {n : Nat} (hs : stepS t c = (n, u)) (hn : n ≠ 0) (r : List UInt8) :
    wrD s (a ++ c :: r) = ({ u with er := n }, d, a.length) := by
  rw [wrD_app, h]
  simp only
  rw [wrD_bad he h8 h3 (by rw [hs]; exact hn), hs]
  simp
/-- A decoder behind the data of a chunk. -/
theorem wrD_data2 {s : Dc} (h : AtSize s) {b : List UInt8} (hb : b ≠ []) (hk : b.length < 16 ^ 8) (ht : s.tot + b.length ≤ 65536) :
    wrD s (hexT b.length ++ 13 :: 10 :: b) = ({ s with sz := 0, len := 0, pl := 4, tot := s.tot + b.length }, b, (hexT b.length ++ 13 :: 10 :: b).length) := by
  have hpos : 0 < b.length := List.length_pos_iff.2 hb
  rw [show hexT b.length ++ 13 :: 10 :: b = (hexT b.length ++ [13, 10]) ++ b by simp, wrD_app, wrD_sizeEnd h hpos hk ht]
  simp only
  rw [wrD_data (n := b.length) (s := { s with sz := b.length, len := 0, pl := 3 }) h.er rfl hpos (Nat.le_refl _) (Nat.le_refl _)]
  rw [List.drop_length, List.take_length]
  have d1 : dataS { s with sz := b.length, len := 0, pl := 3 } b.length = { s with sz := 0, len := 0, pl := 4, tot := s.tot + b.length } := by
    unfold dataS; simp
  rw [d1]
  simp [wrD]; omega
theorem step_cr4 {s : Dc} (h : s.pl = 4) {c : UInt8} : stepS s c = expS s c 13 5 := by
  unfold stepS; rw [if_neg (by omega), if_neg (by omega), if_neg (by omega), if_pos h]
theorem step_lf5 {s : Dc} (h : s.pl = 5) {c : UInt8} : stepS s c = expS s c 10 0 := by
  unfold stepS; rw [if_neg (by omega), if_neg (by omega), if_neg (by omega), if_neg (by omega), if_pos h]
/-- A byte other than a digit, ';' or CR behind the digits of a size. -/
theorem wrD_badSize {s : Dc} (h : AtSize s) {n : Nat} (hk : n < 16 ^ 8) (ht : s.tot + n ≤ 65536) {c : UInt8} (hc : hexV c = none) (h59 : c.toNat ≠ 59) (h13 : c.toNat ≠ 13) (r : List UInt8) :
    (wrD s (hexT n ++ c :: r)).1.er = 33 ∧ (wrD s (hexT n ++ c :: r)).1.pl ≠ 8 ∧ (wrD s (hexT n ++ c :: r)).2 = ([], (hexT n).length) := by
  have hl := hexT_len 7 n hk
  have hs : stepS { s with sz := n, len := (hexT n).length } c = (33, { s with sz := n, len := (hexT n).length }) := by
    unfold stepS; rw [if_pos h.pl]; unfold sizeS; rw [hc]
    simp only
    rw [if_neg (by omega), if_neg h59]
    unfold expS; rw [if_neg h13]
  rw [wrD_err (wrD_hex 7 n h hk (by decide) ht) h.er (by simp only; rw [h.pl]; decide) (by simp only; rw [h.pl]; decide) hs (by decide) r]
  exact ⟨rfl, by simp only; rw [h.pl]; decide, rfl⟩
end Go.Proofs.YtfmgfcddnnggeaaGreatDoor

/- The five spoilt chunks of ChunkedSpoilt: what the decoder answers. Pure. -/
namespace Go.Proofs.YtfmgfcddnnggeaaGreatDoor

def spoilL (q : Nat) (b : List UInt8) : List UInt8 :=
  if q = 0 then hexT b.length ++ 13 :: 10 :: (b ++ 120 :: [13, 10])
  else if q = 1 then hexT b.length ++ 10 :: (b ++ [13, 10])
  else if q = 2 then hexT b.length ++ 32 :: 13 :: 10 :: (b ++ [13, 10])
  else if q = 3 then hexT b.length ++ 13 :: 10 :: (b ++ [10])
  else hexT b.length ++ 13 :: 10 :: (b ++ [13, 13])
/-- How many bytes of the spoilt chunk are taken. -/
def spoilN (q : Nat) (b : List UInt8) : Nat :=
  if q = 0 then (hexT b.length).length + 2 + b.length
  else if q = 1 then (hexT b.length).length
  else if q = 2 then (hexT b.length).length
  else if q = 3 then (hexT b.length).length + 2 + b.length
  else (hexT b.length).length + 3 + b.length
def spoilD (q : Nat) (b : List UInt8) : List UInt8 := if q = 0 ∨ 2 < q then b else []
theorem wrD_dataBad {s : Dc} (h : AtSize s) {b : List UInt8} (hb : b ≠ []) (hk : b.length < 16 ^ 8) (ht : s.tot + b.length ≤ 65536) {c : UInt8} (hc : c.toNat ≠ 13) (r : List UInt8) :
    (wrD s (hexT b.length ++ 13 :: 10 :: (b ++ c :: r))).1.er = 33 ∧ (wrD s (hexT b.length ++ 13 :: 10 :: (b ++ c :: r))).1.pl ≠ 8 ∧ (wrD s (hexT b.length ++ 13 :: 10 :: (b ++ c :: r))).2 = (b, (hexT b.length).length + 2 + b.length) := by
  have h1 := wrD_data2 h hb hk ht
  have hs : stepS { s with sz := 0, len := 0, pl := 4, tot := s.tot + b.length } c = (33, { s with sz := 0, len := 0, pl := 4, tot := s.tot + b.length }) := by
    rw [step_cr4 rfl]; unfold expS; rw [if_neg hc]
  have h2 := wrD_err h1 (by exact h.er) (by simp) (by simp) hs (by decide) r
  rw [show hexT b.length ++ 13 :: 10 :: (b ++ c :: r) = (hexT b.length ++ 13 :: 10 :: b) ++ c :: r by simp, h2]
  exact ⟨rfl, by simp, by simp; omega⟩
theorem wrD_crBad {s : Dc} (h : AtSize s) {b : List UInt8} (hb : b ≠ []) (hk : b.length < 16 ^ 8) (ht : s.tot + b.length ≤ 65536) {c : UInt8} (hc : c.toNat ≠ 10) (r : List UInt8) :
    (wrD s (hexT b.length ++ 13 :: 10 :: (b ++ 13 :: c :: r))).1.er = 33 ∧ (wrD s (hexT b.length ++ 13 :: 10 :: (b ++ 13 :: c :: r))).1.pl ≠ 8 ∧ (wrD s (hexT b.length ++ 13 :: 10 :: (b ++ 13 :: c :: r))).2 = (b, (hexT b.length).length + 3 + b.length) := by
  have h1 := wrD_data2 h hb hk ht
  have hs1 : stepS { s with sz := 0, len := 0, pl := 4, tot := s.tot + b.length } 13 = (0, { s with sz := 0, len := 0, pl := 5, tot := s.tot + b.length }) := by
    rw [step_cr4 rfl]; unfold expS; rw [if_pos (by decide)]
  have h13 : wrD s ((hexT b.length ++ 13 :: 10 :: b) ++ [13]) = ({ s with sz := 0, len := 0, pl := 5, tot := s.tot + b.length }, b, ((hexT b.length ++ 13 :: 10 :: b) ++ [13]).length) := by
    rw [wrD_app, h1]
    simp only
    rw [wrD_one (by exact h.er) (by simp) (by simp) hs1]
    simp; omega
  have hs : stepS { s with sz := 0, len := 0, pl := 5, tot := s.tot + b.length } c = (33, { s with sz := 0, len := 0, pl := 5, tot := s.tot + b.length }) := by
    rw [step_lf5 rfl]; unfold expS; rw [if_neg hc]
  have h2 := wrD_err h13 (by exact h.er) (by simp) (by simp) hs (by decide) r
  rw [show hexT b.length ++ 13 :: 10 :: (b ++ 13 :: c :: r) = ((hexT b.length ++ 13 :: 10 :: b) ++ [13]) ++ c :: r by simp, h2]
  exact ⟨rfl, by simp, by simp; omega⟩
theorem wrD_spoil {s : Dc} (h : AtSize s) {b : List UInt8} (hb : b ≠ []) (hk : b.length < 16 ^ 8) (ht : s.tot + b.length ≤ 65536) (q : Nat) :
    (wrD s (spoilL q b)).1.er = 33 ∧ (wrD s (spoilL q b)).1.pl ≠ 8 ∧ (wrD s (spoilL q b)).2 = (spoilD q b, spoilN q b) := by
  unfold spoilL spoilD spoilN
  by_cases h0 : q = 0
  · simp only [h0, if_true, true_or]
    exact wrD_dataBad h hb hk ht (by decide) [13, 10]
  by_cases h1 : q = 1
  · subst h1
    simpa using wrD_badSize h hk ht (c := 10) (by decide) (by decide) (by decide) (b ++ [13, 10])
  by_cases h2 : q = 2
  · subst h2
    simpa using wrD_badSize h hk ht (c := 32) (by decide) (by decide) (by decide) (13 :: 10 :: (b ++ [13, 10]))
  have hgt : 2 < q := by omega
  by_cases h3 : q = 3
  · subst h3
    simpa using wrD_dataBad h hb hk ht (c := 10) (by decide) []
  · rw [if_neg h0, if_neg h1, if_neg h2, if_neg h3, if_neg h0, if_neg h1, if_neg h2, if_neg h3, if_pos (.inr hgt)]
    exact wrD_crBad h hb hk ht (by decide) []
/-- A whole chunk ahead of it. -/
theorem wrD_spoilt {a b : List UInt8} (hb : b ≠ []) (hl : a.length + b.length ≤ 65536) (q : Nat) :
    (wrD Dc.new (chunkL a ++ spoilL q b)).1.er = 33 ∧ (wrD Dc.new (chunkL a ++ spoilL q b)).1.pl ≠ 8 ∧ (wrD Dc.new (chunkL a ++ spoilL q b)).2 = (a ++ spoilD q b, (chunkL a).length + spoilN q b) := by
  have h16 : (16 : Nat) ^ 8 = 4294967296 := by decide
  obtain ⟨h1, h2⟩ := wrD_chunk atSize_new (b := a) (by omega) (by show 0 + a.length ≤ 65536; omega)
  obtain ⟨h3, h4, h5⟩ := wrD_spoil h2 hb (by omega) (by show 0 + a.length + b.length ≤ 65536; omega) q
  rw [wrD_app, h1]
  exact ⟨h3, h4, by simp only; rw [h5]⟩
/-- The chunk, cut as the law cuts it: n bytes in all, m digits. -/
theorem chunkL_three {b : List UInt8} (hb : b ≠ []) : chunkL b = hexT b.length ++ ([13, 10] ++ (b ++ [13, 10])) := by unfold chunkL; rw [if_neg hb]; simp
theorem chunkL_size {b : List UInt8} (hb : b ≠ []) : (chunkL b).length = (hexT b.length).length + b.length + 4 := by rw [chunkL_three hb]; simp; omega
theorem take_at {x y : List UInt8} {n : Nat} (h : n = x.length) : (x ++ y).take n = x := by rw [h, List.take_left]
theorem drop_at {x y : List UInt8} {n : Nat} (h : n = x.length) : (x ++ y).drop n = y := by rw [h, List.drop_left]
theorem spoil_4 {b : List UInt8} (hb : b ≠ []) {n : Nat} (hn : n = (chunkL b).length) : (chunkL b).take (n - 1) ++ [13] = spoilL 4 b := by
  rw [chunkL_size hb] at hn
  rw [show chunkL b = (hexT b.length ++ [13, 10] ++ b ++ [13]) ++ [10] by rw [chunkL_three hb]; simp, take_at (by simp; omega)]
  simp [spoilL]
theorem spoil_3 {b : List UInt8} (hb : b ≠ []) {n : Nat} (hn : n = (chunkL b).length) : (chunkL b).take (n - 2) ++ [10] = spoilL 3 b := by
  rw [chunkL_size hb] at hn
  rw [show chunkL b = (hexT b.length ++ [13, 10] ++ b) ++ [13, 10] by rw [chunkL_three hb]; simp, take_at (by simp; omega)]
  simp [spoilL]
theorem spoil_0 {b : List UInt8} (hb : b ≠ []) {n : Nat} (hn : n = (chunkL b).length) : (chunkL b).take (n - 2) ++ [120] ++ (chunkL b).drop (n - 2) = spoilL 0 b := by
  rw [chunkL_size hb] at hn
  rw [show chunkL b = (hexT b.length ++ [13, 10] ++ b) ++ [13, 10] by rw [chunkL_three hb]; simp, take_at (by simp; omega), drop_at (by simp; omega)]
  simp [spoilL]
theorem spoil_1 {b : List UInt8} (hb : b ≠ []) {m : Nat} (hm : m = (hexT b.length).length) : (chunkL b).take m ++ [10] ++ (chunkL b).drop (m + 2) = spoilL 1 b := by
  rw [show (chunkL b).take m = hexT b.length by rw [chunkL_three hb, take_at hm], show (chunkL b).drop (m + 2) = b ++ [13, 10] by
    rw [show chunkL b = (hexT b.length ++ [13, 10]) ++ (b ++ [13, 10]) by rw [chunkL_three hb]; simp, drop_at (by simp; omega)]]
  simp [spoilL]
theorem spoil_2 {b : List UInt8} (hb : b ≠ []) {m : Nat} (hm : m = (hexT b.length).length) : (chunkL b).take m ++ [32] ++ (chunkL b).drop m = spoilL 2 b := by
  rw [chunkL_three hb, take_at hm, drop_at hm]
  simp [spoilL]
end Go.Proofs.YtfmgfcddnnggeaaGreatDoor
