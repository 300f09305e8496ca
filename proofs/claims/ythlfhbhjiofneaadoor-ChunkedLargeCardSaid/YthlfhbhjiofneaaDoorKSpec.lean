/- The decoder of chunked bodies as a machine on bytes: the plain part. -/
import Derived.Test.YthlfhbhjiofneaaDoorFName
import Derived.Test.YthlfhbhjiofneaaDoorASpec
namespace Go.Proofs.YthlfhbhjiofneaaDoor

/-- What a decoder holds. -/
structure Dc where
  pl : Nat
  er : Nat
  sz : Nat
  tot : Nat
  len : Nat
  line : List UInt8
  trs : List (List UInt8 × List UInt8)
def Dc.new : Dc := ⟨0, 0, 0, 0, 0, [], []⟩
def hexV (c : UInt8) : Option Nat :=
  if 48 ≤ c.toNat ∧ c.toNat ≤ 57 then some (c.toNat - 48)
  else if 97 ≤ c.toNat ∧ c.toNat ≤ 102 then some (c.toNat - 87)
  else if 65 ≤ c.toNat ∧ c.toNat ≤ 70 then some (c.toNat - 55) else none
theorem hexV_lt {c : UInt8} {d : Nat} (h : hexV c = some d) : d < 16 := by
  unfold hexV at h
  split at h
  · simp at h; omega
  · split at h
    · simp at h; omega
    · split at h
      · simp at h; omega
      · cases h
def forbL : List (List UInt8) := [[97, 117, 116, 104, 111, 114, 105, 122, 97, 116, 105, 111, 110], [99, 97, 99, 104, 101, 45, 99, 111, 110, 116, 114, 111, 108], [99, 111, 110, 116, 101, 110, 116, 45, 108, 101, 110, 103, 116, 104], [104, 111, 115, 116], [115, 101, 116, 45, 99, 111, 111, 107, 105, 101], [116, 114, 97, 105, 108, 101, 114], [116, 114, 97, 110, 115, 102, 101, 114, 45, 101, 110, 99, 111, 100, 105, 110, 103]]
def forbB (n : List UInt8) : Bool := forbL.contains n
/-- Do a name and a value make a trailer? -/
def trB (n v : List UInt8) : Bool := decide (nameC n = 0) && !forbB (nameR n) && decide (valueC v = 0)
def expS (s : Dc) (c : UInt8) (only next : Nat) : Nat × Dc := if c.toNat = only then (0, { s with pl := next }) else (33, s)
def digS (s : Dc) (d : Nat) : Nat × Dc :=
  if s.len = 8 then (33, s) else if 65536 < s.tot + (s.sz * 16 + d) then (5, s) else (0, { s with sz := s.sz * 16 + d, len := s.len + 1 })
def sizeS (s : Dc) (c : UInt8) : Nat × Dc :=
  match hexV c with
  | some d => digS s d
  | none => if s.len = 0 then (33, s) else if c.toNat = 59 then (0, { s with pl := 1, len := s.len + 1 }) else expS s c 13 2
def extS (s : Dc) (c : UInt8) : Nat × Dc :=
  if c.toNat = 13 then (0, { s with pl := 2 }) else if ctlB c = true ∨ s.len = 256 then (33, s) else (0, { s with len := s.len + 1 })
def endS (s : Dc) (c : UInt8) : Nat × Dc := if s.sz = 0 then expS { s with len := 0 } c 10 6 else expS { s with len := 0 } c 10 3
def lineS (s : Dc) : Nat × Dc :=
  if s.line = [] then (0, { s with pl := 8 })
  else if (cutC 58 s.line).2.2 = false ∨ s.trs.length = 64 then (34, s)
  else if trB (cutC 58 s.line).1 (cutC 58 s.line).2.1 = false then (34, s)
  else (0, { s with trs := s.trs ++ [(nameR (cutC 58 s.line).1, valueR (cutC 58 s.line).2.1)], line := [], pl := 6 })
def trlS (s : Dc) (c : UInt8) : Nat × Dc :=
  if s.len = 8192 ∨ c.toNat = 0 ∨ ((decide (c.toNat = 10)) != decide (s.pl = 7)) = true then (34, s)
  else if c.toNat = 10 then lineS { s with len := s.len + 1 }
  else if c.toNat = 13 then (0, { s with len := s.len + 1, pl := 7 })
  else (0, { s with len := s.len + 1, line := s.line ++ [c] })
/-- A byte that is no data: the error's number, and the state behind it. -/
def stepS (s : Dc) (c : UInt8) : Nat × Dc :=
  if s.pl = 0 then sizeS s c else if s.pl = 1 then extS s c else if s.pl = 2 then endS s c
  else if s.pl = 4 then expS s c 13 5 else if s.pl = 5 then expS s c 10 0 else trlS s c
/-- n bytes of data. -/
def dataS (s : Dc) (n : Nat) : Dc := { s with sz := s.sz - n, tot := s.tot + n, pl := if s.sz - n = 0 then 4 else 3 }
def wrD : Dc → List UInt8 → Dc × List UInt8 × Nat
  | s, [] => (s, [], 0)
  | s, c :: l =>
    if s.er ≠ 0 ∨ s.pl = 8 then (s, [], 0)
    else if s.pl = 3 then ((wrD (dataS s 1) l).1, c :: (wrD (dataS s 1) l).2.1, (wrD (dataS s 1) l).2.2 + 1)
    else if (stepS s c).1 = 0 then ((wrD (stepS s c).2 l).1, (wrD (stepS s c).2 l).2.1, (wrD (stepS s c).2 l).2.2 + 1)
    else ({ (stepS s c).2 with er := (stepS s c).1 }, [], 0)

theorem wrD_stop {s : Dc} (h : s.er ≠ 0 ∨ s.pl = 8) (l : List UInt8) : wrD s l = (s, [], 0) := by
  cases l with
  | nil => rfl
  | cons c t => unfold wrD; rw [if_pos h]
theorem wrD_byte {s : Dc} (h : s.er = 0) (h8 : s.pl ≠ 8) (h3 : s.pl = 3) (c : UInt8) (l : List UInt8) :
    wrD s (c :: l) = ((wrD (dataS s 1) l).1, c :: (wrD (dataS s 1) l).2.1, (wrD (dataS s 1) l).2.2 + 1) := by
  rw [wrD, if_neg (by simp [h, h8]), if_pos h3]
theorem wrD_step {s : Dc} (h : s.er = 0) (h8 : s.pl ≠ 8) (h3 : s.pl ≠ 3) {c : UInt8} (h0 : (stepS s c).1 = 0) (l : List UInt8) :
    wrD s (c :: l) = ((wrD (stepS s c).2 l).1, (wrD (stepS s c).2 l).2.1, (wrD (stepS s c).2 l).2.2 + 1) := by
  rw [wrD, if_neg (by simp [h, h8]), if_neg h3, if_pos h0]
theorem wrD_bad {s : Dc} (h : s.er = 0) (h8 : s.pl ≠ 8) (h3 : s.pl ≠ 3) {c : UInt8} (h0 : (stepS s c).1 ≠ 0) (l : List UInt8) :
    wrD s (c :: l) = ({ (stepS s c).2 with er := (stepS s c).1 }, [], 0) := by
  rw [wrD, if_neg (by simp [h, h8]), if_neg h3, if_neg h0]
theorem dataS_add (s : Dc) (n m : Nat) : dataS (dataS s n) m = dataS s (n + m) := by
  unfold dataS
  simp only [Dc.mk.injEq, and_true, true_and]
  refine ⟨?_, by omega, by omega⟩
  rw [show s.sz - n - m = s.sz - (n + m) by omega]
theorem wrD_data : ∀ {n : Nat} {s : Dc} {l : List UInt8}, s.er = 0 → s.pl = 3 → 0 < n → n ≤ s.sz → n ≤ l.length →
    wrD s l = ((wrD (dataS s n) (l.drop n)).1, l.take n ++ (wrD (dataS s n) (l.drop n)).2.1, (wrD (dataS s n) (l.drop n)).2.2 + n) := by
  intro n
  induction n with
  | zero => intro s l _ _ h; omega
  | succ n ih =>
    intro s l he h3 _ hs hl
    cases l with
    | nil => simp at hl
    | cons c t =>
      rw [wrD_byte he (by omega) h3]
      by_cases hn : n = 0
      · subst hn; simp
      · have hp : (dataS s 1).pl = 3 := by unfold dataS; simp; omega
        have hz : (dataS s 1).sz = s.sz - 1 := rfl
        have := ih (s := dataS s 1) (l := t) he hp (by omega) (by omega) (by simp at hl; omega)
        rw [this, dataS_add, Nat.add_comm 1 n]
        simp; omega
theorem wrD_app : ∀ (a : List UInt8) (s : Dc) (b : List UInt8),
    wrD s (a ++ b) = ((wrD (wrD s a).1 b).1, (wrD s a).2.1 ++ (wrD (wrD s a).1 b).2.1, (wrD s a).2.2 + (wrD (wrD s a).1 b).2.2) := by
  intro a
  induction a with
  | nil => intro s b; simp [wrD]
  | cons c t ih =>
    intro s b
    by_cases h : s.er ≠ 0 ∨ s.pl = 8
    · rw [wrD_stop h, wrD_stop h, wrD_stop h]; simp
    · have he : s.er = 0 := by
        rcases Nat.eq_zero_or_pos s.er with h' | h'
        · exact h'
        · exact absurd (.inl (by omega)) h
      have h8 : s.pl ≠ 8 := fun e => h (.inr e)
      rw [List.cons_append]
      by_cases h3 : s.pl = 3
      · rw [wrD_byte he h8 h3, wrD_byte he h8 h3, ih]; simp; omega
      · by_cases h0 : (stepS s c).1 = 0
        · rw [wrD_step he h8 h3 h0, wrD_step he h8 h3 h0, ih]; simp; omega
        · rw [wrD_bad he h8 h3 h0, wrD_bad he h8 h3 h0, wrD_stop (.inl h0)]; simp
theorem wrD_full : ∀ {l : List UInt8} {s : Dc}, (wrD s l).1.er = 0 → (wrD s l).1.pl ≠ 8 → (wrD s l).2.2 = l.length := by
  intro l
  induction l with
  | nil => intro s _ _; rfl
  | cons c t ih =>
    intro s
    by_cases h : s.er ≠ 0 ∨ s.pl = 8
    · rw [wrD_stop h]; intro h1 h2; rcases h with h | h
      · exact absurd h1 h
      · exact absurd h h2
    · have he : s.er = 0 := by
        rcases Nat.eq_zero_or_pos s.er with h' | h'
        · exact h'
        · exact absurd (.inl (by omega)) h
      have h8 : s.pl ≠ 8 := fun e => h (.inr e)
      by_cases h3 : s.pl = 3
      · rw [wrD_byte he h8 h3]; intro h1 h2; simp; exact ih h1 h2
      · by_cases h0 : (stepS s c).1 = 0
        · rw [wrD_step he h8 h3 h0]; intro h1 h2; simp; exact ih h1 h2
        · rw [wrD_bad he h8 h3 h0]; intro h1; exact absurd h1 h0
theorem wrD_len : ∀ (l : List UInt8) (s : Dc), (wrD s l).2.2 ≤ l.length ∧ (wrD s l).2.1.length ≤ (wrD s l).2.2 := by
  intro l
  induction l with
  | nil => intro s; simp [wrD]
  | cons c t ih =>
    intro s
    by_cases h : s.er ≠ 0 ∨ s.pl = 8
    · rw [wrD_stop h]; simp
    · have he : s.er = 0 := by
        rcases Nat.eq_zero_or_pos s.er with h' | h'
        · exact h'
        · exact absurd (.inl (by omega)) h
      have h8 : s.pl ≠ 8 := fun e => h (.inr e)
      by_cases h3 : s.pl = 3
      · rw [wrD_byte he h8 h3]; have := ih (dataS s 1); simp; omega
      · by_cases h0 : (stepS s c).1 = 0
        · rw [wrD_step he h8 h3 h0]; have := ih (stepS s c).2; simp; omega
        · rw [wrD_bad he h8 h3 h0]; simp
/-- What holds of a decoder's numbers. -/
structure Dc.Ok (s : Dc) : Prop where
  b1 : s.tot + s.sz ≤ 65536
  b2 : s.pl = 0 → s.len ≤ 8
  b3 : s.pl = 1 → s.len ≤ 256
  b4 : 3 ≤ s.pl → s.pl ≤ 5 → s.len = 0
  b5 : s.len ≤ 8192
  b6 : s.pl ≤ 5 → s.line.length = 0
  b7 : 6 ≤ s.pl → s.line.length ≤ s.len
  b8 : s.trs.length ≤ 64
  b9 : ∀ p ∈ s.trs, p.1.length + p.2.length ≤ 2112
  b10 : s.pl = 3 → 0 < s.sz
  b11 : s.pl ≤ 8
theorem Dc.Ok.line_le {s : Dc} (h : s.Ok) : s.line.length ≤ 8192 := by
  have h5 := h.b5
  by_cases h1 : s.pl ≤ 5
  · have := h.b6 h1; omega
  · have := h.b7 (by omega); omega
theorem ok_new : Dc.new.Ok := by
  constructor <;> simp [Dc.new]
theorem ok_er {s : Dc} (h : s.Ok) (e : Nat) : ({ s with er := e } : Dc).Ok := ⟨h.b1, h.b2, h.b3, h.b4, h.b5, h.b6, h.b7, h.b8, h.b9, h.b10, h.b11⟩
theorem nameR_len (n : List UInt8) : (nameR n).length ≤ 64 := by
  unfold nameR
  split
  · rename_i h
    unfold nameC at h
    rw [lowS_len]
    split at h
    · split at h
      · cases h
      · omega
    · cases h
  · simp
theorem valueR_len (v : List UInt8) : (valueR v).length ≤ 2048 := by
  unfold valueR
  split
  · rename_i h
    unfold valueC at h
    split at h
    · cases h
    · split at h
      · cases h
      · omega
  · simp
theorem ok_exp {s : Dc} {c : UInt8} {o n : Nat} (h : s.Ok) (hn : ({ s with pl := n } : Dc).Ok) : (expS s c o n).2.Ok := by
  unfold expS
  split
  · exact hn
  · exact h
theorem ok_len0 {s : Dc} (h : s.Ok) (h2 : s.pl = 2) : ({ s with len := 0 } : Dc).Ok := by
  obtain ⟨b1, b2, b3, b4, b5, b6, b7, b8, b9, b10, b11⟩ := h
  refine ⟨b1, ?_, ?_, ?_, ?_, b6, ?_, b8, b9, b10, b11⟩ <;> simp [h2]
theorem ok_step {s : Dc} (h : s.Ok) (h3 : s.pl ≠ 3) (h8 : s.pl ≠ 8) (c : UInt8) : (stepS s c).2.Ok := by
  have hok := h
  obtain ⟨b1, b2, b3, b4, b5, b6, b7, b8, b9, b10, b11⟩ := h
  unfold stepS
  split
  · rename_i h0
    have l0 := b2 h0
    have l6 := b6 (by omega)
    unfold sizeS
    split
    · rename_i d hd
      unfold digS
      split
      · exact hok
      · split
        · exact hok
        · rename_i hA hB
          exact ⟨by simp only; omega, fun _ => by simp only; omega, fun e => by simp only at e; omega, fun e => by simp only at e; omega, by simp only; omega, fun _ => l6, fun e => by simp only at e; omega, b8, b9, fun e => by simp only at e; omega, b11⟩
    · split
      · exact hok
      · split
        · exact ⟨b1, fun e => by simp at e, fun _ => by simp only; omega, fun e => by simp at e, by simp only; omega, fun _ => l6, fun e => by simp at e, b8, b9, fun e => by simp at e, by simp⟩
        · exact ok_exp hok ⟨b1, fun e => by simp at e, fun e => by simp at e, fun e => by simp at e, b5, fun _ => l6, fun e => by simp at e, b8, b9, fun e => by simp at e, by simp⟩
  split
  · rename_i h1
    have l6 := b6 (by omega)
    unfold extS
    split
    · exact ⟨b1, fun e => by simp at e, fun e => by simp at e, fun e => by simp at e, b5, fun _ => l6, fun e => by simp at e, b8, b9, fun e => by simp at e, by simp⟩
    · split
      · exact hok
      · rename_i hA
        have hl : s.len ≠ 256 := fun e => hA (.inr e)
        have := b3 h1
        exact ⟨b1, fun e => by simp only at e; omega, fun _ => by simp only; omega, fun e => by simp only at e; omega, by simp only; omega, fun _ => l6, fun e => by simp only at e; omega, b8, b9, fun e => by simp only at e; omega, b11⟩
  split
  · rename_i h2
    have l6 := b6 (by omega)
    have h0 := ok_len0 hok h2
    unfold endS
    split
    · exact ok_exp h0 ⟨b1, fun e => by simp at e, fun e => by simp at e, fun e => by simp, by simp, fun e => by simp at e, fun _ => by simp only; omega, b8, b9, fun e => by simp at e, by simp⟩
    · exact ok_exp h0 ⟨b1, fun e => by simp at e, fun e => by simp at e, fun e => by simp, by simp, fun e => l6, fun e => by simp at e, b8, b9, fun e => by simp only; omega, by simp⟩
  split
  · rename_i h4
    have l6 := b6 (by omega)
    have l4 := b4 (by omega) (by omega)
    exact ok_exp hok ⟨b1, fun e => by simp at e, fun e => by simp at e, fun e => by simp [l4], b5, fun e => l6, fun e => by simp at e, b8, b9, fun e => by simp at e, by simp⟩
  split
  · rename_i h5
    have l6 := b6 (by omega)
    have l4 := b4 (by omega) (by omega)
    exact ok_exp hok ⟨b1, fun e => by simp [l4], fun e => by simp at e, fun e => by simp at e, b5, fun e => l6, fun e => by simp at e, b8, b9, fun e => by simp at e, by simp⟩
  · rename_i n0 n1 n2 n4 n5
    have h6 : s.pl = 6 ∨ s.pl = 7 := by omega
    have l7 := b7 (by omega)
    unfold trlS
    split
    · exact hok
    · rename_i hA
      have hl : s.len ≠ 8192 := fun e => hA (.inl e)
      split
      · unfold lineS
        split
        · rename_i hN
          have hN' : s.line = [] := hN
          exact ⟨b1, fun e => by simp at e, fun e => by simp at e, fun _ e => by simp at e, by simp only; omega, fun e => by simp at e, fun _ => by simp only [hN']; simp, b8, b9, fun e => by simp at e, by simp⟩
        · have hk : ({ s with len := s.len + 1 } : Dc).Ok := ⟨b1, fun e => by simp only at e; omega, fun e => by simp only at e; omega, fun _ e => by simp only at e; omega, by simp only; omega, fun e => by simp only at e; omega, fun _ => by simp only; omega, b8, b9, fun e => by simp only at e; omega, b11⟩
          split
          · exact hk
          · rename_i hB
            split
            · exact hk
            · have ht : s.trs.length ≠ 64 := fun e => hB (.inr e)
              refine ⟨b1, fun e => by simp at e, fun e => by simp at e, fun _ e => by simp at e, by simp only; omega, fun e => by simp at e, fun _ => by simp, by simp; omega, ?_, fun e => by simp at e, by simp⟩
              intro p hp
              rcases List.mem_append.1 hp with hp | hp
              · exact b9 p hp
              · rw [List.mem_singleton.1 hp]
                have h1 := nameR_len (cutC 58 s.line).1
                have h2 := valueR_len (cutC 58 s.line).2.1
                show (nameR (cutC 58 s.line).1).length + (valueR (cutC 58 s.line).2.1).length ≤ 2112
                omega
      · split
        · exact ⟨b1, fun e => by simp at e, fun e => by simp at e, fun _ e => by simp at e, by simp only; omega, fun e => by simp at e, fun _ => by simp only; omega, b8, b9, fun e => by simp at e, by simp⟩
        · exact ⟨b1, fun e => by simp only at e; omega, fun e => by simp only at e; omega, fun _ e => by simp only at e; omega, by simp only; omega, fun e => by simp only at e; omega, fun _ => by simp; omega, b8, b9, fun e => by simp only at e; omega, b11⟩
theorem ok_data {s : Dc} (h : s.Ok) (h3 : s.pl = 3) {n : Nat} (hn : n ≤ s.sz) : (dataS s n).Ok := by
  obtain ⟨b1, b2, b3, b4, b5, b6, b7, b8, b9, b10, b11⟩ := h
  have l6 := b6 (by omega)
  have l4 := b4 (by omega) (by omega)
  have hp : (dataS s n).pl = 3 ∨ (dataS s n).pl = 4 := by unfold dataS; simp only; split <;> simp
  refine ⟨?_, fun e => by omega, fun e => by omega, fun _ _ => l4, b5, fun _ => l6, fun e => by omega, b8, b9, ?_, by omega⟩
  · show s.tot + n + (s.sz - n) ≤ 65536; omega
  · intro e
    show 0 < s.sz - n
    unfold dataS at e
    simp only at e
    by_cases h0 : s.sz - n = 0
    · rw [if_pos h0] at e; cases e
    · omega
theorem wrD_ok : ∀ (l : List UInt8) {s : Dc}, s.Ok → (wrD s l).1.Ok := by
  intro l
  induction l with
  | nil => intro s h; exact h
  | cons c t ih =>
    intro s hs
    by_cases h : s.er ≠ 0 ∨ s.pl = 8
    · rw [wrD_stop h]; exact hs
    · have he : s.er = 0 := by
        rcases Nat.eq_zero_or_pos s.er with h' | h'
        · exact h'
        · exact absurd (.inl (by omega)) h
      have h8 : s.pl ≠ 8 := fun e => h (.inr e)
      by_cases h3 : s.pl = 3
      · rw [wrD_byte he h8 h3]; exact ih (ok_data hs h3 (hs.b10 h3))
      · have := ok_step hs h3 h8 c
        by_cases h0 : (stepS s c).1 = 0
        · rw [wrD_step he h8 h3 h0]; exact ih this
        · rw [wrD_bad he h8 h3 h0]; exact ok_er this _
end Go.Proofs.YthlfhbhjiofneaaDoor
