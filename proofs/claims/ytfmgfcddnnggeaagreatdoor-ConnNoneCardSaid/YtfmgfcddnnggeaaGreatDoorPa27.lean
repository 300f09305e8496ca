import Derived.Test.YtfmgfcddnnggeaaGreatDoorPa16
import Derived.Test.YtfmgfcddnnggeaaGreatDoorPa26
import Derived.Test.YtfmgfcddnnggeaaGreatDoorPa18
import Derived.Test.YtfmgfcddnnggeaaGreatDoorPa25
import Derived.Lib.IfaceEq
import Derived.LaidEql
/- A head that is read is small; what the program's frame and isInterim say of it. -/
namespace Go.Proofs.YtfmgfcddnnggeaaGreatDoor

theorem lines_sum : ∀ (k : Nat) (l cur : List UInt8), l.length ≤ k → sumL (linesF cur l) ≤ cur.length + l.length := by
  intro k
  induction k with
  | zero =>
    intro l cur h
    have : l = [] := List.eq_nil_of_length_eq_zero (by omega)
    subst this
    rw [linesF]; simp [sumL]
  | succ k ih =>
    intro l cur h
    cases l with
    | nil => rw [linesF]; simp [sumL]
    | cons c r =>
      simp only [List.length_cons] at h
      rw [linesF]
      by_cases hc : c = 13 ∧ r.head? = some 10
      · rw [if_pos hc, sumL_cons]
        have h1 := ih r.tail [] (by rw [List.length_tail]; omega)
        rw [List.length_tail] at h1
        simp at h1 ⊢
        omega
      · rw [if_neg hc]
        have h1 := ih r (cur ++ [c]) (by omega)
        simp at h1 ⊢
        omega
theorem sum_dropLast (ls : List (List UInt8)) : sumL ls.dropLast ≤ sumL ls := by
  have h := sumL_take_le ls (ls.length - 1)
  rw [List.dropLast_eq_take]
  exact h
theorem sum_tail (ls : List (List UInt8)) : sumL ls.tail ≤ sumL ls := by
  cases ls with
  | nil => exact Nat.le_refl _
  | cons a t => rw [List.tail_cons, sumL_cons]; omega
theorem readF_le (l : List UInt8) : (readF nmO vlO l).2.1.length + (readF nmO vlO l).2.2.length ≤ l.length := by
  unfold readF
  split
  · simp
  · split
    · simp
    · rename_i b a hc
      obtain ⟨rfl, _⟩ := cut1_some hc
      split
      · simp
      · split
        · simp
        · split
          · rename_i y v hy hv
            unfold nmO at hy
            unfold vlO at hv
            split at hy
            · split at hv
              · cases hy; cases hv
                have := trimB_le a
                simp [lowS]; omega
              · cases hv
            · cases hy
          · simp
theorem readFs_tot : ∀ ls : List (List UInt8), totL (readFs nmO vlO ls).2 ≤ sumL ls ∧ (readFs nmO vlO ls).2.length ≤ ls.length := by
  intro ls
  induction ls with
  | nil => simp [readFs, totL]
  | cons l r ih =>
    rw [readFs]
    by_cases h1 : (readF nmO vlO l).1 ≠ 0
    · rw [if_pos h1]; simp [totL]
    · rw [if_neg h1]
      by_cases h2 : (readFs nmO vlO r).1 ≠ 0
      · rw [if_pos h2]; simp [totL]
      · rw [if_neg h2, sumL_cons]
        have := readF_le l
        obtain ⟨a, b⟩ := ih
        refine ⟨?_, by simp; exact b⟩
        show (readF nmO vlO l).2.1.length + (readF nmO vlO l).2.2.length + totL (readFs nmO vlO r).2 ≤ _
        omega
theorem hostF_tot : ∀ {fs gs : Fs} {n : Nat}, hostF hostO lowS fs = some (gs, n) → totL gs = totL fs ∧ gs.length = fs.length := by
  intro fs
  induction fs with
  | nil => intro gs n h; simp only [hostF, Option.some.injEq, Prod.mk.injEq] at h; obtain ⟨rfl, _⟩ := h; exact ⟨rfl, rfl⟩
  | cons f r ih =>
    intro gs n h
    rw [hostF] at h
    by_cases h1 : lowS f.1 = hostN
    · rw [if_pos h1] at h
      obtain ⟨x, hx, h⟩ := Option.bind_eq_some_iff.1 h
      obtain ⟨⟨p, m⟩, hp, h⟩ := Option.map_eq_some_iff.1 h
      simp only [Prod.mk.injEq] at h
      obtain ⟨rfl, _⟩ := h
      obtain ⟨a, b⟩ := ih hp
      have hl : x.length = f.2.length := by
        unfold hostO at hx
        split at hx
        · cases hx; simp [lowS]
        · cases hx
      refine ⟨?_, by simp [b]⟩
      show f.1.length + x.length + totL p = f.1.length + f.2.length + totL r
      rw [a, hl]
    · rw [if_neg h1] at h
      obtain ⟨⟨p, m⟩, hp, h⟩ := Option.map_eq_some_iff.1 h
      simp only [Prod.mk.injEq] at h
      obtain ⟨rfl, _⟩ := h
      obtain ⟨a, b⟩ := ih hp
      refine ⟨?_, by simp [b]⟩
      show f.1.length + f.2.length + totL p = f.1.length + f.2.length + totL r
      rw [a]
theorem splitG_small (s : List UInt8) (hl : s.length ≤ 8192) : sumL (splitG s).2.1 ≤ 8192 ∧ (splitG s).2.1.length ≤ 66 := by
  unfold splitG
  split
  · simp [sumL]
  · rename_i n _
    split
    · simp [sumL]
    · rename_i h1
      split
      · simp [sumL]
      · have h2 := lines_sum _ (s.take n) [] (Nat.le_refl _)
        have h3 := sum_dropLast (linesF [] (s.take n))
        rw [List.length_take] at h2
        refine ⟨?_, ?_⟩
        · show sumL (linesF [] (s.take n)).dropLast ≤ 8192
          simp at h2; omega
        · show (linesF [] (s.take n)).dropLast.length ≤ 66
          rw [List.length_dropLast]; omega
theorem fits_readQ (s : List UInt8) (hl : s.length ≤ 8192) : (readQ nmO vlO hostO lowS s).2.1.2.2.length ≤ 100 ∧ totL (readQ nmO vlO hostO lowS s).2.1.2.2 ≤ 40000 := by
  obtain ⟨h1, h2⟩ := splitG_small s hl
  unfold readQ
  split
  · simp [totL]
  · split
    · simp [totL]
    · show (reqL nmO vlO hostO lowS (splitG s).2.1).2.2.2.length ≤ 100 ∧ totL (reqL nmO vlO hostO lowS (splitG s).2.1).2.2.2 ≤ 40000
      generalize (splitG s).2.1 = ls at *
      unfold reqL
      (try simp only)
      split
      · simp [totL]
      · split
        · simp [totL]
        · split
          · simp [totL]
          · split
            · simp [totL]
            · have h3 := readFs_tot ls.tail
              have h4 := sum_tail ls
              rw [List.length_tail] at h3
              split
              · simp [totL]
              · rename_i fs hh
                unfold hosted at hh
                obtain ⟨⟨p, m⟩, hp, hh⟩ := Option.bind_eq_some_iff.1 hh
                split at hh
                · cases hh
                  obtain ⟨a, b⟩ := hostF_tot hp
                  show p.length ≤ 100 ∧ totL p ≤ 40000
                  omega
                · cases hh
theorem fits_readP (s : List UInt8) (hl : s.length ≤ 8192) : (readP nmO vlO s).2.1.2.length ≤ 100 ∧ totL (readP nmO vlO s).2.1.2 ≤ 40000 := by
  obtain ⟨h1, h2⟩ := splitG_small s hl
  unfold readP
  split
  · simp [totL]
  · split
    · simp [totL]
    · show (respL nmO vlO (splitG s).2.1).2.2.length ≤ 100 ∧ totL (respL nmO vlO (splitG s).2.1).2.2 ≤ 40000
      generalize (splitG s).2.1 = ls at *
      have h3 := readFs_tot ls.tail
      have h4 := sum_tail ls
      rw [List.length_tail] at h3
      unfold respL
      (try simp only)
      repeat' split
      all_goals first
        | (simp [totL]; done)
        | (show (readFs nmO vlO ls.tail).2.length ≤ 100 ∧ totL (readFs nmO vlO ls.tail).2 ≤ 40000; omega)
theorem fits_hd (b : Bool) (l : List UInt8) (hl : l.length ≤ 8192) : ((hdR b l).2.1.q.2.2.length ≤ 100 ∧ totL (hdR b l).2.1.q.2.2 ≤ 40000) ∧ ((hdR b l).2.1.p.2.length ≤ 100 ∧ totL (hdR b l).2.1.p.2 ≤ 40000) := by
  cases b
  · exact ⟨fits_readQ l hl, by simp [hdR, totL]⟩
  · exact ⟨by simp [hdR, totL], fits_readP l hl⟩
theorem hd_req {l : List UInt8} (h : (hdR false l).1 = 0) : (hdR false l).2.1.q.1 ≠ [] := by
  unfold hdR at h ⊢
  rw [if_neg (by simp)] at h ⊢
  show (readQ nmO vlO hostO lowS l).2.1.1 ≠ []
  have h' : (readQ nmO vlO hostO lowS l).1 = 0 := h
  clear h
  unfold readQ at h' ⊢
  split at h'
  · exact absurd h' (by assumption)
  · rename_i h1
    rw [if_neg h1]
    split at h'
    · exact absurd h' (by assumption)
    · rename_i h2
      rw [if_neg h2]
      have h2' : (reqL nmO vlO hostO lowS (splitG l).2.1).1 = 0 := by simpa using h2
      show (reqL nmO vlO hostO lowS (splitG l).2.1).2.1 ≠ []
      generalize (splitG l).2.1 = ls at *
      unfold reqL at h2' ⊢
      (try simp only at h2' ⊢)
      by_cases hm : methodB (cutG 32 (ls.headD [])).1 = false
      · rw [if_pos hm] at h2'; cases h2'
      · rw [if_neg hm] at h2' ⊢
        have hne : (cutG 32 (ls.headD [])).1 ≠ [] := by
          intro e
          rw [e] at hm
          exact hm (by decide)
        revert h2'
        repeat' split
        all_goals (intro h2'; first | (cases h2'; done) | exact hne | exact absurd h2' (by assumption))
end Go.Proofs.YtfmgfcddnnggeaaGreatDoor

/- What take and takeHead leave: the connection, an event with fields of its own, and the number of bytes. -/
namespace Go.Proofs.YtfmgfcddnnggeaaGreatDoor
open Go.RowKit

def TkPost (B P : Nat) (X : Nat → Prop) (r : Cn × Ev × Nat × Nat) (w : World) (e : Ending) (w' : World) : Prop :=
  ∃ q p d X', e = .returned (.tuple #[evV r.2.1 q p d noV, .int .i64 (r.2.2.1 : Int), errV r.2.2.2]) ∧ (∀ k, X' k → X k ∨ w.heap.size ≤ k) ∧ Con B P X' r.1 w' ∧ Only X w w' ∧
    OwnsP 71 w.heap.size w' q r.2.1.q.2.2 ∧ OwnsP 71 w.heap.size w' p r.2.1.p.2 ∧ OwnB w.heap.size w' d r.2.1.d ∧ (∀ k, q.ownBlock = some k ∨ p.ownBlock = some k ∨ d.ownBlock = some k → ¬ X' k)
theorem tk_of_tb {B P : Nat} {X : Nat → Prop} {r : Cn × List UInt8 × Nat × Nat} {w w' : World} {e : Ending} (h : TbPost B P X r w e w') : TkPost B P X (r.1, evD r.2.1, r.2.2.1, r.2.2.2) w e w' := by
  obtain ⟨v, X', he, h1, h2, h3, h4, h5⟩ := h
  have hq : (evD r.2.1).q = noQ := by unfold evD; split <;> rfl
  have hp : (evD r.2.1).p = noP := by unfold evD; split <;> rfl
  have hd : (evD r.2.1).d = r.2.1 := by
    unfold evD; split
    · rename_i h; rw [h]
    · rfl
  refine ⟨noV, noV, v, X', he, h1, h2, h3, ?_, ?_, ?_, fun k hk => ?_⟩
  · show OwnsP _ _ _ _ (evD r.2.1).q.2.2; rw [hq]; exact OwnsP.nil _ _ _
  · show OwnsP _ _ _ _ (evD r.2.1).p.2; rw [hp]; exact OwnsP.nil _ _ _
  · show OwnB _ _ _ (evD r.2.1).d; rw [hd]; exact h4
  · rcases hk with h | h | h
    · cases h
    · cases h
    · exact h5 k h
/-- A head's part is appended to what has arrived. -/
theorem ConP.app {B P : Nat} {X XM XD : Nat → Prop} {s : Cn} {mv sv dv sv' : Value} {m : List UInt8} {w w2 : World} (h : ConP B P X XM XD s mv sv dv w) (hO : OwnB B w2 sv' (s.st ++ m)) (hg : w.grownBy w2 sv.ownBlock) (hat : sv'.ownBlock = sv.ownBlock ∨ sv'.ownBlock = some w.heap.size) :
    ConP B P (fun k => X k ∨ sv'.ownBlock = some k) XM XD { s with st := s.st ++ m } mv sv' dv (w2.setCell ⟨P, 3, none⟩ sv') ∧ Only X w (w2.setCell ⟨P, 3, none⟩ sv') := by
  have hOn : Only (fun k => sv.ownBlock = some k) w w2 := Only.grown hg (fun k hk => .inl hk)
  have hPs := (h.lt P h.p).2
  have hne : ¬ sv.ownBlock = some P := fun e => (h.xs P e).2.1 rfl
  have hh : w2.heap[P]? = some (.cells (cnCells s mv sv dv) 51 (0, 0)) := (hOn.block P hPs hne).trans h.h
  have hS : Only (fun k => k = P) w2 (w2.setCell ⟨P, 3, none⟩ sv') := Only.set (X := fun k => k = P) rfl w2 3 sv'
  have hm2 : MsM XM w2 mv s.ms := h.m.only hOn (fun k hk e => (h.xs k e).2.2.1 hk)
  have hd2 : DecO B XD s.dc dv w2 := h.d.only hOn (fun k hk e => (h.xs k e).2.2.2 hk)
  have hz : (w2.setCell ⟨P, 3, none⟩ sv').heap.size = w2.heap.size := by simp
  have key : ∀ k, sv'.ownBlock = some k → (B ≤ k ∧ k < w2.heap.size) ∧ k ≠ P ∧ ¬ XM k ∧ ¬ XD k := fun k hk => by
    refine ⟨World.ownsRow.lt hO k hk, ?_⟩
    rcases hat with e | e
    · obtain ⟨_, b, c, d⟩ := h.xs k (e ▸ hk)
      exact ⟨b, c, d⟩
    · rw [e] at hk
      have hk := Option.some.inj hk
      subst hk
      exact ⟨by omega, fun a => Nat.lt_irrefl _ (h.lt _ (h.xm _ a).1).2, fun a => Nat.lt_irrefl _ (h.lt _ (h.xd _ a).1).2⟩
  refine ⟨⟨by rw [heap_setCell_same w2 P 3 _ _ sv' hh]; rfl, hm2.only hS (fun k hk => (h.xm k hk).2), hO.only hS (fun k hk => (key k hk).2.1), hd2.only hS (fun k hk => (h.xd k hk).2.1), .inl h.p, fun k hk => ⟨.inl (h.xm k hk).1, (h.xm k hk).2⟩, fun k hk => ⟨.inr hk, (key k hk).2⟩, fun k hk => ⟨.inl (h.xd k hk).1, (h.xd k hk).2⟩, fun k hk => ?_⟩, ?_⟩
  · rw [hz]
    rcases hk with a | a
    · exact ⟨(h.lt k a).1, Nat.lt_of_lt_of_le (h.lt k a).2 hOn.size⟩
    · exact (key k a).1
  · exact (hOn.mono (fun k hk => (h.xs k hk).1)).trans' (Only.set h.p w2 3 sv')
theorem ConP.grownC {B P : Nat} {X XM XD : Nat → Prop} {s : Cn} {mv sv dv : Value} {w w2 : World} (h : ConP B P X XM XD s mv sv dv w) (hg : w.grownBy w2 sv.ownBlock) : ConC P s mv sv dv w2 := by
  have hOn : Only (fun k => sv.ownBlock = some k) w w2 := Only.grown hg (fun k hk => .inl hk)
  have hh : w2.heap[P]? = some (.cells (cnCells s mv sv dv) 51 (0, 0)) := (hOn.block P (h.lt P h.p).2 (fun e => (h.xs P e).2.1 rfl)).trans h.h
  constructor
  case f => exact fun j => Lib.frozen_of_heap hh j
  all_goals (rw [Lib.cell_of_heap hh]; rfl)
/-- What readHead returns, as a named result. -/
def HdR (R : Nat × Ev × Nat) (w : World) (e : Ending) (w' : World) : Prop :=
  ∃ q p, e = .returned (.tuple #[evV R.2.1 q p noV noV, .int .i64 (R.2.2 : Int), errV R.1]) ∧ OwnsP 71 w.heap.size w' q R.2.1.q.2.2 ∧ OwnsP 71 w.heap.size w' p R.2.1.p.2 ∧ Below w.heap.size w w'
theorem readHead_at {B P : Nat} {X XM XD : Nat → Prop} {s : Cn} {mv sv dv : Value} {m : List UInt8} {w : World} (h : ConP B P X XM XD { s with st := m } mv sv dv w) (hM : HasMax w) (hl : m.length ≤ 8192) {R : Nat × Ev × Nat} (hR : hdR s.rs m = R) :
    Calls Tryz.prog 23 #[.pointer (some ⟨P, 0, none⟩)] w (HdR R w) := by
  subst hR
  exact readHead_any h hM hl
theorem eq_errno (W : World) (a b : Int) : (binOp .eql 25 (.iface 32 (.int .i64 a)) (.iface 32 (.int .i64 b))).run Tryz.prog W = .ok (.bool (a == b)) W :=
  Lib.run_eql_iface_int W a b Tryz.underlying25 (by kernel_rfl) Tryz.underlying32
theorem eq_nilErr (W : World) (b : Int) : (binOp .eql 25 .nilIface (.iface 32 (.int .i64 b))).run Tryz.prog W = .ok (.bool false) W :=
  run_eql_iface_nil_left W _ _ Tryz.underlying25
/-- A frame's box behind the stores. -/
theorem frame_box {W V : World} {N : Nat} {F : Nat × Nat × Nat} (hb : Below W.heap.size W V) (hN : W.heap.size ≤ N) (hx : V.heap[N]? = some (.cells #[.int .i64 0, .int .i64 0] 48 (0, 0))) :
    ((V.setCell ⟨N, 0, none⟩ (.int .i64 (F.2.1 : Int))).setCell ⟨N, 1, none⟩ (.int .i64 (F.2.2 : Int))).heap[N]? = some (.cells #[.int .i64 (F.2.1 : Int), .int .i64 (F.2.2 : Int)] 48 (0, 0)) ∧
    Below W.heap.size W ((V.setCell ⟨N, 0, none⟩ (.int .i64 (F.2.1 : Int))).setCell ⟨N, 1, none⟩ (.int .i64 (F.2.2 : Int))) ∧
    (∀ k, k ≠ N → k < V.heap.size → ((V.setCell ⟨N, 0, none⟩ (.int .i64 (F.2.1 : Int))).setCell ⟨N, 1, none⟩ (.int .i64 (F.2.2 : Int))).heap[k]? = V.heap[k]?) := by
  have h1 : (V.setCell ⟨N, 0, none⟩ (.int .i64 (F.2.1 : Int))).heap[N]? = some (.cells #[.int .i64 (F.2.1 : Int), .int .i64 0] 48 (0, 0)) := by rw [heap_setCell_same V N 0 _ _ _ hx]; rfl
  refine ⟨by rw [heap_setCell_same (V.setCell ⟨N, 0, none⟩ (.int .i64 (F.2.1 : Int))) N 1 _ _ _ h1]; rfl, (hb.setCell (p := ⟨N, 0, none⟩) hN _).setCell (p := ⟨N, 1, none⟩) hN _, fun k hk hl => ?_⟩
  have hO := (Only.set (X := fun k => k = N) (b := N) rfl V 0 (.int .i64 (F.2.1 : Int))).trans' (Only.set (X := fun k => k = N) (b := N) rfl _ 1 (.int .i64 (F.2.2 : Int)))
  exact hO.block k hl hk
theorem eight_at {W : World} {N : Nat} {t : TypeId} {a0 a1 a2 a3 a4 a5 a6 a7 : Value} (h : W.heap[N]? = some (.cells #[a0, a1, a2, a3, a4, a5, a6, a7] t (0, 0))) :
    ∀ j, W.cell? ⟨N, j, none⟩ = #[a0, a1, a2, a3, a4, a5, a6, a7][j]? ∧ W.frozen? ⟨N, j, none⟩ = false := fun j => ⟨by rw [Lib.cell_of_heap h], Lib.frozen_of_heap h j⟩
/-- What takeHead returns, once the connection is as it stays. -/
theorem tk_post {B P n er : Nat} {X X' XM XD : Nat → Prop} {s' : Cn} {mv sv dv qv pv : Value} {ev : Ev} {w W5 wF : World} (h : ConP B P X' XM XD s' mv sv dv W5) (hX : ∀ k, X' k → X k ∨ w.heap.size < k) (hXw : ∀ k, X k → k < w.heap.size) (hO : Only X w W5)
    (hq : OwnsP 71 (w.heap.size + 1) W5 qv ev.q.2.2) (hp : OwnsP 71 (w.heap.size + 1) W5 pv ev.p.2) (hqX : ∀ k, qv.ownBlock = some k ∨ pv.ownBlock = some k → ¬ X' k) (hd : ev.d = []) (hF : Only (fun k => k = w.heap.size) W5 wF) :
    TkPost B P X (s', ev, n, er) w (.returned (.tuple #[evV ev qv pv noV noV, .int .i64 (n : Int), errV er])) wF := by
  refine ⟨qv, pv, noV, X', rfl, fun k hk => (hX k hk).imp id Nat.le_of_lt, ⟨mv, sv, dv, XM, XD, h.only hF (fun k hk e => ?_)⟩, hO.trans hF (fun i hi => .inr (Nat.le_of_eq hi.symm)), OwnsP.mono (by omega) (ownsP_only hq hF (fun k hk => by omega)), OwnsP.mono (by omega) (ownsP_only hp hF (fun k hk => by omega)), ?_, fun k hk => ?_⟩
  · rcases hX k hk with a | a
    · have := hXw k a; omega
    · omega
  · show OwnB _ _ _ ev.d
    rw [hd]; exact OwnB.nil _ _
  · rcases hk with a | a | a
    · exact hqX k (.inl a)
    · exact hqX k (.inr a)
    · cases a
theorem hd_resp (l : List UInt8) : (hdR true l).2.1.q = noQ := rfl
/-- What the program's frame and isInterim say of a head that is read. -/
theorem frE_frC {s : Cn} {l : List UInt8} (h : (hdR s.rs l).1 = 0) : frE (hdR s.rs l).2.1 (s.ms.headD []) = frC s (hdR s.rs l).2.1 := by
  unfold frE frC
  cases hr : s.rs with
  | true => rw [if_pos rfl, if_pos (by rfl)]
  | false => rw [hr] at h; rw [if_neg (hd_req h)]; rfl
theorem inter_eq {s : Cn} {l : List UInt8} (h : (hdR s.rs l).1 = 0) : interE (hdR s.rs l).2.1 = interB s (hdR s.rs l).2.1 := by
  unfold interE interB
  cases hr : s.rs with
  | true => rw [decide_eq_true (by rfl)]
  | false => rw [hr] at h; rw [decide_eq_false (hd_req h)]; (try rfl)
end Go.Proofs.YtfmgfcddnnggeaaGreatDoor

/- Chunks as they are written, and what a decoder makes of them: the plain part. -/
namespace Go.Proofs.YtfmgfcddnnggeaaGreatDoor

/-- A hexadecimal digit, and the digits of a number. -/
def hxD (d : Nat) : UInt8 := if d < 10 then UInt8.ofNat (48 + d) else UInt8.ofNat (87 + d)
def hexT (n : Nat) : List UInt8 := if n < 16 then [hxD n] else hexT (n / 16) ++ [hxD (n % 16)]
termination_by n
theorem hexT_small {n : Nat} (h : n < 16) : hexT n = [hxD n] := by rw [hexT, if_pos h]
theorem hexT_more {n : Nat} (h : 16 ≤ n) : hexT n = hexT (n / 16) ++ [hxD (n % 16)] := by rw [hexT, if_neg (by omega)]
theorem hexV_hxD {d : Nat} (h : d < 16) : hexV (hxD d) = some d := by
  have : ∀ d : Fin 16, hexV (hxD d.val) = some d.val := by decide
  exact this ⟨d, h⟩
theorem hexT_len : ∀ (k n : Nat), n < 16 ^ (k + 1) → 1 ≤ (hexT n).length ∧ (hexT n).length ≤ k + 1 := by
  intro k
  induction k with
  | zero => intro n h; rw [hexT_small (by omega)]; simp
  | succ k ih =>
    intro n h
    by_cases hn : n < 16
    · rw [hexT_small hn]; simp
    · have := ih (n / 16) (by rw [Nat.pow_succ] at h; omega)
      rw [hexT_more (by omega)]; simp; omega
/-- A decoder at the beginning of a chunk. -/
structure AtSize (s : Dc) : Prop where
  pl : s.pl = 0
  er : s.er = 0
  len : s.len = 0
  sz : s.sz = 0
theorem wrD_one {s : Dc} (he : s.er = 0) (h8 : s.pl ≠ 8) (h3 : s.pl ≠ 3) {c : UInt8} {t : Dc} (h : stepS s c = (0, t)) : wrD s [c] = (t, [], 1) := by
  rw [wrD_step he h8 h3 (by rw [h]), h]; rfl
theorem step_digit {s : Dc} (hp : s.pl = 0) {d : Nat} (hd : d < 16) : stepS s (hxD d) = digS s d := by
  unfold stepS; rw [if_pos hp]; unfold sizeS; rw [hexV_hxD hd]
theorem wrD_hex : ∀ (k n : Nat) {s : Dc}, AtSize s → n < 16 ^ (k + 1) → k < 8 → s.tot + n ≤ 65536 → wrD s (hexT n) = ({ s with sz := n, len := (hexT n).length }, [], (hexT n).length) := by
  intro k
  induction k with
  | zero =>
    intro n s h hn _ ht
    rw [hexT_small (by omega)]
    refine wrD_one h.er (by rw [h.pl]; decide) (by rw [h.pl]; decide) ?_
    rw [step_digit h.pl (by omega)]
    unfold digS
    rw [h.len, h.sz, if_neg (by decide), if_neg (by omega)]
    simp
  | succ k ih =>
    intro n s h hn hk ht
    by_cases h16 : n < 16
    · rw [hexT_small h16]
      refine wrD_one h.er (by rw [h.pl]; decide) (by rw [h.pl]; decide) ?_
      rw [step_digit h.pl (by omega)]
      unfold digS
      rw [h.len, h.sz, if_neg (by decide), if_neg (by omega)]
      simp
    · have hq : n / 16 < 16 ^ (k + 1) := by rw [Nat.pow_succ] at hn; omega
      have hl := hexT_len k (n / 16) hq
      rw [hexT_more (by omega), wrD_app, ih (n / 16) h hq (by omega) (by omega)]
      have hs : stepS { s with sz := n / 16, len := (hexT (n / 16)).length } (hxD (n % 16)) = (0, { s with sz := n, len := (hexT (n / 16)).length + 1 }) := by
        rw [step_digit (s := { s with sz := n / 16, len := (hexT (n / 16)).length }) h.pl (Nat.mod_lt n (by decide))]
        unfold digS
        simp only
        rw [if_neg (by omega), if_neg (by omega)]
        rw [show n / 16 * 16 + n % 16 = n by omega]
      have := wrD_one (s := { s with sz := n / 16, len := (hexT (n / 16)).length }) h.er (by simp only; rw [h.pl]; decide) (by simp only; rw [h.pl]; decide) hs
      simp only at this ⊢
      rw [this]
      simp
/-- A number that is too large. -/
theorem wrD_hex_large : ∀ (k n : Nat) {s : Dc}, AtSize s → n < 16 ^ (k + 1) → k < 8 → s.tot ≤ 65536 → 65536 < s.tot + n → ∀ r, (wrD s (hexT n ++ r)).1.er = 5 ∧ (wrD s (hexT n ++ r)).2.1 = [] ∧ (wrD s (hexT n ++ r)).1.pl = 0 := by
  intro k
  induction k with
  | zero =>
    intro n s h hn _ _ ht r
    have hs : stepS s (hxD n) = (5, s) := by
      rw [step_digit h.pl (by omega)]
      unfold digS
      rw [h.len, h.sz, if_neg (by decide), if_pos (by omega)]
    rw [hexT_small (by omega), List.singleton_append, wrD_bad h.er (by rw [h.pl]; decide) (by rw [h.pl]; decide) (by rw [hs]; simp), hs]
    exact ⟨rfl, rfl, h.pl⟩
  | succ k ih =>
    intro n s h hn hk h0 ht r
    by_cases h16 : n < 16
    · have hs : stepS s (hxD n) = (5, s) := by
        rw [step_digit h.pl (by omega)]
        unfold digS
        rw [h.len, h.sz, if_neg (by decide), if_pos (by omega)]
      rw [hexT_small (by omega), List.singleton_append, wrD_bad h.er (by rw [h.pl]; decide) (by rw [h.pl]; decide) (by rw [hs]; simp), hs]
      exact ⟨rfl, rfl, h.pl⟩
    · have hq : n / 16 < 16 ^ (k + 1) := by rw [Nat.pow_succ] at hn; omega
      have hl := hexT_len k (n / 16) hq
      rw [hexT_more (by omega), List.append_assoc]
      by_cases h1 : 65536 < s.tot + n / 16
      · exact ih (n / 16) h hq (by omega) h0 h1 _
      · rw [wrD_app, wrD_hex k (n / 16) h hq (by omega) (by omega)]
        have hs : stepS { s with sz := n / 16, len := (hexT (n / 16)).length } (hxD (n % 16)) = (5, { s with sz := n / 16, len := (hexT (n / 16)).length }) := by
          rw [step_digit (s := { s with sz := n / 16, len := (hexT (n / 16)).length }) h.pl (Nat.mod_lt n (by decide))]
          unfold digS
          simp only
          rw [if_neg (by omega), if_pos (by omega)]
        simp only [List.singleton_append]
        rw [wrD_bad (s := { s with sz := n / 16, len := (hexT (n / 16)).length }) h.er (by simp only; rw [h.pl]; decide) (by simp only; rw [h.pl]; decide) (by rw [hs]; simp), hs]
        exact ⟨rfl, rfl, h.pl⟩
/-- A chunk as it is written. -/
def chunkL (b : List UInt8) : List UInt8 := if b = [] then [] else hexT b.length ++ 13 :: 10 :: (b ++ [13, 10])
theorem wrD_sizeEnd {s : Dc} (h : AtSize s) {n : Nat} (hn : 0 < n) (hk : n < 16 ^ 8) (ht : s.tot + n ≤ 65536) :
    wrD s (hexT n ++ [13, 10]) = ({ s with sz := n, len := 0, pl := 3 }, [], (hexT n).length + 2) := by
  have hl := hexT_len 7 n hk
  have hL : (hexT n).length ≠ 0 := by omega
  rw [wrD_app, wrD_hex 7 n h hk (by decide) ht]
  have s1 : stepS { s with sz := n, len := (hexT n).length } 13 = (0, { s with sz := n, len := (hexT n).length, pl := 2 }) := by
    unfold stepS; rw [if_pos h.pl]
    unfold sizeS
    rw [show hexV 13 = none by decide]
    simp only
    rw [if_neg hL, if_neg (by decide)]; rfl
  have s2 : stepS { s with sz := n, len := (hexT n).length, pl := 2 } 10 = (0, { s with sz := n, len := 0, pl := 3 }) := by
    unfold stepS
    rw [if_neg (by simp), if_neg (by simp), if_pos rfl]
    unfold endS
    simp only
    rw [if_neg (by omega)]; rfl
  simp only
  rw [wrD_step (s := { s with sz := n, len := (hexT n).length }) h.er (by simp only; rw [h.pl]; decide) (by simp only; rw [h.pl]; decide) (by rw [s1]), s1]
  simp only
  rw [wrD_step (s := { s with sz := n, len := (hexT n).length, pl := 2 }) h.er (by simp) (by simp) (by rw [s2]), s2]
  simp [wrD]
/-- A decoder at the beginning of a chunk takes it whole. -/
theorem wrD_chunk {s : Dc} (h : AtSize s) {b : List UInt8} (hk : b.length < 16 ^ 8) (ht : s.tot + b.length ≤ 65536) :
    wrD s (chunkL b) = ({ s with tot := s.tot + b.length }, b, (chunkL b).length) ∧ AtSize { s with tot := s.tot + b.length } := by
  refine ⟨?_, ⟨h.pl, h.er, h.len, h.sz⟩⟩
  by_cases hb : b = []
  · subst hb; unfold chunkL; rw [if_pos rfl]; rfl
  · have hpos : 0 < b.length := List.length_pos_iff.2 hb
    unfold chunkL; rw [if_neg hb]
    rw [show hexT b.length ++ 13 :: 10 :: (b ++ [13, 10]) = (hexT b.length ++ [13, 10]) ++ (b ++ [13, 10]) by simp, wrD_app, wrD_sizeEnd h hpos hk ht]
    simp only
    rw [wrD_data (n := b.length) (s := { s with sz := b.length, len := 0, pl := 3 }) h.er rfl hpos (Nat.le_refl _) (by simp)]
    rw [List.drop_left, List.take_left]
    have d1 : dataS { s with sz := b.length, len := 0, pl := 3 } b.length = { s with sz := 0, len := 0, pl := 4, tot := s.tot + b.length } := by
      unfold dataS; simp
    rw [d1]
    have s1 : stepS { s with sz := 0, len := 0, pl := 4, tot := s.tot + b.length } 13 = (0, { s with sz := 0, len := 0, pl := 5, tot := s.tot + b.length }) := rfl
    have s2 : stepS { s with sz := 0, len := 0, pl := 5, tot := s.tot + b.length } 10 = (0, { s with sz := 0, len := 0, pl := 0, tot := s.tot + b.length }) := rfl
    rw [wrD_step (s := { s with sz := 0, len := 0, pl := 4, tot := s.tot + b.length }) h.er (by simp) (by simp) (by rw [s1]), s1]
    simp only
    rw [wrD_step (s := { s with sz := 0, len := 0, pl := 5, tot := s.tot + b.length }) h.er (by simp) (by simp) (by rw [s2]), s2]
    have e : ({ s with sz := 0, len := 0, pl := 0, tot := s.tot + b.length } : Dc) = { s with tot := s.tot + b.length } := by
      cases s; simp at *; exact ⟨h.pl.symm, h.sz.symm, h.len.symm⟩
    simp only [wrD, e]
    simp; omega
end Go.Proofs.YtfmgfcddnnggeaaGreatDoor
