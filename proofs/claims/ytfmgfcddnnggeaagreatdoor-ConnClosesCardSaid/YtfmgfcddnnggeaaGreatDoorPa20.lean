import Derived.Test.YtfmgfcddnnggeaaGreatDoorPa19
import Derived.Test.YtfmgfcddnnggeaaGreatDoorPa11
import Derived.Lib.Split
import Derived.Lib.IndexMore
import Derived.Test.YtfmgfcddnnggeaaGreatDoorPa2
import Derived.Test.YtfmgfcddnnggeaaGreatDoorPa0
import Derived.Test.YtfmgfcddnnggeaaGreatDoorPa6
import Derived.Shelf.Bytes.SlIndexWhole
import Derived.Shelf.Bytes.SlSmallAll
import Derived.Lib.SlBytesConst
/- What the connection's end returns. -/
namespace Go.Proofs.YtfmgfcddnnggeaaGreatDoor
open Go.RowKit

abbrev noV : Value := .slice none 0 0
theorem decO_trailers {B : Nat} {X : Nat → Prop} {o : Option Dc} {dv : Value} {w : World} (h : DecO B X o dv w) (ht : (trsO o).length ≤ 64) (hd : ∀ d, o = some d → d.trs.length ≤ 64) : Calls Tryz.prog 21 #[dv] w (TrPost (trsO o) w) := by
  cases o with
  | none =>
    obtain rfl : dv = .pointer none := h
    exact (trailers_nil w).mono fun e w' ⟨he, hw⟩ => by subst hw; exact ⟨_, he, OwnsP.nil _ _ _, Below.refl _ _⟩
  | some d =>
    obtain ⟨Q, rfl, hD⟩ := h
    exact trailers_any w hD (hd d rfl)
/-- What end leaves: the connection behind the body, and the event with its trailers. -/
def EndPost (B P : Nat) (X : Nat → Prop) (s : Cn) (w : World) (e : Ending) (w' : World) : Prop :=
  ∃ tv, e = .returned (evV (endE s) noV noV noV tv) ∧ OwnsP 71 w.heap.size w' tv (trsO s.dc) ∧ Con B P X (endC s) w' ∧ Only X w w'
theorem ownsP_only {T : TypeId} {B : Nat} {w w' : World} {v : Value} {ps : Flds} {X : Nat → Prop} (h : OwnsP T B w v ps) (hO : Only X w w') (hX : ∀ k, X k → k < B) : OwnsP T B w' v ps :=
  hO.owns h (fun k hk hx => by have := (World.ownsRow.lt h k hk).1; have := hX k hx; omega)
theorem eight_kept (w : World) {t : TypeId} {a0 a1 a2 a3 a4 a5 a6 a7 : Value} {w1 : World} (h : Below (w.alloc (.cells #[a0, a1, a2, a3, a4, a5, a6, a7] t)).heap.size (w.alloc (.cells #[a0, a1, a2, a3, a4, a5, a6, a7] t)) w1) :
    ∀ j, w1.cell? ⟨w.heap.size, j, none⟩ = (#[a0, a1, a2, a3, a4, a5, a6, a7] : Array Value)[j]? ∧ w1.frozen? ⟨w.heap.size, j, none⟩ = false := by
  have hs : w.heap.size < (w.alloc (.cells #[a0, a1, a2, a3, a4, a5, a6, a7] t)).heap.size := by simp
  have hh := heap_alloc_new w (.cells #[a0, a1, a2, a3, a4, a5, a6, a7] t)
  exact fun j => ⟨(h.cell (p := ⟨w.heap.size, j, none⟩) hs).trans (by rw [Lib.cell_of_heap hh]), (h.frozen (p := ⟨w.heap.size, j, none⟩) hs).trans (Lib.frozen_of_heap hh j)⟩
theorem only8 (W : World) (N : Nat) (a0 a1 a2 a3 a4 a5 a6 a7 : Value) : Only (fun k => k = N) W ((((((((W.setCell ⟨N, 0, none⟩ a0).setCell ⟨N, 1, none⟩ a1).setCell ⟨N, 2, none⟩ a2).setCell ⟨N, 3, none⟩ a3).setCell ⟨N, 4, none⟩ a4).setCell ⟨N, 5, none⟩ a5).setCell ⟨N, 6, none⟩ a6).setCell ⟨N, 7, none⟩ a7) := ((((((((Only.set (X := fun k => k = N) (b := N) rfl _ _ _).trans' (Only.set (X := fun k => k = N) (b := N) rfl _ _ _)).trans' (Only.set (X := fun k => k = N) (b := N) rfl _ _ _)).trans' (Only.set (X := fun k => k = N) (b := N) rfl _ _ _)).trans' (Only.set (X := fun k => k = N) (b := N) rfl _ _ _)).trans' (Only.set (X := fun k => k = N) (b := N) rfl _ _ _)).trans' (Only.set (X := fun k => k = N) (b := N) rfl _ _ _)).trans' (Only.set (X := fun k => k = N) (b := N) rfl _ _ _))
theorem only3 (W : World) (N : Nat) (a4 a5 a6 : Value) : Only (fun k => k = N) W (((W.setCell ⟨N, 4, none⟩ a4).setCell ⟨N, 5, none⟩ a5).setCell ⟨N, 6, none⟩ a6) := (((Only.set (X := fun k => k = N) (b := N) rfl _ _ _).trans' (Only.set (X := fun k => k = N) (b := N) rfl _ _ _)).trans' (Only.set (X := fun k => k = N) (b := N) rfl _ _ _))
theorem only4 (W : World) (N : Nat) (a4 a5 a6 a1 : Value) : Only (fun k => k = N) W ((((W.setCell ⟨N, 4, none⟩ a4).setCell ⟨N, 5, none⟩ a5).setCell ⟨N, 6, none⟩ a6).setCell ⟨N, 1, none⟩ a1) := ((((Only.set (X := fun k => k = N) (b := N) rfl _ _ _).trans' (Only.set (X := fun k => k = N) (b := N) rfl _ _ _)).trans' (Only.set (X := fun k => k = N) (b := N) rfl _ _ _)).trans' (Only.set (X := fun k => k = N) (b := N) rfl _ _ _))
theorem end_post {B P : Nat} {X XM XM' XD XD' : Nat → Prop} {s s' : Cn} {mv0 mv sv sv' dv dv' : Value} {w w1 W3 W11 wF : World} {o : Obj} {tv : Value} (hp : ConP B P X XM XD s mv0 sv dv w) (hB : Below (w.alloc o).heap.size (w.alloc o) w1) (hO : OwnsP 71 (w.alloc o).heap.size w1 tv (trsO s.dc))
    (hC : ConP B P X XM' XD' s' mv sv' dv' W3) (h3 : Only (fun k => k = P) w1 W3) (h11 : Only (fun k => k = w.heap.size) W3 W11) (hF : Below W11.heap.size W11 wF) (he : s' = endC s := by rfl) : EndPost B P X s w (.returned (evV (endE s) noV noV noV tv)) wF := by
  subst he
  have hlt := hp.lt
  have hP := hlt P hp.p
  have hs : (w.alloc o).heap.size = w.heap.size + 1 := by simp
  have hF' : Only (fun _ => False) W11 wF := Only.below hF
  have hsz := hB.size
  have h13 : Only (fun k => k = P ∨ k = w.heap.size) w1 W11 := (h3.mono (fun k hk => Or.inl hk)).trans' (h11.mono (fun k hk => Or.inr hk))
  refine ⟨tv, rfl, ?_, ⟨mv, sv', dv', XM', XD', (hC.only h11 (fun k hk h => by have := (hlt k hk).2; omega)).below hF⟩, ?_⟩
  · have h1 := ownsP_only hO h13 (fun k hk => by omega)
    exact OwnsP.mono (by omega) (OwnsP.below h1 hF)
  · have a : Only X w w1 := Only.below ((below_new w o).trans (hB.mono (by simp)))
    refine ((a.trans h13 (fun k hk => ?_)).trans' (Only.below hF))
    rcases hk with h | h
    · exact .inl (h ▸ hp.p)
    · exact .inr (by omega)
/-- What end asks of a connection. -/
structure Cn.EndOk (s : Cn) : Prop where
  tr : ∀ d, s.dc = some d → d.trs.length ≤ 64
  ms : s.rs = true → s.ms ≠ []
theorem Cn.Ok.endOk {s : Cn} (hok : s.Ok) (hk : s.fk ≠ 0) : s.EndOk := by
  refine ⟨fun d hd => ?_, fun hr => hok.o9 hr hk⟩
  by_cases h3 : s.fk = 3
  · obtain ⟨d', h1, h2, _⟩ := hok.o5 h3
    rw [hd] at h1
    rw [Option.some.inj h1]; exact h2.b8
  · rw [hok.o6 h3] at hd; cases hd
set_option maxHeartbeats 4000000 in
set_option maxRecDepth 100000 in
theorem end_any {B P : Nat} {X : Nat → Prop} {s : Cn} (w : World) (h : Con B P X s w) (hok : s.EndOk) :
    Calls Tryz.prog 14 #[.pointer (some ⟨P, 0, none⟩)] w (EndPost B P X s w) := by
  obtain ⟨mv, sv, dv, XM, XD, hp⟩ := h
  have htr := hok.tr
  have htl : (trsO s.dc).length ≤ 64 := by
    cases hd : s.dc with
    | none => simp [trsO]
    | some d =>
      have := htr d hd
      unfold trsO; simp only
      split
      · exact this
      · simp
  have hms := hok.ms
  have T := Lib.hid (fun W (hW : ConP B P X XM XD s mv sv dv W) => decO_trailers hW.d htl htr)
  have HP := Lib.hid hp
  have hb0 := below_new w (.cells #[.int .i64 0, .string ⟨#[]⟩, .string ⟨#[]⟩, noV, .int .i64 0, noV, noV, noV] 42)
  have hp1 := hp.below hb0
  obtain ⟨c0, c1, _, _, c4, c5, c6, _, _, f⟩ := hp.cells
  have HP1 := Lib.hid hp1
  have hs : P < w.heap.size := (hp.lt P hp.p).2
  have HMS := Lib.hid hms
  clear hp hp1 hok htr htl hms f
  go_enter Tryz.func14, Tryz.ntmps14
  go_wp2_with fail
  refine (T.out _ HP1.out).mono ?_
  rintro e w1 ⟨tv, rfl, hO, hB1⟩
  have hp2 := HP1.out.below hB1
  have K := eight_kept w hB1
  obtain ⟨d0, d1, _, _, d4, d5, d6, _, _, df⟩ := hp2.cells
  have df0 := df 0
  have df1 := df 1
  have df4 := df 4
  have df5 := df 5
  have df6 := df 6
  have hs1 : P < w1.heap.size := (hp2.lt P hp2.p).2
  have hw : w.heap.size < w1.heap.size := by have := hB1.size; simp at this; omega
  have HP2 := Lib.hid hp2
  have HO := Lib.hid hO
  have HB1 := Lib.hid hB1
  have hne : w.heap.size ≠ P := by omega
  have k0 := (K 0).2
  have k1 := (K 1).2
  have k2 := (K 2).2
  have k3 := (K 3).2
  have k4 := (K 4).2
  have k5 := (K 5).2
  have k6 := (K 6).2
  have k7 := (K 7).2
  have j0 : w1.cell? ⟨w.heap.size, 0, none⟩ = some (.int .i64 0) := (K 0).1
  have j1 : w1.cell? ⟨w.heap.size, 1, none⟩ = some (.string ⟨#[]⟩) := (K 1).1
  have j2 : w1.cell? ⟨w.heap.size, 2, none⟩ = some (.string ⟨#[]⟩) := (K 2).1
  have j3 : w1.cell? ⟨w.heap.size, 3, none⟩ = some (noV) := (K 3).1
  have j4 : w1.cell? ⟨w.heap.size, 4, none⟩ = some (.int .i64 0) := (K 4).1
  have j5 : w1.cell? ⟨w.heap.size, 5, none⟩ = some (noV) := (K 5).1
  have j6 : w1.cell? ⟨w.heap.size, 6, none⟩ = some (noV) := (K 6).1
  have j7 : w1.cell? ⟨w.heap.size, 7, none⟩ = some (noV) := (K 7).1
  clear K c0 c1 c4 c5 c6 hp2 df hO hB1 hb0 hs
  obtain ⟨ta, tc, rfl⟩ := len_trs HO.out
  cases hrs : s.rs with
  | false =>
    rw [hrs] at d0
    have HRS := Lib.hid hrs
    clear hrs
    go_wp2_with fail
    refine bodyPost_ret (v := evV (endE s) noV noV noV (.slice ta (trsO s.dc).length tc)) (by simp [results, Tryz.results14, go_sem, endE, strB, hw, j0, j1, j2, j3, j4, j5, j6, j7]) rfl ?_
    have e : endC s = { s with fk := 0, fl := 0, dc := none } := by unfold endC; rw [if_neg (by rw [HRS.out]; decide)]
    have hC : ConP B P X XM (fun _ => False) (endC s) mv sv (.pointer none) (((w1.setCell ⟨P, 4, none⟩ (.int .i64 0)).setCell ⟨P, 5, none⟩ (.int .i64 0)).setCell ⟨P, 6, none⟩ (.pointer none)) := by
      rw [e]
      exact ((HP2.out.fk (n := 0) rfl).fl (n := 0) rfl).nodc
    have h := fun wF hF => end_post (wF := wF) HP.out HB1.out HO.out hC (only3 _ _ _ _ _) (only8 _ _ (.int .i64 3) (.string ⟨#[]⟩) (.string ⟨#[]⟩) noV (.int .i64 0) noV noV (.slice ta (trsO s.dc).length tc)) hF rfl
    exact h _ (below_new _ _)
  | true =>
    rw [hrs] at d0
    have hne2 := HMS.out hrs
    obtain ⟨m, ms, hms⟩ : ∃ m ms, s.ms = m :: ms := by
      cases hm : s.ms with
      | nil => exact absurd hm hne2
      | cons m ms => exact ⟨m, ms, rfl⟩
    have hm1 := HP2.out.m
    rw [hms] at hm1
    have HMs := Lib.hid hms
    have HRS := Lib.hid hrs
    obtain ⟨g, off, cap, rfl, hcap, hm'⟩ := msM_tail2 hm1
    have HM' := Lib.hid hm'
    have e : endC s = { s with fk := 0, fl := 0, dc := none, ms := ms } := by unfold endC; rw [if_pos hrs, hms]; rfl
    have HE := Lib.hid e
    have h3 := ((HP2.out.fk (n := 0) rfl).fl (n := 0) rfl).nodc
    have hC : ∀ a, MsM XM w1 (.slice a ms.length (cap - 1)) ms → ConP B P X XM (fun _ => False) (endC s) (.slice a ms.length (cap - 1)) sv (.pointer none) ((((w1.setCell ⟨P, 4, none⟩ (.int .i64 0)).setCell ⟨P, 5, none⟩ (.int .i64 0)).setCell ⟨P, 6, none⟩ (.pointer none)).setCell ⟨P, 1, none⟩ (.slice a ms.length (cap - 1))) := by
      intro a ha
      rw [e]
      exact h3.set 1 _ rfl (ha.only (only3 _ _ _ _ _) (fun k hk => (HP2.out.xm k hk).2)) h3.t h3.d (fun _ h => h) h3.xm h3.xs h3.xd h3.lt
    have HC := Lib.hid hC
    clear hrs hne2 hms hm1 hm' e h3 hC
    by_cases hc1 : cap = 1
    · subst hc1
      obtain rfl : ms = [] := List.eq_nil_of_length_eq_zero (by omega)
      rw [if_pos rfl] at HM'
      simp only [Nat.sub_self, List.length_nil] at HM' HC
      go_wp2_with fail
      refine bodyPost_ret (v := evV (endE s) noV noV noV (.slice ta (trsO s.dc).length tc)) (by simp [results, Tryz.results14, go_sem, endE, strB, hw, j0, j1, j2, j3, j4, j5, j6, j7]) rfl ?_
      have h := fun wF hF => end_post (wF := wF) HP.out HB1.out HO.out (HC.out _ HM'.out) (only4 _ _ _ _ _ _) (only8 _ _ (.int .i64 3) (.string ⟨#[]⟩) (.string ⟨#[]⟩) noV (.int .i64 0) noV noV (.slice ta (trsO s.dc).length tc)) hF rfl
      exact h _ (below_new _ _)
    · rw [if_neg hc1] at HM'
      go_wp2_with fail
      refine bodyPost_ret (v := evV (endE s) noV noV noV (.slice ta (trsO s.dc).length tc)) (by simp [results, Tryz.results14, go_sem, endE, strB, hw, j0, j1, j2, j3, j4, j5, j6, j7]) rfl ?_
      have h := fun wF hF => end_post (wF := wF) HP.out HB1.out HO.out (HC.out _ HM'.out) (only4 _ _ _ _ _ _) (only8 _ _ (.int .i64 3) (.string ⟨#[]⟩) (.string ⟨#[]⟩) noV (.int .i64 0) noV noV (.slice ta (trsO s.dc).length tc)) hF rfl
      exact h _ (below_new _ _)
end Go.Proofs.YtfmgfcddnnggeaaGreatDoor

/- How the program divides a head: by the first CR LF CR LF within the limit, and by CR LF; it is how the reference does. -/
namespace Go.Proofs.YtfmgfcddnnggeaaGreatDoor

def crlf : List UInt8 := [13, 10]
def crlf2 : List UInt8 := [13, 10, 13, 10]
/-- The pieces between CR LF; cur is what stands before. -/
def spF (cur : List UInt8) : List UInt8 → List (List UInt8)
  | [] => [cur]
  | c :: r => if c = 13 ∧ r.head? = some 10 then cur :: spF [] r.tail else spF (cur ++ [c]) r
termination_by l => l.length
decreasing_by all_goals simp_wf; all_goals (try have := List.length_tail (l := r)); all_goals (try omega)
theorem pre2 (c : UInt8) (r : List UInt8) : crlf.isPrefixOf (c :: r) = true ↔ c = 13 ∧ r.head? = some 10 := by
  unfold crlf
  cases r with
  | nil => simp [List.isPrefixOf]
  | cons d r => simp [List.isPrefixOf]; constructor <;> (rintro ⟨a, b⟩; exact ⟨a.symm, b.symm⟩)
theorem spF_index : ∀ (s cur : List UInt8), spF cur s = if Lib.index s crlf = -1 then [cur ++ s] else (cur ++ s.take (Lib.index s crlf).toNat) :: spF [] (s.drop ((Lib.index s crlf).toNat + 2)) := by
  intro s
  induction s with
  | nil => intro cur; rw [spF]; simp [Lib.index, crlf]
  | cons c r ih =>
    intro cur
    by_cases h : crlf.isPrefixOf (c :: r) = true
    · rw [spF, if_pos ((pre2 c r).1 h), Lib.index, if_pos h]
      simp
    · have h' : ¬ (c = 13 ∧ r.head? = some 10) := fun e => h ((pre2 c r).2 e)
      rw [spF, if_neg h', ih, Lib.index, if_neg h]
      have hge := Lib.index_ge r crlf
      by_cases h2 : Lib.index r crlf = -1
      · rw [if_pos h2, if_pos (show (Lib.index r crlf == -1) = true by rw [h2]; rfl), if_pos rfl]; simp
      · rw [if_neg h2, if_neg (show ¬ (Lib.index r crlf == -1) = true by simpa using h2), if_neg (by omega)]
        have e : (Lib.index r crlf + 1).toNat = (Lib.index r crlf).toNat + 1 := by omega
        rw [e, show (Lib.index r crlf).toNat + 1 + 2 = (Lib.index r crlf).toNat + 2 + 1 by omega]
        simp
theorem splitK_sp : ∀ (fuel : Nat) (s : List UInt8), s.length < fuel → Lib.splitK crlf 0 (Lib.countFrom crlf fuel s) s = spF [] s := by
  intro fuel
  induction fuel with
  | zero => intro s h; omega
  | succ k ih =>
    intro s hs
    rw [spF_index, Lib.countFrom]
    by_cases h : Lib.index s crlf = -1
    · rw [if_pos (by rw [h]; rfl), if_pos h]; simp [Lib.splitK]
    · have hge := Lib.index_ge s crlf
      have hle : (Lib.index s crlf).toNat + 2 ≤ s.length := by
        have := Lib.index_room s crlf (by omega)
        have h2 : crlf.length = 2 := rfl
        omega
      rw [if_neg (by simpa using h), if_neg h, show 1 + Lib.countFrom crlf k (s.drop ((Lib.index s crlf).toNat + crlf.length)) = Lib.countFrom crlf k (s.drop ((Lib.index s crlf).toNat + crlf.length)) + 1 by omega, Lib.splitK, if_neg (by simpa using h)]
      rw [show crlf.length = 2 from rfl, ih _ (by rw [List.length_drop]; omega)]
      simp
/-- strings.Split at CR LF. -/
theorem split_sp (s : List UInt8) : Lib.split s crlf = spF [] s := splitK_sp _ s (by omega)
theorem pre4 (c : UInt8) (r : List UInt8) : crlf2.isPrefixOf (c :: r) = true ↔ c = 13 ∧ r.take 3 = [10, 13, 10] := by
  unfold crlf2
  match r with
  | [] => simp [List.isPrefixOf]
  | [a] => simp [List.isPrefixOf]
  | [a, b] => simp [List.isPrefixOf]
  | a :: b :: d :: t => simp [List.isPrefixOf]; constructor <;> (rintro ⟨h1, h2, h3, h4⟩; exact ⟨h1.symm, h2.symm, h3.symm, h4.symm⟩)
theorem end4_index : ∀ l : List UInt8, end4 l = if Lib.index l crlf2 = -1 then none else some ((Lib.index l crlf2).toNat + 4) := by
  intro l
  induction l with
  | nil => rfl
  | cons c r ih =>
    rw [end4]
    by_cases h : crlf2.isPrefixOf (c :: r) = true
    · rw [if_pos ((pre4 c r).1 h), Lib.index, if_pos h]; rfl
    · have h' : ¬ (c = 13 ∧ r.take 3 = [10, 13, 10]) := fun e => h ((pre4 c r).2 e)
      rw [if_neg h', ih, Lib.index, if_neg h]
      have hge := Lib.index_ge r crlf2
      by_cases h2 : Lib.index r crlf2 = -1
      · rw [if_pos h2, if_pos (show (Lib.index r crlf2 == -1) = true by rw [h2]; rfl), if_pos rfl]; rfl
      · rw [if_neg h2, if_neg (show ¬ (Lib.index r crlf2 == -1) = true by simpa using h2), if_neg (by omega)]
        simp; omega
theorem linesF_end : ∀ (k : Nat) (a cur : List UInt8), a.length ≤ k → linesF cur (a ++ crlf2) = spF cur a ++ [[]] := by
  intro k
  induction k with
  | zero =>
    intro a cur h
    obtain rfl : a = [] := List.eq_nil_of_length_eq_zero (by omega)
    rw [spF, List.nil_append, crlf2, linesF, if_pos ⟨rfl, rfl⟩, List.tail, linesF, if_pos ⟨rfl, rfl⟩, List.tail, linesF]; rfl
  | succ k ih =>
    intro a cur h
    cases a with
    | nil => exact ih [] cur (by simp)
    | cons c r =>
      rw [List.cons_append, linesF, spF]
      by_cases hc : c = 13 ∧ r.head? = some 10
      · cases r with
        | nil => cases hc.2
        | cons d r2 =>
          rw [if_pos hc, if_pos (by exact hc)]
          show cur :: linesF [] (r2 ++ crlf2) = _
          rw [ih r2 [] (by simp at h; omega)]; rfl
      · have hc' : ¬ (c = 13 ∧ (r ++ crlf2).head? = some 10) := by
          rintro ⟨h1, h2⟩
          apply hc
          refine ⟨h1, ?_⟩
          cases r with
          | nil => exact absurd h2 (by decide)
          | cons d r2 => exact h2
        rw [if_neg hc, if_neg hc', ih r _ (by simp at h; omega)]
def badC (c : UInt8) : Bool := [13, 10, 0].contains c
theorem badC_iff (c : UInt8) : badC c = true ↔ c = 13 ∨ c = 10 ∨ c = 0 := by unfold badC; simp
theorem spF_bad : ∀ (k : Nat) (a cur : List UInt8), a.length ≤ k → cur.any badC = true → (spF cur a).any (·.any badC) = true := by
  intro k
  induction k with
  | zero =>
    intro a cur h hc
    obtain rfl : a = [] := List.eq_nil_of_length_eq_zero (by omega)
    rw [spF]; simp only [List.any_cons, hc, Bool.true_or]
  | succ k ih =>
    intro a cur h hc
    cases a with
    | nil => exact ih [] cur (by simp) hc
    | cons c r =>
      rw [spF]
      split
      · simp only [List.any_cons, hc, Bool.true_or]
      · exact ih r _ (by simp at h; omega) (by rw [List.any_append, hc, Bool.true_or])
theorem bareF_end : ∀ (k : Nat) (a cur : List UInt8) (p : UInt8), a.length ≤ k → p ≠ 13 → cur.any badC = false → bareF p (a ++ crlf2) = (spF cur a).any (·.any badC) := by
  intro k
  induction k with
  | zero =>
    intro a cur p h _ hc
    obtain rfl : a = [] := List.eq_nil_of_length_eq_zero (by omega)
    rw [spF, List.nil_append, crlf2, bareF_crlf, bareF_crlf]
    simp only [List.any_cons, hc]; rfl
  | succ k ih =>
    intro a cur p h hp hc
    cases a with
    | nil => exact ih [] cur p (by simp) hp hc
    | cons c r =>
      by_cases h13 : c = 13 ∧ r.head? = some 10
      · obtain ⟨rfl, h2⟩ := h13
        cases r with
        | nil => cases h2
        | cons d r2 =>
          obtain rfl : d = 10 := Option.some.inj h2
          rw [spF, if_pos ⟨rfl, rfl⟩]
          show bareF p (13 :: 10 :: (r2 ++ crlf2)) = _
          rw [bareF_crlf, ih r2 [] 10 (by simp at h; omega) (by decide) rfl]
          simp only [List.any_cons, hc, Bool.false_or]; rfl
      · rw [spF, if_neg h13, List.cons_append, bareF]
        have hh : ¬ (c = 13 ∧ (r ++ crlf2).head? = some 10) := by
          rintro ⟨h1, h2⟩
          apply h13
          refine ⟨h1, ?_⟩
          cases r with
          | nil => exact absurd h2 (by decide)
          | cons d r2 => exact h2
        by_cases hb : badC c = true
        · rw [spF_bad (k := k) _ _ (by simp at h; omega) (by rw [List.any_append]; simp [hb])]
          rcases (badC_iff c).1 hb with rfl | rfl | rfl
          · have : decide ((r ++ crlf2).head? ≠ some 10) = true := decide_eq_true fun e => hh ⟨rfl, e⟩
            rw [this]; simp
          · simp [hp]
          · simp
        · have hb' := hb
          rw [badC_iff] at hb'
          simp only [not_or] at hb'
          rw [ih r (cur ++ [c]) c (by simp at h; omega) hb'.1 (by rw [List.any_append, hc]; simpa using hb)]
          simp [hb'.1, hb'.2.1, hb'.2.2]
/-- How the program divides a head. -/
def divP (l : List UInt8) : Nat × List (List UInt8) × Nat :=
  if l.take 2 = crlf then (22, [], 0)
  else if Lib.index (l.take 8192) crlf2 = -1 then (if l.length < 8192 then 21 else 5, [], 0)
  else if 65 < (spF [] (l.take (Lib.index (l.take 8192) crlf2).toNat)).length then (5, [], 0)
  else if (spF [] (l.take (Lib.index (l.take 8192) crlf2).toNat)).any (·.any badC) = true then (22, [], 0)
  else (0, spF [] (l.take (Lib.index (l.take 8192) crlf2).toNat), (Lib.index (l.take 8192) crlf2).toNat + 4)
theorem splitG_div (l : List UInt8) : splitG l = divP l := by
  unfold splitG divP
  by_cases h0 : l.take 2 = crlf
  · have e : endO l = some 2 := by unfold endO; rw [if_pos (by exact h0)]
    rw [e, if_pos h0]
    simp only
    have e2 : linesF [] (l.take 2) = [[]] := by rw [h0, crlf, linesF, if_pos ⟨rfl, rfl⟩, List.tail, linesF]
    rw [e2]; simp
  · have e : endO l = end4 l := by unfold endO; rw [if_neg (by exact h0)]
    rw [e, if_neg h0]
    have hi := end4_index (l.take 8192)
    by_cases h1 : Lib.index (l.take 8192) crlf2 = -1
    · rw [if_pos h1] at hi ⊢
      cases h2 : end4 l with
      | none => rfl
      | some n =>
        simp only
        have hn := end4_some h2
        have hlt : 8192 < n := by
          refine Nat.lt_of_not_le fun hle => ?_
          have h3 := end4_pre h2 ((l.drop n).take (8192 - n))
          have h4 : l.take n ++ (l.drop n).take (8192 - n) = l.take 8192 := by
            rw [← List.take_add]; congr 1; omega
          rw [h4, hi] at h3
          cases h3
        rw [if_pos (.inl hlt), if_neg (by omega)]
    · rw [if_neg h1] at hi ⊢
      have hge := Lib.index_ge (l.take 8192) crlf2
      generalize hk : (Lib.index (l.take 8192) crlf2).toNat = k at hi ⊢
      have hn := end4_some hi
      have hk4 : k + 4 ≤ 8192 ∧ k + 4 ≤ l.length := by
        have := hn.2
        rw [List.length_take] at this
        omega
      have h2 : end4 l = some (k + 4) := by
        have := end4_pre hi (l.drop (k + 4))
        rw [List.take_take, Nat.min_eq_left hk4.1, List.take_append_drop] at this
        exact this
      rw [h2]
      simp only
      have h5 : l.take (k + 4) = l.take k ++ crlf2 := by
        have h6 : crlf2.isPrefixOf ((l.take 8192).drop k) = true := by
          rcases Lib.index_spec (l.take 8192) crlf2 with ⟨h, _⟩ | ⟨i, h, _, ho, _⟩
          · exact absurd h h1
          · obtain rfl : i = k := by omega
            exact ho
        rw [List.drop_take] at h6
        have h7 : crlf2 = (l.drop k).take 4 := by
          have := List.isPrefixOf_iff_prefix.1 h6
          have h8 := List.prefix_iff_eq_take.1 this
          rw [List.take_take, show crlf2.length = 4 from rfl, Nat.min_eq_left (by omega)] at h8
          exact h8
        rw [List.take_add, ← h7]
      rw [h5, linesF_end _ _ _ (Nat.le_refl _), bareF_end _ _ [] 0 (Nat.le_refl _) (by decide) rfl, List.dropLast_concat, List.length_append]
      by_cases h6 : 65 < (spF [] (l.take k)).length
      · rw [if_pos (.inr (by simp; omega)), if_pos h6]
      · rw [if_neg (by simp; omega), if_neg h6]
        by_cases h7 : (spF [] (l.take k)).any (·.any badC) = true
        · rw [if_pos (.inr h7), if_pos h7]
        · rw [if_neg (by rintro (h | h); omega; exact h7 h), if_neg h7]
theorem spF_len : ∀ (k : Nat) (s cur : List UInt8), s.length ≤ k → (spF cur s).length ≤ s.length + 1 := by
  intro k
  induction k with
  | zero =>
    intro s cur h
    obtain rfl : s = [] := List.eq_nil_of_length_eq_zero (by omega)
    rw [spF]; simp
  | succ k ih =>
    intro s cur h
    cases s with
    | nil => rw [spF]; simp
    | cons c r =>
      rw [spF]
      split
      · have h2 := List.length_tail (l := r)
        have := ih r.tail [] (by simp at h; omega)
        simp only [List.length_cons]; omega
      · have := ih r (cur ++ [c]) (by simp at h; omega)
        simp only [List.length_cons]; omega
/-- The parts are no longer than the text. -/
theorem spF_part : ∀ (k : Nat) (s cur : List UInt8), s.length ≤ k → ∀ l ∈ spF cur s, l.length ≤ cur.length + s.length := by
  intro k
  induction k with
  | zero =>
    intro s cur h l hl
    obtain rfl : s = [] := List.eq_nil_of_length_eq_zero (by omega)
    rw [spF, List.mem_singleton] at hl
    rw [hl]; simp
  | succ k ih =>
    intro s cur h l hl
    cases s with
    | nil => rw [spF, List.mem_singleton] at hl; rw [hl]; simp
    | cons c r =>
      rw [spF] at hl
      split at hl
      · have h2 := List.length_tail (l := r)
        rcases List.mem_cons.1 hl with rfl | hl
        · simp
        · have := ih r.tail [] (by simp at h; omega) l hl
          simp at this ⊢; omega
      · have := ih r (cur ++ [c]) (by simp at h; omega) l hl
        simp at this ⊢; omega
theorem spF_ne (s cur : List UInt8) : spF cur s ≠ [] := by
  rw [spF_index]; split <;> simp
theorem enc_part : ∀ (ls : List (List UInt8)), ∀ y ∈ ls, y.length ≤ (enc ls).length := by
  intro ls
  induction ls with
  | nil => intro y hy; cases hy
  | cons x t ih =>
    intro y hy
    rw [enc_cons]
    rcases List.mem_cons.1 hy with rfl | hy
    · simp
    · have := ih y hy; simp; omega
end Go.Proofs.YtfmgfcddnnggeaaGreatDoor

/- Slices of bytes that a call reads; bytes.HasPrefix and bytes.Index at the line ends, strings.Split at CR LF. -/
namespace Go.Proofs.YtfmgfcddnnggeaaGreatDoor
open Go.RowKit

def numsB (l : List UInt8) : List Int := l.map fun c => (c.toNat : Int)
theorem numsB_len (l : List UInt8) : (numsB l).length = l.length := by simp [numsB]
theorem bytesOf_nums (l : List UInt8) : Lib.bytesOf (numsB l) = l := by
  unfold Lib.bytesOf numsB
  rw [List.map_map]
  conv => rhs; rw [← List.map_id l]
  exact List.map_congr_left fun c _ => by simp
theorem numsB_byte (l : List UInt8) : ∀ x ∈ numsB l, 0 ≤ x ∧ x < 256 := by
  intro x hx
  obtain ⟨c, _, rfl⟩ := List.mem_map.1 hx
  have := UInt8.toNat_lt c
  omega
theorem numsB_at {l : List UInt8} {i : Nat} (h : i < l.length) : (numsB l).getD i 0 = ((l[i]'h).toNat : Int) := by
  unfold numsB; rw [List.getD, List.getElem?_map, List.getElem?_eq_getElem h]; rfl
/-- The cells from ⟨g, off⟩ on hold these bytes. -/
def CellsB (w : World) (g off : Nat) (l : List UInt8) : Prop := ∀ i (h : i < l.length), w.cell? ⟨g, off + i, none⟩ = some (.int .u8 ((l[i]'h).toNat : Int))
theorem CellsB.below {w w' : World} {g off : Nat} {l : List UInt8} (h : CellsB w g off l) (hg : g < w.heap.size) (hb : Below w.heap.size w w') : CellsB w' g off l :=
  fun i hi => (hb.cell (p := ⟨g, off + i, none⟩) hg).trans (h i hi)
theorem CellsB.take {w : World} {g off : Nat} {l : List UInt8} (h : CellsB w g off l) (n : Nat) : CellsB w g off (l.take n) := by
  intro i hi
  have hi' : i < l.length := by rw [List.length_take] at hi; omega
  rw [h i hi', List.getElem_take]
/-- The value v is a slice of these bytes. -/
def ReadsB (w : World) (v : Value) (l : List UInt8) : Prop :=
  ∃ ao cap, v = .slice ao l.length cap ∧ l.length ≤ cap ∧ ((ao = none ∧ cap = 0) ∨ ∃ g off, ao = some ⟨g, off, none⟩ ∧ g < w.heap.size ∧ CellsB w g off l)
theorem ReadsB.below {w w' : World} {v : Value} {l : List UInt8} (h : ReadsB w v l) (hb : Below w.heap.size w w') : ReadsB w' v l := by
  obtain ⟨ao, cap, h1, h2, h3⟩ := h
  refine ⟨ao, cap, h1, h2, ?_⟩
  rcases h3 with h3 | ⟨g, off, h4, h5, h6⟩
  · exact .inl h3
  · exact .inr ⟨g, off, h4, Nat.lt_of_lt_of_le h5 hb.size, h6.below h5 hb⟩
/-- A slice of bytes is nil and empty, or lies in a block. -/
theorem ReadsB.cases {w : World} {v : Value} {l : List UInt8} (h : ReadsB w v l) :
    (v = .slice none 0 0 ∧ l = []) ∨ ∃ g off cap, v = .slice (some ⟨g, off, none⟩) l.length cap ∧ l.length ≤ cap ∧ g < w.heap.size ∧ CellsB w g off l := by
  obtain ⟨ao, cap, h1, h2, h3⟩ := h
  rcases h3 with ⟨rfl, rfl⟩ | ⟨g, off, h4, h5, h6⟩
  · have : l = [] := List.eq_nil_of_length_eq_zero (by omega)
    subst this
    exact .inl ⟨h1, rfl⟩
  · exact .inr ⟨g, off, cap, by rw [h1, h4], h2, h5, h6⟩
theorem cells_take {l : List UInt8} (c : List UInt8) (n : Nat) (h : l.take n = c) (hn : n = c.length) : Lib.hasPrefix l c = true := by
  subst hn
  unfold Lib.hasPrefix
  rw [List.isPrefixOf_iff_prefix, List.prefix_iff_eq_take]
  exact h.symm
theorem hasPrefix_crlf (l : List UInt8) : Lib.hasPrefix l crlf = decide (l.take 2 = crlf) := by
  by_cases h : l.take 2 = crlf
  · rw [cells_take crlf 2 h rfl, decide_eq_true h]
  · rw [decide_eq_false h, Bool.eq_false_iff]
    intro e
    unfold Lib.hasPrefix at e
    rw [List.isPrefixOf_iff_prefix, List.prefix_iff_eq_take] at e
    exact h e.symm
theorem two_cells (W : World) (a b : Int) (T : TypeId) (fr : Nat × Nat) (i : Nat) (h : i < 2) : (W.alloc (.cells #[.int .u8 a, .int .u8 b] T fr)).cell? ⟨W.heap.size, 0 + i, none⟩ = some (.int .u8 ([a, b].getD i 0)) := by
  rw [World.cell?_alloc_mark]
  have : i = 0 ∨ i = 1 := by omega
  rcases this with rfl | rfl <;> rfl
theorem four_cells (W : World) (a b c d : Int) (T : TypeId) (fr : Nat × Nat) (i : Nat) (h : i < 4) : (W.alloc (.cells #[.int .u8 a, .int .u8 b, .int .u8 c, .int .u8 d] T fr)).cell? ⟨W.heap.size, 0 + i, none⟩ = some (.int .u8 ([a, b, c, d].getD i 0)) := by
  rw [World.cell?_alloc_mark]
  have : i = 0 ∨ i = 1 ∨ i = 2 ∨ i = 3 := by omega
  rcases this with rfl | rfl | rfl | rfl <;> rfl
/-- bytes.HasPrefix(b, []byte("\r\n")). -/
theorem prefix_crlf (W : World) (g off cap : Nat) (l : List UInt8) (hl : l.length ≤ cap) (hg : g < W.heap.size) (hc : CellsB W g off l) :
    Calls Tryz.prog 51 #[.slice (some ⟨g, off, none⟩) l.length cap, .slice (some ⟨W.heap.size, 0, none⟩) 2 2] (W.alloc (.cells #[.int .u8 13, .int .u8 10] 5 (2, 3)))
      fun e w' => e = .returned (.bool (decide (l.take 2 = crlf))) ∧ (W.alloc (.cells #[.int .u8 13, .int .u8 10] 5 (2, 3))) = w' := by
  have hcc := hc.below hg (below_new W (.cells #[.int .u8 13, .int .u8 10] 5 (2, 3)))
  refine (Tryz.bytes_HasPrefix_all (some ⟨g, off, none⟩) (some ⟨W.heap.size, 0, none⟩) l.length cap 2 2 (numsB l) [13, 10] _ (numsB_len l) rfl hl
    (fun _ => ⟨g, off, rfl, fun i hi => by rw [numsB_at hi]; exact hcc i hi⟩) (fun _ => ⟨W.heap.size, 0, rfl, fun i hi => two_cells W 13 10 _ _ i hi⟩)).mono ?_
  rintro e w' ⟨rfl, rfl⟩
  rw [bytesOf_nums, show Lib.bytesOf [13, 10] = crlf by decide, hasPrefix_crlf]
  exact ⟨rfl, rfl⟩
/-- bytes.Index(b, []byte("\r\n\r\n")). -/
theorem index_crlf2 (W : World) (hM : HasMax W) (g off cap : Nat) (l : List UInt8) (hl : l.length ≤ cap) (h8 : l.length ≤ 100000) (hg : g < W.heap.size) (hc : CellsB W g off l) :
    Calls Tryz.prog 52 #[.slice (some ⟨g, off, none⟩) l.length cap, .slice (some ⟨W.heap.size, 0, none⟩) 4 4] (W.alloc (.cells #[.int .u8 13, .int .u8 10, .int .u8 13, .int .u8 10] 5 (4, 5)))
      fun e w' => e = .returned (.int .i64 (Lib.index l crlf2)) ∧ Below W.heap.size W w' := by
  obtain ⟨m, hm⟩ := hM.below (below_new W (.cells #[.int .u8 13, .int .u8 10, .int .u8 13, .int .u8 10] 5 (4, 5)))
  have hcc := hc.below hg (below_new W (.cells #[.int .u8 13, .int .u8 10, .int .u8 13, .int .u8 10] 5 (4, 5)))
  refine (Tryz.bytes_Index_at ⟨g, off, none⟩ ⟨W.heap.size, 0, none⟩ l.length cap 4 4 (numsB l) [13, 10, 13, 10] m _ (numsB_len l) rfl (numsB_byte l) (by decide)
    (fun i hi => by rw [Addr.add_lit, numsB_at hi]; exact hcc i hi) (fun i hi => by rw [Addr.add_lit]; exact four_cells W 13 10 13 10 _ _ i hi) hl (by omega) (by decide) hm).mono ?_
  rintro e w' ⟨rfl, q, rfl⟩
  rw [bytesOf_nums, show Lib.bytesOf [13, 10, 13, 10] = crlf2 by decide]
  exact ⟨rfl, below_drewN (below_new W _) q⟩
/-- string(b) of a slice of bytes. -/
theorem conv_bytes (W : World) (g off cap : Nat) (l : List UInt8) (hc : CellsB W g off l) :
    (convert 30 9 (.slice (some ⟨g, off, none⟩) l.length cap)).run Tryz.prog W = .ok (.string (strB l)) W :=
  run_convert_bytes_back W 30 9 5 ⟨g, off, none⟩ cap l Tryz.underlying30 Tryz.underlying5 Tryz.underlying9 (fun j hj => by rw [Addr.add_lit]; exact hc j hj)
/-- strings.Split(s, "\r\n"). -/
theorem split_crlf (s : List UInt8) (w : World) (hM : HasMax w) (hs : s.length ≤ 100000) :
    Calls Tryz.prog 53 #[.string (strB s), .string ⟨#[13, 10]⟩] w fun e w' => ∃ v, e = .returned v ∧ OwnsS w.heap.size w' v (spF [] s) ∧ Below w.heap.size w w' := by
  obtain ⟨m, hm⟩ := hM
  have hz : (strB s).size ≤ 100000 := by rw [strB_size]; exact hs
  refine (Tryz.strings_Split (strB s) ⟨#[13, 10]⟩ m w (by omega) hm (by decide)).mono ?_
  rintro e w' ⟨rfl, rfl⟩
  have hd := Lib.splitB_data ⟨#[13, 10]⟩ 0 (Lib.countB (strB s) ⟨#[13, 10]⟩) (strB s)
  have hc : Lib.countB (strB s) ⟨#[13, 10]⟩ = Lib.count (strB s).data.toList crlf := rfl
  have hcut : (Lib.splitB ⟨#[13, 10]⟩ 0 (Lib.countB (strB s) ⟨#[13, 10]⟩) (strB s)).map (·.data.toList) = spF [] s := by
    rw [hd, hc, strB_list]; exact split_sp s
  have hv : (Lib.splitB ⟨#[13, 10]⟩ 0 (Lib.countB (strB s) ⟨#[13, 10]⟩) (strB s)).map Value.string = (spF [] s).map strV := by
    rw [← hcut, List.map_map]
    exact List.map_congr_left fun x _ => by show Value.string x = Value.string (strB x.data.toList); rw [strB_of]
  have hlen : Lib.countB (strB s) ⟨#[13, 10]⟩ + 1 = (spF [] s).length := by
    rw [← hcut, List.length_map]
    exact (Lib.splitB_all ⟨#[13, 10]⟩ (by decide) 0 _ (strB s) rfl).symm
  have hle : (spF [] s).length ≤ s.length + 1 := spF_len _ s [] (Nat.le_refl _)
  refine ⟨_, rfl, ?_, below_new _ _⟩
  rw [hv, hlen]
  exact World.ownsRow_lit (base := w.heap.size) (e := 9) (size := 1) w ((spF [] s).map strV).toArray (spF [] s).length (Nat.le_refl _) (by unfold maxLen; omega) (by simp)
end Go.Proofs.YtfmgfcddnnggeaaGreatDoor
