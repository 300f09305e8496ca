import Derived.Test.YtpikjcmenmdolaaGreatDoorPa45
import Derived.Test.YtpikjcmenmdolaaGreatDoorPa27
import Derived.Test.YtpikjcmenmdolaaGreatDoorPa41
import Derived.Test.YtpikjcmenmdolaaGreatDoorPa38
import Derived.Test.YtpikjcmenmdolaaGreatDoorPa34
import Derived.Test.YtpikjcmenmdolaaGreatDoorPa36
import Derived.Test.YtpikjcmenmdolaaGreatDoorPa42
/- The events of a connection are small: few fields, few events, little data. -/
namespace Go.Proofs.YtpikjcmenmdolaaGreatDoor
open Go.RowKit

theorem sm_dat (d : List UInt8) : EvSm (dat d) := ⟨by show ([] : Fs).length ≤ 1000; decide, by show ([] : Fs).length ≤ 1000; decide, by show ([] : Fs).length ≤ 1000; decide⟩
theorem sm_end {s : Cn} (h : ∀ d, s.dc = some d → d.Ok) : EvSm (endE s) := by
  refine ⟨by show ([] : Fs).length ≤ 1000; decide, by show ([] : Fs).length ≤ 1000; decide, ?_⟩
  show (trsO s.dc).length ≤ 1000
  cases hd : s.dc with
  | none => show ([] : Fs).length ≤ 1000; decide
  | some d =>
    show (if d.pl = 8 then d.trs else []).length ≤ 1000
    have := (h d hd).b8
    split
    · omega
    · decide
/-- What a step's events are: at most two, all small, with at most a byte of data. -/
structure StSm (es : List Ev) : Prop where
  n : es.length ≤ 2
  s : ∀ e ∈ es, EvSm e
  d : datS es ≤ 1
theorem stSm_nil : StSm [] := ⟨by decide, fun e h => (by cases h), by decide⟩
theorem stSm_one {e : Ev} (h : EvSm e) (hd : e.d.length ≤ 1) : StSm [e] := ⟨by simp, fun x hx => by rw [List.mem_singleton.1 hx]; exact h, by rw [datS_one]; exact hd⟩
theorem stSm_off {s : Cn} {es : List Ev} (h : StSm es) (hn : es.length ≤ 1) (hd : ∀ d, s.dc = some d → d.Ok) : StSm (offC s es).2 := by
  unfold offC
  split
  · refine ⟨by simp; omega, fun e he => ?_, ?_⟩
    · rcases List.mem_append.1 he with a | a
      · exact h.s e a
      · rw [List.mem_singleton.1 a]; exact sm_end hd
    · show datS (es ++ [endE s]) ≤ 1
      rw [datS_app, datS_one]
      have : (endE s).d.length = 0 := rfl
      have := h.d
      omega
  · exact h
theorem hdR_d (b : Bool) (l : List UInt8) : (hdR b l).2.1.d = [] ∧ (hdR b l).2.1.t = [] := by
  cases b <;> exact ⟨rfl, rfl⟩
theorem sm_hd (b : Bool) (l : List UInt8) (hl : l.length ≤ 8192) : EvSm (hdR b l).2.1 := by
  have h := fits_hd b l hl
  refine ⟨by have := h.1.1; omega, by have := h.2.1; omega, by rw [(hdR_d b l).2]; decide⟩
theorem stSm_head {s : Cn} (h : s.dc = none) {e : Ev} (he : EvSm e) (hd : e.d = []) : StSm (headC s e).2 := by
  have h1 : StSm [e] := stSm_one he (by rw [hd]; decide)
  unfold headC
  split
  · exact stSm_nil
  · split
    · exact stSm_nil
    · split
      · exact h1
      · refine stSm_off h1 (by simp) (fun d hd => ?_)
        unfold beginC at hd
        simp only at hd
        split at hd
        · cases hd; exact ok_new
        · rw [h] at hd; cases hd
theorem stSm_step {s : Cn} (h : s.Ok) (c : UInt8) : StSm (stepC s c).2 := by
  unfold stepC
  split
  · exact stSm_nil
  · split
    · rename_i hk
      unfold bodyC
      split
      · rename_i h2
        refine stSm_off (stSm_one (sm_dat [c]) (by show [c].length ≤ 1; simp)) (by simp) (fun d hd => ?_)
        have : s.dc = none := h.o6 (by omega)
        have hd' : s.dc = some d := hd
        rw [this] at hd'; cases hd'
      · split
        · rename_i h3
          obtain ⟨d, hd, hok, _, _⟩ := h.o5 h3
          rw [hd]
          simp only
          have hw := wrD_len [c] d
          have hl : (wrD d [c]).2.1.length ≤ 1 := by
            have h1 : (wrD d [c]).2.2 ≤ 1 := hw.1
            omega
          have h1 : StSm (datL (wrD d [c]).2.1) ∧ (datL (wrD d [c]).2.1).length ≤ 1 := by
            unfold datL
            split
            · exact ⟨stSm_nil, by decide⟩
            · exact ⟨stSm_one (sm_dat _) hl, by simp⟩
          refine stSm_off h1.1 h1.2 (fun d' hd' => ?_)
          have : d' = (wrD d [c]).1 := by
            have hq : (decC s (wrD d [c]).1).dc = some (wrD d [c]).1 := rfl
            rw [hq] at hd'; exact (Option.some.inj hd').symm
          subst this
          exact wrD_ok _ hok
        · exact stSm_one (sm_dat [c]) (by show [c].length ≤ 1; simp)
    · rename_i hk
      have h0 : s.dc = none := h.o6 (by omega)
      have h10 := h.o10
      split
      · exact stSm_nil
      · split
        · exact stSm_nil
        · split
          · exact stSm_nil
          · exact stSm_head h0 (sm_hd _ _ (by simp; omega)) (hdR_d _ _).1
theorem sm_run : ∀ (l : List UInt8) {s : Cn}, s.Ok → (runC s l).2.length ≤ 2 * l.length ∧ (∀ e ∈ (runC s l).2, EvSm e) ∧ datS (runC s l).2 ≤ l.length := by
  intro l
  induction l with
  | nil => intro s _; exact ⟨by simp [runC], fun e h => by simp [runC] at h, by simp [runC, datS]⟩
  | cons c t ih =>
    intro s h
    have h1 := stSm_step h c
    have h2 := ih (ok_stepC h c)
    have hn := h1.n
    have hd := h1.d
    rw [runC]
    refine ⟨by simp only [List.length_append, List.length_cons]; omega, fun e he => ?_, by simp only [List.length_cons]; rw [datS_app]; omega⟩
    rcases List.mem_append.1 he with a | a
    · exact h1.s e a
    · exact h2.2.1 e a
theorem snocE_len (o : List Ev) (e : Ev) : (snocE o e).length ≤ o.length + 1 := by
  unfold snocE
  split
  · split
    · simp only [List.length_append, List.length_dropLast, List.length_singleton]; omega
    · simp
  · simp
theorem snocE_sm {o : List Ev} {e : Ev} (ho : ∀ x ∈ o, EvSm x) (he : EvSm e) : ∀ x ∈ snocE o e, EvSm x := by
  intro x hx
  unfold snocE at hx
  split at hx
  · rename_i y hy
    have hym : y ∈ o := List.mem_of_getLast? hy
    split at hx
    · rcases List.mem_append.1 hx with a | a
      · exact ho x (List.dropLast_subset _ a)
      · rw [List.mem_singleton.1 a]; exact ho y hym
    · rcases List.mem_append.1 hx with a | a
      · exact ho x a
      · rw [List.mem_singleton.1 a]; exact he
  · rcases List.mem_append.1 hx with a | a
    · exact ho x a
    · rw [List.mem_singleton.1 a]; exact he
theorem fold_sm : ∀ (l o : List Ev), (∀ x ∈ o, EvSm x) → (∀ x ∈ l, EvSm x) → (∀ x ∈ l.foldl snocE o, EvSm x) ∧ (l.foldl snocE o).length ≤ o.length + l.length := by
  intro l
  induction l with
  | nil => intro o ho _; exact ⟨ho, by simp⟩
  | cons e t ih =>
    intro o ho hl
    have h := ih (snocE o e) (snocE_sm ho (hl e (List.mem_cons_self ..))) (fun x hx => hl x (List.mem_cons_of_mem _ hx))
    have hs := snocE_len o e
    exact ⟨h.1, by have := h.2; simp only [List.foldl_cons, List.length_cons]; omega⟩
theorem join_sm {l : List Ev} (h : ∀ x ∈ l, EvSm x) : (∀ x ∈ joinE l, EvSm x) ∧ (joinE l).length ≤ l.length := by
  have := fold_sm l [] (fun x hx => by cases hx) h
  exact ⟨this.1, by have h2 := this.2; rw [List.length_nil, Nat.zero_add] at h2; exact h2⟩
theorem acc_sm : ∀ (l : List UInt8) {s : Cn}, s.Ok → (accC s l).length ≤ 2 * l.length ∧ (∀ e ∈ accC s l, EvSm e) ∧ datS (accC s l) ≤ l.length := by
  intro l
  induction l with
  | nil => intro s _; exact ⟨by simp [accC], fun e h => by simp [accC] at h, by simp [accC, datS]⟩
  | cons c t ih =>
    intro s h
    have h1 := sm_run [c] h
    have hj := join_sm h1.2.1
    have hds := datS_join (runC s [c]).2
    have h2 := ih (ok_runC [c] h)
    have a1 : (runC s [c]).2.length ≤ 2 := h1.1
    have a3 : datS (runC s [c]).2 ≤ 1 := h1.2.2
    rw [accC]
    refine ⟨by have := hj.2; have := h2.1; simp only [List.length_append, List.length_cons]; omega, fun e he => ?_, by have := h2.2.2; simp only [List.length_cons]; rw [datS_app, hds]; omega⟩
    rcases List.mem_append.1 he with a | a
    · exact hj.1 e a
    · exact h2.2.1 e a
theorem close_sm {s : Cn} (h : s.Ok) : (closeC s).2.length ≤ 1 ∧ (∀ e ∈ (closeC s).2, EvSm e) := by
  unfold closeC
  split
  · exact ⟨by simp, fun e he => by cases he⟩
  · split
    · rename_i h4
      refine ⟨by simp, fun e he => ?_⟩
      rw [List.mem_singleton.1 he]
      refine sm_end (fun d hd => ?_)
      have : s.dc = none := h.o6 (by omega)
      rw [this] at hd; cases hd
    · exact ⟨by simp, fun e he => by cases he⟩
end Go.Proofs.YtpikjcmenmdolaaGreatDoor

/- The statements' made: a connection of either kind. -/
namespace Go.Proofs.YtpikjcmenmdolaaGreatDoor
open Go.RowKit

/-- A new connection of a kind. -/
def madeC (b : Bool) (ms : List (List UInt8)) : Cn := if b then Cn.resps ms else Cn.reqs
set_option maxHeartbeats 2000000 in
theorem made_any (b : Bool) (v : Value) (ms : List (List UInt8)) (w : World) (hr : ReadsS w v ms) (hp : Sane v) (hl : ms.length ≤ 100000) :
    Calls Tryz.prog 12 #[.bool b, v] w fun e w' => ∃ P X, e = .returned (.pointer (some ⟨P, 0, none⟩)) ∧ Con w.heap.size P X (madeC b ms) w' ∧ Below w.heap.size w w' := by
  have HA := Lib.hid (responses_any v ms w hr hp hl)
  have HB := Lib.hid (requests_any w)
  go_enter Tryz.func12, Tryz.ntmps12
  cases b
  · go_wp2_with fail
    refine HB.out.mono ?_
    rintro e w1 ⟨rfl, hC, hB⟩
    go_wp2_with fail
    go_ret
    exact ⟨_, _, rfl, hC, hB⟩
  · go_wp2_with fail
    refine HA.out.mono ?_
    rintro e w1 ⟨P, X, rfl, hC, hB⟩
    go_wp2_with fail
    go_ret
    exact ⟨_, _, rfl, hC, hB⟩
/-- Num of a connection's error. -/
theorem num_errV (n : Nat) (w : World) : Calls Tryz.prog 14 #[errV n] w fun e w' => e = .returned (.int .i64 (n : Int)) ∧ w = w' := by
  unfold errV
  by_cases h : n = 0
  · subst h
    rw [if_pos rfl]
    go_enter Tryz.func14, Tryz.ntmps14
    go_wp2_with fail
    go_ret
    exact ⟨rfl, rfl⟩
  · rw [if_neg h]
    exact num_errno n w
end Go.Proofs.YtpikjcmenmdolaaGreatDoor

/- What the statements' fields returns of equal lists. -/
namespace Go.Proofs.YtpikjcmenmdolaaGreatDoor
open Go.RowKit

set_option maxHeartbeats 4000000 in
set_option maxRecDepth 100000 in
theorem fields8_any (va vb : Value) (l : Flds) (w : World) (ha : ReadsQ w va l) (hb : ReadsQ w vb l) (hl : l.length ≤ 1000000) :
    Calls Tryz.prog 28 #[va, vb] w fun e w' => e = .returned (.bool true) ∧ ∃ n, w' = w.drewN n := by
  obtain ⟨ao, ca, rfl, hca⟩ := ha
  obtain ⟨bo, cb, rfl, hcb⟩ := hb
  have HA := Lib.hid hca
  have HB := Lib.hid hcb
  clear hca hcb
  go_enter Tryz.func28, Tryz.ntmps28
  go_wp2
  go_loopw [5] (fun i wr => ∃ k n : Nat, i = .int .i64 k ∧ k ≤ l.length ∧ wr = w.drewN n) (fun i _ => l.length - (intOf i).toNat)
  case atStart => exact ⟨0, 0, rfl, Nat.zero_le _, rfl⟩
  case round =>
    obtain ⟨k, n, rfl, hk, rfl⟩ := hrel
    by_cases hlt : k < l.length
    · obtain ⟨p, hp⟩ : ∃ p, l[k]? = some p := ⟨l[k], by simp [hlt]⟩
      obtain ⟨g, off, rfl, hg, hc1, hc2⟩ := HA.out k p hp
      obtain ⟨g', off', rfl, hg', hd1, hd2⟩ := HB.out k p hp
      have heq := toList_same (rfl : p.1 = p.1)
      have heq2 := toList_same (rfl : p.2 = p.2)
      clear hp
      go_wp2
      go_quiet (fail)
      go_wp2
      go_roundw
      case rel => exact ⟨k + 1, _, by go_num, by omega, rfl⟩
      case measure => simp [intOf]; omega
    · go_wp2
      go_ret
      exact ⟨rfl, n, rfl⟩
end Go.Proofs.YtpikjcmenmdolaaGreatDoor
