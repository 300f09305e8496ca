import Derived.Test.YtinbdflkpbjmcaaGreatDoorPa17
import Derived.Test.YtinbdflkpbjmcaaGreatDoorPa1
import Derived.Test.YtinbdflkpbjmcaaGreatDoorPa4
import Derived.Test.YtinbdflkpbjmcaaGreatDoorPa5
import Derived.Test.YtinbdflkpbjmcaaGreatDoorPa11
import Derived.Deep.QuietTactic
import Derived.BigQuiet
/- What the code's Size returns, for every list of fields. -/
namespace Go.Proofs.YtinbdflkpbjmcaaGreatDoor
open Go.RowKit

end Go.Proofs.YtinbdflkpbjmcaaGreatDoor

/- What Get and Size return, for every list of fields; the statements' fixed example: awake returns true. -/
namespace Go.Proofs.YtinbdflkpbjmcaaGreatDoor
open Go.RowKit

theorem OwnsS.opens {B : Nat} {w : World} {v : Value} {ls : List (List UInt8)} (h : OwnsS B w v ls) :
    (v = .slice none 0 0 ∧ ls = []) ∨ ∃ g cap, v = .slice (some ⟨g, 0, none⟩) ls.length cap ∧ ls.length ≤ cap ∧ g < w.heap.size ∧ (∀ j l, ls[j]? = some l → w.cell? ⟨g, j, none⟩ = some (.string (strB l))) := by
  rcases h.open' with h1 | ⟨g, cap, hv, hb, hg, hc⟩
  · exact .inl h1
  · refine .inr ⟨g, cap, hv, ?_, hg, hc⟩
    rcases h with ⟨hl, ⟨hv', hn⟩ | ⟨g', cap', cur, hv', hb', hg', hn, _⟩⟩
    · rw [hv'] at hv; cases hv
    · rw [hv'] at hv
      simp only [Value.slice.injEq, Option.some.injEq, Addr.mk.injEq, and_true, true_and] at hv
      obtain ⟨_, rfl⟩ := hv
      exact hn
theorem join_getL (ls : List (List UInt8)) : Lib.join ls [44, 32] = getL ls := by
  cases ls with
  | nil => rfl
  | cons a r =>
    rw [Lib.join_cons]
    induction r generalizing a with
    | nil => simp [Lib.joinTail, getL]
    | cons b t ih =>
      rw [getL_cons a _ (by simp), ← ih b]
      simp [Lib.joinTail]
theorem getL_len (ls : List (List UInt8)) (M : Nat) (h : ∀ l ∈ ls, l.length ≤ M) : (getL ls).length ≤ ls.length * (M + 2) := by
  induction ls with
  | nil => simp [getL]
  | cons a r ih =>
    have h1 := ih fun l hl => h l (List.mem_cons_of_mem _ hl)
    have h2 := h a (List.mem_cons_self ..)
    rw [List.length_cons, Nat.succ_mul]
    cases r with
    | nil => simp [getL]; omega
    | cons b t =>
      rw [getL_cons a _ (by simp)]
      simp only [List.length_append, List.length_cons] at h1 ⊢
      omega
theorem join_any (v : Value) (ls : List (List UInt8)) (B : Nat) (w : World) (hO : OwnsS B w v ls) (hl : ls.length ≤ 1000000) (hb : ∀ l ∈ ls, l.length ≤ 1000000) :
    Calls Tryz.prog 47 #[v, .string ⟨#[44, 32]⟩] w fun e w' => e = .returned (.string (strB (getL ls))) ∧ Below w.heap.size w w' := by
  rcases hO.opens with ⟨rfl, rfl⟩ | ⟨g, cap, rfl, hcap, hg, hc⟩
  · refine (Any.strings_Join_none Tryz.lays156 Tryz.Builder_Extra_156 none 0 ⟨#[44, 32]⟩ w).mono ?_
    rintro e w' ⟨rfl, rfl⟩
    exact ⟨rfl, Below.refl _ _⟩
  · have hm : (ls.map strB).map (fun s : ByteArray => s.data.toList) = ls := by
      rw [List.map_map]
      conv => rhs; rw [← List.map_id ls]
      exact List.map_congr_left fun l _ => strB_list l
    have hgl := getL_len ls 1000000 hb
    have hmul : ls.length * (1000000 + 2) ≤ 1000000 * (1000000 + 2) := Nat.mul_le_mul_right _ hl
    have := Tryz.strings_Join g 0 cap (ls.map strB) ⟨#[44, 32]⟩ w (fun j x hx => by
      rw [List.getElem?_map] at hx
      cases hj : ls[j]? with
      | none => rw [hj] at hx; cases hx
      | some l =>
        rw [hj] at hx
        simp only [Option.map_some, Option.some.injEq] at hx
        rw [Nat.zero_add, hc j l hj, hx]) hg (by simp; omega) (by simpa using hcap) (by
        rw [hm]; show (Lib.join ls [44, 32]).length ≤ _; rw [join_getL]; omega)
    rw [List.length_map] at this
    refine this.mono ?_
    rintro e w' ⟨rfl, hB⟩
    rw [hm]
    exact ⟨by show Ending.returned (.string ⟨(Lib.join ls [44, 32]).toArray⟩) = _; rw [join_getL]; rfl, hB⟩
theorem all_small {ps : Flds} {n : List UInt8} {M : Nat} (hb : ∀ p ∈ ps, p.1.length + p.2.length ≤ M) : ∀ l ∈ allL ps n, l.length ≤ M := by
  intro l hl
  unfold allL at hl
  obtain ⟨p, hp, rfl⟩ := List.mem_map.mp hl
  have := hb p (List.mem_filter.mp hp).1
  omega

set_option maxHeartbeats 400000 in
set_option maxRecDepth 100000 in
theorem get_any (fv : Value) (ps : Flds) (n : ByteArray) (w : World) (hr : ReadsQ w fv ps) (hn : n.size ≤ 1000000000) (hl : ps.length ≤ 1000000) (hb : ∀ p ∈ ps, p.1.length + p.2.length ≤ 1000000) :
    Calls Tryz.prog 52 #[fv, .string n] w fun e w' => e = .returned (.tuple #[.string (strB (getL (allL ps n.data.toList))), .bool (decide (0 < (allL ps n.data.toList).length))]) ∧ Below w.heap.size w w' := by
  have HA := all_any fv ps n w hr hn hl hb
  have hal := all_len ps n.data.toList
  have HJ := fun v w1 hO => join_any v (allL ps n.data.toList) w.heap.size w1 hO (by omega) (all_small hb)
  obtain ⟨ao, cap, rfl, hc⟩ := hr
  clear hc
  have HB := Lib.hid hb
  clear hb
  go_enter Tryz.func52, Tryz.ntmps52
  go_wp2_with fail
  refine HA.mono ?_
  rintro e w1 ⟨v, rfl, hO, hB⟩
  have HJ' := HJ v w1 hO
  clear HA HJ
  rcases hO.opens with ⟨rfl, he⟩ | ⟨g, cap', rfl, hcap, hg, hc⟩
  · rw [he] at HJ'
    go_wp2_with fail
    refine HJ'.mono ?_
    rintro e w2 ⟨rfl, hB2⟩
    go_wp2_with fail
    go_ret2
    exact ⟨by rw [he]; rfl, hB.trans (hB2.mono hB.size)⟩
  · clear hc
    go_wp2_with fail
    refine HJ'.mono ?_
    rintro e w2 ⟨rfl, hB2⟩
    go_wp2_with fail
    go_ret2
    exact ⟨by simp, hB.trans (hB2.mono hB.size)⟩

def exL : Flds := [([65], [49]), ([98], [120]), ([97], [50])]
theorem reads_ex (w : World) (T : TypeId) : ReadsQ (w.alloc (.cells #[.string ⟨#[65]⟩, .string ⟨#[49]⟩, .string ⟨#[98]⟩, .string ⟨#[120]⟩, .string ⟨#[97]⟩, .string ⟨#[50]⟩] T)) (.slice (some ⟨w.heap.size, 0, none⟩) 3 3) exL := by
  refine ⟨_, 3, rfl, fun j p hj => ⟨w.heap.size, 0, rfl, by simp, ?_⟩⟩
  rw [World.cell?_alloc_at _ _ _ _ rfl, World.cell?_alloc_at _ _ _ _ rfl]
  unfold exL at hj
  match j, hj with
  | 0, hj => simp at hj; subst hj; exact ⟨rfl, rfl⟩
  | 1, hj => simp at hj; subst hj; exact ⟨rfl, rfl⟩
  | 2, hj => simp at hj; subst hj; exact ⟨rfl, rfl⟩
  | j + 3, hj => simp at hj
theorem ex_small : ∀ p ∈ exL, p.1.length + p.2.length ≤ 1000000 := by decide

end Go.Proofs.YtinbdflkpbjmcaaGreatDoor

/- What the program's sole.Value returns. -/
namespace Go.Proofs.YtinbdflkpbjmcaaGreatDoor
open Go.RowKit

set_option maxHeartbeats 2000000 in
set_option maxRecDepth 100000 in
theorem sole_any (fv : Value) (ps : Flds) (n : ByteArray) (w : World) (hr : ReadsQ w fv ps) (hn : n.size ≤ 1000000000) (hl : ps.length ≤ 1000000) (hb : ∀ p ∈ ps, p.1.length + p.2.length ≤ 1000000) :
    Calls Tryz.prog 92 #[fv, .string n] w fun e w' => e = .returned (.tuple #[.string (strB (oneL (allL ps n.data.toList)).1), .bool (oneL (allL ps n.data.toList)).2]) ∧ Below w.heap.size w w' := by
  have HA := Lib.hid (all_any fv ps n w hr hn hl hb)
  have hll := all_len ps n.data.toList
  clear hr hb
  generalize allL ps n.data.toList = ls at *
  rcases ls with _ | ⟨v, _ | ⟨b, r⟩⟩
  · go_enter Tryz.func92, Tryz.ntmps92
    go_wp2_with fail
    refine HA.out.mono ?_
    rintro e w1 ⟨x, rfl, hO, hB1⟩
    rcases hO.opens with ⟨rfl, hz⟩ | ⟨g, cap, rfl, hcap, hg, hc⟩
    · go_wp2_with fail
      go_ret2
      exact ⟨rfl, hB1⟩
    · clear hc hO
      go_wp2_with fail
      go_ret2
      exact ⟨rfl, hB1⟩
  · go_enter Tryz.func92, Tryz.ntmps92
    go_wp2_with fail
    refine HA.out.mono ?_
    rintro e w1 ⟨x, rfl, hO, hB1⟩
    rcases hO.opens with ⟨rfl, hz⟩ | ⟨g, cap, rfl, hcap, hg, hc⟩
    · cases hz
    · have hc0 : w1.cell? ⟨g, 0, none⟩ = some (.string (strB v)) := hc 0 v rfl
      have hone : ([v] : List (List UInt8)).length = 1 := rfl
      rw [hone] at hcap ⊢
      clear hc hO hone
      go_wp2_with fail
      go_ret2
      exact ⟨rfl, hB1⟩
  · have hb : (((v :: b :: r).length : Int) != 1) = true := by simp; omega
    have hv : (oneL (v :: b :: r)) = ([], false) := rfl
    rw [hv]
    clear hv
    have HA2 : Calls Tryz.prog 57 #[fv, .string n] w fun e w' => ∃ g cap, e = .returned (.slice (some ⟨g, 0, none⟩) (v :: b :: r).length cap) ∧ (v :: b :: r).length ≤ cap ∧ Below w.heap.size w w' := by
      refine HA.out.mono ?_
      rintro e w1 ⟨x, rfl, hO, hB1⟩
      rcases hO.opens with ⟨rfl, hz⟩ | ⟨g, cap, rfl, hcap, hg, hc⟩
      · cases hz
      · exact ⟨g, cap, rfl, hcap, hB1⟩
    have HA3 := Lib.hid HA2
    clear HA HA2
    generalize (v :: b :: r).length = m at *
    go_enter Tryz.func92, Tryz.ntmps92
    go_wp2_with fail
    refine HA3.out.mono ?_
    rintro e w1 ⟨g, cap, rfl, hcap, hB1⟩
    go_wp2_with fail
    go_ret2
    exact ⟨rfl, hB1⟩
end Go.Proofs.YtinbdflkpbjmcaaGreatDoor

/- What the program's functions of package lifetime return. -/
namespace Go.Proofs.YtinbdflkpbjmcaaGreatDoor
open Go.RowKit

def EnvL (w : World) : Prop := MaxIs w ∧ EnvP w
theorem EnvL.below {w w' : World} (h : EnvL w) (hb : Below w.heap.size w w') : EnvL w' := ⟨h.1.below hb, h.2.below hb⟩
/-- A list of fields is small enough for all that is asked of it. -/
structure FitL (ps : Flds) : Prop where
  len : ps.length ≤ 10000
  each : ∀ p ∈ ps, p.1.length + p.2.length ≤ 100000
theorem FitL.each6 {ps : Flds} (h : FitL ps) : ∀ p ∈ ps, p.1.length + p.2.length ≤ 1000000 := fun p hp => Nat.le_trans (h.each p hp) (by decide)
set_option maxHeartbeats 1000000 in
theorem ticksOf_any (n : Int) (w : World) (h1 : -1000000000000 ≤ n) (h2 : n ≤ 1000000000000) :
    Calls Tryz.prog 37 #[.int .i64 n] w fun e w' => e = .returned (.int .i64 (1000 * max n 0)) ∧ w = w' := by
  go_enter Tryz.func37, Tryz.ntmps37
  go_wp2
  all_goals
    go_ret
    exact ⟨ret_int (Int.mul_comm _ _), rfl⟩
theorem isPresent_any (n : Int) (w : World) :
    Calls Tryz.prog 36 #[.int .i64 n] w fun e w' => e = .returned (.bool (decide (0 ≤ n))) ∧ w = w' := by
  go_enter Tryz.func36, Tryz.ntmps36
  go_wp2
  all_goals
    go_ret
    exact ⟨by first | rfl | simp, rfl⟩
set_option maxHeartbeats 4000000 in
set_option maxRecDepth 100000 in
theorem lfDate_any (fv : Value) (ps : Flds) (n : ByteArray) (d : Option Nat) (w : World) (hr : ReadsQ w fv ps) (hf : FitL ps) (hn : n.size ≤ 100) (hd : DatF ps n.data.toList d) (hE : EnvP w) :
    Calls Tryz.prog 73 #[fv, .string n] w fun e w' => e = .returned (.tuple #[.int .i64 (dnV d), .bool d.isSome]) ∧ Below w.heap.size w w' := by
  have HA := Lib.hid (sole_any fv ps n w hr (by omega) (by have := hf.len; omega) hf.each6)
  have hol := oneL_len (all_small (n := n.data.toList) hf.each)
  have HE := Lib.hid hE
  have HP := Lib.hid (fun (w : World) (hE : EnvP w) => hParse_any (oneL (allL ps n.data.toList)).1 d (oneIs_val hd) w hE (by omega))
  clear hr hf hE hd hol
  generalize (oneL (allL ps n.data.toList)).1 = v at *
  generalize (oneL (allL ps n.data.toList)).2 = b at *
  cases d with
  | none =>
    unfold dtV at HP
    go_enter Tryz.func73, Tryz.ntmps73
    go_wp2_with fail
    refine HA.out.mono ?_
    rintro e w1 ⟨rfl, hB1⟩
    go_wp2_with fail
    refine (HP.out _ (HE.out.below hB1)).mono ?_
    rintro e w2 ⟨rfl, hB2⟩
    go_wp2_with fail
    go_quiet (fail)
    go_wp2
    go_ret2
    exact ⟨rfl, below_drewN (hB1.trans (hB2.mono hB1.size)) _⟩
  | some k =>
    unfold dtV at HP
    go_enter Tryz.func73, Tryz.ntmps73
    go_wp2_with fail
    refine HA.out.mono ?_
    rintro e w1 ⟨rfl, hB1⟩
    go_wp2_with fail
    refine (HP.out _ (HE.out.below hB1)).mono ?_
    rintro e w2 ⟨rfl, hB2⟩
    go_wp2_with fail
    go_quiet (fail)
    go_wp2
    go_ret2
    exact ⟨rfl, below_drewN (hB1.trans (hB2.mono hB1.size)) _⟩
theorem dnV_bd {d : Option Nat} (h : ∀ k, d = some k → k ≤ 253402300799) : 0 ≤ dnV d ∧ dnV d ≤ 253402300799 := by
  cases d with
  | none => exact ⟨Int.le_refl _, by decide⟩
  | some k => have := h k rfl; constructor <;> (show _ ≤ _; simp only [dnV]; omega)
set_option maxHeartbeats 4000000 in
set_option maxRecDepth 100000 in
theorem between_any (fv : Value) (ps : Flds) (n m : ByteArray) (a b : Option Nat) (w : World) (hr : ReadsQ w fv ps) (hf : FitL ps) (hn : n.size ≤ 100) (hm : m.size ≤ 100) (ha : DatF ps n.data.toList a) (hb : DatF ps m.data.toList b) (hE : EnvP w) :
    Calls Tryz.prog 53 #[fv, .string n, .string m] w fun e w' => e = .returned (.int .i64 (betV a b)) ∧ Below w.heap.size w w' := by
  have HA := Lib.hid (fun (w : World) (hr : ReadsQ w fv ps) (hE : EnvP w) => lfDate_any fv ps n a w hr hf hn ha hE)
  have HB := Lib.hid (fun (w : World) (hr : ReadsQ w fv ps) (hE : EnvP w) => lfDate_any fv ps m b w hr hf hm hb hE)
  have HE := Lib.hid hE
  have HR := Lib.hid hr
  have la : ∀ k, a = some k → k ≤ 253402300799 := fun k hk => by subst hk; exact oneIs_le ha
  have lb : ∀ k, b = some k → k ≤ 253402300799 := fun k hk => by subst hk; exact oneIs_le hb
  clear hr hf hn hm ha hb hE
  cases a with
  | none =>
    go_enter Tryz.func53, Tryz.ntmps53
    go_wp2_with fail
    refine (HA.out _ HR.out HE.out).mono ?_
    rintro e w1 ⟨rfl, hB1⟩
    simp only [Option.isSome_none]
    go_wp2_with fail
    refine (HB.out _ (HR.out.below hB1) (HE.out.below hB1)).mono ?_
    rintro e w2 ⟨rfl, hB2⟩
    go_wp2_with fail
    go_ret
    exact ⟨rfl, hB1.trans (hB2.mono hB1.size)⟩
  | some x =>
    cases b with
    | none =>
      go_enter Tryz.func53, Tryz.ntmps53
      go_wp2_with fail
      refine (HA.out _ HR.out HE.out).mono ?_
      rintro e w1 ⟨rfl, hB1⟩
      simp only [Option.isSome_some]
      go_wp2_with fail
      refine (HB.out _ (HR.out.below hB1) (HE.out.below hB1)).mono ?_
      rintro e w2 ⟨rfl, hB2⟩
      simp only [Option.isSome_none]
      go_wp2_with fail
      go_ret
      exact ⟨rfl, hB1.trans (hB2.mono hB1.size)⟩
    | some y =>
      have hx := la x rfl
      have hy := lb y rfl
      have HT := Lib.hid (fun (w : World) => ticksOf_any ((y : Int) - (x : Int)) w (by omega) (by omega))
      go_enter Tryz.func53, Tryz.ntmps53
      go_wp2_with fail
      refine (HA.out _ HR.out HE.out).mono ?_
      rintro e w1 ⟨rfl, hB1⟩
      simp only [Option.isSome_some, dnV]
      go_wp2_with fail
      refine (HB.out _ (HR.out.below hB1) (HE.out.below hB1)).mono ?_
      rintro e w2 ⟨rfl, hB2⟩
      simp only [Option.isSome_some, dnV]
      go_wp2_with fail
      refine (HT.out _).mono ?_
      rintro e w3 ⟨rfl, rfl⟩
      go_wp2_with fail
      go_ret
      exact ⟨rfl, hB1.trans (hB2.mono hB1.size)⟩
end Go.Proofs.YtinbdflkpbjmcaaGreatDoor
