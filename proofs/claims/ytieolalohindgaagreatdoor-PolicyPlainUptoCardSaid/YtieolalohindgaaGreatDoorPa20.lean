import Derived.Test.YtieolalohindgaaGreatDoorPa18
import Derived.Test.YtieolalohindgaaGreatDoorPa19
import Derived.Test.YtieolalohindgaaGreatDoorPa37
import Derived.Test.YtieolalohindgaaGreatDoorPa6
import Derived.Test.YtieolalohindgaaGreatDoorPa13
import Derived.Deep.QuietTactic
import Derived.BigQuiet
import Derived.Deep.RegionHeld3
import Derived.Test.YtieolalohindgaaGreatDoorPa12
/- What Get and Size return, for every list of fields; the statements' fixed example: awake returns true. -/
namespace Go.Proofs.YtieolalohindgaaGreatDoor
open Go.RowKit

theorem OwnsS.opens {B : Nat} {w : World} {v : Value} {ls : List (List UInt8)} (h : OwnsS B w v ls) :
    (v = .slice none 0 0 ∧ ls = []) ∨ ∃ g cap, v = .slice (some ⟨g, 0, none⟩) ls.length cap ∧ ls.length ≤ cap ∧ g < w.heap.size ∧ (∀ j l, ls[j]? = some l → w.cell? ⟨g, j, none⟩ = some (.string (strB l))) := by
  rcases h.open' with h1 | ⟨g, cap, hv, hb, hg, hc⟩
  · exact .inl h1
  · refine .inr ⟨g, cap, hv, ?_, hg, hc⟩
    rcases h with ⟨hl, ⟨hv', hn⟩ | ⟨g', cap', cur, hv', hb', hg', hn, _⟩⟩
    · rw [hv'] at hv; cases hv
    · rw [hv'] at hv
      simp only [Value.slice.injEq, Option.some.injEq, Addr.mk.injEq, and_true, true_and] at hv
      obtain ⟨_, rfl⟩ := hv
      exact hn
theorem join_getL (ls : List (List UInt8)) : Lib.join ls [44, 32] = getL ls := by
  cases ls with
  | nil => rfl
  | cons a r =>
    rw [Lib.join_cons]
    induction r generalizing a with
    | nil => simp [Lib.joinTail, getL]
    | cons b t ih =>
      rw [getL_cons a _ (by simp), ← ih b]
      simp [Lib.joinTail]
theorem getL_len (ls : List (List UInt8)) (M : Nat) (h : ∀ l ∈ ls, l.length ≤ M) : (getL ls).length ≤ ls.length * (M + 2) := by
  induction ls with
  | nil => simp [getL]
  | cons a r ih =>
    have h1 := ih fun l hl => h l (List.mem_cons_of_mem _ hl)
    have h2 := h a (List.mem_cons_self ..)
    rw [List.length_cons, Nat.succ_mul]
    cases r with
    | nil => simp [getL]; omega
    | cons b t =>
      rw [getL_cons a _ (by simp)]
      simp only [List.length_append, List.length_cons] at h1 ⊢
      omega
theorem join_any (v : Value) (ls : List (List UInt8)) (B : Nat) (w : World) (hO : OwnsS B w v ls) (hl : ls.length ≤ 1000000) (hb : ∀ l ∈ ls, l.length ≤ 1000000) :
    Calls Tryz.prog 90 #[v, .string ⟨#[44, 32]⟩] w fun e w' => e = .returned (.string (strB (getL ls))) ∧ Below w.heap.size w w' := by
  rcases hO.opens with ⟨rfl, rfl⟩ | ⟨g, cap, rfl, hcap, hg, hc⟩
  · refine (Any.strings_Join_none Tryz.lays156 Tryz.Builder_Extra_156 none 0 ⟨#[44, 32]⟩ w).mono ?_
    rintro e w' ⟨rfl, rfl⟩
    exact ⟨rfl, Below.refl _ _⟩
  · have hm : (ls.map strB).map (fun s : ByteArray => s.data.toList) = ls := by
      rw [List.map_map]
      conv => rhs; rw [← List.map_id ls]
      exact List.map_congr_left fun l _ => strB_list l
    have hgl := getL_len ls 1000000 hb
    have hmul : ls.length * (1000000 + 2) ≤ 1000000 * (1000000 + 2) := Nat.mul_le_mul_right _ hl
    have := Tryz.strings_Join g 0 cap (ls.map strB) ⟨#[44, 32]⟩ w (fun j x hx => by
      rw [List.getElem?_map] at hx
      cases hj : ls[j]? with
      | none => rw [hj] at hx; cases hx
      | some l =>
        rw [hj] at hx
        simp only [Option.map_some, Option.some.injEq] at hx
        rw [Nat.zero_add, hc j l hj, hx]) hg (by simp; omega) (by simpa using hcap) (by
        rw [hm]; show (Lib.join ls [44, 32]).length ≤ _; rw [join_getL]; omega)
    rw [List.length_map] at this
    refine this.mono ?_
    rintro e w' ⟨rfl, hB⟩
    rw [hm]
    exact ⟨by show Ending.returned (.string ⟨(Lib.join ls [44, 32]).toArray⟩) = _; rw [join_getL]; rfl, hB⟩
theorem all_small {ps : Flds} {n : List UInt8} {M : Nat} (hb : ∀ p ∈ ps, p.1.length + p.2.length ≤ M) : ∀ l ∈ allL ps n, l.length ≤ M := by
  intro l hl
  unfold allL at hl
  obtain ⟨p, hp, rfl⟩ := List.mem_map.mp hl
  have := hb p (List.mem_filter.mp hp).1
  omega

set_option maxHeartbeats 400000 in
set_option maxRecDepth 100000 in
theorem get_any (fv : Value) (ps : Flds) (n : ByteArray) (w : World) (hr : ReadsQ w fv ps) (hn : n.size ≤ 1000000000) (hl : ps.length ≤ 1000000) (hb : ∀ p ∈ ps, p.1.length + p.2.length ≤ 1000000) :
    Calls Tryz.prog 69 #[fv, .string n] w fun e w' => e = .returned (.tuple #[.string (strB (getL (allL ps n.data.toList))), .bool (decide (0 < (allL ps n.data.toList).length))]) ∧ Below w.heap.size w w' := by
  have HA := all_any fv ps n w hr hn hl hb
  have hal := all_len ps n.data.toList
  have HJ := fun v w1 hO => join_any v (allL ps n.data.toList) w.heap.size w1 hO (by omega) (all_small hb)
  obtain ⟨ao, cap, rfl, hc⟩ := hr
  clear hc
  have HB := Lib.hid hb
  clear hb
  go_enter Tryz.func69, Tryz.ntmps69
  go_wp2_with fail
  refine HA.mono ?_
  rintro e w1 ⟨v, rfl, hO, hB⟩
  have HJ' := HJ v w1 hO
  clear HA HJ
  rcases hO.opens with ⟨rfl, he⟩ | ⟨g, cap', rfl, hcap, hg, hc⟩
  · rw [he] at HJ'
    go_wp2_with fail
    refine HJ'.mono ?_
    rintro e w2 ⟨rfl, hB2⟩
    go_wp2_with fail
    go_ret2
    exact ⟨by rw [he]; rfl, hB.trans (hB2.mono hB.size)⟩
  · clear hc
    go_wp2_with fail
    refine HJ'.mono ?_
    rintro e w2 ⟨rfl, hB2⟩
    go_wp2_with fail
    go_ret2
    exact ⟨by simp, hB.trans (hB2.mono hB.size)⟩

def exL : Flds := [([65], [49]), ([98], [120]), ([97], [50])]
theorem reads_ex (w : World) (T : TypeId) : ReadsQ (w.alloc (.cells #[.string ⟨#[65]⟩, .string ⟨#[49]⟩, .string ⟨#[98]⟩, .string ⟨#[120]⟩, .string ⟨#[97]⟩, .string ⟨#[50]⟩] T)) (.slice (some ⟨w.heap.size, 0, none⟩) 3 3) exL := by
  refine ⟨_, 3, rfl, fun j p hj => ⟨w.heap.size, 0, rfl, by simp, ?_⟩⟩
  rw [World.cell?_alloc_at _ _ _ _ rfl, World.cell?_alloc_at _ _ _ _ rfl]
  unfold exL at hj
  match j, hj with
  | 0, hj => simp at hj; subst hj; exact ⟨rfl, rfl⟩
  | 1, hj => simp at hj; subst hj; exact ⟨rfl, rfl⟩
  | 2, hj => simp at hj; subst hj; exact ⟨rfl, rfl⟩
  | j + 3, hj => simp at hj
theorem ex_small : ∀ p ∈ exL, p.1.length + p.2.length ≤ 1000000 := by decide

end Go.Proofs.YtieolalohindgaaGreatDoor

/- What the program's functions of package lifetime return. -/
namespace Go.Proofs.YtieolalohindgaaGreatDoor
open Go.RowKit

def EnvL (w : World) : Prop := MaxIs w ∧ EnvP w
theorem EnvL.below {w w' : World} (h : EnvL w) (hb : Below w.heap.size w w') : EnvL w' := ⟨h.1.below hb, h.2.below hb⟩
/-- A list of fields is small enough for all that is asked of it. -/
structure FitL (ps : Flds) : Prop where
  len : ps.length ≤ 10000
  each : ∀ p ∈ ps, p.1.length + p.2.length ≤ 100000
theorem FitL.each6 {ps : Flds} (h : FitL ps) : ∀ p ∈ ps, p.1.length + p.2.length ≤ 1000000 := fun p hp => Nat.le_trans (h.each p hp) (by decide)
set_option maxHeartbeats 1000000 in
theorem ticksOf_any (n : Int) (w : World) (h1 : -1000000000000 ≤ n) (h2 : n ≤ 1000000000000) :
    Calls Tryz.prog 71 #[.int .i64 n] w fun e w' => e = .returned (.int .i64 (1000 * max n 0)) ∧ w = w' := by
  go_enter Tryz.func71, Tryz.ntmps71
  go_wp2
  all_goals
    go_ret
    exact ⟨ret_int (Int.mul_comm _ _), rfl⟩
theorem isPresent_any (n : Int) (w : World) :
    Calls Tryz.prog 70 #[.int .i64 n] w fun e w' => e = .returned (.bool (decide (0 ≤ n))) ∧ w = w' := by
  go_enter Tryz.func70, Tryz.ntmps70
  go_wp2
  all_goals
    go_ret
    exact ⟨by first | rfl | simp, rfl⟩
set_option maxHeartbeats 4000000 in
set_option maxRecDepth 100000 in
theorem lfDate_any (fv : Value) (ps : Flds) (n : ByteArray) (d : Option Nat) (w : World) (hr : ReadsQ w fv ps) (hf : FitL ps) (hn : n.size ≤ 100) (hd : DatF ps n.data.toList d) (hE : EnvP w) :
    Calls Tryz.prog 91 #[fv, .string n] w fun e w' => e = .returned (.tuple #[.int .i64 (dnV d), .bool d.isSome]) ∧ Below w.heap.size w w' := by
  have HA := Lib.hid (sole_any fv ps n w hr (by omega) (by have := hf.len; omega) hf.each6)
  have hol := oneL_len (all_small (n := n.data.toList) hf.each)
  have HE := Lib.hid hE
  have HP := Lib.hid (fun (w : World) (hE : EnvP w) => hParse_any (oneL (allL ps n.data.toList)).1 d (oneIs_val hd) w hE (by omega))
  clear hr hf hE hd hol
  generalize (oneL (allL ps n.data.toList)).1 = v at *
  generalize (oneL (allL ps n.data.toList)).2 = b at *
  cases d with
  | none =>
    unfold dtV at HP
    go_enter Tryz.func91, Tryz.ntmps91
    go_wp2_with fail
    refine HA.out.mono ?_
    rintro e w1 ⟨rfl, hB1⟩
    go_wp2_with fail
    refine (HP.out _ (HE.out.below hB1)).mono ?_
    rintro e w2 ⟨rfl, hB2⟩
    go_wp2_with fail
    go_quiet (fail)
    go_wp2
    go_ret2
    exact ⟨rfl, below_drewN (hB1.trans (hB2.mono hB1.size)) _⟩
  | some k =>
    unfold dtV at HP
    go_enter Tryz.func91, Tryz.ntmps91
    go_wp2_with fail
    refine HA.out.mono ?_
    rintro e w1 ⟨rfl, hB1⟩
    go_wp2_with fail
    refine (HP.out _ (HE.out.below hB1)).mono ?_
    rintro e w2 ⟨rfl, hB2⟩
    go_wp2_with fail
    go_quiet (fail)
    go_wp2
    go_ret2
    exact ⟨rfl, below_drewN (hB1.trans (hB2.mono hB1.size)) _⟩
theorem dnV_bd {d : Option Nat} (h : ∀ k, d = some k → k ≤ 253402300799) : 0 ≤ dnV d ∧ dnV d ≤ 253402300799 := by
  cases d with
  | none => exact ⟨Int.le_refl _, by decide⟩
  | some k => have := h k rfl; constructor <;> (show _ ≤ _; simp only [dnV]; omega)
set_option maxHeartbeats 4000000 in
set_option maxRecDepth 100000 in
theorem between_any (fv : Value) (ps : Flds) (n m : ByteArray) (a b : Option Nat) (w : World) (hr : ReadsQ w fv ps) (hf : FitL ps) (hn : n.size ≤ 100) (hm : m.size ≤ 100) (ha : DatF ps n.data.toList a) (hb : DatF ps m.data.toList b) (hE : EnvP w) :
    Calls Tryz.prog 72 #[fv, .string n, .string m] w fun e w' => e = .returned (.int .i64 (betV a b)) ∧ Below w.heap.size w w' := by
  have HA := Lib.hid (fun (w : World) (hr : ReadsQ w fv ps) (hE : EnvP w) => lfDate_any fv ps n a w hr hf hn ha hE)
  have HB := Lib.hid (fun (w : World) (hr : ReadsQ w fv ps) (hE : EnvP w) => lfDate_any fv ps m b w hr hf hm hb hE)
  have HE := Lib.hid hE
  have HR := Lib.hid hr
  have la : ∀ k, a = some k → k ≤ 253402300799 := fun k hk => by subst hk; exact oneIs_le ha
  have lb : ∀ k, b = some k → k ≤ 253402300799 := fun k hk => by subst hk; exact oneIs_le hb
  clear hr hf hn hm ha hb hE
  cases a with
  | none =>
    go_enter Tryz.func72, Tryz.ntmps72
    go_wp2_with fail
    refine (HA.out _ HR.out HE.out).mono ?_
    rintro e w1 ⟨rfl, hB1⟩
    simp only [Option.isSome_none]
    go_wp2_with fail
    refine (HB.out _ (HR.out.below hB1) (HE.out.below hB1)).mono ?_
    rintro e w2 ⟨rfl, hB2⟩
    go_wp2_with fail
    go_ret
    exact ⟨rfl, hB1.trans (hB2.mono hB1.size)⟩
  | some x =>
    cases b with
    | none =>
      go_enter Tryz.func72, Tryz.ntmps72
      go_wp2_with fail
      refine (HA.out _ HR.out HE.out).mono ?_
      rintro e w1 ⟨rfl, hB1⟩
      simp only [Option.isSome_some]
      go_wp2_with fail
      refine (HB.out _ (HR.out.below hB1) (HE.out.below hB1)).mono ?_
      rintro e w2 ⟨rfl, hB2⟩
      simp only [Option.isSome_none]
      go_wp2_with fail
      go_ret
      exact ⟨rfl, hB1.trans (hB2.mono hB1.size)⟩
    | some y =>
      have hx := la x rfl
      have hy := lb y rfl
      have HT := Lib.hid (fun (w : World) => ticksOf_any ((y : Int) - (x : Int)) w (by omega) (by omega))
      go_enter Tryz.func72, Tryz.ntmps72
      go_wp2_with fail
      refine (HA.out _ HR.out HE.out).mono ?_
      rintro e w1 ⟨rfl, hB1⟩
      simp only [Option.isSome_some, dnV]
      go_wp2_with fail
      refine (HB.out _ (HR.out.below hB1) (HE.out.below hB1)).mono ?_
      rintro e w2 ⟨rfl, hB2⟩
      simp only [Option.isSome_some, dnV]
      go_wp2_with fail
      refine (HT.out _).mono ?_
      rintro e w3 ⟨rfl, rfl⟩
      go_wp2_with fail
      go_ret
      exact ⟨rfl, hB1.trans (hB2.mono hB1.size)⟩
end Go.Proofs.YtieolalohindgaaGreatDoor

/- What Cacheable, explicit, heuristic, Of, Explicit, Allowance return. -/
namespace Go.Proofs.YtieolalohindgaaGreatDoor
open Go.RowKit

theorem retB {a b : Bool} (h : a = b) : Ending.returned (.bool a) = .returned (.bool b) := by rw [h]
set_option maxHeartbeats 1000000 in
theorem isNegative_any (s : Int) (w : World) :
    Calls Tryz.prog 73 #[.int .i64 s] w fun e w' => e = .returned (.bool (negB s)) ∧ w = w' := by
  go_enter Tryz.func73, Tryz.ntmps73
  go_wp2
  all_goals
    go_ret
    exact ⟨retB (by unfold negB; simp_all), rfl⟩
set_option maxHeartbeats 1000000 in
theorem cacheable_any (s : Int) (w : World) :
    Calls Tryz.prog 44 #[.int .i64 s] w fun e w' => e = .returned (.bool (cacB s)) ∧ w = w' := by
  go_enter Tryz.func44, Tryz.ntmps44
  go_wp2_with (go_at_call 73; refine (isNegative_any s _).mono ?_; rintro e w' ⟨rfl, rfl⟩)
  all_goals
    go_ret
    exact ⟨retB (by unfold cacB; simp_all), rfl⟩
set_option maxHeartbeats 4000000 in
set_option maxRecDepth 100000 in
theorem heuristic_any (s : Int) (fv : Value) (ps : Flds) (dl dd : Option Nat) (w : World) (hr : ReadsQ w fv ps) (hf : FitL ps) (hl : DatF ps nLM dl) (hd : DatF ps nDA dd) (hE : EnvP w) :
    Calls Tryz.prog 45 #[.int .i64 s, fv] w fun e w' => e = .returned (.tuple #[.int .i64 (heuV s dl dd).1, .int .i64 (heuV s dl dd).2]) ∧ Below w.heap.size w w' := by
  have HB := Lib.hid (between_any fv ps ⟨#[108, 97, 115, 116, 45, 109, 111, 100, 105, 102, 105, 101, 100]⟩ ⟨#[100, 97, 116, 101]⟩ dl dd w hr hf (by decide) (by decide) hl hd hE)
  have hnn := bet_nn dl dd
  have hle := bet_le (a := dl) (b := dd) (fun k hk => by subst hk; exact oneIs_le hd)
  have HV := Lib.hid (show heuV s dl dd = if betV dl dd = 0 then (0, 5) else (min (betV dl dd / 10) (if negB s = true then 10000 else 86400000), 4) from rfl)
  generalize betV dl dd = u at *
  generalize heuV s dl dd = H at *
  clear hr hf hl hd hE
  by_cases h0 : u = 0
  · have hb : (u == 0) = true := by simpa using h0
    have HV2 := HV.out
    rw [if_pos h0] at HV2
    subst HV2
    clear h0 HV
    go_enter Tryz.func45, Tryz.ntmps45
    go_wp2_with fail
    refine HB.out.mono ?_
    rintro e w1 ⟨rfl, hB1⟩
    go_wp2_with fail
    go_ret2
    exact ⟨rfl, hB1⟩
  · have hb : (u == 0) = false := by simpa using h0
    have HV2 := HV.out
    rw [if_neg h0] at HV2
    subst HV2
    clear h0 HV
    have hq : u.tdiv 10 = u / 10 := Int.tdiv_eq_ediv_of_nonneg hnn
    cases hn : negB s with
    | true =>
      have HN := Lib.hid (fun w => isNegative_any s w)
      rw [hn] at HN
      go_enter Tryz.func45, Tryz.ntmps45
      go_wp2_with fail
      refine HB.out.mono ?_
      rintro e w1 ⟨rfl, hB1⟩
      go_wp2_with fail
      refine (HN.out _).mono ?_
      rintro e w2 ⟨rfl, rfl⟩
      go_wp2_with fail
      go_ret2
      exact ⟨by first | rfl | simp, hB1⟩
    | false =>
      have HN := Lib.hid (fun w => isNegative_any s w)
      rw [hn] at HN
      go_enter Tryz.func45, Tryz.ntmps45
      go_wp2_with fail
      refine HB.out.mono ?_
      rintro e w1 ⟨rfl, hB1⟩
      go_wp2_with fail
      refine (HN.out _).mono ?_
      rintro e w2 ⟨rfl, rfl⟩
      go_wp2_with fail
      go_ret2
      exact ⟨by first | rfl | simp, hB1⟩
set_option maxHeartbeats 4000000 in
set_option maxRecDepth 100000 in
theorem explicit_any (fv : Value) (ps : Flds) (dd de : Option Nat) (w : World) (hr : ReadsQ w fv ps) (hf : FitL ps) (hd : DatF ps nDA dd) (he : DatF ps nEX de) (hE : EnvL w) :
    Calls Tryz.prog 43 #[fv] w fun e w' => e = .returned (.tuple #[.int .i64 (expV (parseD (allL ps nCC)) (hasF ps nEX) dd de).1, .int .i64 (expV (parseD (allL ps nCC)) (hasF ps nEX) dd de).2]) ∧ Below w.heap.size w w' := by
  have HP := Lib.hid (parse11_any fv ps w hr (by have := hf.len; omega) hf.each hE.1)
  have HG := Lib.hid (fun (w : World) (hr : ReadsQ w fv ps) => get_any fv ps ⟨#[101, 120, 112, 105, 114, 101, 115]⟩ w hr (by decide) (by have := hf.len; omega) hf.each6)
  have HB := Lib.hid (fun (w : World) (hr : ReadsQ w fv ps) (hE : EnvP w) => between_any fv ps ⟨#[100, 97, 116, 101]⟩ ⟨#[101, 120, 112, 105, 114, 101, 115]⟩ dd de w hr hf (by decide) (by decide) hd he hE)
  have HE := Lib.hid hE
  have HR := Lib.hid hr
  have hnor := nor_parse (allL ps nCC)
  generalize parseD (allL ps nCC) = D at *
  have hg : decide (0 < (allL ps (⟨#[101, 120, 112, 105, 114, 101, 115]⟩ : ByteArray).data.toList).length) = hasF ps nEX := rfl
  rw [hg] at HG
  generalize strB (getL (allL ps (⟨#[101, 120, 112, 105, 114, 101, 115]⟩ : ByteArray).data.toList)) = X at *
  generalize hasF ps nEX = x at *
  have HV := Lib.hid (show expV D x dd de = if 0 ≤ D.sa then (1000 * D.sa, 1) else if 0 ≤ D.ma then (1000 * D.ma, 2) else if x = true then (betV dd de, 3) else (0, 5) from rfl)
  generalize betV dd de = u at *
  generalize expV D x dd de = Y at *
  clear hr hf hd he hE hg
  have hsa := hnor.sa
  have hma := hnor.ma
  clear hnor
  have HTs := Lib.hid (fun (w : World) => ticksOf_any D.sa w (by omega) (by omega))
  have HTm := Lib.hid (fun (w : World) => ticksOf_any D.ma w (by omega) (by omega))
  have HIs := Lib.hid (fun (w : World) => isPresent_any D.sa w)
  have HIm := Lib.hid (fun (w : World) => isPresent_any D.ma w)
  go_enter Tryz.func43, Tryz.ntmps43
  go_wp2_with fail
  refine HP.out.mono ?_
  rintro e w1 ⟨rfl, hB1⟩
  have HB1 := Lib.hid (hB1.alloc hB1.size (.cells (dvC D) 40))
  have HN := Lib.hid (dvB_new w1 D 40)
  have hN1 := hB1.size
  clear hB1
  go_upto_region 2 with fail
  change Code.wp _ _ _ _ (w1.alloc (.cells (dvC D) 40))
  generalize w1.heap.size = M at *
  generalize (w1.alloc (.cells (dvC D) 40)) = W3 at *
  go_wp2_with fail
  refine (HG.out _ (HR.out.below HB1.out)).mono ?_
  rintro e w2 ⟨rfl, hB2⟩
  have HB2 := Lib.hid (HB1.out.trans (hB2.mono HB1.out.size))
  obtain ⟨c0, c1, c2, c3, c4, c5, c6, c7, c8, c9, c10, c11, fr, lt⟩ := HN.out.below hB2
  clear hB2 c0 c1 c2 c3 c4 c5 c8 c9 c10 c11
  by_cases h1 : 0 ≤ D.sa
  · have HV2 := HV.out
    rw [if_pos h1] at HV2
    subst HV2
    rw [decide_eq_true h1] at HIs
    have hmx : max D.sa 0 = D.sa := by omega
    rw [hmx] at HTs
    clear HV h1 hmx
    go_wp2_with fail
    refine (HIs.out _).mono ?_
    rintro e w3 ⟨rfl, rfl⟩
    go_wp2_with fail
    refine (HTs.out _).mono ?_
    rintro e w3 ⟨rfl, rfl⟩
    go_wp2_with fail
    go_ret2
    exact ⟨rfl, HB2.out⟩
  · have HV2 := HV.out
    rw [if_neg h1] at HV2
    rw [decide_eq_false h1] at HIs
    clear HV h1
    by_cases h2 : 0 ≤ D.ma
    · rw [if_pos h2] at HV2
      subst HV2
      rw [decide_eq_true h2] at HIm
      have hmx : max D.ma 0 = D.ma := by omega
      rw [hmx] at HTm
      clear h2 hmx
      go_wp2_with fail
      refine (HIs.out _).mono ?_
      rintro e w3 ⟨rfl, rfl⟩
      go_wp2_with fail
      refine (HIm.out _).mono ?_
      rintro e w3 ⟨rfl, rfl⟩
      go_wp2_with fail
      refine (HTm.out _).mono ?_
      rintro e w3 ⟨rfl, rfl⟩
      go_wp2_with fail
      go_ret2
      exact ⟨rfl, HB2.out⟩
    · rw [if_neg h2] at HV2
      rw [decide_eq_false h2] at HIm
      clear h2
      cases x with
      | true =>
        rw [if_pos rfl] at HV2
        subst HV2
        go_wp2_with fail
        refine (HIs.out _).mono ?_
        rintro e w3 ⟨rfl, rfl⟩
        go_wp2_with fail
        refine (HIm.out _).mono ?_
        rintro e w3 ⟨rfl, rfl⟩
        go_wp2_with fail
        refine (HB.out _ (HR.out.below HB2.out) (HE.out.2.below HB2.out)).mono ?_
        rintro e w3 ⟨rfl, hB3⟩
        have HB3 := Lib.hid (HB2.out.trans (hB3.mono HB2.out.size))
        clear hB3
        go_wp2_with fail
        go_ret2
        exact ⟨rfl, HB3.out⟩
      | false =>
        rw [if_neg (by decide)] at HV2
        subst HV2
        go_wp2_with fail
        refine (HIs.out _).mono ?_
        rintro e w3 ⟨rfl, rfl⟩
        go_wp2_with fail
        refine (HIm.out _).mono ?_
        rintro e w3 ⟨rfl, rfl⟩
        go_wp2_with fail
        go_ret2
        exact ⟨rfl, HB2.out⟩
set_option maxHeartbeats 4000000 in
set_option maxRecDepth 100000 in
theorem lfOf_any (s : Int) (fv : Value) (ps : Flds) (dd de dl : Option Nat) (w : World) (hr : ReadsQ w fv ps) (hf : FitL ps) (hd : DatF ps nDA dd) (he : DatF ps nEX de) (hl : DatF ps nLM dl) (hE : EnvL w) :
    Calls Tryz.prog 22 #[.int .i64 s, fv] w fun e w' => e = .returned (.tuple #[.int .i64 (ofV s (parseD (allL ps nCC)) (hasF ps nEX) dd de dl).1, .int .i64 (ofV s (parseD (allL ps nCC)) (hasF ps nEX) dd de dl).2]) ∧ Below w.heap.size w w' := by
  have HX := Lib.hid (explicit_any fv ps dd de w hr hf hd he hE)
  have HH := Lib.hid (fun (w : World) (hr : ReadsQ w fv ps) (hE : EnvP w) => heuristic_any s fv ps dl dd w hr hf hl hd hE)
  have HC := Lib.hid (fun (w : World) => cacheable_any s w)
  have HE := Lib.hid hE
  have HR := Lib.hid hr
  generalize parseD (allL ps nCC) = D at *
  generalize hasF ps nEX = x at *
  have HV := Lib.hid (show ofV s D x dd de dl = if (expV D x dd de).2 = 5 ∧ cacB s = true then heuV s dl dd else expV D x dd de from rfl)
  generalize heuV s dl dd = H at *
  generalize expV D x dd de = Y at *
  obtain ⟨a, k⟩ := Y
  clear hr hf hd he hE hl
  by_cases h5 : k = 5
  · subst h5
    cases hc : cacB s with
    | true =>
      rw [hc] at HC
      have HV2 := HV.out
      rw [if_pos ⟨rfl, hc⟩] at HV2
      rw [HV2]
      obtain ⟨p, q⟩ := H
      clear HV HV2 hc
      go_enter Tryz.func22, Tryz.ntmps22
      go_wp2_with fail
      refine HX.out.mono ?_
      rintro e w1 ⟨rfl, hB1⟩
      go_wp2_with fail
      refine (HC.out _).mono ?_
      rintro e w2 ⟨rfl, rfl⟩
      go_wp2_with fail
      refine (HH.out _ (HR.out.below hB1) (HE.out.2.below hB1)).mono ?_
      rintro e w2 ⟨rfl, hB2⟩
      go_wp2_with fail
      go_ret2
      exact ⟨rfl, hB1.trans (hB2.mono hB1.size)⟩
    | false =>
      rw [hc] at HC
      have HV2 := HV.out
      rw [if_neg (fun h => by rw [hc] at h; cases h.2)] at HV2
      rw [HV2]
      clear HV HV2 hc
      go_enter Tryz.func22, Tryz.ntmps22
      go_wp2_with fail
      refine HX.out.mono ?_
      rintro e w1 ⟨rfl, hB1⟩
      go_wp2_with fail
      refine (HC.out _).mono ?_
      rintro e w2 ⟨rfl, rfl⟩
      go_wp2_with fail
      go_ret2
      exact ⟨rfl, hB1⟩
  · have HV2 := HV.out
    rw [if_neg (fun h => h5 h.1)] at HV2
    rw [HV2]
    have hb : (k == 5) = false := by simpa using h5
    clear HV HV2 h5
    go_enter Tryz.func22, Tryz.ntmps22
    go_wp2_with fail
    refine HX.out.mono ?_
    rintro e w1 ⟨rfl, hB1⟩
    go_wp2_with fail
    go_ret2
    exact ⟨rfl, hB1⟩
set_option maxHeartbeats 4000000 in
set_option maxRecDepth 100000 in
theorem allowance_any (fv : Value) (ps : Flds) (w : World) (hr : ReadsQ w fv ps) (hf : FitL ps) (hE : EnvL w) :
    Calls Tryz.prog 56 #[fv] w fun e w' => e = .returned (.tuple #[.int .i64 (allowV (parseD (allL ps nCC))).1, .int .i64 (allowV (parseD (allL ps nCC))).2]) ∧ Below w.heap.size w w' := by
  have HP := Lib.hid (parse11_any fv ps w hr (by have := hf.len; omega) hf.each hE.1)
  have hnor := nor_parse (allL ps nCC)
  generalize parseD (allL ps nCC) = D at *
  have HV := Lib.hid (show allowV D = if (D.mr || D.nc || decide (0 ≤ D.sa)) = true then (0, 0) else (1000 * max D.ws 0, 1000 * max D.oe 0) from rfl)
  generalize allowV D = Y at *
  clear hr hf hE
  have hws := hnor.ws
  have hoe := hnor.oe
  clear hnor
  have HTs := Lib.hid (fun (w : World) => ticksOf_any D.ws w (by omega) (by omega))
  have HTm := Lib.hid (fun (w : World) => ticksOf_any D.oe w (by omega) (by omega))
  have HIs := Lib.hid (fun (w : World) => isPresent_any D.sa w)
  clear hws hoe
  go_enter Tryz.func56, Tryz.ntmps56
  go_wp2_with fail
  refine HP.out.mono ?_
  rintro e w1 ⟨rfl, hB1⟩
  have HB1 := Lib.hid (hB1.alloc hB1.size (.cells (dvC D) 40))
  have HN := Lib.hid (dvB_new w1 D 40)
  clear hB1
  go_upto_region 2 with fail
  change Code.wp _ _ _ _ (w1.alloc (.cells (dvC D) 40))
  generalize w1.heap.size = M at *
  generalize (w1.alloc (.cells (dvC D) 40)) = W3 at *
  obtain ⟨c0, c1, c2, c3, c4, c5, c6, c7, c8, c9, c10, c11, fr, lt⟩ := HN.out
  clear c0 c2 c3 c5 c6 c10 c11
  cases hm : D.mr with
  | true =>
    rw [hm] at c4 HV
    have HV2 := HV.out
    rw [if_pos (by simp)] at HV2
    subst HV2
    clear HV hm
    go_wp2_with fail
    go_ret2
    exact ⟨rfl, HB1.out⟩
  | false =>
    rw [hm] at c4 HV
    cases hn : D.nc with
    | true =>
      rw [hn] at c1 HV
      have HV2 := HV.out
      rw [if_pos (by simp)] at HV2
      subst HV2
      clear HV hm hn
      go_wp2_with fail
      go_ret2
      exact ⟨rfl, HB1.out⟩
    | false =>
      rw [hn] at c1 HV
      cases hs : decide (0 ≤ D.sa) with
      | true =>
        rw [hs] at HV HIs
        have HV2 := HV.out
        rw [if_pos (by simp)] at HV2
        subst HV2
        clear HV hm hn hs
        go_wp2_with fail
        refine (HIs.out _).mono ?_
        rintro e w3 ⟨rfl, rfl⟩
        go_wp2_with fail
        go_ret2
        exact ⟨rfl, HB1.out⟩
      | false =>
        rw [hs] at HV HIs
        have HV2 := HV.out
        rw [if_neg (by simp)] at HV2
        subst HV2
        clear HV hm hn hs
        have hT1 := Lib.hid (Calls.quietly HTs.out)
        have hT2 := Lib.hid (Calls.quietly HTm.out)
        go_wp2_with fail
        refine (HIs.out _).mono ?_
        rintro e w3 ⟨rfl, rfl⟩
        go_wp2_with fail
        go_quiet (first | with_reducible exact hT1.out _ _ | with_reducible exact hT2.out _ _)
        go_wp2
        go_ret2
        exact ⟨rfl, below_drewN HB1.out _⟩
end Go.Proofs.YtieolalohindgaaGreatDoor
