import Derived.Test.YtoiampkdmjpljaaGreatDoorPa5
import Derived.Test.YtoiampkdmjpljaaGreatDoorPa9
import Derived.Test.YtoiampkdmjpljaaGreatDoorPa6
import Derived.Test.YtoiampkdmjpljaaGreatDoorPa17
import Derived.Test.YtoiampkdmjpljaaGreatDoorPa22
import Derived.Test.YtoiampkdmjpljaaGreatDoorPa10
import Derived.Deep.QuietTactic
import Derived.BigQuiet
import Derived.Test.YtoiampkdmjpljaaGreatDoorPa12
/- What the program's sole.Value returns. -/
namespace Go.Proofs.YtoiampkdmjpljaaGreatDoor
open Go.RowKit

set_option maxHeartbeats 2000000 in
set_option maxRecDepth 100000 in
theorem sole_any (fv : Value) (ps : Flds) (n : ByteArray) (w : World) (hr : ReadsQ w fv ps) (hn : n.size ≤ 1000000000) (hl : ps.length ≤ 1000000) (hb : ∀ p ∈ ps, p.1.length + p.2.length ≤ 1000000) :
    Calls Tryz.prog 90 #[fv, .string n] w fun e w' => e = .returned (.tuple #[.string (strB (oneL (allL ps n.data.toList)).1), .bool (oneL (allL ps n.data.toList)).2]) ∧ Below w.heap.size w w' := by
  have HA := Lib.hid (all_any fv ps n w hr hn hl hb)
  have hll := all_len ps n.data.toList
  clear hr hb
  generalize allL ps n.data.toList = ls at *
  rcases ls with _ | ⟨v, _ | ⟨b, r⟩⟩
  · go_enter Tryz.func90, Tryz.ntmps90
    go_wp2_with fail
    refine HA.out.mono ?_
    rintro e w1 ⟨x, rfl, hO, hB1⟩
    rcases hO.open' with ⟨rfl, hz⟩ | ⟨g, cap, rfl, _, hg, hc⟩
    · go_wp2_with fail
      go_ret2
      exact ⟨rfl, hB1⟩
    · clear hc hO
      go_wp2_with fail
      go_ret2
      exact ⟨rfl, hB1⟩
  · go_enter Tryz.func90, Tryz.ntmps90
    go_wp2_with fail
    refine HA.out.mono ?_
    rintro e w1 ⟨x, rfl, hO, hB1⟩
    rcases hO.open' with ⟨rfl, hz⟩ | ⟨g, cap, rfl, _, hg, hc⟩
    · cases hz
    · have hc0 : w1.cell? ⟨g, 0, none⟩ = some (.string (strB v)) := hc 0 v rfl
      have hone : ([v] : List (List UInt8)).length = 1 := rfl
      rw [hone]
      clear hc hO hone
      go_wp2_with fail
      go_ret2
      exact ⟨rfl, hB1⟩
  · have hb : (((v :: b :: r).length : Int) != 1) = true := by simp; omega
    have hv : (oneL (v :: b :: r)) = ([], false) := rfl
    rw [hv]
    clear hv
    have HA2 : Calls Tryz.prog 25 #[fv, .string n] w fun e w' => ∃ g cap, e = .returned (.slice (some ⟨g, 0, none⟩) (v :: b :: r).length cap) ∧ Below w.heap.size w w' := by
      refine HA.out.mono ?_
      rintro e w1 ⟨x, rfl, hO, hB1⟩
      rcases hO.open' with ⟨rfl, hz⟩ | ⟨g, cap, rfl, _, hg, hc⟩
      · cases hz
      · exact ⟨g, cap, rfl, hB1⟩
    have HA3 := Lib.hid HA2
    clear HA HA2
    generalize (v :: b :: r).length = m at *
    go_enter Tryz.func90, Tryz.ntmps90
    go_wp2_with fail
    refine HA3.out.mono ?_
    rintro e w1 ⟨g, cap, rfl, hB1⟩
    go_wp2_with fail
    go_ret2
    exact ⟨rfl, hB1⟩
end Go.Proofs.YtoiampkdmjpljaaGreatDoor

/- What the program's functions of package lifetime return. -/
namespace Go.Proofs.YtoiampkdmjpljaaGreatDoor
open Go.RowKit

def EnvL (w : World) : Prop := MaxIs w ∧ EnvP w
theorem EnvL.below {w w' : World} (h : EnvL w) (hb : Below w.heap.size w w') : EnvL w' := ⟨h.1.below hb, h.2.below hb⟩
/-- A list of fields is small enough for all that is asked of it. -/
structure FitL (ps : Flds) : Prop where
  len : ps.length ≤ 10000
  each : ∀ p ∈ ps, p.1.length + p.2.length ≤ 100000
theorem FitL.each6 {ps : Flds} (h : FitL ps) : ∀ p ∈ ps, p.1.length + p.2.length ≤ 1000000 := fun p hp => Nat.le_trans (h.each p hp) (by decide)
set_option maxHeartbeats 1000000 in
theorem ticksOf_any (n : Int) (w : World) (h1 : -1000000000000 ≤ n) (h2 : n ≤ 1000000000000) :
    Calls Tryz.prog 103 #[.int .i64 n] w fun e w' => e = .returned (.int .i64 (1000 * max n 0)) ∧ w = w' := by
  go_enter Tryz.func103, Tryz.ntmps103
  go_wp2
  all_goals
    go_ret
    exact ⟨ret_int (Int.mul_comm _ _), rfl⟩
theorem isPresent_any (n : Int) (w : World) :
    Calls Tryz.prog 102 #[.int .i64 n] w fun e w' => e = .returned (.bool (decide (0 ≤ n))) ∧ w = w' := by
  go_enter Tryz.func102, Tryz.ntmps102
  go_wp2
  all_goals
    go_ret
    exact ⟨by first | rfl | simp, rfl⟩
set_option maxHeartbeats 4000000 in
set_option maxRecDepth 100000 in
theorem lfDate_any (fv : Value) (ps : Flds) (n : ByteArray) (d : Option Nat) (w : World) (hr : ReadsQ w fv ps) (hf : FitL ps) (hn : n.size ≤ 100) (hd : DatF ps n.data.toList d) (hE : EnvP w) :
    Calls Tryz.prog 128 #[fv, .string n] w fun e w' => e = .returned (.tuple #[.int .i64 (dnV d), .bool d.isSome]) ∧ Below w.heap.size w w' := by
  have HA := Lib.hid (sole_any fv ps n w hr (by omega) (by have := hf.len; omega) hf.each6)
  have hol := oneL_len (all_small (n := n.data.toList) hf.each)
  have HE := Lib.hid hE
  have HP := Lib.hid (fun (w : World) (hE : EnvP w) => hParse_any (oneL (allL ps n.data.toList)).1 d (oneIs_val hd) w hE (by omega))
  clear hr hf hE hd hol
  generalize (oneL (allL ps n.data.toList)).1 = v at *
  generalize (oneL (allL ps n.data.toList)).2 = b at *
  cases d with
  | none =>
    unfold dtV at HP
    go_enter Tryz.func128, Tryz.ntmps128
    go_wp2_with fail
    refine HA.out.mono ?_
    rintro e w1 ⟨rfl, hB1⟩
    go_wp2_with fail
    refine (HP.out _ (HE.out.below hB1)).mono ?_
    rintro e w2 ⟨rfl, hB2⟩
    go_wp2_with fail
    go_quiet (fail)
    go_wp2
    go_ret2
    exact ⟨rfl, below_drewN (hB1.trans (hB2.mono hB1.size)) _⟩
  | some k =>
    unfold dtV at HP
    go_enter Tryz.func128, Tryz.ntmps128
    go_wp2_with fail
    refine HA.out.mono ?_
    rintro e w1 ⟨rfl, hB1⟩
    go_wp2_with fail
    refine (HP.out _ (HE.out.below hB1)).mono ?_
    rintro e w2 ⟨rfl, hB2⟩
    go_wp2_with fail
    go_quiet (fail)
    go_wp2
    go_ret2
    exact ⟨rfl, below_drewN (hB1.trans (hB2.mono hB1.size)) _⟩
theorem dnV_bd {d : Option Nat} (h : ∀ k, d = some k → k ≤ 253402300799) : 0 ≤ dnV d ∧ dnV d ≤ 253402300799 := by
  cases d with
  | none => exact ⟨Int.le_refl _, by decide⟩
  | some k => have := h k rfl; constructor <;> (show _ ≤ _; simp only [dnV]; omega)
set_option maxHeartbeats 4000000 in
set_option maxRecDepth 100000 in
theorem between_any (fv : Value) (ps : Flds) (n m : ByteArray) (a b : Option Nat) (w : World) (hr : ReadsQ w fv ps) (hf : FitL ps) (hn : n.size ≤ 100) (hm : m.size ≤ 100) (ha : DatF ps n.data.toList a) (hb : DatF ps m.data.toList b) (hE : EnvP w) :
    Calls Tryz.prog 104 #[fv, .string n, .string m] w fun e w' => e = .returned (.int .i64 (betV a b)) ∧ Below w.heap.size w w' := by
  have HA := Lib.hid (fun (w : World) (hr : ReadsQ w fv ps) (hE : EnvP w) => lfDate_any fv ps n a w hr hf hn ha hE)
  have HB := Lib.hid (fun (w : World) (hr : ReadsQ w fv ps) (hE : EnvP w) => lfDate_any fv ps m b w hr hf hm hb hE)
  have HE := Lib.hid hE
  have HR := Lib.hid hr
  have la : ∀ k, a = some k → k ≤ 253402300799 := fun k hk => by subst hk; exact oneIs_le ha
  have lb : ∀ k, b = some k → k ≤ 253402300799 := fun k hk => by subst hk; exact oneIs_le hb
  clear hr hf hn hm ha hb hE
  cases a with
  | none =>
    go_enter Tryz.func104, Tryz.ntmps104
    go_wp2_with fail
    refine (HA.out _ HR.out HE.out).mono ?_
    rintro e w1 ⟨rfl, hB1⟩
    simp only [Option.isSome_none]
    go_wp2_with fail
    refine (HB.out _ (HR.out.below hB1) (HE.out.below hB1)).mono ?_
    rintro e w2 ⟨rfl, hB2⟩
    go_wp2_with fail
    go_ret
    exact ⟨rfl, hB1.trans (hB2.mono hB1.size)⟩
  | some x =>
    cases b with
    | none =>
      go_enter Tryz.func104, Tryz.ntmps104
      go_wp2_with fail
      refine (HA.out _ HR.out HE.out).mono ?_
      rintro e w1 ⟨rfl, hB1⟩
      simp only [Option.isSome_some]
      go_wp2_with fail
      refine (HB.out _ (HR.out.below hB1) (HE.out.below hB1)).mono ?_
      rintro e w2 ⟨rfl, hB2⟩
      simp only [Option.isSome_none]
      go_wp2_with fail
      go_ret
      exact ⟨rfl, hB1.trans (hB2.mono hB1.size)⟩
    | some y =>
      have hx := la x rfl
      have hy := lb y rfl
      have HT := Lib.hid (fun (w : World) => ticksOf_any ((y : Int) - (x : Int)) w (by omega) (by omega))
      go_enter Tryz.func104, Tryz.ntmps104
      go_wp2_with fail
      refine (HA.out _ HR.out HE.out).mono ?_
      rintro e w1 ⟨rfl, hB1⟩
      simp only [Option.isSome_some, dnV]
      go_wp2_with fail
      refine (HB.out _ (HR.out.below hB1) (HE.out.below hB1)).mono ?_
      rintro e w2 ⟨rfl, hB2⟩
      simp only [Option.isSome_some, dnV]
      go_wp2_with fail
      refine (HT.out _).mono ?_
      rintro e w3 ⟨rfl, rfl⟩
      go_wp2_with fail
      go_ret
      exact ⟨rfl, hB1.trans (hB2.mono hB1.size)⟩
end Go.Proofs.YtoiampkdmjpljaaGreatDoor

/- What slices.Equal, Index, Contains, IndexFunc and ContainsFunc of strings return, and variesWithAll. -/
namespace Go.Proofs.YtoiampkdmjpljaaGreatDoor
open Go.RowKit

set_option maxHeartbeats 2000000 in
set_option maxRecDepth 100000 in
theorem equalS_any (va vb : Value) (la lb : List (List UInt8)) (w : World) (ha : ReadsS w va la) (hb : ReadsS w vb lb) (hla : la.length ≤ 100000000) :
    Calls Tryz.prog 63 #[va, vb] w fun e w' => e = .returned (.bool (decide (la = lb))) ∧ ∃ n, w' = w.drewN n := by
  obtain ⟨ao, ca, rfl, hca⟩ := ha
  obtain ⟨bo, cb, rfl, hcb⟩ := hb
  by_cases hne : la.length = lb.length
  · have hne1 : la.length ≤ lb.length := by omega
    have hne2 : lb.length ≤ la.length := by omega
    have Hne := Lib.hid hne
    have HA := Lib.hid hca
    have HB := Lib.hid hcb
    clear hne hca hcb
    go_enter Tryz.func63, Tryz.ntmps63
    go_wp2
    go_loopw [13] (fun i wr => ∃ k n : Nat, i = .int .i64 k ∧ k ≤ la.length ∧ sameTo la lb k ∧ wr = w.drewN n) (fun i _ => la.length - (intOf i).toNat)
    case atStart => exact ⟨0, 0, rfl, Nat.zero_le _, rfl, rfl⟩
    case round =>
      obtain ⟨k, n, rfl, hk, hs, rfl⟩ := hrel
      have HS := Lib.hid hs
      clear hs
      by_cases hlt : k < la.length
      · obtain ⟨l, hl⟩ : ∃ l, la[k]? = some l := ⟨la[k], by simp [hlt]⟩
        obtain ⟨m, hm⟩ : ∃ m, lb[k]? = some m := ⟨lb[k]'(by omega), by simp⟩
        obtain ⟨g, off, rfl, hg, hc1⟩ := HA.out k l hl
        obtain ⟨g', off', rfl, hg', hc2⟩ := HB.out k m hm
        have HL := Lib.hid hl
        have HM := Lib.hid hm
        clear hl hm
        by_cases hlm : l = m
        · have heq : ((strB l).toList == (strB m).toList) = true := by rw [hlm]; exact beq_self_eq_true _
          have HLM := Lib.hid hlm
          clear hlm
          go_wp2
          go_quiet (fail)
          go_wp2
          go_roundw
          case rel => exact ⟨k + 1, _, by go_num, by omega, sameTo_step HS.out HL.out (by rw [HLM.out]; exact HM.out), rfl⟩
          case measure => simp [intOf]; omega
        · have heq : ((strB l).toList == (strB m).toList) = false := by
            rw [ByteArray.toList_eq, ByteArray.toList_eq]
            simpa [strB] using hlm
          go_wp2
          go_quiet (fail)
          go_wp2
          go_ret
          exact ⟨ret_bool (sameTo_no HL.out HM.out hlm), n + nq, by first | exact World.drewN_drewN .. | rfl⟩
      · go_wp2
        go_ret
        exact ⟨ret_bool (sameTo_end HS.out (by omega) (by omega)), _, rfl⟩
  · go_enter Tryz.func63, Tryz.ntmps63
    have h0 : ((la.length : Int) != (lb.length : Int)) = true := by simp; omega
    go_wp2
    go_ret
    exact ⟨ret_bool (by simp; intro h; exact hne (by rw [h])), 0, rfl⟩
theorem mem_hit {ls : List (List UInt8)} {k : Nat} {l v : List UInt8} (hk : ls[k]? = some l) (h : l = v) : decide (v ∈ ls) = true := decide_eq_true (h ▸ List.mem_of_getElem? hk)
theorem mem_step {ls : List (List UInt8)} {k : Nat} {l v : List UInt8} (hk : ls[k]? = some l) (h : decide (v ∈ ls.take k) = false) (hn : l ≠ v) : decide (v ∈ ls.take (k + 1)) = false := by
  refine decide_eq_false ?_
  have h1 := of_decide_eq_false h
  rw [List.take_add_one, hk]
  simp only [Option.toList_some, List.mem_append, List.mem_singleton, not_or]
  exact ⟨h1, fun e => hn e.symm⟩
theorem mem_end {ls : List (List UInt8)} {k : Nat} {v : List UInt8} (hk : ls.length ≤ k) (h : decide (v ∈ ls.take k) = false) : decide (v ∈ ls) = false := by rwa [List.take_of_length_le hk] at h
set_option maxHeartbeats 2000000 in
set_option maxRecDepth 100000 in
theorem indexS_any (va : Value) (ls : List (List UInt8)) (v : List UInt8) (w : World) (ha : ReadsS w va ls) (hl : ls.length ≤ 100000000) :
    Calls Tryz.prog 106 #[va, .string (strB v)] w fun e w' => ∃ n : Int, e = .returned (.int .i64 n) ∧ decide (0 ≤ n) = decide (v ∈ ls) ∧ Below w.heap.size w w' := by
  obtain ⟨ao, ca, rfl, hca⟩ := ha
  have HA := Lib.hid hca
  clear hca
  go_enter Tryz.func106, Tryz.ntmps106
  go_wp2
  go_loopw [8] (fun i wr => ∃ k : Nat, i = .int .i64 k ∧ k ≤ ls.length ∧ decide (v ∈ ls.take k) = false ∧ Below w.heap.size w wr) (fun i _ => ls.length - (intOf i).toNat)
  case atStart => exact ⟨0, rfl, Nat.zero_le _, rfl, Below.refl _ _⟩
  case round =>
    obtain ⟨k, rfl, hk, hs, hBr⟩ := hrel
    have HS := Lib.hid hs
    have HB := Lib.hid hBr
    clear hs hBr
    by_cases hlt : k < ls.length
    · obtain ⟨l, hl⟩ : ∃ l, ls[k]? = some l := ⟨ls[k], by simp [hlt]⟩
      obtain ⟨g, off, rfl, hg, hc1⟩ := HA.out k l hl
      have hd1 : wr.cell? ⟨g, off + k, none⟩ = some (.string (strB l)) := (HB.out.cell (p := ⟨g, off + k, none⟩) hg).trans hc1
      have HL := Lib.hid hl
      clear hl hc1
      by_cases hlm : l = v
      · have heq : ((strB v).toList == (strB l).toList) = true := by rw [hlm]; exact beq_self_eq_true _
        have HR := Lib.hid (mem_hit HL.out hlm)
        clear hlm
        go_wp2
        go_ret
        exact ⟨k, rfl, by rw [HR.out]; simp, HB.out⟩
      · have heq : ((strB v).toList == (strB l).toList) = false := by
          rw [ByteArray.toList_eq, ByteArray.toList_eq]
          simpa [strB] using fun e => hlm (e.symm)
        have HR := Lib.hid (mem_step HL.out HS.out hlm)
        clear hlm
        go_wp2
        go_roundw
        case rel => exact ⟨k + 1, by go_num, by omega, HR.out, HB.out⟩
        case measure => simp [intOf]; omega
    · have HR := Lib.hid (mem_end (by omega) HS.out)
      go_wp2
      go_ret
      exact ⟨-1, rfl, by rw [HR.out]; decide, HB.out⟩
set_option maxHeartbeats 1000000 in
theorem containsS_any (va : Value) (ls : List (List UInt8)) (v : List UInt8) (w : World) (ha : ReadsS w va ls) (hl : ls.length ≤ 100000000) :
    Calls Tryz.prog 83 #[va, .string (strB v)] w fun e w' => e = .returned (.bool (decide (v ∈ ls))) ∧ Below w.heap.size w w' := by
  have HI := Lib.hid (indexS_any va ls v w ha hl)
  clear ha
  go_enter Tryz.func83, Tryz.ntmps83
  go_wp2_with fail
  refine HI.out.mono ?_
  rintro e w2 ⟨n, rfl, hn, hB2⟩
  go_wp2_with fail
  go_ret
  exact ⟨by rw [← hn]; rfl, hB2⟩
abbrev vwaV : Value := .func (.func 82) #[] #[]
set_option maxHeartbeats 2000000 in
set_option maxRecDepth 100000 in
theorem vwa_any (v : List UInt8) (w : World) (hv : v.length ≤ 100000) :
    Calls Tryz.prog 82 #[.string (strB v)] w fun e w' => e = .returned (.bool (starV v)) ∧ Below w.heap.size w w' := by
  have HL := Lib.hid (list_any (strB v) w (by rw [strB_size]; exact hv))
  have HV := Lib.hid (show starV v = match listO (strB v).data.toList with | none => true | some l => decide ([42] ∈ l) by rw [strB_list]; rfl)
  have hst : (⟨#[42]⟩ : ByteArray) = strB [42] := rfl
  unfold ListPost at HL
  generalize listO (strB v).data.toList = q at *
  cases q with
  | none =>
    go_enter Tryz.func82, Tryz.ntmps82
    go_wp2_with fail
    refine HL.out.mono ?_
    rintro e w1 ⟨hB1, he⟩
    try simp only at he
    subst he
    go_wp2_with fail
    go_ret
    exact ⟨by rw [HV.out]; rfl, hB1⟩
  | some ls =>
    go_enter Tryz.func82, Tryz.ntmps82
    go_wp2_with fail
    refine HL.out.mono ?_
    rintro e w1 ⟨hB1, he⟩
    try simp only at he
    obtain ⟨x, rfl, hO, hln⟩ := he
    have HC := Lib.hid (containsS_any x ls [42] w1 hO.reads (by omega))
    obtain ⟨a, c, rfl, hx⟩ := hO.reads
    clear hO hx
    go_wp2_with fail
    refine HC.out.mono ?_
    rintro e w2 ⟨rfl, hB2⟩
    go_wp2_with fail
    go_ret
    exact ⟨by rw [HV.out]; rfl, hB1.trans (hB2.mono hB1.size)⟩
theorem anyS_hit {ls : List (List UInt8)} {f : List UInt8 → Bool} {k : Nat} {p : List UInt8} (hk : ls[k]? = some p) (hp : f p = true) : ls.any f = true :=
  List.any_eq_true.mpr ⟨p, List.mem_of_getElem? hk, hp⟩
theorem anyS_step {ls : List (List UInt8)} {f : List UInt8 → Bool} {k : Nat} {p : List UInt8} (hk : ls[k]? = some p) (h : (ls.take k).any f = false) (hp : f p = false) : (ls.take (k + 1)).any f = false := by
  rw [List.take_add_one, hk, List.any_append, h]; simp [hp]
theorem anyS_all {ls : List (List UInt8)} {f : List UInt8 → Bool} {k : Nat} (hk : ls.length ≤ k) (h : (ls.take k).any f = false) : ls.any f = false := by
  rwa [List.take_of_length_le hk] at h
set_option maxHeartbeats 2000000 in
set_option maxRecDepth 100000 in
theorem indexFuncS_any (va : Value) (ls : List (List UInt8)) (w : World) (ha : ReadsS w va ls) (hl : ls.length ≤ 100000000) (hb : ∀ l ∈ ls, l.length ≤ 100000) :
    Calls Tryz.prog 105 #[va, vwaV] w fun e w' => ∃ n : Int, e = .returned (.int .i64 n) ∧ decide (0 ≤ n) = ls.any starV ∧ Below w.heap.size w w' := by
  obtain ⟨ao, ca, rfl, hca⟩ := ha
  have HA := Lib.hid hca
  have HBg := Lib.hid hb
  clear hca hb
  go_enter Tryz.func105, Tryz.ntmps105
  go_wp2
  go_loopw [8] (fun i wr => ∃ k : Nat, i = .int .i64 k ∧ k ≤ ls.length ∧ (ls.take k).any starV = false ∧ Below w.heap.size w wr) (fun i _ => ls.length - (intOf i).toNat)
  case atStart => exact ⟨0, rfl, Nat.zero_le _, rfl, Below.refl _ _⟩
  case round =>
    obtain ⟨k, rfl, hk, hs, hBr⟩ := hrel
    have hbr := hBr.size
    have HS := Lib.hid hs
    have HB := Lib.hid hBr
    clear hs hBr
    by_cases hlt : k < ls.length
    · obtain ⟨l, hl⟩ : ∃ l, ls[k]? = some l := ⟨ls[k], by simp [hlt]⟩
      obtain ⟨g, off, rfl, hg, hc1⟩ := HA.out k l hl
      have hd1 : wr.cell? ⟨g, off + k, none⟩ = some (.string (strB l)) := (HB.out.cell (p := ⟨g, off + k, none⟩) hg).trans hc1
      have hll := HBg.out l (List.mem_of_getElem? hl)
      have HL := Lib.hid hl
      clear hl hc1
      go_wp2_with fail
      refine (vwa_any l _ hll).mono ?_
      rintro e w2 ⟨rfl, hB2⟩
      have HB2 := Lib.hid (HB.out.trans (hB2.mono hbr))
      clear hB2
      cases hst : starV l with
      | true =>
        have HR := Lib.hid (anyS_hit HL.out hst)
        clear hst
        go_wp2
        go_ret
        exact ⟨k, rfl, by rw [HR.out]; simp, HB2.out⟩
      | false =>
        have HR := Lib.hid (anyS_step HL.out HS.out hst)
        clear hst
        go_wp2
        go_roundw
        case rel => exact ⟨k + 1, by go_num, by omega, HR.out, HB2.out⟩
        case measure => simp [intOf]; omega
    · have HR := Lib.hid (anyS_all (by omega) HS.out)
      go_wp2
      go_ret
      exact ⟨-1, rfl, by rw [HR.out]; decide, HB.out⟩
set_option maxHeartbeats 1000000 in
theorem containsFuncS_any (va : Value) (ls : List (List UInt8)) (w : World) (ha : ReadsS w va ls) (hl : ls.length ≤ 100000000) (hb : ∀ l ∈ ls, l.length ≤ 100000) :
    Calls Tryz.prog 81 #[va, vwaV] w fun e w' => e = .returned (.bool (ls.any starV)) ∧ Below w.heap.size w w' := by
  have HI := Lib.hid (indexFuncS_any va ls w ha hl hb)
  clear ha hb
  go_enter Tryz.func81, Tryz.ntmps81
  go_wp2_with fail
  refine HI.out.mono ?_
  rintro e w2 ⟨n, rfl, hn, hB2⟩
  go_wp2_with fail
  go_ret
  exact ⟨by rw [← hn]; rfl, hB2⟩
set_option maxHeartbeats 1000000 in
set_option maxRecDepth 100000 in
theorem varies_any (fv : Value) (ps : Flds) (w : World) (hr : ReadsQ w fv ps) (hf : FitL ps) :
    Calls Tryz.prog 56 #[fv] w fun e w' => e = .returned (.bool ((allL ps nVY).any starV)) ∧ Below w.heap.size w w' := by
  have hlen := hf.len
  have HA := Lib.hid (all_any fv ps (strB nVY) w hr (by decide) (by omega) hf.each6)
  have hsm := all_small (n := nVY) hf.each
  have hll := all_len ps nVY
  have HC := Lib.hid (fun (v : Value) (w : World) (hr : ReadsS w v (allL ps nVY)) => containsFuncS_any v (allL ps nVY) w hr (by omega) hsm)
  rw [strB_list] at HA
  clear hr hf hsm hll
  generalize allL ps nVY = ls at *
  go_enter Tryz.func56, Tryz.ntmps56
  go_wp2_with fail
  refine HA.out.mono ?_
  rintro e w1 ⟨x, rfl, hO, hB1⟩
  have HC1 := Lib.hid (HC.out x w1 hO.reads)
  obtain ⟨a, c, rfl, hx⟩ := hO.reads
  clear hO hx
  go_wp2_with fail
  refine HC1.out.mono ?_
  rintro e w2 ⟨rfl, hB2⟩
  go_wp2_with fail
  go_ret
  exact ⟨rfl, hB1.trans (hB2.mono hB1.size)⟩
end Go.Proofs.YtoiampkdmjpljaaGreatDoor
