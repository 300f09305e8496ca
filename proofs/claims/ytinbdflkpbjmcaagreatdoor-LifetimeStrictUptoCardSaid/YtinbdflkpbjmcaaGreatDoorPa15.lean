import Derived.Test.YtinbdflkpbjmcaaGreatDoorPa4
import Derived.Test.YtinbdflkpbjmcaaGreatDoorPa14
import Derived.Deep.QuietTactic
import Derived.BigQuiet
import Derived.Test.YtinbdflkpbjmcaaGreatDoorPa0
import Derived.Test.YtinbdflkpbjmcaaGreatDoorPa13
import Derived.Deep.RegionWith
/- What least and seconds return: the lesser time that is there; the number that an argument stands for. -/
namespace Go.Proofs.YtinbdflkpbjmcaaGreatDoor
open Go.RowKit

theorem least_any (a b : Int) (w : World) (_ha : -9223372036854775808 ≤ a ∧ a ≤ 9223372036854775807) (_hb : -9223372036854775808 ≤ b ∧ b ≤ 9223372036854775807) :
    Calls Tryz.prog 83 #[.int .i64 a, .int .i64 b] w fun e w' => e = .returned (.int .i64 (leastD a b)) ∧ w = w' := by
  by_cases h1 : a = -1
  · have hc : (a == -1) = true := by simpa using h1
    have HR := Lib.hid (show leastD a b = b by unfold leastD; rw [if_pos h1])
    clear h1
    go_enter Tryz.func83, Tryz.ntmps83
    go_wp2
    go_ret
    exact ⟨by first | (rw [HR.out]; rfl) | rw [HR.out], rfl⟩
  · have hc : (a == -1) = false := by simpa using h1
    by_cases h2 : b = -1
    · have hd : (b == -1) = true := by simpa using h2
      have HR := Lib.hid (show leastD a b = a by unfold leastD; rw [if_neg h1, if_pos h2])
      clear h1 h2
      go_enter Tryz.func83, Tryz.ntmps83
      go_wp2
      go_ret
      exact ⟨by first | (rw [HR.out]; rfl) | rw [HR.out], rfl⟩
    · have hd : (b == -1) = false := by simpa using h2
      have HR := Lib.hid (show leastD a b = min a b by unfold leastD; rw [if_neg h1, if_neg h2])
      clear h1 h2
      go_enter Tryz.func83, Tryz.ntmps83
      go_wp2
      go_ret
      exact ⟨by first | (rw [HR.out]; rfl) | rw [HR.out], rfl⟩

theorem pre34 (a : List UInt8) (b : Bool) (h : decide (a.headD 0 = 34) = b) : Lib.hasPrefix (strB a).data.toList (⟨#[34]⟩ : ByteArray).data.toList = b := by
  rw [strB_list, ← h]
  cases a with
  | nil => rfl
  | cons c r =>
    show ([34] : List UInt8).isPrefixOf (c :: r) = decide (c = 34)
    by_cases hc : c = 34
    · subst hc; simp [List.isPrefixOf]
    · have : ((34 : UInt8) == c) = false := by simpa using fun e => hc (e.symm)
      simp [List.isPrefixOf, this, hc]
/-- Unquote of an argument that begins with a quotation mark, whatever error comes with it. -/
theorem unqA_any (a : List UInt8) (w : World) (ha : a.length ≤ 1000000) (h : a.headD 0 = 34) :
    Calls Tryz.prog 105 #[.string (strB a)] w fun e w' => ∃ ev, e = .returned (.tuple #[.string (strB (argL a)), ev]) ∧ Below w.heap.size w w' := by
  refine (unquote_any (strB a) w (by rw [strB_size]; omega)).mono ?_
  rintro e w' ⟨hB, hc⟩
  rw [strB_list] at hc
  have e1 : argL a = (unqO a).getD [] := by unfold argL; rw [if_pos h]
  rw [e1]
  cases hu : unqO a with
  | none => rw [hu] at hc; exact ⟨_, hc, hB⟩
  | some l => rw [hu] at hc; exact ⟨_, hc, hB⟩
theorem rq_len : ∀ (l : List UInt8) (e : Bool) (m : List UInt8), rq e l = some m → m.length ≤ l.length := by
  intro l
  induction l with
  | nil => intro e m h; cases e <;> simp [rq] at h
  | cons c r ih =>
    intro e m h
    cases e
    · unfold rq at h
      split at h
      · split at h
        · simp only [Option.some.injEq] at h; subst h; simp
        · cases h
      · split at h
        · have := ih _ _ h; simp only [List.length_cons]; omega
        · cases hr : rq false r with
          | none => rw [hr] at h; cases h
          | some q =>
            rw [hr] at h; simp only [Option.map_some, Option.some.injEq] at h; subst h
            have := ih _ _ hr; simp only [List.length_cons]; omega
    · unfold rq at h
      cases hr : rq false r with
      | none => rw [hr] at h; cases h
      | some q =>
        rw [hr] at h; simp only [Option.map_some, Option.some.injEq] at h; subst h
        have := ih _ _ hr; simp only [List.length_cons]; omega
theorem arg_len (a : List UInt8) : (argL a).length ≤ a.length := by
  unfold argL
  split
  · cases hu : unqO a with
    | none => simp
    | some m =>
      unfold unqO at hu
      split at hu
      · cases hu
      · have := rq_len _ _ _ hu
        simp only [List.length_drop, Option.getD_some] at *
        omega
  · omega

/-- The number read so far. -/
def SecRel (x : List UInt8) (n i : Value) : Prop := ∃ (k : Nat) (m : Int), i = .int .i64 k ∧ k ≤ x.length ∧ n = .int .i64 m ∧ 0 ≤ m ∧ m ≤ 2147483647 ∧ numA (x.drop k) m = numA x 0
theorem num_drop {x : List UInt8} {k : Nat} (h : k < x.length) (m : Int) : numA (x.drop k) m = if 48 ≤ x[k].toNat ∧ x[k].toNat ≤ 57 then numA (x.drop (k + 1)) (min (10 * m + ((x[k].toNat : Int) - 48)) 2147483647) else none := by
  rw [List.drop_eq_getElem_cons h]; rfl
set_option maxHeartbeats 2000000 in
set_option maxRecDepth 100000 in
theorem seconds_any (a : List UInt8) (c : Int) (w : World) (ha : a.length ≤ 1000000) :
    Calls Tryz.prog 84 #[.string (strB a), .int .i64 c] w fun e w' => e = .returned (.int .i64 ((secL a).getD c)) ∧ Below w.heap.size w w' := by
  have hal := arg_len a
  have hxa : argL a = (if a.headD 0 = 34 then (unqO a).getD [] else a) := rfl
  have hse : secL a = if argL a = [] then none else numA (argL a) 0 := rfl
  have HU := Lib.hid (fun (w : World) (h : a.headD 0 = 34) => unqA_any a w ha h)
  obtain ⟨x, hx⟩ : ∃ x, argL a = x := ⟨_, rfl⟩
  rw [hx] at hal hse hxa HU
  have HSE := Lib.hid hse
  have HXA := Lib.hid hxa
  have hxs : (strB x).size = x.length := strB_size x
  clear hse hxa hx
  have hP := pre34 a
  have HP := Lib.hid hP
  clear hP
  cases hq : decide (a.headD 0 = 34) with
  | true =>
    have HP1 := Lib.hid (HP.out true hq)
    have HU1 := Lib.hid (fun w => HU.out w (of_decide_eq_true hq))
    clear HP HU hq HXA
    go_enter Tryz.func84, Tryz.ntmps84
    go_wp2_with fail
    refine (Tryz.strings_HasPrefix _ _ _).mono ?_
    rintro e w' ⟨rfl, rfl⟩
    rw [HP1.out]
    go_wp2_with fail
    refine (HU1.out _).mono ?_
    rintro e w1 ⟨ev, rfl, hB⟩
    by_cases hxe : x = []
    · have hem := empty_yes hxe
      have HR := Lib.hid (show (secL a).getD c = c by rw [HSE.out, if_pos hxe]; rfl)
      have hd : (strB x).toList = [] := by rw [ByteArray.toList_eq, strB_list, hxe]
      clear hxe
      go_wp2
      go_ret
      exact ⟨by first | (rw [HR.out]; rfl) | rw [HR.out], hB⟩
    · have hem := empty_no hxe
      have HR := Lib.hid (show secL a = numA x 0 by rw [HSE.out, if_neg hxe])
      have hd : ¬ (strB x).toList = [] := by rw [ByteArray.toList_eq, strB_list]; exact hxe
      clear hxe
      go_wp2
      go_loop [5, 6] (fun n i => SecRel x n i) (fun _ i => x.length - (intOf i).toNat)
      case atStart => exact ⟨0, 0, rfl, Nat.zero_le _, rfl, by omega, by omega, rfl⟩
      case round =>
        obtain ⟨k, m, rfl, hk, rfl, hm0, hm1, hrel⟩ := hrel
        have HREL := Lib.hid hrel
        clear hrel
        by_cases hlt : k < x.length
        · have hg : (strB x)[k]'(by omega) = x[k] := rfl
          by_cases hdg : digB x[k] = true
          · have hdd : 48 ≤ x[k].toNat ∧ x[k].toNat ≤ 57 := by simpa [digB] using hdg
            have HN := Lib.hid (HREL.out.symm.trans ((num_drop hlt m).trans (if_pos hdd)))
            go_wp2_with (go_at_call 106; refine (isDigit_any _ _).mono ?_; rintro e w' ⟨rfl, rfl⟩)
            go_round
            case rel => exact ⟨k + 1, min (10 * m + ((x[k].toNat : Int) - 48)) 2147483647, by go_num, by omega, rfl, by omega, by omega, HN.out.symm⟩
            case measure => simp [intOf]; omega
          · have hdd : ¬ (48 ≤ x[k].toNat ∧ x[k].toNat ≤ 57) := by simpa [digB] using hdg
            have hdf : digB x[k] = false := by simpa using hdg
            have HN := Lib.hid (show (secL a).getD c = c by rw [HR.out, ← HREL.out, num_drop hlt m, if_neg hdd]; rfl)
            clear hdg hdd
            go_wp2_with (go_at_call 106; refine (isDigit_any _ _).mono ?_; rintro e w' ⟨rfl, rfl⟩)
            go_ret
            exact ⟨by first | (rw [HN.out]; rfl) | rw [HN.out], hB⟩
        · have HN := Lib.hid (show (secL a).getD c = m by rw [HR.out, ← HREL.out, List.drop_eq_nil_of_le (by omega)]; rfl)
          go_wp2
          go_ret
          exact ⟨by first | (rw [HN.out]; rfl) | rw [HN.out], hB⟩
  | false =>
    obtain rfl : x = a := by rw [HXA.out, if_neg (of_decide_eq_false hq)]
    have HP1 := Lib.hid (HP.out false hq)
    clear HP HU hq HXA
    by_cases hxe : x = []
    · have hem := empty_yes hxe
      have HR := Lib.hid (show (secL x).getD c = c by rw [HSE.out, if_pos hxe]; rfl)
      have hd : (strB x).toList = [] := by rw [ByteArray.toList_eq, strB_list, hxe]
      clear hxe
      go_enter Tryz.func84, Tryz.ntmps84
      go_wp2_with fail
      refine (Tryz.strings_HasPrefix _ _ _).mono ?_
      rintro e w' ⟨rfl, rfl⟩
      rw [HP1.out]
      go_wp2_with fail
      go_ret
      exact ⟨by first | (rw [HR.out]; rfl) | rw [HR.out], Below.refl _ _⟩
    · have hem := empty_no hxe
      have HR := Lib.hid (show secL x = numA x 0 by rw [HSE.out, if_neg hxe])
      have hd : ¬ (strB x).toList = [] := by rw [ByteArray.toList_eq, strB_list]; exact hxe
      clear hxe
      go_enter Tryz.func84, Tryz.ntmps84
      go_wp2_with fail
      refine (Tryz.strings_HasPrefix _ _ _).mono ?_
      rintro e w' ⟨rfl, rfl⟩
      rw [HP1.out]
      go_wp2_with fail
      go_loop [5, 6] (fun n i => SecRel x n i) (fun _ i => x.length - (intOf i).toNat)
      case atStart => exact ⟨0, 0, rfl, Nat.zero_le _, rfl, by omega, by omega, rfl⟩
      case round =>
        obtain ⟨k, m, rfl, hk, rfl, hm0, hm1, hrel⟩ := hrel
        have HREL := Lib.hid hrel
        clear hrel
        by_cases hlt : k < x.length
        · have hg : (strB x)[k]'(by omega) = x[k] := rfl
          by_cases hdg : digB x[k] = true
          · have hdd : 48 ≤ x[k].toNat ∧ x[k].toNat ≤ 57 := by simpa [digB] using hdg
            have HN := Lib.hid (HREL.out.symm.trans ((num_drop hlt m).trans (if_pos hdd)))
            go_wp2_with (go_at_call 106; refine (isDigit_any _ _).mono ?_; rintro e w' ⟨rfl, rfl⟩)
            go_round
            case rel => exact ⟨k + 1, min (10 * m + ((x[k].toNat : Int) - 48)) 2147483647, by go_num, by omega, rfl, by omega, by omega, HN.out.symm⟩
            case measure => simp [intOf]; omega
          · have hdd : ¬ (48 ≤ x[k].toNat ∧ x[k].toNat ≤ 57) := by simpa [digB] using hdg
            have hdf : digB x[k] = false := by simpa using hdg
            have HN := Lib.hid (show (secL x).getD c = c by rw [HR.out, ← HREL.out, num_drop hlt m, if_neg hdd]; rfl)
            clear hdg hdd
            go_wp2_with (go_at_call 106; refine (isDigit_any _ _).mono ?_; rintro e w' ⟨rfl, rfl⟩)
            go_ret
            exact ⟨by first | (rw [HN.out]; rfl) | rw [HN.out], Below.refl _ _⟩
        · have HN := Lib.hid (show (secL x).getD c = m by rw [HR.out, ← HREL.out, List.drop_eq_nil_of_le (by omega)]; rfl)
          go_wp2
          go_ret
          exact ⟨by first | (rw [HN.out]; rfl) | rw [HN.out], Below.refl _ _⟩
end Go.Proofs.YtinbdflkpbjmcaaGreatDoor

/- What the contracts of Cut ask of a world: MaxLen is an int. -/
namespace Go.Proofs.YtinbdflkpbjmcaaGreatDoor
open Go.RowKit

/-- MaxLen is an int. -/
def MaxIs (w : World) : Prop := ∃ m, w.cell? ⟨3, 0, none⟩ = some (.int .i64 m)
theorem MaxIs.below {w w' : World} (h : MaxIs w) (hb : Below w.heap.size w w') : MaxIs w' := by
  obtain ⟨m, hm⟩ := h
  exact ⟨m, (hb.cell (p := ⟨3, 0, none⟩) (World.block_lt_of_cell? _ _ hm)).trans hm⟩
theorem MaxIs.alloc {w : World} (h : MaxIs w) (o : Obj) : MaxIs (w.alloc o) := h.below (below_new w o)
theorem MaxIs.drewN {w : World} (h : MaxIs w) (n : Nat) : MaxIs (w.drewN n) := h.below (below_drewN (Below.refl _ _) n)
end Go.Proofs.YtinbdflkpbjmcaaGreatDoor

/- What add does to directives: an element of a list. -/
namespace Go.Proofs.YtinbdflkpbjmcaaGreatDoor
open Go.RowKit

theorem sw_any (m x : List UInt8) : ((strB m).toList == x) = decide (m = x) := by
  rw [ByteArray.toList_eq, strB_list]
  by_cases h : m = x
  · subst h; simp
  · simp [h]
/-- What Cut makes of an element: name, argument, whether there is one. -/
def CutD (e nm ar : List UInt8) (fd : Bool) : Prop :=
  nm.length ≤ e.length ∧ ar.length ≤ e.length ∧ (∀ d, elemD d e = putD d (lowS nm) (if fd = true then some ar else none)) ∧ (fd = false → ar = []) ∧
  ∀ w, MaxIs w → Calls Tryz.prog 82 #[.string (strB e), .string ⟨#[61]⟩] w fun en w' => en = .returned (.tuple #[.string (strB nm), .string (strB ar), .bool fd]) ∧ Below w.heap.size w w'
theorem cutD_ex (e : List UInt8) (he : e.length ≤ 1000000) : ∃ nm ar fd, CutD e nm ar fd := by
  cases hc : cutE e with
  | none =>
    refine ⟨e, [], false, Nat.le_refl _, by simp, fun d => ?_, fun _ => rfl, fun w hM => ?_⟩
    · unfold elemD; rw [hc]; rfl
    · obtain ⟨m, hm⟩ := hM
      refine (cutNone_any (strB e) m w (by rw [strB_size]; exact he) hm (by rw [strB_list]; exact hc)).mono ?_
      rintro en w' ⟨rfl, n, rfl⟩
      exact ⟨rfl, below_drewN (Below.refl _ _) n⟩
  | some p =>
    obtain ⟨a, b⟩ := p
    have hl := cutE_len hc
    refine ⟨a, b, true, by omega, by omega, fun d => ?_, (fun h => by cases h), fun w hM => ?_⟩
    · unfold elemD; rw [hc]; rfl
    · obtain ⟨m, hm⟩ := hM
      refine (cutSome_any (strB e) m w (by rw [strB_size]; exact he) hm (by rw [strB_list]; exact hc)).mono ?_
      rintro en w' ⟨rfl, n, rfl⟩
      exact ⟨rfl, below_drewN (Below.refl _ _) n⟩
theorem sec_none (c : Int) : (secL []).getD c = c := rfl
theorem argX_of {ar : List UInt8} {fd : Bool} (h : fd = false → ar = []) : argX (if fd = true then some ar else none) = (secL ar).getD 0 := by
  cases fd
  · rw [h rfl]; rfl
  · rfl
theorem argZ_of {ar : List UInt8} {fd : Bool} (h : fd = false → ar = []) : argZ (if fd = true then some ar else none) = (secL ar).getD 2147483647 := by
  cases fd
  · rw [h rfl]; rfl
  · rfl
theorem kind_big {m : List UInt8} (h0 : m ≠ nNS) (h1 : m ≠ nNC) (h2 : m ≠ nPR) (h3 : m ≠ nPU) (h4 : m ≠ nMR) (h5 : m ≠ nPX) (h6 : m ≠ nOC) (h7 : m ≠ nMA) (h8 : m ≠ nSA) (h9 : m ≠ nWS) (h10 : m ≠ nOE) (h11 : m ≠ nMS) (h12 : m ≠ nMF) : kindL m = 12 := by
  unfold kindL
  rw [if_neg h0, if_neg h1, if_neg h2, if_neg h3, if_neg h4, if_neg h5, if_neg h6, if_neg h7, if_neg h8, if_neg h9, if_neg h10, if_neg h11, if_neg h12]
def AddPost (N : Nat) (d : Dv) (w : World) (e : Ending) (w' : World) : Prop := e = .returned (.tuple #[]) ∧ DvB N w' d ∧ Only (· = N) w w'
/-- The world behind Cut and Lower, with the directives' cells. -/
theorem only_set {N : Nat} {w w1 : World} (h : Below w.heap.size w w1) (i : Nat) (v : Value) : Only (· = N) w (w1.setCell ⟨N, i, none⟩ v) :=
  (Only.below h).trans' (Only.set (X := (· = N)) rfl _ i v)
set_option maxHeartbeats 8000000 in
set_option maxRecDepth 100000 in
theorem add_nNS (N : Nat) (d : Dv) (e nm ar m : List UInt8) (fd : Bool) (w : World) (hC : CutD e nm ar fd) (hm : lowS nm = m) (h0 : m = nNS) (hD : DvB N w d) (_hN : Nor d) (hM : MaxIs w) (he : e.length ≤ 1000000) :
    Calls Tryz.prog 59 #[.pointer (some ⟨N, 0, none⟩), .string (strB e)] w fun en w' => AddPost N (elemD d e) w en w' := by
  obtain ⟨hl1, hl2, hel, hfd, hcc⟩ := hC
  have HC := Lib.hid hcc
  have HM := Lib.hid hM
  have HD := Lib.hid hD
  have hel1 := hel d
  rw [hm] at hel1
  have HL := Lib.hid (fun w => lower_any (strB nm) w (by rw [strB_size]; omega))
  rw [strB_list, hm] at HL
  have s0 : ((strB m).toList == [110, 111, 45, 115, 116, 111, 114, 101]) = true := by rw [sw_any]; exact decide_eq_true h0
  have hk : kindL m = 0 := by rw [h0]; decide
  have HE := Lib.hid (show elemD d e = { d with ns := true } by rw [hel1]; unfold putD; rw [hk]; rfl)
  clear hel1 hel hcc hM hD hm h0 hk
  clear _hN
  go_enter Tryz.func59, Tryz.ntmps59
  go_wp2_with fail
  refine (HC.out _ HM.out).mono ?_
  rintro en w0 ⟨rfl, hB0⟩
  have HB0 := Lib.hid hB0
  clear hB0
  go_wp2_with fail
  refine (HL.out _).mono ?_
  rintro en w1 ⟨rfl, hB1⟩
  have HB1 := Lib.hid (HB0.out.trans (hB1.mono HB0.out.size))
  have HD1 := Lib.hid (HD.out.below HB1.out)
  clear hB1
  obtain ⟨a0, a1, a2, a3, a4, a5, a6, a7, a8, a9, a10, a11, fa, la⟩ := HD1.out
  have fj := fa 0
  clear a1 a2 a3 a4 a5 a6 a7 a8 a9 a10 a11
  go_wp2_with fail
  go_end0
  exact ⟨rfl, by rw [HE.out]; exact HD1.out.set0 true, only_set HB1.out 0 _⟩
set_option maxHeartbeats 8000000 in
set_option maxRecDepth 100000 in
theorem add_nNC (N : Nat) (d : Dv) (e nm ar m : List UInt8) (fd : Bool) (w : World) (hC : CutD e nm ar fd) (hm : lowS nm = m) (h0 : m ≠ nNS) (h1 : m = nNC) (hD : DvB N w d) (_hN : Nor d) (hM : MaxIs w) (he : e.length ≤ 1000000) :
    Calls Tryz.prog 59 #[.pointer (some ⟨N, 0, none⟩), .string (strB e)] w fun en w' => AddPost N (elemD d e) w en w' := by
  obtain ⟨hl1, hl2, hel, hfd, hcc⟩ := hC
  have HC := Lib.hid hcc
  have HM := Lib.hid hM
  have HD := Lib.hid hD
  have hel1 := hel d
  rw [hm] at hel1
  have HL := Lib.hid (fun w => lower_any (strB nm) w (by rw [strB_size]; omega))
  rw [strB_list, hm] at HL
  have s0 : ((strB m).toList == [110, 111, 45, 115, 116, 111, 114, 101]) = false := by rw [sw_any]; exact decide_eq_false h0
  have s1 : ((strB m).toList == [110, 111, 45, 99, 97, 99, 104, 101]) = true := by rw [sw_any]; exact decide_eq_true h1
  have hk : kindL m = 1 := by rw [h1]; decide
  have HE := Lib.hid (show elemD d e = { d with nc := true } by rw [hel1]; unfold putD; rw [hk]; rfl)
  clear hel1 hel hcc hM hD hm h0 h1 hk
  clear _hN
  go_enter Tryz.func59, Tryz.ntmps59
  go_wp2_with fail
  refine (HC.out _ HM.out).mono ?_
  rintro en w0 ⟨rfl, hB0⟩
  have HB0 := Lib.hid hB0
  clear hB0
  go_wp2_with fail
  refine (HL.out _).mono ?_
  rintro en w1 ⟨rfl, hB1⟩
  have HB1 := Lib.hid (HB0.out.trans (hB1.mono HB0.out.size))
  have HD1 := Lib.hid (HD.out.below HB1.out)
  clear hB1
  obtain ⟨a0, a1, a2, a3, a4, a5, a6, a7, a8, a9, a10, a11, fa, la⟩ := HD1.out
  have fj := fa 1
  clear a0 a2 a3 a4 a5 a6 a7 a8 a9 a10 a11
  go_wp2_with fail
  go_end0
  exact ⟨rfl, by rw [HE.out]; exact HD1.out.set1 true, only_set HB1.out 1 _⟩
set_option maxHeartbeats 8000000 in
set_option maxRecDepth 100000 in
theorem add_nPR (N : Nat) (d : Dv) (e nm ar m : List UInt8) (fd : Bool) (w : World) (hC : CutD e nm ar fd) (hm : lowS nm = m) (h0 : m ≠ nNS) (h1 : m ≠ nNC) (h2 : m = nPR) (hD : DvB N w d) (_hN : Nor d) (hM : MaxIs w) (he : e.length ≤ 1000000) :
    Calls Tryz.prog 59 #[.pointer (some ⟨N, 0, none⟩), .string (strB e)] w fun en w' => AddPost N (elemD d e) w en w' := by
  obtain ⟨hl1, hl2, hel, hfd, hcc⟩ := hC
  have HC := Lib.hid hcc
  have HM := Lib.hid hM
  have HD := Lib.hid hD
  have hel1 := hel d
  rw [hm] at hel1
  have HL := Lib.hid (fun w => lower_any (strB nm) w (by rw [strB_size]; omega))
  rw [strB_list, hm] at HL
  have s0 : ((strB m).toList == [110, 111, 45, 115, 116, 111, 114, 101]) = false := by rw [sw_any]; exact decide_eq_false h0
  have s1 : ((strB m).toList == [110, 111, 45, 99, 97, 99, 104, 101]) = false := by rw [sw_any]; exact decide_eq_false h1
  have s2 : ((strB m).toList == [112, 114, 105, 118, 97, 116, 101]) = true := by rw [sw_any]; exact decide_eq_true h2
  have hk : kindL m = 2 := by rw [h2]; decide
  have HE := Lib.hid (show elemD d e = { d with pr := true } by rw [hel1]; unfold putD; rw [hk]; rfl)
  clear hel1 hel hcc hM hD hm h0 h1 h2 hk
  clear _hN
  go_enter Tryz.func59, Tryz.ntmps59
  go_wp2_with fail
  refine (HC.out _ HM.out).mono ?_
  rintro en w0 ⟨rfl, hB0⟩
  have HB0 := Lib.hid hB0
  clear hB0
  go_wp2_with fail
  refine (HL.out _).mono ?_
  rintro en w1 ⟨rfl, hB1⟩
  have HB1 := Lib.hid (HB0.out.trans (hB1.mono HB0.out.size))
  have HD1 := Lib.hid (HD.out.below HB1.out)
  clear hB1
  obtain ⟨a0, a1, a2, a3, a4, a5, a6, a7, a8, a9, a10, a11, fa, la⟩ := HD1.out
  have fj := fa 2
  clear a0 a1 a3 a4 a5 a6 a7 a8 a9 a10 a11
  go_wp2_with fail
  go_end0
  exact ⟨rfl, by rw [HE.out]; exact HD1.out.set2 true, only_set HB1.out 2 _⟩
set_option maxHeartbeats 8000000 in
set_option maxRecDepth 100000 in
theorem add_nPU (N : Nat) (d : Dv) (e nm ar m : List UInt8) (fd : Bool) (w : World) (hC : CutD e nm ar fd) (hm : lowS nm = m) (h0 : m ≠ nNS) (h1 : m ≠ nNC) (h2 : m ≠ nPR) (h3 : m = nPU) (hD : DvB N w d) (_hN : Nor d) (hM : MaxIs w) (he : e.length ≤ 1000000) :
    Calls Tryz.prog 59 #[.pointer (some ⟨N, 0, none⟩), .string (strB e)] w fun en w' => AddPost N (elemD d e) w en w' := by
  obtain ⟨hl1, hl2, hel, hfd, hcc⟩ := hC
  have HC := Lib.hid hcc
  have HM := Lib.hid hM
  have HD := Lib.hid hD
  have hel1 := hel d
  rw [hm] at hel1
  have HL := Lib.hid (fun w => lower_any (strB nm) w (by rw [strB_size]; omega))
  rw [strB_list, hm] at HL
  have s0 : ((strB m).toList == [110, 111, 45, 115, 116, 111, 114, 101]) = false := by rw [sw_any]; exact decide_eq_false h0
  have s1 : ((strB m).toList == [110, 111, 45, 99, 97, 99, 104, 101]) = false := by rw [sw_any]; exact decide_eq_false h1
  have s2 : ((strB m).toList == [112, 114, 105, 118, 97, 116, 101]) = false := by rw [sw_any]; exact decide_eq_false h2
  have s3 : ((strB m).toList == [112, 117, 98, 108, 105, 99]) = true := by rw [sw_any]; exact decide_eq_true h3
  have hk : kindL m = 3 := by rw [h3]; decide
  have HE := Lib.hid (show elemD d e = { d with pu := true } by rw [hel1]; unfold putD; rw [hk]; rfl)
  clear hel1 hel hcc hM hD hm h0 h1 h2 h3 hk
  clear _hN
  go_enter Tryz.func59, Tryz.ntmps59
  go_wp2_with fail
  refine (HC.out _ HM.out).mono ?_
  rintro en w0 ⟨rfl, hB0⟩
  have HB0 := Lib.hid hB0
  clear hB0
  go_wp2_with fail
  refine (HL.out _).mono ?_
  rintro en w1 ⟨rfl, hB1⟩
  have HB1 := Lib.hid (HB0.out.trans (hB1.mono HB0.out.size))
  have HD1 := Lib.hid (HD.out.below HB1.out)
  clear hB1
  obtain ⟨a0, a1, a2, a3, a4, a5, a6, a7, a8, a9, a10, a11, fa, la⟩ := HD1.out
  have fj := fa 3
  clear a0 a1 a2 a4 a5 a6 a7 a8 a9 a10 a11
  go_wp2_with fail
  go_end0
  exact ⟨rfl, by rw [HE.out]; exact HD1.out.set3 true, only_set HB1.out 3 _⟩
set_option maxHeartbeats 8000000 in
set_option maxRecDepth 100000 in
theorem add_nMR (N : Nat) (d : Dv) (e nm ar m : List UInt8) (fd : Bool) (w : World) (hC : CutD e nm ar fd) (hm : lowS nm = m) (h0 : m ≠ nNS) (h1 : m ≠ nNC) (h2 : m ≠ nPR) (h3 : m ≠ nPU) (h4 : m = nMR) (hD : DvB N w d) (_hN : Nor d) (hM : MaxIs w) (he : e.length ≤ 1000000) :
    Calls Tryz.prog 59 #[.pointer (some ⟨N, 0, none⟩), .string (strB e)] w fun en w' => AddPost N (elemD d e) w en w' := by
  obtain ⟨hl1, hl2, hel, hfd, hcc⟩ := hC
  have HC := Lib.hid hcc
  have HM := Lib.hid hM
  have HD := Lib.hid hD
  have hel1 := hel d
  rw [hm] at hel1
  have HL := Lib.hid (fun w => lower_any (strB nm) w (by rw [strB_size]; omega))
  rw [strB_list, hm] at HL
  have s0 : ((strB m).toList == [110, 111, 45, 115, 116, 111, 114, 101]) = false := by rw [sw_any]; exact decide_eq_false h0
  have s1 : ((strB m).toList == [110, 111, 45, 99, 97, 99, 104, 101]) = false := by rw [sw_any]; exact decide_eq_false h1
  have s2 : ((strB m).toList == [112, 114, 105, 118, 97, 116, 101]) = false := by rw [sw_any]; exact decide_eq_false h2
  have s3 : ((strB m).toList == [112, 117, 98, 108, 105, 99]) = false := by rw [sw_any]; exact decide_eq_false h3
  have s4 : ((strB m).toList == [109, 117, 115, 116, 45, 114, 101, 118, 97, 108, 105, 100, 97, 116, 101]) = true := by rw [sw_any]; exact decide_eq_true h4
  have hk : kindL m = 4 := by rw [h4]; decide
  have HE := Lib.hid (show elemD d e = { d with mr := true } by rw [hel1]; unfold putD; rw [hk]; rfl)
  clear hel1 hel hcc hM hD hm h0 h1 h2 h3 h4 hk
  clear _hN
  go_enter Tryz.func59, Tryz.ntmps59
  go_wp2_with fail
  refine (HC.out _ HM.out).mono ?_
  rintro en w0 ⟨rfl, hB0⟩
  have HB0 := Lib.hid hB0
  clear hB0
  go_wp2_with fail
  refine (HL.out _).mono ?_
  rintro en w1 ⟨rfl, hB1⟩
  have HB1 := Lib.hid (HB0.out.trans (hB1.mono HB0.out.size))
  have HD1 := Lib.hid (HD.out.below HB1.out)
  clear hB1
  obtain ⟨a0, a1, a2, a3, a4, a5, a6, a7, a8, a9, a10, a11, fa, la⟩ := HD1.out
  have fj := fa 4
  clear a0 a1 a2 a3 a5 a6 a7 a8 a9 a10 a11
  go_wp2_with fail
  go_end0
  exact ⟨rfl, by rw [HE.out]; exact HD1.out.set4 true, only_set HB1.out 4 _⟩
set_option maxHeartbeats 8000000 in
set_option maxRecDepth 100000 in
theorem add_nPX (N : Nat) (d : Dv) (e nm ar m : List UInt8) (fd : Bool) (w : World) (hC : CutD e nm ar fd) (hm : lowS nm = m) (h0 : m ≠ nNS) (h1 : m ≠ nNC) (h2 : m ≠ nPR) (h3 : m ≠ nPU) (h4 : m ≠ nMR) (h5 : m = nPX) (hD : DvB N w d) (_hN : Nor d) (hM : MaxIs w) (he : e.length ≤ 1000000) :
    Calls Tryz.prog 59 #[.pointer (some ⟨N, 0, none⟩), .string (strB e)] w fun en w' => AddPost N (elemD d e) w en w' := by
  obtain ⟨hl1, hl2, hel, hfd, hcc⟩ := hC
  have HC := Lib.hid hcc
  have HM := Lib.hid hM
  have HD := Lib.hid hD
  have hel1 := hel d
  rw [hm] at hel1
  have HL := Lib.hid (fun w => lower_any (strB nm) w (by rw [strB_size]; omega))
  rw [strB_list, hm] at HL
  have s0 : ((strB m).toList == [110, 111, 45, 115, 116, 111, 114, 101]) = false := by rw [sw_any]; exact decide_eq_false h0
  have s1 : ((strB m).toList == [110, 111, 45, 99, 97, 99, 104, 101]) = false := by rw [sw_any]; exact decide_eq_false h1
  have s2 : ((strB m).toList == [112, 114, 105, 118, 97, 116, 101]) = false := by rw [sw_any]; exact decide_eq_false h2
  have s3 : ((strB m).toList == [112, 117, 98, 108, 105, 99]) = false := by rw [sw_any]; exact decide_eq_false h3
  have s4 : ((strB m).toList == [109, 117, 115, 116, 45, 114, 101, 118, 97, 108, 105, 100, 97, 116, 101]) = false := by rw [sw_any]; exact decide_eq_false h4
  have s5 : ((strB m).toList == [112, 114, 111, 120, 121, 45, 114, 101, 118, 97, 108, 105, 100, 97, 116, 101]) = true := by rw [sw_any]; exact decide_eq_true h5
  have hk : kindL m = 4 := by rw [h5]; decide
  have HE := Lib.hid (show elemD d e = { d with mr := true } by rw [hel1]; unfold putD; rw [hk]; rfl)
  clear hel1 hel hcc hM hD hm h0 h1 h2 h3 h4 h5 hk
  clear _hN
  go_enter Tryz.func59, Tryz.ntmps59
  go_wp2_with fail
  refine (HC.out _ HM.out).mono ?_
  rintro en w0 ⟨rfl, hB0⟩
  have HB0 := Lib.hid hB0
  clear hB0
  go_wp2_with fail
  refine (HL.out _).mono ?_
  rintro en w1 ⟨rfl, hB1⟩
  have HB1 := Lib.hid (HB0.out.trans (hB1.mono HB0.out.size))
  have HD1 := Lib.hid (HD.out.below HB1.out)
  clear hB1
  obtain ⟨a0, a1, a2, a3, a4, a5, a6, a7, a8, a9, a10, a11, fa, la⟩ := HD1.out
  have fj := fa 4
  clear a0 a1 a2 a3 a5 a6 a7 a8 a9 a10 a11
  go_wp2_with fail
  go_end0
  exact ⟨rfl, by rw [HE.out]; exact HD1.out.set4 true, only_set HB1.out 4 _⟩
set_option maxHeartbeats 8000000 in
set_option maxRecDepth 100000 in
theorem add_nOC (N : Nat) (d : Dv) (e nm ar m : List UInt8) (fd : Bool) (w : World) (hC : CutD e nm ar fd) (hm : lowS nm = m) (h0 : m ≠ nNS) (h1 : m ≠ nNC) (h2 : m ≠ nPR) (h3 : m ≠ nPU) (h4 : m ≠ nMR) (h5 : m ≠ nPX) (h6 : m = nOC) (hD : DvB N w d) (_hN : Nor d) (hM : MaxIs w) (he : e.length ≤ 1000000) :
    Calls Tryz.prog 59 #[.pointer (some ⟨N, 0, none⟩), .string (strB e)] w fun en w' => AddPost N (elemD d e) w en w' := by
  obtain ⟨hl1, hl2, hel, hfd, hcc⟩ := hC
  have HC := Lib.hid hcc
  have HM := Lib.hid hM
  have HD := Lib.hid hD
  have hel1 := hel d
  rw [hm] at hel1
  have HL := Lib.hid (fun w => lower_any (strB nm) w (by rw [strB_size]; omega))
  rw [strB_list, hm] at HL
  have s0 : ((strB m).toList == [110, 111, 45, 115, 116, 111, 114, 101]) = false := by rw [sw_any]; exact decide_eq_false h0
  have s1 : ((strB m).toList == [110, 111, 45, 99, 97, 99, 104, 101]) = false := by rw [sw_any]; exact decide_eq_false h1
  have s2 : ((strB m).toList == [112, 114, 105, 118, 97, 116, 101]) = false := by rw [sw_any]; exact decide_eq_false h2
  have s3 : ((strB m).toList == [112, 117, 98, 108, 105, 99]) = false := by rw [sw_any]; exact decide_eq_false h3
  have s4 : ((strB m).toList == [109, 117, 115, 116, 45, 114, 101, 118, 97, 108, 105, 100, 97, 116, 101]) = false := by rw [sw_any]; exact decide_eq_false h4
  have s5 : ((strB m).toList == [112, 114, 111, 120, 121, 45, 114, 101, 118, 97, 108, 105, 100, 97, 116, 101]) = false := by rw [sw_any]; exact decide_eq_false h5
  have s6 : ((strB m).toList == [111, 110, 108, 121, 45, 105, 102, 45, 99, 97, 99, 104, 101, 100]) = true := by rw [sw_any]; exact decide_eq_true h6
  have hk : kindL m = 5 := by rw [h6]; decide
  have HE := Lib.hid (show elemD d e = { d with oc := true } by rw [hel1]; unfold putD; rw [hk]; rfl)
  clear hel1 hel hcc hM hD hm h0 h1 h2 h3 h4 h5 h6 hk
  clear _hN
  go_enter Tryz.func59, Tryz.ntmps59
  go_wp2_with fail
  refine (HC.out _ HM.out).mono ?_
  rintro en w0 ⟨rfl, hB0⟩
  have HB0 := Lib.hid hB0
  clear hB0
  go_wp2_with fail
  refine (HL.out _).mono ?_
  rintro en w1 ⟨rfl, hB1⟩
  have HB1 := Lib.hid (HB0.out.trans (hB1.mono HB0.out.size))
  have HD1 := Lib.hid (HD.out.below HB1.out)
  clear hB1
  obtain ⟨a0, a1, a2, a3, a4, a5, a6, a7, a8, a9, a10, a11, fa, la⟩ := HD1.out
  have fj := fa 5
  clear a0 a1 a2 a3 a4 a6 a7 a8 a9 a10 a11
  go_wp2_with fail
  go_end0
  exact ⟨rfl, by rw [HE.out]; exact HD1.out.set5 true, only_set HB1.out 5 _⟩
end Go.Proofs.YtinbdflkpbjmcaaGreatDoor
