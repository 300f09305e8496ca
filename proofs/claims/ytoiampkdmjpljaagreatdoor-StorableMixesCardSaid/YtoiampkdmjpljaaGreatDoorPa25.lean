import Derived.Test.YtoiampkdmjpljaaGreatDoorPa24
import Derived.Test.YtoiampkdmjpljaaGreatDoorPa9
import Derived.Test.YtoiampkdmjpljaaGreatDoorPa7
import Derived.Deep.QuietTactic
import Derived.BigQuiet
import Derived.Test.YtoiampkdmjpljaaGreatDoorPa23
/- What isText, cutTag, ReadTag, WriteTag, Strong and Weak return. -/
namespace Go.Proofs.YtoiampkdmjpljaaGreatDoor
open Go.RowKit

theorem txtC_iff (c : UInt8) : txtC c = false ↔ c.toNat ≤ 32 ∨ c.toNat = 34 ∨ c.toNat = 127 := by
  have h34 : (c != 34) = !decide (c.toNat = 34) := by
    by_cases h : c = 34
    · subst h; rfl
    · have : c.toNat ≠ 34 := fun e => h (UInt8.toNat_inj.mp e)
      rw [decide_eq_false this]; simpa using h
  have h127 : (c != 127) = !decide (c.toNat = 127) := by
    by_cases h : c = 127
    · subst h; rfl
    · have : c.toNat ≠ 127 := fun e => h (UInt8.toNat_inj.mp e)
      rw [decide_eq_false this]; simpa using h
  unfold txtC
  rw [h34, h127]
  by_cases a : 32 < c.toNat <;> by_cases b : c.toNat = 34 <;> by_cases d : c.toNat = 127 <;> simp [a, b, d] <;> omega
theorem txt_step {s : ByteArray} {k : Nat} (hk : k < s.size) (h : txtB (s.data.toList.take k) = true) (hc : txtC s[k] = true) : txtB (s.data.toList.take (k + 1)) = true := by
  unfold txtB at *
  rw [take_snoc s k hk, List.all_append, h]; simp [hc]
theorem txt_bad {s : ByteArray} {k : Nat} (hk : k < s.size) (hc : txtC s[k] = false) : txtB s.data.toList = false := by
  unfold txtB
  rw [List.all_eq_false]
  exact ⟨s[k], get_mem s k hk, by rw [hc]; decide⟩
theorem txt_all {s : ByteArray} {k : Nat} (hk : s.size ≤ k) (h : txtB (s.data.toList.take k) = true) : txtB s.data.toList = true := by
  rw [take_all s k hk] at h; exact h
set_option maxHeartbeats 2000000 in
set_option maxRecDepth 100000 in
theorem isText_any (s : ByteArray) (w : World) (hs : s.size ≤ 4611686018427387904) :
    Calls Tryz.prog 140 #[.string s] w fun e w' => e = .returned (.bool (txtB s.data.toList)) ∧ w = w' := by
  go_enter Tryz.func140, Tryz.ntmps140
  go_wp2
  go_loop [3] (fun i => ∃ k : Nat, k ≤ s.size ∧ i = .int .i64 k ∧ txtB (s.data.toList.take k) = true) (fun i => s.size - (intOf i).toNat)
  case atStart => exact ⟨0, by omega, rfl, by simp [txtB]⟩
  case round =>
    obtain ⟨k, hk, rfl, hn⟩ := hrel
    have HN := Lib.hid hn
    clear hn
    by_cases hlt : k < s.size
    · by_cases c1 : s[k].toNat ≤ 32
      · have HR := Lib.hid (txt_bad hlt ((txtC_iff _).mpr (.inl c1)))
        have hc1 : (s[k].toNat : Int) ≤ 32 := by omega
        go_wp2
        go_ret
        exact ⟨by first | (rw [HR.out]; rfl) | rw [HR.out], rfl⟩
      · have hc1 : ¬ (s[k].toNat : Int) ≤ 32 := by omega
        by_cases c2 : s[k].toNat = 34
        · have HR := Lib.hid (txt_bad hlt ((txtC_iff _).mpr (.inr (.inl c2))))
          have hc2 : ((s[k].toNat : Int) == 34) = true := by simp; omega
          go_wp2
          go_ret
          exact ⟨by first | (rw [HR.out]; rfl) | rw [HR.out], rfl⟩
        · have hc2 : ((s[k].toNat : Int) == 34) = false := by simp; omega
          by_cases c3 : s[k].toNat = 127
          · have HR := Lib.hid (txt_bad hlt ((txtC_iff _).mpr (.inr (.inr c3))))
            have hc3 : ((s[k].toNat : Int) == 127) = true := by simp; omega
            go_wp2
            go_ret
            exact ⟨by first | (rw [HR.out]; rfl) | rw [HR.out], rfl⟩
          · have hc3 : ((s[k].toNat : Int) == 127) = false := by simp; omega
            have HT := Lib.hid (txt_step hlt HN.out (by
              cases hx : txtC s[k] with
              | true => rfl
              | false => rcases (txtC_iff _).mp hx with h | h | h <;> omega))
            go_wp2
            go_round
            case rel => exact ⟨k + 1, by omega, by go_num, HT.out⟩
            case measure => simp [intOf]; omega
    · have HR := Lib.hid (txt_all (by omega) HN.out)
      go_wp2
      go_ret
      exact ⟨by first | (rw [HR.out]; rfl) | rw [HR.out], rfl⟩

/-- A block of a tag's two cells. -/
def TwoT (N : Nat) (w : World) (x : Bool) (y : List UInt8) : Prop :=
  w.cell? ⟨N, 0, none⟩ = some (.bool x) ∧ w.cell? ⟨N, 1, none⟩ = some (.string (strB y)) ∧ w.frozen? ⟨N, 0, none⟩ = false ∧ w.frozen? ⟨N, 1, none⟩ = false ∧ N < w.heap.size
theorem TwoT.below {N : Nat} {w w' : World} {x : Bool} {y : List UInt8} (h : TwoT N w x y) (hb : Below w.heap.size w w') : TwoT N w' x y := by
  obtain ⟨h1, h2, h3, h4, h5⟩ := h
  exact ⟨(hb.cell (p := ⟨N, 0, none⟩) h5).trans h1, (hb.cell (p := ⟨N, 1, none⟩) h5).trans h2, (hb.frozen (p := ⟨N, 0, none⟩) h5).trans h3, (hb.frozen (p := ⟨N, 1, none⟩) h5).trans h4, Nat.lt_of_lt_of_le h5 hb.size⟩
theorem twoT_new (w : World) (x : Bool) (y : List UInt8) (T : TypeId) : TwoT w.heap.size (w.alloc (.cells #[.bool x, .string (strB y)] T)) x y :=
  ⟨by rw [World.cell?_alloc_at _ _ _ _ rfl]; rfl, by rw [World.cell?_alloc_at _ _ _ _ rfl]; rfl, World.frozen?_alloc_new _ _ _ _, World.frozen?_alloc_new _ _ _ _, by simp⟩
theorem twoT_zero (w : World) (T : TypeId) : TwoT w.heap.size (w.alloc (.cells #[.bool false, .string ByteArray.empty] T)) false [] := twoT_new w false [] T
theorem TwoT.drewN {N : Nat} {w : World} {x : Bool} {y : List UInt8} (h : TwoT N w x y) (n : Nat) : TwoT N (w.drewN n) x y := h.below (below_drewN (Below.refl _ _) n)
theorem below_twoT {B N : Nat} {w w1 : World} (h : Below B w w1) (hN : B ≤ N) (x y : Value) : Below B w ((w1.setCell ⟨N, 0, none⟩ x).setCell ⟨N, 1, none⟩ y) :=
  (h.setCell (p := ⟨N, 0, none⟩) hN _).setCell (p := ⟨N, 1, none⟩) hN _
theorem TwoT.set {N : Nat} {w : World} {x : Bool} {y : List UInt8} (h : TwoT N w x y) (a : Bool) (b : List UInt8) : TwoT N ((w.setCell ⟨N, 0, none⟩ (.bool a)).setCell ⟨N, 1, none⟩ (.string (strB b))) a b := by
  obtain ⟨a0, a1, f0, f1, hB⟩ := h
  have ne : ∀ i j : Nat, i ≠ j → (⟨N, i, none⟩ : Addr) ≠ ⟨N, j, none⟩ := fun i j h e => h (by injection e)
  refine ⟨?_, ?_, by simpa using f0, by simpa using f1, by simpa using hB⟩
  all_goals simp [go_sem, a0, a1]
end Go.Proofs.YtoiampkdmjpljaaGreatDoor

/- What cutTag, ReadTag and WriteTag return. -/
namespace Go.Proofs.YtoiampkdmjpljaaGreatDoor
open Go.RowKit

abbrev errY : Value := .iface 49 (.int .i64 2)
def cutV : Option (Tg × List UInt8) → Value
  | none => .tuple #[tgV (false, []), strV [], errY]
  | some (t, r) => .tuple #[tgV t, strV r, .nilIface]
def tgO : Option Tg → Value
  | none => .tuple #[tgV (false, []), errY]
  | some t => .tuple #[tgV t, .nilIface]
def texO (t : Tg) : Value := if txtB t.2 = true then .tuple #[strV (texL t), .nilIface] else .tuple #[strV [], errY]
theorem cutW_any (l : List UInt8) (w : World) : Calls Tryz.prog 139 #[.string (strB l), .string ⟨#[87, 47]⟩] w fun e w' => e = .returned (.tuple #[.string (strB (unwL l)), .bool (wkL l)]) ∧ w = w' := by
  refine (cutPre_any (strB l) ⟨#[87, 47]⟩ w (b := wkL l) (by rw [strB_list]; rfl)).mono ?_
  rintro e w' ⟨rfl, rfl⟩
  rw [strB_list]
  exact ⟨rfl, rfl⟩
theorem cutQ_any (l : List UInt8) (w : World) : Calls Tryz.prog 139 #[.string (strB l), .string ⟨#[34]⟩] w fun e w' => e = .returned (.tuple #[.string (strB (unqL l)), .bool (qtL l)]) ∧ w = w' := by
  refine (cutPre_any (strB l) ⟨#[34]⟩ w (b := qtL l) (by rw [strB_list]; rfl)).mono ?_
  rintro e w' ⟨rfl, rfl⟩
  rw [strB_list]
  exact ⟨rfl, rfl⟩
theorem strB_nil0 : strB [] = ⟨#[]⟩ := rfl
theorem unw_len (l : List UInt8) : (unqL (unwL l)).length ≤ l.length := by
  unfold unqL unwL
  split <;> split <;> simp
set_option maxHeartbeats 4000000 in
set_option maxRecDepth 100000 in
theorem cutTag_any (l : List UInt8) (w : World) (hM : MaxIs w) (hl : l.length ≤ 1000000) :
    Calls Tryz.prog 116 #[.string (strB l)] w fun e w' => e = .returned (cutV (cutTL l)) ∧ Below w.heap.size w w' := by
  have HW := Lib.hid (cutW_any l)
  have HQ := Lib.hid (cutQ_any (unwL l))
  have hu := unw_len l
  obtain ⟨a, b, f, hc⟩ : ∃ a b f, cut9 34 (unqL (unwL l)) = (a, b, f) := ⟨_, _, _, rfl⟩
  have hal := cut9_len 34 (unqL (unwL l))
  rw [hc] at hal
  simp only at hal
  have HC := Lib.hid (fun (w : World) (hM : MaxIs w) => cutR_any 34 (strB (unqL (unwL l))) w hM (by rw [strB_size]; omega) (a := a) (b := b) (f := f) (by rw [strB_list]; exact hc))
  have HT := Lib.hid (fun (w : World) => isText_any (strB a) w (by rw [strB_size]; omega))
  rw [strB_list] at HT
  have HM := Lib.hid hM
  have HR := Lib.hid (show cutTL l = if qtL (unwL l) = true ∧ f = true ∧ txtB a = true then some ((wkL l, a), b) else none by unfold cutTL; rw [hc])
  clear hM hc hal hu
  generalize unqL (unwL l) = l2 at *
  generalize qtL (unwL l) = q at *
  generalize wkL l = k at *
  generalize unwL l = l1 at *
  have hgo : ∀ x : Bool, txtB a = x → Calls Tryz.prog 116 #[.string (strB l)] w fun e w' => e = .returned (cutV (cutTL l)) ∧ Below w.heap.size w w' := by
    intro x hx
    rw [hx] at HT HR
    have HR2 := Lib.hid HR.out
    clear hx
    cases q
    · have HR3 := Lib.hid (show cutTL l = none by rw [HR2.out]; simp)
      go_enter Tryz.func116, Tryz.ntmps116
      go_wp2_with fail
      refine (HW.out _).mono ?_
      rintro e w' ⟨rfl, rfl⟩
      go_wp2_with fail
      refine (HQ.out _).mono ?_
      rintro e w' ⟨rfl, rfl⟩
      go_wp2_with fail
      refine (HC.out _ (HM.out.alloc _)).mono ?_
      rintro e w' ⟨rfl, n, rfl⟩
      obtain ⟨c0, c1, f0, f1, hN⟩ := (twoT_zero w 94).drewN n
      go_wp2_with fail
      rw [HR3.out]
      exact bodyPost_ret (v := cutV none) (by simp [results, Tryz.results116, go_sem, cutV, strB_nil0]) rfl ⟨rfl, below_twoT (below_drewN (below_new _ _) _) (Nat.le_refl _) _ _⟩
    · cases f
      · have HR3 := Lib.hid (show cutTL l = none by rw [HR2.out]; simp)
        go_enter Tryz.func116, Tryz.ntmps116
        go_wp2_with fail
        refine (HW.out _).mono ?_
        rintro e w' ⟨rfl, rfl⟩
        go_wp2_with fail
        refine (HQ.out _).mono ?_
        rintro e w' ⟨rfl, rfl⟩
        go_wp2_with fail
        refine (HC.out _ (HM.out.alloc _)).mono ?_
        rintro e w' ⟨rfl, n, rfl⟩
        obtain ⟨c0, c1, f0, f1, hN⟩ := (twoT_zero w 94).drewN n
        go_wp2_with fail
        rw [HR3.out]
        exact bodyPost_ret (v := cutV none) (by simp [results, Tryz.results116, go_sem, cutV, strB_nil0]) rfl ⟨rfl, below_twoT (below_drewN (below_new _ _) _) (Nat.le_refl _) _ _⟩
      · cases x
        · have HR3 := Lib.hid (show cutTL l = none by rw [HR2.out]; simp)
          go_enter Tryz.func116, Tryz.ntmps116
          go_wp2_with fail
          refine (HW.out _).mono ?_
          rintro e w' ⟨rfl, rfl⟩
          go_wp2_with fail
          refine (HQ.out _).mono ?_
          rintro e w' ⟨rfl, rfl⟩
          go_wp2_with fail
          refine (HC.out _ (HM.out.alloc _)).mono ?_
          rintro e w' ⟨rfl, n, rfl⟩
          obtain ⟨c0, c1, f0, f1, hN⟩ := (twoT_zero w 94).drewN n
          go_wp2_with fail
          refine (HT.out _).mono ?_
          rintro e w' ⟨rfl, rfl⟩
          go_wp2_with fail
          rw [HR3.out]
          exact bodyPost_ret (v := cutV none) (by simp [results, Tryz.results116, go_sem, cutV, strB_nil0]) rfl ⟨rfl, below_twoT (below_drewN (below_new _ _) _) (Nat.le_refl _) _ _⟩
        · have HR3 := Lib.hid (show cutTL l = some ((k, a), b) by rw [HR2.out]; simp)
          go_enter Tryz.func116, Tryz.ntmps116
          go_wp2_with fail
          refine (HW.out _).mono ?_
          rintro e w' ⟨rfl, rfl⟩
          go_wp2_with fail
          refine (HQ.out _).mono ?_
          rintro e w' ⟨rfl, rfl⟩
          go_wp2_with fail
          refine (HC.out _ (HM.out.alloc _)).mono ?_
          rintro e w' ⟨rfl, n, rfl⟩
          obtain ⟨c0, c1, f0, f1, hN⟩ := (twoT_zero w 94).drewN n
          go_wp2_with fail
          refine (HT.out _).mono ?_
          rintro e w' ⟨rfl, rfl⟩
          go_wp2_with fail
          rw [HR3.out]
          exact bodyPost_ret (v := cutV (some ((k, a), b))) (by simp [results, Tryz.results116, go_sem, cutV]) rfl ⟨rfl, below_twoT (below_drewN (below_new _ _) _) (Nat.le_refl _) _ _⟩
  exact hgo _ rfl
set_option maxHeartbeats 4000000 in
set_option maxRecDepth 100000 in
theorem readTag_any (l : List UInt8) (w : World) (hM : MaxIs w) (hl : l.length ≤ 1000000) :
    Calls Tryz.prog 91 #[.string (strB l)] w fun e w' => e = .returned (tgO (readTL l)) ∧ Below w.heap.size w w' := by
  have HC := Lib.hid (fun (w : World) (hM : MaxIs w) => cutTag_any l w hM hl)
  have HM := Lib.hid hM
  clear hM
  have HR := Lib.hid (show readTL l = match cutTL l with | some (t, r) => if r = [] then some t else none | none => none from rfl)
  generalize cutTL l = q at *
  cases q with
  | none =>
    have HR2 := Lib.hid (show readTL l = none from HR.out)
    go_enter Tryz.func91, Tryz.ntmps91
    go_wp2_with fail
    refine (HC.out _ (HM.out.alloc _)).mono ?_
    rintro e w1 ⟨rfl, hB⟩
    obtain ⟨c0, c1, f0, f1, hN⟩ := ((twoT_zero w 94).below hB).below (below_new w1 (.cells #[.bool false, .string (strB [])] 94))
    have HB := Lib.hid ((below_new w (.cells #[.bool false, .string ByteArray.empty] 94)).trans (hB.mono (by simp)))
    have hb := hB.size
    simp at hb
    clear hB
    unfold cutV
    go_wp2_with fail
    rw [HR2.out]
    rw [strB_nil0] at c0 c1 f0 f1
    exact bodyPost_ret (v := tgO none) (by simp [results, Tryz.results91, go_sem, tgO, c0, c1, strB_nil0]) rfl ⟨rfl, below_twoT (HB.out.alloc (by omega) _) (Nat.le_refl _) _ _⟩
  | some p =>
    obtain ⟨⟨k, a⟩, r⟩ := p
    by_cases hr : r = []
    · subst hr
      have HR2 := Lib.hid (show readTL l = some (k, a) from HR.out)
      go_enter Tryz.func91, Tryz.ntmps91
      go_wp2_with fail
      refine (HC.out _ (HM.out.alloc _)).mono ?_
      rintro e w1 ⟨rfl, hB⟩
      obtain ⟨c0, c1, f0, f1, hN⟩ := ((twoT_zero w 94).below hB).below (below_new w1 (.cells #[.bool k, .string (strB a)] 94))
      obtain ⟨d0, d1, g0, g1, hN2⟩ := twoT_new w1 k a 94
      have HB := Lib.hid ((below_new w (.cells #[.bool false, .string ByteArray.empty] 94)).trans (hB.mono (by simp)))
      have hb := hB.size
      simp at hb
      have hE := empty_yes (l := []) rfl
      clear hB
      unfold cutV
      go_wp2_with fail
      rw [HR2.out]
      exact bodyPost_ret (v := tgO (some (k, a))) (by simp [results, Tryz.results91, go_sem, tgO, c0, c1, strB_nil0]) rfl ⟨rfl, below_twoT (HB.out.alloc (by omega) _) (Nat.le_refl _) _ _⟩
    · have HR2 := Lib.hid (show readTL l = none by rw [HR.out]; simp only; rw [if_neg hr])
      have hE := empty_no hr
      clear hr
      go_enter Tryz.func91, Tryz.ntmps91
      go_wp2_with fail
      refine (HC.out _ (HM.out.alloc _)).mono ?_
      rintro e w1 ⟨rfl, hB⟩
      obtain ⟨c0, c1, f0, f1, hN⟩ := ((twoT_zero w 94).below hB).below (below_new w1 (.cells #[.bool k, .string (strB a)] 94))
      have HB := Lib.hid ((below_new w (.cells #[.bool false, .string ByteArray.empty] 94)).trans (hB.mono (by simp)))
      have hb := hB.size
      simp at hb
      clear hB
      unfold cutV
      go_wp2_with fail
      rw [HR2.out]
      exact bodyPost_ret (v := tgO none) (by simp [results, Tryz.results91, go_sem, tgO, c0, c1, strB_nil0]) rfl ⟨rfl, below_twoT (HB.out.alloc (by omega) _) (Nat.le_refl _) _ _⟩
end Go.Proofs.YtoiampkdmjpljaaGreatDoor

/- What the small functions of package storable return. -/
namespace Go.Proofs.YtoiampkdmjpljaaGreatDoor
open Go.RowKit

set_option maxHeartbeats 1000000 in
theorem has_any (fv : Value) (ps : Flds) (n : ByteArray) (w : World) (hr : ReadsQ w fv ps) (hf : FitL ps) (hn : n.size ≤ 100) :
    Calls Tryz.prog 55 #[fv, .string n] w fun e w' => e = .returned (.bool (hasF ps n.data.toList)) ∧ Below w.heap.size w w' := by
  have HG := Lib.hid (get_any fv ps n w hr (by omega) (by have := hf.len; omega) hf.each6)
  have hg : decide (0 < (allL ps n.data.toList).length) = hasF ps n.data.toList := rfl
  rw [hg] at HG
  generalize strB (getL (allL ps n.data.toList)) = X at *
  generalize hasF ps n.data.toList = b at *
  clear hr hf hg
  go_enter Tryz.func55, Tryz.ntmps55
  go_wp2_with fail
  refine HG.out.mono ?_
  rintro e w1 ⟨rfl, hB1⟩
  go_wp2_with fail
  go_ret
  exact ⟨rfl, hB1⟩
set_option maxHeartbeats 1000000 in
theorem isWhole_any (s : Int) (w : World) :
    Calls Tryz.prog 52 #[.int .i64 s] w fun e w' => e = .returned (.bool (wholeB s)) ∧ w = w' := by
  go_enter Tryz.func52, Tryz.ntmps52
  go_wp2
  all_goals
    go_ret
    exact ⟨retB (by unfold wholeB; rw [Bool.eq_iff_iff]; simp; omega), rfl⟩
set_option maxHeartbeats 1000000 in
theorem pass_any (n : Int) (w : World) :
    Calls Tryz.prog 15 #[.int .i64 n] w fun e w' => e = .returned (.bool (decide (3 ≤ n) && decide (n ≤ 7))) ∧ w = w' := by
  by_cases h : 3 ≤ n ∧ n ≤ 7
  · have : n = 3 ∨ n = 4 ∨ n = 5 ∨ n = 6 ∨ n = 7 := by omega
    rcases this with rfl | rfl | rfl | rfl | rfl
    all_goals
      go_enter Tryz.func15, Tryz.ntmps15
      go_wp2
      go_ret
      exact ⟨rfl, rfl⟩
  · have e3 : (n == 3) = false := by simp; omega
    have e4 : (n == 4) = false := by simp; omega
    have e5 : (n == 5) = false := by simp; omega
    have e6 : (n == 6) = false := by simp; omega
    have e7 : (n == 7) = false := by simp; omega
    have HV := Lib.hid (show (decide (3 ≤ n) && decide (n ≤ 7)) = false by simp; omega)
    clear h
    go_enter Tryz.func15, Tryz.ntmps15
    go_wp2
    go_ret
    exact ⟨retB HV.out.symm, rfl⟩
set_option maxHeartbeats 2000000 in
set_option maxRecDepth 100000 in
theorem isForAll_any (d : Dv) (w : World) :
    Calls Tryz.prog 57 #[dvV d] w fun e w' => e = .returned (.bool (permB d)) ∧ Below w.heap.size w w' := by
  have HB := Lib.hid (below_new w (.cells (dvC d) 81))
  have HA := Lib.hid (dvB_new w d 81)
  go_enter Tryz.func57, Tryz.ntmps57
  go_upto_region 1 with fail
  change Code.wp _ _ _ _ (w.alloc (.cells (dvC d) 81))
  generalize (w.alloc (.cells (dvC d) 81)) = W at *
  obtain ⟨a0, a1, a2, a3, a4, a5, a6, a7, a8, a9, a10, a11, fa, la⟩ := HA.out
  clear a0 a1 a2 a5 a6 a8 a9 a10 a11 fa
  cases h3 : d.pu with
  | true =>
    rw [h3] at a3
    have HV := Lib.hid (show permB d = true by unfold permB; rw [h3]; rfl)
    clear h3
    go_wp2
    go_ret
    exact ⟨retB HV.out.symm, HB.out⟩
  | false =>
    rw [h3] at a3
    cases h4 : d.mr with
    | true =>
      rw [h4] at a4
      have HV := Lib.hid (show permB d = true by unfold permB; rw [h4]; simp)
      clear h3 h4
      go_wp2
      go_ret
      exact ⟨retB HV.out.symm, HB.out⟩
    | false =>
      rw [h4] at a4
      have HV := Lib.hid (show permB d = decide (0 ≤ d.sa) by unfold permB; rw [h3, h4]; rfl)
      clear h3 h4
      go_wp2
      go_ret
      exact ⟨retB HV.out.symm, HB.out⟩
def tgB : Option Tg → Value
  | some t => .tuple #[tgV t, .bool true]
  | none => .tuple #[tgV (false, []), .bool false]
set_option maxHeartbeats 2000000 in
set_option maxRecDepth 100000 in
theorem tagOf_any (fv : Value) (ps : Flds) (w : World) (hr : ReadsQ w fv ps) (hf : FitL ps) (hM : MaxIs w) :
    Calls Tryz.prog 64 #[fv] w fun e w' => e = .returned (tgB (tagO (allL ps nET))) ∧ Below w.heap.size w w' := by
  have HA := Lib.hid (fun (w : World) (hr : ReadsQ w fv ps) => sole_any fv ps (strB nET) w hr (by decide) (by have := hf.len; omega) hf.each6)
  have hol := oneL_len (all_small (n := nET) hf.each)
  have HM := Lib.hid hM
  have HR := Lib.hid hr
  have HP := Lib.hid (fun (w : World) (hM : MaxIs w) => readTag_any (oneL (allL ps nET)).1 w hM (by omega))
  have HV := Lib.hid (show tagO (allL ps nET) = readTL (oneL (allL ps nET)).1 from rfl)
  rw [strB_list] at HA
  clear hr hf hM hol
  generalize tagO (allL ps nET) = Y at *
  generalize (oneL (allL ps nET)).1 = v at *
  generalize (oneL (allL ps nET)).2 = b at *
  cases Y with
  | none =>
    rw [← HV.out] at HP
    unfold tgO at HP
    clear HV
    go_enter Tryz.func64, Tryz.ntmps64
    go_wp2_with fail
    refine (HA.out _ (HR.out.below (below_new _ _))).mono ?_
    rintro e w1 ⟨rfl, hB1⟩
    have HT1 := Lib.hid ((twoT_zero w 94).below hB1)
    have HB1 := Lib.hid ((below_new w (.cells #[.bool false, .string ByteArray.empty] 94)).trans (hB1.mono (by simp)))
    have hs1 := hB1.size
    simp at hs1
    clear hB1
    go_wp2_with fail
    refine (HP.out _ (HM.out.below HB1.out)).mono ?_
    rintro e w2 ⟨rfl, hB2⟩
    have HT2 := Lib.hid ((HT1.out.below hB2).below (below_new w2 (.cells #[.bool false, .string (strB [])] 94)))
    have HU2 := Lib.hid (twoT_new w2 false [] 94)
    have HB2 := Lib.hid ((HB1.out.trans (hB2.mono HB1.out.size)).alloc (Nat.le_trans HB1.out.size hB2.size) (.cells #[.bool false, .string (strB [])] 94))
    have hs2 := hB2.size
    clear hB2 HT1 HB1
    go_upto_region 3 with fail
    change Code.wp _ _ _ _ (w2.alloc (.cells #[.bool false, .string (strB [])] 94))
    have hne : w2.heap.size ≠ w.heap.size := by omega
    generalize (w2.alloc (.cells #[.bool false, .string (strB [])] 94)) = W at *
    generalize w2.heap.size = M at *
    obtain ⟨c0, c1, f0, f1, hN⟩ := HT2.out
    obtain ⟨d0, d1, g0, g1, hM1⟩ := HU2.out
    go_region
    all_goals
      go_wp2_with fail
      refine bodyPost_ret (v := tgB none) (by simp [results, Tryz.results64, go_sem, tgB, c0, c1, strB_nil0]) rfl ⟨rfl, ?_⟩
      first
        | exact (below_twoT HB2.out (Nat.le_refl _) _ _).drew
        | exact below_twoT HB2.out.drew (Nat.le_refl _) _ _
  | some t =>
    rw [← HV.out] at HP
    unfold tgO at HP
    clear HV
    go_enter Tryz.func64, Tryz.ntmps64
    go_wp2_with fail
    refine (HA.out _ (HR.out.below (below_new _ _))).mono ?_
    rintro e w1 ⟨rfl, hB1⟩
    have HT1 := Lib.hid ((twoT_zero w 94).below hB1)
    have HB1 := Lib.hid ((below_new w (.cells #[.bool false, .string ByteArray.empty] 94)).trans (hB1.mono (by simp)))
    have hs1 := hB1.size
    simp at hs1
    clear hB1
    go_wp2_with fail
    refine (HP.out _ (HM.out.below HB1.out)).mono ?_
    rintro e w2 ⟨rfl, hB2⟩
    have HT2 := Lib.hid ((HT1.out.below hB2).below (below_new w2 (.cells #[.bool t.1, .string (strB t.2)] 94)))
    have HU2 := Lib.hid (twoT_new w2 t.1 t.2 94)
    have HB2 := Lib.hid ((HB1.out.trans (hB2.mono HB1.out.size)).alloc (Nat.le_trans HB1.out.size hB2.size) (.cells #[.bool t.1, .string (strB t.2)] 94))
    have hs2 := hB2.size
    clear hB2 HT1 HB1
    go_upto_region 3 with fail
    change Code.wp _ _ _ _ (w2.alloc (.cells #[.bool t.1, .string (strB t.2)] 94))
    have hne : w2.heap.size ≠ w.heap.size := by omega
    generalize (w2.alloc (.cells #[.bool t.1, .string (strB t.2)] 94)) = W at *
    generalize w2.heap.size = M at *
    obtain ⟨c0, c1, f0, f1, hN⟩ := HT2.out
    obtain ⟨d0, d1, g0, g1, hM1⟩ := HU2.out
    go_region
    all_goals
      go_wp2_with fail
      refine bodyPost_ret (v := tgB (some t)) (by simp [results, Tryz.results64, go_sem, tgB, c0, c1, strB_nil0]) rfl ⟨rfl, ?_⟩
      first
        | exact (below_twoT HB2.out (Nat.le_refl _) _ _).drew
        | exact below_twoT HB2.out.drew (Nat.le_refl _) _ _
set_option maxHeartbeats 2000000 in
set_option maxRecDepth 100000 in
theorem isDated_any (fv : Value) (ps : Flds) (d : Option Nat) (w : World) (hr : ReadsQ w fv ps) (hf : FitL ps) (hd : DatF ps nLM d) (hE : EnvP w) :
    Calls Tryz.prog 85 #[fv] w fun e w' => e = .returned (.bool d.isSome) ∧ Below w.heap.size w w' := by
  have HA := Lib.hid (sole_any fv ps (strB nLM) w hr (by decide) (by have := hf.len; omega) hf.each6)
  have hol := oneL_len (all_small (n := nLM) hf.each)
  have HE := Lib.hid hE
  have HP := Lib.hid (fun (w : World) (hE : EnvP w) => hParse_any (oneL (allL ps nLM)).1 d (oneIs_val hd) w hE (by omega))
  rw [strB_list] at HA
  clear hr hf hE hd hol
  generalize (oneL (allL ps nLM)).1 = v at *
  generalize (oneL (allL ps nLM)).2 = b at *
  cases d with
  | none =>
    unfold dtV at HP
    go_enter Tryz.func85, Tryz.ntmps85
    go_wp2_with fail
    refine HA.out.mono ?_
    rintro e w1 ⟨rfl, hB1⟩
    go_wp2_with fail
    refine (HP.out _ (HE.out.below hB1)).mono ?_
    rintro e w2 ⟨rfl, hB2⟩
    go_wp2_with fail
    go_ret
    exact ⟨rfl, hB1.trans (hB2.mono hB1.size)⟩
  | some k =>
    unfold dtV at HP
    go_enter Tryz.func85, Tryz.ntmps85
    go_wp2_with fail
    refine HA.out.mono ?_
    rintro e w1 ⟨rfl, hB1⟩
    go_wp2_with fail
    refine (HP.out _ (HE.out.below hB1)).mono ?_
    rintro e w2 ⟨rfl, hB2⟩
    go_wp2_with fail
    go_ret
    exact ⟨rfl, hB1.trans (hB2.mono hB1.size)⟩
end Go.Proofs.YtoiampkdmjpljaaGreatDoor
