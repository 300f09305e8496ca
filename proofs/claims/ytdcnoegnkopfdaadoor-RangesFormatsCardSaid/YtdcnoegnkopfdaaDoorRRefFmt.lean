/- What the reference's Format returns. -/
import Derived.Test.YtdcnoegnkopfdaaDoorRRefCR
import Derived.Test.YtdcnoegnkopfdaaDoorRFmtP
namespace Go.Proofs.YtdcnoegnkopfdaaDoor
open Go.RowKit

@[reducible] def SD (N i j : Nat) (w0 : World) (a b : Int) (w' : World) : Prop :=
  w'.cell? ⟨N, i, none⟩ = some (.int .i64 a) ∧ w'.cell? ⟨N, j, none⟩ = some (.int .i64 b) ∧ Below w0.heap.size w0 w' ∧ N < w0.heap.size
theorem SD.below {N i j : Nat} {w0 w1 w2 : World} {a b : Int} (h : SD N i j w0 a b w1) (hb : Below w1.heap.size w1 w2) : SD N i j w0 a b w2 := by
  obtain ⟨h1, h2, h4, h5⟩ := h
  have hs := h4.size
  exact ⟨(hb.cell (p := ⟨N, i, none⟩) (by show N < _; omega)).trans h1, (hb.cell (p := ⟨N, j, none⟩) (by show N < _; omega)).trans h2, h4.trans (hb.mono hs), h5⟩
theorem text_heldA {N i j : Nat} {w0 wr : World} {a b : Int} (n : Int) (h1 : 0 ≤ n) (h2 : n ≤ 999999999999999) {s : ByteArray} (hs : strB (decT n) = s)
    (hS : wr.cell? ⟨N, i, none⟩ = some (.int .i64 a) ∧ wr.cell? ⟨N, j, none⟩ = some (.int .i64 b) ∧ Below w0.heap.size w0 wr ∧ N < w0.heap.size) :
    Calls Tryd.prog 33 #[.int .i64 n] wr fun e w' => e = .returned (.string s) ∧ (w'.cell? ⟨N, i, none⟩ = some (.int .i64 a) ∧ w'.cell? ⟨N, j, none⟩ = some (.int .i64 b) ∧ Below w0.heap.size w0 w' ∧ N < w0.heap.size) := by
  refine (refText9 n h1 (by omega) wr).mono ?_
  rintro e w' ⟨rfl, hB⟩
  exact ⟨by rw [hs], SD.below hS hB⟩
theorem fmt_eq (o : List UInt8) (a b : Int) : strB o ++ (strB (decT a) ++ (⟨#[45]⟩ : ByteArray) ++ strB (decT (b - 1))) = strB (o ++ textR (a, b)) := by
  apply ByteArray.ext; simp [strB, textR]
def GRel (l : List Rg) (w : World) (v i : Value) (wr : World) : Prop :=
  ∃ k : Nat, i = .int .i64 k ∧ k ≤ l.length ∧ goodR (l.take k) ∧ v = .string (strB (preB ++ formR (l.take k))) ∧ Below w.heap.size w wr
theorem goodR_take_len {l : List Rg} {k : Nat} (h : goodR (l.take k)) (hk : k ≤ 100000) : (strB (preB ++ formR (l.take k))).size ≤ 4200006 := by
  have h1 := formR_len _ h
  have h2 : (l.take k).length ≤ k := List.length_take_le _ _
  rw [strB_size, List.length_append]
  have : preB.length = 6 := rfl
  omega
def RFPost (l : List Rg) (w : World) (e : Ending) (w' : World) : Prop :=
  ∃ s f, e = .returned (.tuple #[.string s, .bool f]) ∧ (match fmtR l with | none => f = false | some t => f = true ∧ s = strB t) ∧ Below w.heap.size w w'
theorem rf_none {l : List Rg} {w w' : World} {e : Ending} {s : ByteArray} (h : fmtR l = none) (he : e = .returned (.tuple #[.string s, .bool false])) (hB : Below w.heap.size w w') : RFPost l w e w' := ⟨s, false, he, by rw [h], hB⟩
theorem rf_some {l : List Rg} {w w' : World} {e : Ending} {s : ByteArray} {t : List UInt8} (h : fmtR l = some t) (hs : s = strB t) (he : e = .returned (.tuple #[.string s, .bool true])) (hB : Below w.heap.size w w') : RFPost l w e w' := ⟨s, true, he, by rw [h]; exact ⟨rfl, hs⟩, hB⟩
set_option maxHeartbeats 8000000 in
set_option maxRecDepth 100000 in
theorem refFormat_any (va : Value) (l : List Rg) (w : World) (ha : ReadsI w va l) (hl : l.length ≤ 100000) :
    Calls Tryd.prog 17 #[va] w fun e w' => RFPost l w e w' := by
  obtain ⟨ao, ca, rfl, hca⟩ := ha
  have HA := Lib.hid hca
  clear hca
  go_enter Tryd.func17, Tryd.ntmps17
  go_wp2
  go_loopw [4, 8] (fun v i wr => GRel l w v i wr) (fun _ i _ => l.length - (intOf i).toNat)
  case atStart => exact ⟨0, rfl, Nat.zero_le _, goodR0 _, rfl, Below.refl _ _⟩
  case round =>
    obtain ⟨k, rfl, hk, hgd, rfl, hBr⟩ := hrel
    have hbr := hBr.size
    have HBR := Lib.hid hBr
    have HG := Lib.hid hgd
    have hoz := goodR_take_len hgd (by omega)
    clear hBr hgd
    obtain ⟨o, ho⟩ : ∃ o, strB (preB ++ formR (l.take k)) = o := ⟨_, rfl⟩
    rw [ho] at hoz
    by_cases hlt : k < l.length
    · obtain ⟨p, hp⟩ : ∃ p, l[k]? = some p := ⟨l[k], by simp [hlt]⟩
      obtain ⟨g, off, rfl, hg, hc1, hc2⟩ := HA.out k p hp
      have hd1 := (HBR.out.cell (p := ⟨g, off + k * 2, none⟩) hg).trans hc1
      have hd2 := (HBR.out.cell (p := ⟨g, off + k * 2 + 1, none⟩) hg).trans hc2
      have hgr : g < wr.heap.size := by omega
      have HP := Lib.hid hp
      clear hp hc1 hc2
      have HIP := Lib.hid (fun (w : World) => proper_any p w)
      by_cases h1 : properR p
      · have hd : decide (properR p) = true := decide_eq_true h1
        rw [hd] at HIP
        have HG2 := Lib.hid (goodR_step HG.out HP.out h1)
        obtain ⟨a, b⟩ := p
        obtain ⟨k1, k2, k3⟩ := h1
        simp only at hd1 hd2 k1 k2 k3
        by_cases h0 : 0 < k
        · obtain ⟨o1, ho1⟩ : ∃ s, o ++ (⟨#[44]⟩ : ByteArray) = s := ⟨_, rfl⟩
          have hoz1 : o1.size ≤ 4200007 := by rw [← ho1, ByteArray.size_append]; show o.size + 1 ≤ _; omega
          have HO1 := Lib.hid (fun (x y : Int) (hp : l[k]? = some (x, y)) => show o1 ++ (strB (decT x) ++ (⟨#[45]⟩ : ByteArray) ++ strB (decT (y - 1))) = strB (preB ++ formR (l.take (k + 1))) by
            rw [← ho1, ← ho, strB_snoc, fmt_eq, form_next hp h0]; simp)
          have HO := Lib.hid ho
          rw [ho]
          have HHO1 := Lib.hid ho1
          clear hd ho ho1
          go_wp2_with fail
          refine (HIP.out _).mono ?_
          rintro e w1 ⟨rfl, hB1⟩
          have hd1 := (hB1.cell (p := ⟨g, off + k * 2, none⟩) hgr).trans hd1
          have hd2 := (hB1.cell (p := ⟨g, off + k * 2 + 1, none⟩) hgr).trans hd2
          have hgw : g < w1.heap.size := Nat.lt_of_lt_of_le hgr hB1.size
          have HW1 := Lib.hid (HBR.out.trans (hB1.mono hbr))
          clear hB1
          go_upto_region 9 with fail
          have ho1 := HHO1.out
          rw [ho1]
          obtain ⟨s1, hs1⟩ : ∃ s, strB (decT a) = s := ⟨_, rfl⟩
          obtain ⟨s2, hs2⟩ : ∃ s, strB (decT (b - 1)) = s := ⟨_, rfl⟩
          obtain ⟨t1, ht1⟩ : ∃ s, s1 ++ (⟨#[45]⟩ : ByteArray) = s := ⟨_, rfl⟩
          obtain ⟨t2, ht2⟩ : ∃ s, t1 ++ s2 = s := ⟨_, rfl⟩
          obtain ⟨t3, ht3⟩ : ∃ s, o1 ++ t2 = s := ⟨_, rfl⟩
          have z1 := decT_size a (by omega)
          have z2 := decT_size (b - 1) (by omega)
          rw [hs1] at z1
          rw [hs2] at z2
          have y1 : t1.size ≤ 21 := by rw [← ht1, ByteArray.size_append]; show s1.size + 1 ≤ 21; omega
          have y2 : t2.size ≤ 41 := by rw [← ht2, ByteArray.size_append]; omega
          have HV := Lib.hid (show t3 = strB (preB ++ formR (l.take (k + 1))) by
            rw [← ht3, ← ht2, ← ht1, ← hs1, ← hs2]; exact HO1.out a b HP.out)
          have q1 : ∀ w : World, _ := fun w => add_run (P := Tryd.prog) ht1 (by omega) (by show 1 ≤ _; omega) w
          have q2 : ∀ w : World, _ := fun w => add_run (P := Tryd.prog) ht2 (by omega) (by omega) w
          have q3 : ∀ w : World, _ := fun w => add_run (P := Tryd.prog) ht3 (by omega) (by omega) w
          have HI1 := Lib.hid (fun (w0 wr : World) (N i j : Nat) => text_heldA (N := N) (i := i) (j := j) (w0 := w0) (wr := wr) (a := a) (b := b) a k1 (by omega) hs1)
          have HI2 := Lib.hid (fun (w0 wr : World) (N i j : Nat) => text_heldA (N := N) (i := i) (j := j) (w0 := w0) (wr := wr) (a := a) (b := b) (b - 1) (by omega) (by omega) hs2)
          clear ht1 ht2 ht3 hs1 hs2 y1 y2 z1 z2 ho1
          have hw : IntKind.i64.wrap (b - 1) = b - 1 := IntWalk.i64_in _ (by omega)
          have hS : SD g (off + k * 2) (off + k * 2 + 1) w1 a b w1.drew := ⟨hd1, hd2, (Below.refl _ _).drew, hgw⟩
          clear hd1 hd2
          go_region_held3 (fun w' => w'.cell? ⟨g, off + k * 2, none⟩ = some (.int .i64 a) ∧ w'.cell? ⟨g, off + k * 2 + 1, none⟩ = some (.int .i64 b) ∧ Below w1.heap.size w1 w' ∧ g < w1.heap.size)
            (first | (with_reducible exact h5) | (with_reducible exact hS))
            (first
              | (go_at_call_of 33 (Value.int .i64 a); refine (HI1.out _ _ _ _ _ (by assumption)).mono ?_; rintro e w' ⟨rfl, h5⟩)
              | (go_at_call 33; refine (HI2.out _ _ _ _ _ (by assumption)).mono ?_; rintro e w' ⟨rfl, h5⟩))
          have HB := Lib.hid (HW1.out.trans (h5.2.2.1.mono HW1.out.size))
          clear hw q1 q2 q3
          go_wp2_with fail
          go_roundw
          case rel => exact ⟨k + 1, by go_num, by omega, HG2.out, by rw [HV.out], HB.out⟩
          case measure => simp [intOf]; omega
        · have h00 : k ≤ 0 := by omega
          obtain ⟨o1, ho1⟩ : ∃ s, o = s := ⟨_, rfl⟩
          have hoz1 : o1.size ≤ 4200007 := by rw [← ho1]; omega
          have HO1 := Lib.hid (fun (x y : Int) (hp : l[k]? = some (x, y)) => show o1 ++ (strB (decT x) ++ (⟨#[45]⟩ : ByteArray) ++ strB (decT (y - 1))) = strB (preB ++ formR (l.take (k + 1))) by
            obtain rfl : k = 0 := by omega
            rw [← ho1, ← ho, fmt_eq, form_first hp]; rfl)
          have HO := Lib.hid ho
          rw [ho, ho1]
          clear hd ho
          go_wp2_with fail
          refine (HIP.out _).mono ?_
          rintro e w1 ⟨rfl, hB1⟩
          have hd1 := (hB1.cell (p := ⟨g, off + k * 2, none⟩) hgr).trans hd1
          have hd2 := (hB1.cell (p := ⟨g, off + k * 2 + 1, none⟩) hgr).trans hd2
          have hgw : g < w1.heap.size := Nat.lt_of_lt_of_le hgr hB1.size
          have HW1 := Lib.hid (HBR.out.trans (hB1.mono hbr))
          clear hB1
          go_upto_region 9 with fail
          obtain ⟨s1, hs1⟩ : ∃ s, strB (decT a) = s := ⟨_, rfl⟩
          obtain ⟨s2, hs2⟩ : ∃ s, strB (decT (b - 1)) = s := ⟨_, rfl⟩
          obtain ⟨t1, ht1⟩ : ∃ s, s1 ++ (⟨#[45]⟩ : ByteArray) = s := ⟨_, rfl⟩
          obtain ⟨t2, ht2⟩ : ∃ s, t1 ++ s2 = s := ⟨_, rfl⟩
          obtain ⟨t3, ht3⟩ : ∃ s, o1 ++ t2 = s := ⟨_, rfl⟩
          have z1 := decT_size a (by omega)
          have z2 := decT_size (b - 1) (by omega)
          rw [hs1] at z1
          rw [hs2] at z2
          have y1 : t1.size ≤ 21 := by rw [← ht1, ByteArray.size_append]; show s1.size + 1 ≤ 21; omega
          have y2 : t2.size ≤ 41 := by rw [← ht2, ByteArray.size_append]; omega
          have HV := Lib.hid (show t3 = strB (preB ++ formR (l.take (k + 1))) by
            rw [← ht3, ← ht2, ← ht1, ← hs1, ← hs2]; exact HO1.out a b HP.out)
          have q1 : ∀ w : World, _ := fun w => add_run (P := Tryd.prog) ht1 (by omega) (by show 1 ≤ _; omega) w
          have q2 : ∀ w : World, _ := fun w => add_run (P := Tryd.prog) ht2 (by omega) (by omega) w
          have q3 : ∀ w : World, _ := fun w => add_run (P := Tryd.prog) ht3 (by omega) (by omega) w
          have HI1 := Lib.hid (fun (w0 wr : World) (N i j : Nat) => text_heldA (N := N) (i := i) (j := j) (w0 := w0) (wr := wr) (a := a) (b := b) a k1 (by omega) hs1)
          have HI2 := Lib.hid (fun (w0 wr : World) (N i j : Nat) => text_heldA (N := N) (i := i) (j := j) (w0 := w0) (wr := wr) (a := a) (b := b) (b - 1) (by omega) (by omega) hs2)
          clear ht1 ht2 ht3 hs1 hs2 y1 y2 z1 z2 ho1
          have hw : IntKind.i64.wrap (b - 1) = b - 1 := IntWalk.i64_in _ (by omega)
          have hS : SD g (off + k * 2) (off + k * 2 + 1) w1 a b w1.drew := ⟨hd1, hd2, (Below.refl _ _).drew, hgw⟩
          clear hd1 hd2
          go_region_held3 (fun w' => w'.cell? ⟨g, off + k * 2, none⟩ = some (.int .i64 a) ∧ w'.cell? ⟨g, off + k * 2 + 1, none⟩ = some (.int .i64 b) ∧ Below w1.heap.size w1 w' ∧ g < w1.heap.size)
            (first | (with_reducible exact h5) | (with_reducible exact hS))
            (first
              | (go_at_call_of 33 (Value.int .i64 a); refine (HI1.out _ _ _ _ _ (by assumption)).mono ?_; rintro e w' ⟨rfl, h5⟩)
              | (go_at_call 33; refine (HI2.out _ _ _ _ _ (by assumption)).mono ?_; rintro e w' ⟨rfl, h5⟩))
          have HB := Lib.hid (HW1.out.trans (h5.2.2.1.mono HW1.out.size))
          clear hw q1 q2 q3
          go_wp2_with fail
          go_roundw
          case rel => exact ⟨k + 1, by go_num, by omega, HG2.out, by rw [HV.out], HB.out⟩
          case measure => simp [intOf]; omega
      · have hd : decide (properR p) = false := decide_eq_false h1
        rw [hd] at HIP
        have HR := Lib.hid (fmt_bad HP.out h1)
        obtain ⟨a, b⟩ := p
        clear hd h1
        simp only at hd1 hd2
        rw [ho]
        clear ho
        go_wp2_with fail
        refine (HIP.out _).mono ?_
        rintro e w1 ⟨rfl, hB1⟩
        have HW1 := Lib.hid (HBR.out.trans (hB1.mono hbr))
        clear hB1
        go_wp2_with fail
        go_ret2
        exact rf_none HR.out rfl HW1.out
    · have HTT := Lib.hid (show l.take k = l from List.take_of_length_le (by omega))
      rw [ho]
      have HO := Lib.hid ho
      clear ho
      by_cases hne : l = []
      · have h0 : l.length ≤ 0 := by rw [hne]; exact Nat.le_refl _
        have HR := Lib.hid (show fmtR l = none by rw [hne]; rfl)
        clear hne
        go_wp2
        go_ret2
        exact rf_none (s := o) HR.out (by simp; first | omega | exact List.eq_nil_of_length_eq_zero (by omega)) HBR.out
      · have hpos : 0 < l.length := List.length_pos_iff.mpr hne
        have HR := Lib.hid (fmt_good HG.out (by omega) hne)
        clear hne
        go_wp2
        go_ret2
        exact rf_some (s := o) HR.out (by rw [← HO.out, HTT.out]) (by simp [hpos]) HBR.out
end Go.Proofs.YtdcnoegnkopfdaaDoor
