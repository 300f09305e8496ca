/- RangesSpells: for all numbers the statement's function returns true: the walk. -/
import Derived.Test.YtdcnoegnkopfdaaDoorRAwake
import Derived.Test.YtdcnoegnkopfdaaDoorRSplP
import Derived.Test.YtdcnoegnkopfdaaDoorRText
import Derived.Test.YtdcnoegnkopfdaaDoorIs
namespace Go.Proofs.YtdcnoegnkopfdaaDoor
open Go.RowKit

/-- A block of three cells: a string and two ints. -/
def ThreeC (N i : Nat) (w : World) (s : ByteArray) (x y : Int) : Prop :=
  w.cell? ⟨N, i, none⟩ = some (.string s) ∧ w.cell? ⟨N, i + 1, none⟩ = some (.int .i64 x) ∧ w.cell? ⟨N, i + 2, none⟩ = some (.int .i64 y) ∧ N < w.heap.size
theorem ThreeC.below {N i : Nat} {w w' : World} {s : ByteArray} {x y : Int} (h : ThreeC N i w s x y) (hb : Below w.heap.size w w') : ThreeC N i w' s x y := by
  obtain ⟨h1, h2, h3, h4⟩ := h
  exact ⟨(hb.cell (p := ⟨N, i, none⟩) h4).trans h1, (hb.cell (p := ⟨N, i + 1, none⟩) h4).trans h2, (hb.cell (p := ⟨N, i + 2, none⟩) h4).trans h3, Nat.lt_of_lt_of_le h4 hb.size⟩
theorem threeC_new (w : World) (s : ByteArray) (x y : Int) (T : TypeId) : ThreeC w.heap.size 0 (w.alloc (.cells #[.string s, .int .i64 x, .int .i64 y] T)) s x y :=
  ⟨by rw [World.cell?_alloc_at _ _ _ _ rfl]; rfl, by rw [World.cell?_alloc_at _ _ _ _ rfl]; rfl, by rw [World.cell?_alloc_at _ _ _ _ rfl]; rfl, by simp⟩
/-- One of the three rows of the statement. -/
def RowC (N : Nat) (w : World) (n : Int) (k : Nat) : Prop :=
  ∃ (s : ByteArray) (x y : Int), ThreeC N (k * 3) w s x y ∧ s.size ≤ 100 ∧ parseR s.data.toList n = if x < y then .ok [(x, y)] else .err 1
theorem RowC.below {N k : Nat} {n : Int} {w w' : World} (h : RowC N w n k) (hb : Below w.heap.size w w') : RowC N w' n k := by
  obtain ⟨s, x, y, h1, h2⟩ := h; exact ⟨s, x, y, h1.below hb, h2⟩
theorem sp_s1 (a b : List UInt8) : (⟨#[98, 121, 116, 101, 115, 61]⟩ : ByteArray) ++ strB a ++ (⟨#[45]⟩ : ByteArray) ++ strB b = strB (preB ++ (a ++ 45 :: b)) := by apply ByteArray.ext; simp [strB, preB]
theorem sp_s2 (a : List UInt8) : (⟨#[98, 121, 116, 101, 115, 61]⟩ : ByteArray) ++ strB a ++ (⟨#[45]⟩ : ByteArray) = strB (preB ++ (a ++ [45])) := by apply ByteArray.ext; simp [strB, preB]
theorem sp_s3 (a : List UInt8) : (⟨#[98, 121, 116, 101, 115, 61, 45]⟩ : ByteArray) ++ strB a = strB (preB ++ 45 :: a) := by apply ByteArray.ext; simp [strB, preB]
theorem decT_sz (a : Int) (h : a ≤ 65535) : (strB (decT a)).size ≤ 20 := by rw [strB_size]; exact dec_size _ (by omega)
theorem rows3 (w : World) (s1 s2 s3 : ByteArray) (a1 b1 a2 b2 a3 b3 n : Int) (h1 : s1.size ≤ 100 ∧ parseR s1.data.toList n = if a1 < b1 then .ok [(a1, b1)] else .err 1) (h2 : s2.size ≤ 100 ∧ parseR s2.data.toList n = if a2 < b2 then .ok [(a2, b2)] else .err 1)
    (h3 : s3.size ≤ 100 ∧ parseR s3.data.toList n = if a3 < b3 then .ok [(a3, b3)] else .err 1) (T : TypeId) :
    ∀ j, j < 3 → RowC w.heap.size (w.alloc (.cells #[.string s1, .int .i64 a1, .int .i64 b1, .string s2, .int .i64 a2, .int .i64 b2, .string s3, .int .i64 a3, .int .i64 b3] T)) n j := by
  intro j hj
  match j, hj with
  | 0, _ => exact ⟨s1, a1, b1, ⟨by rw [World.cell?_alloc_at _ _ _ _ rfl]; rfl, by rw [World.cell?_alloc_at _ _ _ _ rfl]; rfl, by rw [World.cell?_alloc_at _ _ _ _ rfl]; rfl, by simp⟩, h1⟩
  | 1, _ => exact ⟨s2, a2, b2, ⟨by rw [World.cell?_alloc_at _ _ _ _ rfl]; rfl, by rw [World.cell?_alloc_at _ _ _ _ rfl]; rfl, by rw [World.cell?_alloc_at _ _ _ _ rfl]; rfl, by simp⟩, h2⟩
  | 2, _ => exact ⟨s3, a3, b3, ⟨by rw [World.cell?_alloc_at _ _ _ _ rfl]; rfl, by rw [World.cell?_alloc_at _ _ _ _ rfl]; rfl, by rw [World.cell?_alloc_at _ _ _ _ rfl]; rfl, by simp⟩, h3⟩
def SRel (N : Nat) (n : Int) (w : World) (i : Value) (wr : World) : Prop :=
  ∃ k : Nat, i = .int .i64 k ∧ k ≤ 3 ∧ (∀ j, j < 3 → RowC N wr n j) ∧ Below w.heap.size w wr
set_option maxHeartbeats 8000000 in
set_option maxRecDepth 100000 in
theorem spells_walk (a b n : Nat) (w : World) (hM : MaxIs w) (ha : a ≤ 65535) (hb : b ≤ 65535) (hn : n ≤ 65535) :
    Calls Tryd.prog 9 #[.int .u16 a, .int .u16 b, .int .u16 n] w fun e w' => e = .returned (.bool true) ∧ Below w.heap.size w w' := by
  have HM := Lib.hid hM
  clear hM
  obtain ⟨x, hx⟩ : ∃ x : Nat, min a b = x := ⟨_, rfl⟩
  obtain ⟨y, hy⟩ : ∃ y : Nat, max a b = y := ⟨_, rfl⟩
  have hx1 : x ≤ 65535 := by omega
  have hy1 : y ≤ 65535 := by omega
  have hxy : x ≤ y := by omega
  have m1 : min (a : Int) (b : Int) = x := by omega
  have m2 : max (a : Int) (b : Int) = y := by omega
  clear hx hy
  have HT1 := Lib.hid (fun (w : World) => refText9 (x : Int) (by omega) (by omega) w)
  have HT2 := Lib.hid (fun (w : World) => refText9 (y : Int) (by omega) (by omega) w)
  have z1 := decT_sz (x : Int) (by omega)
  have z2 := decT_sz (y : Int) (by omega)
  have HS1 := Lib.hid (spell1 (x : Int) (y : Int) (n : Int) (by omega) (by omega) (by omega) (by omega))
  have HS2 := Lib.hid (spell2 (x : Int) (n : Int) (by omega) (by omega) (by omega))
  have HS3 := Lib.hid (spell3 (x : Int) (n : Int) (by omega) (by omega) (by omega))
  go_enter Tryd.func9, Tryd.ntmps9
  go_wp2_with fail
  refine (awake9_any _ HM.out).mono ?_
  rintro e w1 ⟨rfl, hB⟩
  have HW1 := Lib.hid hB
  clear hB
  go_wp2_with fail
  refine (HT1.out _).mono ?_
  rintro e w2 ⟨rfl, hB⟩
  have HW2 := Lib.hid (HW1.out.trans (hB.mono HW1.out.size))
  clear hB
  go_wp2_with fail
  refine (HT2.out _).mono ?_
  rintro e w3 ⟨rfl, hB⟩
  have HW3 := Lib.hid (HW2.out.trans (hB.mono HW2.out.size))
  clear hB
  go_wp2_with fail
  go_loopw [62] (fun i wr => SRel w3.heap.size n w i wr) (fun i _ => 3 - (intOf i).toNat)
  case atStart =>
    refine ⟨0, rfl, by omega, rows3 w3 _ _ _ _ _ _ _ _ _ n ⟨?_, ?_⟩ ⟨?_, ?_⟩ ⟨?_, ?_⟩ _, HW3.out.alloc HW3.out.size _⟩
    · rw [ByteArray.size_append, ByteArray.size_append, ByteArray.size_append]; show 6 + _ + 1 + _ ≤ 100; omega
    · rw [sp_s1, strB_list, ← HS1.out]; simp [textR]
    · rw [ByteArray.size_append, ByteArray.size_append]; show 6 + _ + 1 ≤ 100; omega
    · rw [sp_s2, strB_list]; exact HS2.out
    · rw [ByteArray.size_append]; show 7 + _ ≤ 100; omega
    · rw [sp_s3, strB_list]; exact HS3.out
  case round =>
    obtain ⟨k, rfl, hk, hR, hBr⟩ := hrel
    have hbr := hBr.size
    have HBR := Lib.hid hBr
    have HR := Lib.hid hR
    clear hBr hR z1 z2 m1 m2
    by_cases hlt : k < 3
    · obtain ⟨s, f, t, hC, hsz, hP⟩ := HR.out k hlt
      obtain ⟨c0, c1, c2, hNw⟩ := hC
      have HP := Lib.hid hP
      clear hP
      go_wp2_with fail
      refine (parse_any s n _ ((HM.out.below HBR.out).alloc _) (by omega) (by omega) (by omega)).mono ?_
      rintro e w5 ⟨hB5, he⟩
      rw [HP.out] at he
      have HC5 := Lib.hid ((below_new wr (.cells #[.string s, .int .i64 f, .int .i64 t] 72)).trans (hB5.mono (by simp)))
      have HW5 := Lib.hid (HBR.out.trans (HC5.out.mono hbr))
      obtain ⟨d0, d1, d2, hN⟩ := (threeC_new wr s f t 72).below hB5
      clear c0 c1 c2 hB5
      by_cases hft : f < t
      · rw [if_pos hft] at he
        obtain ⟨v, rfl, hv, _, _⟩ := he
        obtain ⟨ao, cap, rfl, hc⟩ := hv.reads
        obtain ⟨g, off, rfl, hg, e1, e2⟩ := hc 0 (f, t) rfl
        simp only [Nat.zero_mul, Nat.add_zero] at e1 e2
        have b1 : (f == f) = true := by simp
        have b2 : (t == t) = true := by simp
        clear hv hc
        go_wp2_with fail
        go_quiet (fail)
        go_wp2_with fail
        go_roundw
        case rel => exact ⟨k + 1, by go_num, by omega, fun j hj => (HR.out j hj).below (below_drewN HC5.out _), below_drewN HW5.out _⟩
        case measure => simp [intOf]; omega
      · rw [if_neg hft] at he
        simp only at he
        subst he
        have hft' : t ≤ f := by omega
        go_wp2_with fail
        refine (is_errno 1 (by decide) _).mono ?_
        rintro e w' ⟨rfl, rfl⟩
        go_wp2_with fail
        go_roundw
        case rel => exact ⟨k + 1, by go_num, by omega, fun j hj => (HR.out j hj).below HC5.out, HW5.out⟩
        case measure => simp [intOf]; omega
    · go_wp2
      go_ret
      exact ⟨rfl, HBR.out⟩
end Go.Proofs.YtdcnoegnkopfdaaDoor
