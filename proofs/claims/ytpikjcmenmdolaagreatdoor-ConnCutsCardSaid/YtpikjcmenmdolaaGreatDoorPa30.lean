import Derived.Test.YtpikjcmenmdolaaGreatDoorPa29
import Derived.IntWalk
import Derived.Lib.SlBytesConst
import Derived.Laws.IdiomStrings
import Derived.Test.YtpikjcmenmdolaaGreatDoorPa17
import Derived.Test.YtpikjcmenmdolaaGreatDoorPa1
/- What formatBits returns in base 16. -/
namespace Go.Proofs.YtpikjcmenmdolaaGreatDoor
open Go.RowKit

/-- A buffer of n bytes, whatever they are. -/
def Buf (g n : Nat) (w : World) : Prop := ∀ j, j < n → (∃ c : Int, w.cell? ⟨g, j, none⟩ = some (.int .u8 c)) ∧ w.frozen? ⟨g, j, none⟩ = false
theorem Buf.set {g n m : Nat} {w : World} (h : Buf g n w) (hm : m < n) (z : Int) : Buf g n (w.setCell ⟨g, m, none⟩ (.int .u8 z)) := by
  intro j hj
  obtain ⟨⟨c, hc⟩, hf⟩ := h j hj
  obtain ⟨⟨d, hd⟩, _⟩ := h m hm
  refine ⟨?_, by simpa using hf⟩
  by_cases e : j = m
  · subst e; exact ⟨z, by rw [World.cell?_setCell_same (h := hd)]⟩
  · exact ⟨c, by rw [World.cell?_setCell_other (h := fun h => e (by simpa using congrArg Addr.off h.symm))]; exact hc⟩
/-- The bytes from k to the end. -/
def Tail (g k : Nat) (s : List UInt8) (w : World) : Prop := ∀ j c, s[j]? = some c → w.cell? ⟨g, k + j, none⟩ = some (.int .u8 (c.toNat : Int))
theorem Tail.push {g n k : Nat} {s : List UInt8} {w : World} (h : Tail g (k + 1) s w) (hb : Buf g n w) (hk : k < n) (c : UInt8) : Tail g k (c :: s) (w.setCell ⟨g, k, none⟩ (.int .u8 (c.toNat : Int))) := by
  intro j d hj
  obtain ⟨⟨e, he⟩, _⟩ := hb k hk
  cases j with
  | zero => simp at hj; subst hj; rw [Nat.add_zero, World.cell?_setCell_same (h := he)]
  | succ j =>
    rw [World.cell?_setCell_other (h := fun h => by have := congrArg Addr.off h; simp at this)]
    have := h j d (by simpa using hj)
    rw [show k + (j + 1) = k + 1 + j by omega]; exact this
theorem digitG {d : Nat} (h : d < 16) (h2 : d < (⟨#[48, 49, 50, 51, 52, 53, 54, 55, 56, 57, 97, 98, 99, 100, 101, 102, 103, 104, 105, 106, 107, 108, 109, 110, 111, 112, 113, 114, 115, 116, 117, 118, 119, 120, 121, 122]⟩ : ByteArray).size) : (⟨#[48, 49, 50, 51, 52, 53, 54, 55, 56, 57, 97, 98, 99, 100, 101, 102, 103, 104, 105, 106, 107, 108, 109, 110, 111, 112, 113, 114, 115, 116, 117, 118, 119, 120, 121, 122]⟩ : ByteArray)[d]'h2 = hxD d := by
  have : ∀ d : Fin 16, (⟨#[48, 49, 50, 51, 52, 53, 54, 55, 56, 57, 97, 98, 99, 100, 101, 102, 103, 104, 105, 106, 107, 108, 109, 110, 111, 112, 113, 114, 115, 116, 117, 118, 119, 120, 121, 122]⟩ : ByteArray).data[d.val]? = some (hxD d.val) := by decide +kernel
  have h3 := this ⟨d, h⟩
  rw [Array.getElem?_eq_some_iff] at h3
  obtain ⟨_, h4⟩ := h3
  exact h4
def FbRel (n N : Nat) (w : World) (u i : Value) (wr : World) : Prop :=
  ∃ (m k : Nat) (s : List UInt8), u = .int .u64 (m : Int) ∧ i = .int .i64 (k : Int) ∧ k ≤ 65 ∧ 56 ≤ k ∧ m < 16 ^ (k - 55) ∧ s.length = 65 - k ∧ hexT n = hexT m ++ s ∧ Tail N k s wr ∧ Buf N 65 wr ∧ N < wr.heap.size ∧ Below w.heap.size w wr
def uOf : Value → Nat
  | .int _ z => z.toNat
  | _ => 0
set_option maxHeartbeats 4000000 in
set_option maxRecDepth 100000 in
theorem formatBits16_any (n : Nat) (hn : n < 16 ^ 10) (w : World) (h : HasDb w) :
    Calls Tryz.prog 150 #[.slice none 0 0, .int .u64 (n : Int), .int .i64 16, .bool false, .bool false] w fun e w' => e = .returned (.tuple #[.slice none 0 0, .string (strB (hexT n))]) ∧ Below w.heap.size w w' := by
  have HD := Lib.hid h
  have hn2 : n < 1099511627776 := hn
  clear h
  go_enter Tryz.func150, Tryz.ntmps150
  go_wp2_with fail
  refine (pow2_16 _).mono ?_
  rintro e w' ⟨rfl, rfl⟩
  go_wp2_with fail
  refine (tz_16 _ (HD.out.below (below_new _ _))).mono ?_
  rintro e w' ⟨rfl, rfl⟩
  go_wp2_with fail
  go_loopw [1, 13] (fun u i wr => FbRel n w.heap.size w u i wr) (fun u _ _ => uOf u)
  case atStart =>
    refine ⟨n, 65, [], rfl, rfl, by omega, by omega, hn, rfl, by simp, fun j c h => by simp at h, ?_, by simp, below_new _ _⟩
    intro j hj
    have hz : Tryz.zeroCells225 = Array.replicate 65 (.int .u8 0) := by kernel_rfl
    refine ⟨⟨0, ?_⟩, World.frozen?_alloc_at _ _ _ _ rfl⟩
    rw [World.cell?_alloc_at _ _ _ _ rfl, hz]
    simp [hj]
  case round =>
    obtain ⟨m, k, s, rfl, rfl, hk, hk2, hm, hs, hx, ht, hbf, hN, hB⟩ := hrel
    obtain ⟨q, rfl⟩ : ∃ q : Nat, k = q + 1 := ⟨k - 1, by omega⟩
    have hq1 : (0 : Int) ≤ q := by omega
    have hq2 : (q : Int) < 65 := by omega
    obtain ⟨⟨c, hc⟩, hf⟩ := hbf q (by omega)
    by_cases h16 : 16 ≤ m
    · obtain ⟨d, hdm⟩ : ∃ d, d = m % 16 := ⟨_, rfl⟩
      have hd16 : d < 16 := by omega
      have hm64 : m < 18446744073709551616 := by
        have h1 : 16 ^ (q + 1 - 55) ≤ 16 ^ 10 := Nat.pow_le_pow_right (by decide) (by omega)
        have h2 : (16 : Nat) ^ 10 = 1099511627776 := by decide
        omega
      have e2 : bits BinOp.and IntKind.u64 (m : Int) 15 = (d : Int) := by
        rw [show (15 : Int) = ((15 : Nat) : Int) from rfl, bits_and_u64_nat _ _ hm64 (by decide), hdm]
        congr 1
        exact Nat.and_two_pow_sub_one_eq_mod m 4
      have hd := digitG hd16 (Nat.lt_of_lt_of_le hd16 (by decide))
      have H := Lib.hid (show FbRel n w.heap.size w (.int .u64 ((m : Int) / 16)) (.int .i64 (q : Int)) (wr.setCell ⟨w.heap.size, q, none⟩ (.int .u8 ((hxD d).toNat : Int))) by
        refine ⟨m / 16, q, hxD d :: s, by simp, rfl, by omega, ?_, ?_, by simp [hs]; omega, by rw [hx, hexT_more h16, List.append_assoc, hdm]; rfl, ht.push hbf (by omega) _, hbf.set (by omega) _, by simpa using hN, hB.setCell (p := ⟨w.heap.size, q, none⟩) (Nat.le_refl _) _⟩
        · apply Nat.le_of_not_lt
          intro hlt
          have h1 : 16 ^ (q + 1 - 55) ≤ 16 ^ 1 := Nat.pow_le_pow_right (by decide) (by omega)
          omega
        · by_cases hlt : q < 55
          · omega
          · rw [show q + 1 - 55 = (q - 55) + 1 by omega, Nat.pow_succ] at hm
            exact Nat.div_lt_of_lt_mul (by omega))
      clear hx ht hbf hB hm hs hdm
      go_wp2_with fail
      go_roundw
      case rel => exact H.out
      case measure => simp [uOf]; omega
    · have hd16 : m < 16 := by omega
      have hd := digitG hd16 (Nat.lt_of_lt_of_le hd16 (by decide))
      have hal : Tryz.prog.arrayLen 225 = 65 := by simp [Program.arrayLen, Tryz.underlying225]
      have hsl : ∀ W, (Instr.sliceAt 225 (.pointer (some ⟨w.heap.size, 0, none⟩)) (some (.int .i64 (q : Int))) none none).run Tryz.prog W = .ok (.slice (some ⟨w.heap.size, q, none⟩) (65 - q) (65 - q)) W := fun W => by
        rw [run_sliceAt_array_l W 225 ⟨w.heap.size, 0, none⟩ (by simp [Program.arrayLen, Program.elem, Tryz.underlying225]) .i64 (q : Int) (by omega) (by rw [hal]; omega)]
        go_simp
        omega
      have hlen : (hxD m :: s).length = 65 - q := by simp [hs]; omega
      have hT := ht.push hbf (by omega) (hxD m)
      have hcv : (convert 40 9 (.slice (some ⟨w.heap.size, q, none⟩) (65 - q) (65 - q))).run Tryz.prog (wr.setCell ⟨w.heap.size, q, none⟩ (.int .u8 ((hxD m).toNat : Int))) = .ok (.string (strB (hexT n))) (wr.setCell ⟨w.heap.size, q, none⟩ (.int .u8 ((hxD m).toNat : Int))) := by
        have h1 := run_convert_bytes_back (wr.setCell ⟨w.heap.size, q, none⟩ (.int .u8 ((hxD m).toNat : Int))) 40 9 5 ⟨w.heap.size, q, none⟩ (65 - q) (hxD m :: s) Tryz.underlying40 Tryz.underlying5 Tryz.underlying9 (fun j hj => by
          rw [Addr.add_lit]; exact hT j _ (by simp))
        rw [hlen] at h1
        rw [hx, hexT_small hd16]; exact h1
      have HB := Lib.hid (hB.setCell (p := ⟨w.heap.size, q, none⟩) (Nat.le_refl _) (.int .u8 ((hxD m).toNat : Int)))
      clear hx ht hbf hB hm hs hT hlen
      go_wp2_with fail
      go_ret2
      exact ⟨rfl, HB.out⟩
set_option maxHeartbeats 1000000 in
set_option maxRecDepth 100000 in
theorem formatI16_any (n : Nat) (hn : n < 16 ^ 10) (w : World) (h : HasDb w) :
    Calls Tryz.prog 108 #[.int .i64 (n : Int), .int .i64 16] w fun e w' => e = .returned (.string (strB (hexT n))) ∧ Below w.heap.size w w' := by
  have hn2 : n < 1099511627776 := hn
  have F := Lib.hid (formatBits16_any n hn w h)
  have hw : IntKind.u64.wrap (n : Int) = (n : Int) := by rw [IntKind.wrap_u64]; omega
  have hneg : decide ((n : Int) < 0) = false := decide_eq_false (by omega)
  go_enter Tryz.func108, Tryz.ntmps108
  go_wp2_with fail
  refine F.out.mono ?_
  rintro e w' ⟨rfl, hB⟩
  go_wp2_with fail
  go_ret
  exact ⟨rfl, hB⟩
set_option maxHeartbeats 1000000 in
theorem format16_any (n : Nat) (hn : n < 16 ^ 10) (w : World) (h : HasDb w) :
    Calls Tryz.prog 74 #[.int .i64 (n : Int), .int .i64 16] w fun e w' => e = .returned (.string (strB (hexT n))) ∧ Below w.heap.size w w' := by
  have F := Lib.hid (formatI16_any n hn w h)
  go_enter Tryz.func74, Tryz.ntmps74
  go_wp2_with fail
  refine F.out.mono ?_
  rintro e w' ⟨rfl, hB⟩
  go_wp2_with fail
  go_ret
  exact ⟨rfl, hB⟩
end Go.Proofs.YtpikjcmenmdolaaGreatDoor

/- What the program's Chunk returns. -/
namespace Go.Proofs.YtpikjcmenmdolaaGreatDoor
open Go.RowKit

theorem addS_run {P : Program} {a b c : ByteArray} (h : a ++ b = c) (ha : a.size ≤ 1000000000) (hb : b.size ≤ 1000000000) (w : World) : (Op.stringOp .add a b).run P w = .ok (.string c) w := by rw [run_string_add_sum w a b (by omega), h]
theorem conv_lit (W : World) (g : Nat) (hg : g = W.heap.size) (C : Array Value) (n c : Nat) : (convert 40 40 (.slice (some ⟨g, 0, none⟩) n c)).run Tryz.prog (W.alloc (.cells C 5)).drew = .ok (.slice (some ⟨g, 0, none⟩) n c) (W.alloc (.cells C 5 (C.size, C.size + 1))).drew := by
  subst hg
  exact Lib.run_convert_bytes_const (P := Tryz.prog) W.drew 40 5 C n c Tryz.underlying40 Tryz.underlying5
theorem reads_str (s : ByteArray) (w : World) (fr : Nat × Nat) (hs : s.size ≤ 1000000000) :
    ReadsD (w.alloc (.cells (bytesRow s (grownCap w s.size 0 5)) 5 fr)) (.slice (some ⟨w.heap.size, 0, none⟩) s.size (grownCap w s.size 0 5)) s.data.toList := by
  have hsl : s.data.toList.length = s.size := by rw [Array.length_toList]; rfl
  refine ⟨_, _, by rw [hsl], by rw [hsl]; exact grownCap_ge w s.size 0 _, grownCap_le_maxLen w s.size 0 _ (by unfold maxLen; omega), fun h => (by cases h), fun j c hj => ⟨w.heap.size, 0, rfl, by simp, ?_⟩⟩
  rw [Nat.zero_add, World.cell?_alloc_mark]
  have hj2 : j < s.data.size := by
    have := (List.getElem?_eq_some_iff.1 hj).1
    simpa using this
  unfold bytesRow
  rw [Array.getElem?_append_left (by simpa using hj2)]
  have hj3 : s.data[j]? = some c := by rw [← Array.getElem?_toList]; exact hj
  simp [hj3]
theorem readsK_lit (w : World) (l : List UInt8) (fr : Nat × Nat) (hl : l.length ≤ 1000) : ReadsD (w.alloc (.cells (Lib.byteCells l).toArray 5 fr)) (.slice (some ⟨w.heap.size, 0, none⟩) l.length l.length) l := by
  refine ⟨_, _, rfl, Nat.le_refl _, by unfold maxLen; omega, fun h => (by cases h), fun j c hj => ⟨w.heap.size, 0, rfl, by simp, ?_⟩⟩
  rw [Nat.zero_add, World.cell?_alloc_mark]
  simpa using cellB_get hj
theorem reads_three (W : World) (va vb vc : Value) {la lb lc : List UInt8} (T : TypeId) (ha : ReadsD W va la) (hb : ReadsD W vb lb) (hc : ReadsD W vc lc) :
    ReadsL (W.alloc (.cells #[va, vb, vc] T)).drew (.slice (some ⟨W.heap.size, 0, none⟩) 3 3) [la, lb, lc] := by
  have hB : Below W.heap.size W (W.alloc (.cells #[va, vb, vc] T)).drew := (below_new _ _).drew
  have hcell : ∀ j, (W.alloc (.cells #[va, vb, vc] T)).drew.cell? ⟨W.heap.size, 0 + j, none⟩ = (#[va, vb, vc] : Array Value)[j]? := fun j => by
    rw [Nat.zero_add]
    show (W.alloc _).cell? _ = _
    rw [World.cell?_alloc_at _ _ _ _ rfl]
  have hs : W.heap.size < (W.alloc (.cells #[va, vb, vc] T)).drew.heap.size := by
    show _ < (W.alloc _).heap.size
    simp
  refine ⟨_, _, rfl, fun j l h => ?_⟩
  match j, h with
  | 0, h => simp at h; subst h; exact ⟨_, 0, va, rfl, hs, (hcell 0).trans rfl, ha.below hB⟩
  | 1, h => simp at h; subst h; exact ⟨_, 0, vb, rfl, hs, (hcell 1).trans rfl, hb.below hB⟩
  | 2, h => simp at h; subst h; exact ⟨_, 0, vc, rfl, hs, (hcell 2).trans rfl, hc.below hB⟩
  | j + 3, h => simp at h
set_option maxHeartbeats 4000000 in
set_option maxRecDepth 100000 in
theorem chunk_any (v : Value) (b : List UInt8) (w : World) (hr : ReadsD w v b) (hl : b.length ≤ 1000000) (hd : HasDb w) :
    Calls Tryz.prog 52 #[v] w fun e w' => ∃ v', e = .returned v' ∧ OwnB w.heap.size w' v' (chunkL b) ∧ Below w.heap.size w w' := by
  have HR := Lib.hid hr
  obtain ⟨ao, cap, rfl, _⟩ := hr
  by_cases hb : b = []
  · subst hb
    go_enter Tryz.func52, Tryz.ntmps52
    go_wp2_with fail
    go_ret
    exact ⟨_, rfl, OwnB.nil _ _, Below.refl _ _⟩
  · have hpos : 0 < b.length := List.length_pos_iff.2 hb
    have hne : ((b.length : Int) == 0) = false := by simp; omega
    have F := Lib.hid (format16_any b.length (by omega) w hd)
    go_enter Tryz.func52, Tryz.ntmps52
    go_wp2_with fail
    refine F.out.mono ?_
    rintro e w1 ⟨rfl, hB1⟩
    obtain ⟨s0, hs0⟩ : ∃ s, strB (hexT b.length) = s := ⟨_, rfl⟩
    have hx6 := hexT_len 6 b.length (by omega)
    have hz0 : s0.size ≤ 7 := by rw [← hs0, strB_size]; exact hx6.2
    obtain ⟨s, hs⟩ : ∃ s, s0 ++ (⟨#[13, 10]⟩ : ByteArray) = s := ⟨_, rfl⟩
    have hadd : ∀ w : World, _ := fun w => addS_run (P := Tryz.prog) hs (by omega) (by show 2 ≤ _; omega) w
    have hcvt : ∀ W : World, _ := fun W => run_bytes_of_string (P := Tryz.prog) W 9 40 5 s Tryz.underlying9 Tryz.underlying40 Tryz.underlying5
    have HSZ := Lib.hid (show s.size = (hexT b.length).length + 2 by rw [← hs, ByteArray.size_append, ← hs0, strB_size]; rfl)
    rw [hs0]
    have hcs := conv_lit (w1.alloc (.cells (bytesRow s (grownCap w1 s.size 0 5)) 5 ((bytesRow s (grownCap w1 s.size 0 5)).size, (bytesRow s (grownCap w1 s.size 0 5)).size + 1))) (w1.heap.size + 1) (by simp) #[.int .u8 13, .int .u8 10] 2 2
    go_wp2_with fail
    have hA := below_new w1 (.cells (bytesRow s (grownCap w1 s.size 0 5)) 5 ((bytesRow s (grownCap w1 s.size 0 5)).size, (bytesRow s (grownCap w1 s.size 0 5)).size + 1))
    have hR1 := reads_str s w1 ((bytesRow s (grownCap w1 s.size 0 5)).size, (bytesRow s (grownCap w1 s.size 0 5)).size + 1) (by have := HSZ.out; omega)
    have hR2 := (HR.out.below hB1).below hA
    have hzA : (w1.alloc (.cells (bytesRow s (grownCap w1 s.size 0 5)) 5 ((bytesRow s (grownCap w1 s.size 0 5)).size, (bytesRow s (grownCap w1 s.size 0 5)).size + 1))).heap.size = w1.heap.size + 1 := by simp
    have hBA := hB1.trans (hA.mono hB1.size)
    clear hcs hcvt hadd hA
    generalize w1.alloc (.cells (bytesRow s (grownCap w1 s.size 0 5)) 5 ((bytesRow s (grownCap w1 s.size 0 5)).size, (bytesRow s (grownCap w1 s.size 0 5)).size + 1)) = WA at *
    have hC := below_new WA (.cells #[.int .u8 13, .int .u8 10] 5 (2, 3))
    have hR3 : ReadsD (WA.alloc (.cells #[.int .u8 13, .int .u8 10] 5 (2, 3))) (.slice (some ⟨w1.heap.size + 1, 0, none⟩) 2 2) [13, 10] := by
      rw [← hzA]; exact readsK_lit WA [13, 10] (2, 3) (by decide)
    have hzC : (WA.alloc (.cells #[.int .u8 13, .int .u8 10] 5 (2, 3))).heap.size = w1.heap.size + 1 + 1 := by simp [hzA]
    have hR1 := hR1.below hC
    have hR2 := hR2.below hC
    have hBC := hBA.trans (hC.mono hBA.size)
    clear hC
    generalize WA.alloc (.cells #[.int .u8 13, .int .u8 10] 5 (2, 3)) = WC at *
    have hRL := reads_three WC _ _ _ 40 hR1 hR2 hR3
    rw [hzC] at hRL
    have hBD : Below w.heap.size w (WC.alloc (.cells #[.slice (some ⟨w1.heap.size, 0, none⟩) s.size (grownCap w1 s.size 0 5), .slice ao b.length cap, .slice (some ⟨w1.heap.size + 1, 0, none⟩) 2 2] 40)).drew := (hBC.alloc hBC.size _).drew
    have hsl : s.data.toList.length = s.size := by rw [Array.length_toList]; rfl
    have hsum : sumL [s.data.toList, b, [13, 10]] = s.size + (b.length + (2 + 0)) := by simp [sumL, hsl]
    refine (concat_any _ [s.data.toList, b, [13, 10]] _ hRL (by simp) (by rw [hsum]; omega) (by rw [hsum]; have := HSZ.out; omega)).mono ?_
    rintro e w5 ⟨v5, rfl, hO5, hB5⟩
    go_wp2_with fail
    go_ret
    refine ⟨_, rfl, ?_, hBD.trans (hB5.mono hBD.size)⟩
    have hfl : [s.data.toList, b, [13, 10]].flatten = chunkL b := by
      unfold chunkL
      rw [if_neg hb, ← hs, ← hs0]
      simp [strB]
    rw [← hfl]
    exact hO5.mono hBD.size
end Go.Proofs.YtpikjcmenmdolaaGreatDoor

/- What Is and Clip return where the statements call them. -/
namespace Go.Proofs.YtpikjcmenmdolaaGreatDoor
open Go.RowKit

set_option maxHeartbeats 400000 in
set_option maxRecDepth 100000 in
theorem is_errno (a : Int) (ha : (a != 0) = true) (w : World) : Calls Tryz.prog 20 #[.iface 51 (.int .i64 a), .int .i64 a] w fun e w' => e = .returned (.bool true) ∧ w = w' := by
  go_enter Tryz.func20, Tryz.ntmps20
  go_wp2_with (go_at_call 14; refine (num_errno _ _).mono ?_; rintro e w' ⟨rfl, rfl⟩)
  go_ret
  exact ⟨rfl, rfl⟩
set_option maxHeartbeats 400000 in
set_option maxRecDepth 100000 in
theorem is_nil (b : Int) (hb : ((0 : Int) == b) = false) (w : World) : Calls Tryz.prog 20 #[.nilIface, .int .i64 b] w fun e w' => e = .returned (.bool false) ∧ w = w' := by
  go_enter Tryz.func20, Tryz.ntmps20
  go_wp2_with (go_at_call 14; refine (num_nil _).mono ?_; rintro e w' ⟨rfl, rfl⟩)
  go_ret
  exact ⟨rfl, rfl⟩
end Go.Proofs.YtpikjcmenmdolaaGreatDoor
