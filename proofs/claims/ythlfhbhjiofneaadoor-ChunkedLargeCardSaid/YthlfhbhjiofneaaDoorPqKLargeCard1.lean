import Derived.Test.YthlfhbhjiofneaaDoorKParts
import Derived.Test.YthlfhbhjiofneaaDoorFOwn
import Derived.Maps.AppendAt
import Derived.Lib.AppendZeros
import Derived.IntWalk
import Derived.Test.YthlfhbhjiofneaaDoorPqKLargeCard0
import Derived.Test.YthlfhbhjiofneaaDoorAMax
import Derived.Lib.TrailingZeros
import Derived.Lib.SlBytesConst
import Derived.Laws.IdiomStrings
/- The statements' Ref: the reference's fields of the program's; an append of bytes that says where the new slice lies. -/
namespace Go.Proofs.YthlfhbhjiofneaaDoor
open Go.RowKit

theorem Tryd.infoGK : (Tryd.prog.info? 51).map (fun i => (i.zero, i.size, i.bytes)) = some (some (.agg #[.string ByteArray.empty, .string ByteArray.empty]), 2, 32) := by kernel_rfl
/-- An append of bytes that are read to a slice of bytes of the call's own, whatever the guard; where the new slice lies. -/
theorem wpList_appendA {B : Nat} {w : World} {ops : Array Oper} {rest : List Oper} {o : Oper} {a : Act} {Q : Exit → Act → World → Prop} (hw : Region.wanted o (yielded ops a.tmps) = true) (s x : Operand)
    (ho : o.op = .call { callee := .builtin .append, args := #[s, x], argTypes := #[27, 27] }) (v v2 : Value) (hs : a.eval s = v) (hx : a.eval x = v2) {l m : List UInt8} (hown : OwnB B w v l) (hr : ReadsD w v2 m)
    (hn : l.length + m.length ≤ 1000000000) (hB : B ≤ w.heap.size) (h : ∀ v' w', OwnB B w' v' (l ++ m) → w.grownBy w' v.ownBlock → (v'.ownBlock = v.ownBlock ∨ v'.ownBlock = some w.heap.size) → wpList Tryd.prog ops Q rest (a.put o.dst v') w') :
    wpList Tryd.prog ops Q (o :: rest) a w := by
  obtain ⟨i0, hi, hz0, hz1, hz2⟩ := info_parts Tryd.infoB
  refine BigFrame.wpList_want hw fun K hK => ?_
  obtain ⟨ao, cap, rfl, hc⟩ := id hr
  cases ao with
  | none =>
    obtain ⟨rfl, _, rfl⟩ := readsB_none hr
    have hrun := run_append_owned_none (P := Tryd.prog) (w := w) B 27 o.type 5 i0 1 Tryd.underlying27 hi v l.length (Lib.byteCells l) hown
    unfold Oper.wp
    simp [execOp, ho, resolve, invoke, builtin, hs, hx, hrun, Result.andThen]
    exact hK _ _ (h v w (by rw [List.append_nil]; exact hown) ⟨rfl, rfl, rfl, Nat.le_refl _, fun _ _ _ => rfl⟩ (.inl rfl))
  | some ad =>
    obtain ⟨_, hs'⟩ := readsB_src hr
    obtain ⟨v', w', hr', h2, h3, h4, h5⟩ := run_append_own_at (P := Tryd.prog) w B 27 o.type 5 i0 _ 1 1 Tryd.underlying27 hi hz0 hz1 hz2 rfl (by decide) v l.length (Lib.byteCells l) hown ad m.length cap (Lib.byteCells m) (by rw [Lib.byteCells_length]; omega) hs' (oneB m) (by unfold maxLen; omega) (by omega) hB
    unfold Oper.wp execOp
    simp only [ho, resolve, invoke, builtin, Sem.run_bind, Sem.run_pure, Result.andThen_ok, List.map_toArray, List.map_cons, List.map_nil, hs, hx, hr']
    exact hK _ _ (h v' w' (own_appB h2) h3 h5)
end Go.Proofs.YthlfhbhjiofneaaDoor

/- What slices.Grow and slices.Concat return for slices of bytes. -/
namespace Go.Proofs.YthlfhbhjiofneaaDoor
open Go.RowKit

set_option maxHeartbeats 2000000 in
theorem grow_any (n : Nat) (h0 : 0 < n) (hn : n ≤ 1000000000) (w : World) :
    Calls Tryd.prog 37 #[.slice none 0 0, .int .i64 (n : Int)] w fun e w' => ∃ v, e = .returned v ∧ OwnB w.heap.size w' v [] ∧ Below w.heap.size w w' := by
  obtain ⟨i0, hi, hz0, hz1, hz2⟩ := info_parts Tryd.infoB
  have hw : IntKind.i64.wrap (n : Int) = (n : Int) := IntWalk.i64_in _ (by omega)
  have hneg : decide ((n : Int) < 0) = false := decide_eq_false (by omega)
  have hpos : decide (0 < (n : Int)) = true := decide_eq_true (by omega)
  have hrun := fun W => Lib.run_append_nil_zeros (P := Tryd.prog) W 27 3 27 5 i0 (.int .u8 0) .i64 .i64 Tryd.underlying27 Tryd.underlying3 hi hz0 n h0 (by omega) (by omega) (by rw [hz2]; omega)
  go_enter Tryd.func37, Tryd.ntmps37
  go_wp2_with (at_builtin; refine Lib.wpList_append_run _ rfl _ _ _ _ rfl _ _ rfl rfl _ _ (hrun _) ?_)
  go_ret
  refine ⟨_, rfl, ?_, (below_new _ _).drew⟩
  have hge := grownCap_ge w n 0 5
  exact World.ownsRow_made w _ _ (Nat.le_refl _) (grownCap_le_maxLen w n 0 5 (by unfold maxLen; omega)) (by
    rw [Array.size_append, size_zeroCells, size_zeroCells]
    show n * 1 + (_ - n) * 1 = _
    omega)
/-- The flat bytes of the first k. -/
theorem flat_more {ls : List (List UInt8)} {k : Nat} {l : List UInt8} (h : ls[k]? = some l) : (ls.take (k + 1)).flatten = (ls.take k).flatten ++ l := by
  rw [List.take_add_one, h]; simp
theorem sumL_take (ls : List (List UInt8)) (k : Nat) : sumL (ls.take k) ≤ sumL ls := by
  have := sumL_app (ls.take k) (ls.drop k)
  rw [List.take_append_drop] at this
  omega
set_option maxHeartbeats 4000000 in
set_option maxRecDepth 100000 in
theorem concat_any (v : Value) (ls : List (List UInt8)) (w : World) (hr : ReadsL w v ls) (hl : ls.length ≤ 1000) (h0 : 0 < sumL ls) (hs : sumL ls ≤ 100000000) :
    Calls Tryd.prog 25 #[v] w fun e w' => ∃ v, e = .returned v ∧ OwnB w.heap.size w' v ls.flatten ∧ Below w.heap.size w w' := by
  have G := Lib.hid (fun W => grow_any (sumL ls) h0 (by omega) W)
  have HR := Lib.hid hr
  obtain ⟨ao, cap, rfl, hc⟩ := hr
  have HC := Lib.hid hc
  clear hc
  go_enter Tryd.func25, Tryd.ntmps25
  go_wp2_with fail
  go_loopw [3, 11] (fun z i wr => wr = w ∧ ∃ k : Nat, z = .int .i64 (sumL (ls.take k) : Int) ∧ i = .int .i64 (k : Int) ∧ k ≤ ls.length) (fun _ i _ => ls.length - (intOf i).toNat)
  case atStart => exact ⟨rfl, 0, rfl, rfl, Nat.zero_le _⟩
  case round =>
    obtain ⟨hwr, k, rfl, rfl, hk⟩ := hrel
    obtain rfl : w = wr := hwr.symm
    have hsk := sumL_take ls k
    by_cases hlt : k < ls.length
    · obtain ⟨l, hl'⟩ : ∃ l, ls[k]? = some l := ⟨ls[k], by simp [hlt]⟩
      obtain ⟨g, off, x, rfl, hg, hcell, hx⟩ := HC.out k l hl'
      have hm := sumL_more hl'
      have hsk1 := sumL_take ls (k + 1)
      obtain ⟨xa, xc, rfl, _⟩ := id hx
      have e1 : IntKind.i64.wrap ((sumL (ls.take k) : Int) + (l.length : Int)) = (sumL (ls.take (k + 1)) : Int) := by rw [IntWalk.i64_in _ (by omega)]; omega
      have hneg : decide ((sumL (ls.take (k + 1)) : Int) < 0) = false := decide_eq_false (by omega)
      go_wp2_with fail
      go_roundw
      case rel => exact ⟨by trivial, k + 1, by congr 1; omega, by go_num, by omega⟩
      case measure => simp [intOf]; omega
    · have hke : k = ls.length := by omega
      have htk : sumL (ls.take k) = sumL ls := by rw [hke, List.take_length]
      rw [htk]
      go_wp2_with fail
      refine (G.out _).mono ?_
      rintro e w1 ⟨v1, rfl, hO1, hB1⟩
      go_wp2_with fail
      go_loopw [6, 27] (fun u i wr => ∃ k : Nat, i = .int .i64 (k : Int) ∧ k ≤ ls.length ∧ OwnB w.heap.size wr u (ls.take k).flatten ∧ Below w.heap.size w wr) (fun _ i _ => ls.length - (intOf i).toNat)
      case atStart => exact ⟨0, rfl, Nat.zero_le _, hO1, hB1⟩
      case round =>
        obtain ⟨j, rfl, hj, hO, hB⟩ := hrel
        have hfl := sumL_flat (ls.take j)
        have hsj := sumL_take ls j
        by_cases hlt2 : j < ls.length
        · obtain ⟨l, hl'⟩ : ∃ l, ls[j]? = some l := ⟨ls[j], by simp [hlt2]⟩
          obtain ⟨g, off, x, rfl, hg, hcell, hx⟩ := HC.out j l hl'
          have hm := sumL_more hl'
          have hsk1 := sumL_take ls (j + 1)
          have HFM := Lib.hid (flat_more hl')
          have hcx := (hB.cell (p := ⟨g, off + j, none⟩) hg).trans hcell
          have HX := Lib.hid (hx.below hB)
          have HO := Lib.hid hO
          have HB := Lib.hid hB
          have hbs := hB.size
          obtain ⟨xa, xc, rfl, _⟩ := id hx
          clear hx hO hB hcell hl'
          go_wp2_with (at_builtin; refine wpList_appendA (by rfl) _ _ (by rfl) _ _ (by rfl) (by rfl) HO.out HX.out (by omega) (by omega) ?_; intro v' w2 hO2 hgrow hat)
          go_roundw
          case rel => exact ⟨j + 1, by go_num, by omega, by rw [HFM.out]; exact hO2, HB.out.grown hgrow hbs (fun q hq => (World.ownsRow.lt HO.out q hq).1)⟩
          case measure => simp [intOf]; omega
        · have htk2 : (ls.take j).flatten = ls.flatten := by rw [List.take_of_length_le (by omega)]
          rw [htk2] at hO
          have HO := Lib.hid hO
          have HB := Lib.hid hB
          clear hO hB
          go_wp2_with fail
          go_ret
          exact ⟨_, rfl, HO.out, HB.out⟩
end Go.Proofs.YthlfhbhjiofneaaDoor

/- What strconv.FormatInt returns in base 16. -/
namespace Go.Proofs.YthlfhbhjiofneaaDoor
open Go.RowKit

/-- The one entry of the table that base 16 asks for. -/
def HasDb (w : World) : Prop := w.cell? ⟨2, 15, none⟩ = some (.int .u8 4)
theorem HasDb.below {w w' : World} (h : HasDb w) (hb : Below w.heap.size w w') : HasDb w' := (hb.cell (p := ⟨2, 15, none⟩) (World.block_lt_of_cell? _ _ h)).trans h
set_option maxHeartbeats 1000000 in
theorem tz64_16 (w : World) (h : HasDb w) : Calls Tryd.prog 71 #[.int .u64 16] w fun e w' => e = .returned (.int .i64 4) ∧ w = w' := by
  unfold HasDb at h
  have e15 : IntKind.u64.wrap (bits BinOp.and IntKind.u64 16 (IntKind.u64.wrap (-16)) * 285870213051353865) / 288230376151711744 = 15 := by decide +kernel
  go_enter Tryd.func71, Tryd.ntmps71
  go_wp2
  go_ret
  exact ⟨rfl, rfl⟩
set_option maxHeartbeats 1000000 in
theorem tz_16 (w : World) (h : HasDb w) : Calls Tryd.prog 65 #[.int .u64 16] w fun e w' => e = .returned (.int .i64 4) ∧ w = w' := by
  have T := tz64_16 w h
  go_enter Tryd.func65, Tryd.ntmps65
  go_wp2_with fail
  refine T.mono ?_
  rintro e w' ⟨rfl, rfl⟩
  go_wp2
  go_ret
  exact ⟨rfl, rfl⟩
set_option maxHeartbeats 1000000 in
theorem pow2_16 (w : World) : Calls Tryd.prog 64 #[.int .i64 16] w fun e w' => e = .returned (.bool true) ∧ w = w' := by
  go_enter Tryd.func64, Tryd.ntmps64
  go_wp2
  go_ret
  exact ⟨rfl, rfl⟩
end Go.Proofs.YthlfhbhjiofneaaDoor

/- What formatBits returns in base 16. -/
namespace Go.Proofs.YthlfhbhjiofneaaDoor
open Go.RowKit

/-- A buffer of n bytes, whatever they are. -/
def Buf (g n : Nat) (w : World) : Prop := ∀ j, j < n → (∃ c : Int, w.cell? ⟨g, j, none⟩ = some (.int .u8 c)) ∧ w.frozen? ⟨g, j, none⟩ = false
theorem Buf.set {g n m : Nat} {w : World} (h : Buf g n w) (hm : m < n) (z : Int) : Buf g n (w.setCell ⟨g, m, none⟩ (.int .u8 z)) := by
  intro j hj
  obtain ⟨⟨c, hc⟩, hf⟩ := h j hj
  obtain ⟨⟨d, hd⟩, _⟩ := h m hm
  refine ⟨?_, by simpa using hf⟩
  by_cases e : j = m
  · subst e; exact ⟨z, by rw [World.cell?_setCell_same (h := hd)]⟩
  · exact ⟨c, by rw [World.cell?_setCell_other (h := fun h => e (by simpa using congrArg Addr.off h.symm))]; exact hc⟩
/-- The bytes from k to the end. -/
def Tail (g k : Nat) (s : List UInt8) (w : World) : Prop := ∀ j c, s[j]? = some c → w.cell? ⟨g, k + j, none⟩ = some (.int .u8 (c.toNat : Int))
theorem Tail.push {g n k : Nat} {s : List UInt8} {w : World} (h : Tail g (k + 1) s w) (hb : Buf g n w) (hk : k < n) (c : UInt8) : Tail g k (c :: s) (w.setCell ⟨g, k, none⟩ (.int .u8 (c.toNat : Int))) := by
  intro j d hj
  obtain ⟨⟨e, he⟩, _⟩ := hb k hk
  cases j with
  | zero => simp at hj; subst hj; rw [Nat.add_zero, World.cell?_setCell_same (h := he)]
  | succ j =>
    rw [World.cell?_setCell_other (h := fun h => by have := congrArg Addr.off h; simp at this)]
    have := h j d (by simpa using hj)
    rw [show k + (j + 1) = k + 1 + j by omega]; exact this
theorem digitG {d : Nat} (h : d < 16) (h2 : d < (⟨#[48, 49, 50, 51, 52, 53, 54, 55, 56, 57, 97, 98, 99, 100, 101, 102, 103, 104, 105, 106, 107, 108, 109, 110, 111, 112, 113, 114, 115, 116, 117, 118, 119, 120, 121, 122]⟩ : ByteArray).size) : (⟨#[48, 49, 50, 51, 52, 53, 54, 55, 56, 57, 97, 98, 99, 100, 101, 102, 103, 104, 105, 106, 107, 108, 109, 110, 111, 112, 113, 114, 115, 116, 117, 118, 119, 120, 121, 122]⟩ : ByteArray)[d]'h2 = hxD d := by
  have : ∀ d : Fin 16, (⟨#[48, 49, 50, 51, 52, 53, 54, 55, 56, 57, 97, 98, 99, 100, 101, 102, 103, 104, 105, 106, 107, 108, 109, 110, 111, 112, 113, 114, 115, 116, 117, 118, 119, 120, 121, 122]⟩ : ByteArray).data[d.val]? = some (hxD d.val) := by decide +kernel
  have h3 := this ⟨d, h⟩
  rw [Array.getElem?_eq_some_iff] at h3
  obtain ⟨_, h4⟩ := h3
  exact h4
def FbRel (n N : Nat) (w : World) (u i : Value) (wr : World) : Prop :=
  ∃ (m k : Nat) (s : List UInt8), u = .int .u64 (m : Int) ∧ i = .int .i64 (k : Int) ∧ k ≤ 65 ∧ 56 ≤ k ∧ m < 16 ^ (k - 55) ∧ s.length = 65 - k ∧ hexT n = hexT m ++ s ∧ Tail N k s wr ∧ Buf N 65 wr ∧ N < wr.heap.size ∧ Below w.heap.size w wr
def uOf : Value → Nat
  | .int _ z => z.toNat
  | _ => 0
set_option maxHeartbeats 4000000 in
set_option maxRecDepth 100000 in
theorem formatBits16_any (n : Nat) (hn : n < 16 ^ 10) (w : World) (h : HasDb w) :
    Calls Tryd.prog 52 #[.slice none 0 0, .int .u64 (n : Int), .int .i64 16, .bool false, .bool false] w fun e w' => e = .returned (.tuple #[.slice none 0 0, .string (strB (hexT n))]) ∧ Below w.heap.size w w' := by
  have HD := Lib.hid h
  have hn2 : n < 1099511627776 := hn
  clear h
  go_enter Tryd.func52, Tryd.ntmps52
  go_wp2_with fail
  refine (pow2_16 _).mono ?_
  rintro e w' ⟨rfl, rfl⟩
  go_wp2_with fail
  refine (tz_16 _ (HD.out.below (below_new _ _))).mono ?_
  rintro e w' ⟨rfl, rfl⟩
  go_wp2_with fail
  go_loopw [1, 13] (fun u i wr => FbRel n w.heap.size w u i wr) (fun u _ _ => uOf u)
  case atStart =>
    refine ⟨n, 65, [], rfl, rfl, by omega, by omega, hn, rfl, by simp, fun j c h => by simp at h, ?_, by simp, below_new _ _⟩
    intro j hj
    have hz : Tryd.zeroCells92 = Array.replicate 65 (.int .u8 0) := by kernel_rfl
    refine ⟨⟨0, ?_⟩, World.frozen?_alloc_at _ _ _ _ rfl⟩
    rw [World.cell?_alloc_at _ _ _ _ rfl, hz]
    simp [hj]
  case round =>
    obtain ⟨m, k, s, rfl, rfl, hk, hk2, hm, hs, hx, ht, hbf, hN, hB⟩ := hrel
    obtain ⟨q, rfl⟩ : ∃ q : Nat, k = q + 1 := ⟨k - 1, by omega⟩
    have hq1 : (0 : Int) ≤ q := by omega
    have hq2 : (q : Int) < 65 := by omega
    obtain ⟨⟨c, hc⟩, hf⟩ := hbf q (by omega)
    by_cases h16 : 16 ≤ m
    · obtain ⟨d, hdm⟩ : ∃ d, d = m % 16 := ⟨_, rfl⟩
      have hd16 : d < 16 := by omega
      have hm64 : m < 18446744073709551616 := by
        have h1 : 16 ^ (q + 1 - 55) ≤ 16 ^ 10 := Nat.pow_le_pow_right (by decide) (by omega)
        have h2 : (16 : Nat) ^ 10 = 1099511627776 := by decide
        omega
      have e2 : bits BinOp.and IntKind.u64 (m : Int) 15 = (d : Int) := by
        rw [show (15 : Int) = ((15 : Nat) : Int) from rfl, bits_and_u64_nat _ _ hm64 (by decide), hdm]
        congr 1
        exact Nat.and_two_pow_sub_one_eq_mod m 4
      have hd := digitG hd16 (Nat.lt_of_lt_of_le hd16 (by decide))
      have H := Lib.hid (show FbRel n w.heap.size w (.int .u64 ((m : Int) / 16)) (.int .i64 (q : Int)) (wr.setCell ⟨w.heap.size, q, none⟩ (.int .u8 ((hxD d).toNat : Int))) by
        refine ⟨m / 16, q, hxD d :: s, by simp, rfl, by omega, ?_, ?_, by simp [hs]; omega, by rw [hx, hexT_more h16, List.append_assoc, hdm]; rfl, ht.push hbf (by omega) _, hbf.set (by omega) _, by simpa using hN, hB.setCell (p := ⟨w.heap.size, q, none⟩) (Nat.le_refl _) _⟩
        · apply Nat.le_of_not_lt
          intro hlt
          have h1 : 16 ^ (q + 1 - 55) ≤ 16 ^ 1 := Nat.pow_le_pow_right (by decide) (by omega)
          omega
        · by_cases hlt : q < 55
          · omega
          · rw [show q + 1 - 55 = (q - 55) + 1 by omega, Nat.pow_succ] at hm
            exact Nat.div_lt_of_lt_mul (by omega))
      clear hx ht hbf hB hm hs hdm
      go_wp2_with fail
      go_roundw
      case rel => exact H.out
      case measure => simp [uOf]; omega
    · have hd16 : m < 16 := by omega
      have hd := digitG hd16 (Nat.lt_of_lt_of_le hd16 (by decide))
      have hal : Tryd.prog.arrayLen 92 = 65 := by simp [Program.arrayLen, Tryd.underlying92]
      have hsl : ∀ W, (Instr.sliceAt 92 (.pointer (some ⟨w.heap.size, 0, none⟩)) (some (.int .i64 (q : Int))) none none).run Tryd.prog W = .ok (.slice (some ⟨w.heap.size, q, none⟩) (65 - q) (65 - q)) W := fun W => by
        rw [run_sliceAt_array_l W 92 ⟨w.heap.size, 0, none⟩ (by simp [Program.arrayLen, Program.elem, Tryd.underlying92]) .i64 (q : Int) (by omega) (by rw [hal]; omega)]
        go_simp
        omega
      have hlen : (hxD m :: s).length = 65 - q := by simp [hs]; omega
      have hT := ht.push hbf (by omega) (hxD m)
      have hcv : (convert 27 9 (.slice (some ⟨w.heap.size, q, none⟩) (65 - q) (65 - q))).run Tryd.prog (wr.setCell ⟨w.heap.size, q, none⟩ (.int .u8 ((hxD m).toNat : Int))) = .ok (.string (strB (hexT n))) (wr.setCell ⟨w.heap.size, q, none⟩ (.int .u8 ((hxD m).toNat : Int))) := by
        have h1 := run_convert_bytes_back (wr.setCell ⟨w.heap.size, q, none⟩ (.int .u8 ((hxD m).toNat : Int))) 27 9 5 ⟨w.heap.size, q, none⟩ (65 - q) (hxD m :: s) Tryd.underlying27 Tryd.underlying5 Tryd.underlying9 (fun j hj => by
          rw [Addr.add_lit]; exact hT j _ (by simp))
        rw [hlen] at h1
        rw [hx, hexT_small hd16]; exact h1
      have HB := Lib.hid (hB.setCell (p := ⟨w.heap.size, q, none⟩) (Nat.le_refl _) (.int .u8 ((hxD m).toNat : Int)))
      clear hx ht hbf hB hm hs hT hlen
      go_wp2_with fail
      go_ret2
      exact ⟨rfl, HB.out⟩
set_option maxHeartbeats 1000000 in
set_option maxRecDepth 100000 in
theorem formatI16_any (n : Nat) (hn : n < 16 ^ 10) (w : World) (h : HasDb w) :
    Calls Tryd.prog 36 #[.int .i64 (n : Int), .int .i64 16] w fun e w' => e = .returned (.string (strB (hexT n))) ∧ Below w.heap.size w w' := by
  have hn2 : n < 1099511627776 := hn
  have F := Lib.hid (formatBits16_any n hn w h)
  have hw : IntKind.u64.wrap (n : Int) = (n : Int) := by rw [IntKind.wrap_u64]; omega
  have hneg : decide ((n : Int) < 0) = false := decide_eq_false (by omega)
  go_enter Tryd.func36, Tryd.ntmps36
  go_wp2_with fail
  refine F.out.mono ?_
  rintro e w' ⟨rfl, hB⟩
  go_wp2_with fail
  go_ret
  exact ⟨rfl, hB⟩
set_option maxHeartbeats 1000000 in
theorem format16_any (n : Nat) (hn : n < 16 ^ 10) (w : World) (h : HasDb w) :
    Calls Tryd.prog 24 #[.int .i64 (n : Int), .int .i64 16] w fun e w' => e = .returned (.string (strB (hexT n))) ∧ Below w.heap.size w w' := by
  have F := Lib.hid (formatI16_any n hn w h)
  go_enter Tryd.func24, Tryd.ntmps24
  go_wp2_with fail
  refine F.out.mono ?_
  rintro e w' ⟨rfl, hB⟩
  go_wp2_with fail
  go_ret
  exact ⟨rfl, hB⟩
end Go.Proofs.YthlfhbhjiofneaaDoor

/- What the program's Chunk returns. -/
namespace Go.Proofs.YthlfhbhjiofneaaDoor
open Go.RowKit

theorem addS_run {P : Program} {a b c : ByteArray} (h : a ++ b = c) (ha : a.size ≤ 1000000000) (hb : b.size ≤ 1000000000) (w : World) : (Op.stringOp .add a b).run P w = .ok (.string c) w := by rw [run_string_add_sum w a b (by omega), h]
theorem conv_lit (W : World) (g : Nat) (hg : g = W.heap.size) (C : Array Value) (n c : Nat) : (convert 27 27 (.slice (some ⟨g, 0, none⟩) n c)).run Tryd.prog (W.alloc (.cells C 5)).drew = .ok (.slice (some ⟨g, 0, none⟩) n c) (W.alloc (.cells C 5 (C.size, C.size + 1))).drew := by
  subst hg
  exact Lib.run_convert_bytes_const (P := Tryd.prog) W.drew 27 5 C n c Tryd.underlying27 Tryd.underlying5
theorem reads_str (s : ByteArray) (w : World) (fr : Nat × Nat) (hs : s.size ≤ 1000000000) :
    ReadsD (w.alloc (.cells (bytesRow s (grownCap w s.size 0 5)) 5 fr)) (.slice (some ⟨w.heap.size, 0, none⟩) s.size (grownCap w s.size 0 5)) s.data.toList := by
  have hsl : s.data.toList.length = s.size := by rw [Array.length_toList]; rfl
  refine ⟨_, _, by rw [hsl], by rw [hsl]; exact grownCap_ge w s.size 0 _, grownCap_le_maxLen w s.size 0 _ (by unfold maxLen; omega), fun h => (by cases h), fun j c hj => ⟨w.heap.size, 0, rfl, by simp, ?_⟩⟩
  rw [Nat.zero_add, World.cell?_alloc_mark]
  have hj2 : j < s.data.size := by
    have := (List.getElem?_eq_some_iff.1 hj).1
    simpa using this
  unfold bytesRow
  rw [Array.getElem?_append_left (by simpa using hj2)]
  have hj3 : s.data[j]? = some c := by rw [← Array.getElem?_toList]; exact hj
  simp [hj3]
theorem readsK_lit (w : World) (l : List UInt8) (fr : Nat × Nat) (hl : l.length ≤ 1000) : ReadsD (w.alloc (.cells (Lib.byteCells l).toArray 5 fr)) (.slice (some ⟨w.heap.size, 0, none⟩) l.length l.length) l := by
  refine ⟨_, _, rfl, Nat.le_refl _, by unfold maxLen; omega, fun h => (by cases h), fun j c hj => ⟨w.heap.size, 0, rfl, by simp, ?_⟩⟩
  rw [Nat.zero_add, World.cell?_alloc_mark]
  simpa using cellB_get hj
theorem reads_three (W : World) (va vb vc : Value) {la lb lc : List UInt8} (T : TypeId) (ha : ReadsD W va la) (hb : ReadsD W vb lb) (hc : ReadsD W vc lc) :
    ReadsL (W.alloc (.cells #[va, vb, vc] T)).drew (.slice (some ⟨W.heap.size, 0, none⟩) 3 3) [la, lb, lc] := by
  have hB : Below W.heap.size W (W.alloc (.cells #[va, vb, vc] T)).drew := (below_new _ _).drew
  have hcell : ∀ j, (W.alloc (.cells #[va, vb, vc] T)).drew.cell? ⟨W.heap.size, 0 + j, none⟩ = (#[va, vb, vc] : Array Value)[j]? := fun j => by
    rw [Nat.zero_add]
    show (W.alloc _).cell? _ = _
    rw [World.cell?_alloc_at _ _ _ _ rfl]
  have hs : W.heap.size < (W.alloc (.cells #[va, vb, vc] T)).drew.heap.size := by
    show _ < (W.alloc _).heap.size
    simp
  refine ⟨_, _, rfl, fun j l h => ?_⟩
  match j, h with
  | 0, h => simp at h; subst h; exact ⟨_, 0, va, rfl, hs, (hcell 0).trans rfl, ha.below hB⟩
  | 1, h => simp at h; subst h; exact ⟨_, 0, vb, rfl, hs, (hcell 1).trans rfl, hb.below hB⟩
  | 2, h => simp at h; subst h; exact ⟨_, 0, vc, rfl, hs, (hcell 2).trans rfl, hc.below hB⟩
  | j + 3, h => simp at h
set_option maxHeartbeats 4000000 in
set_option maxRecDepth 100000 in
theorem chunk_any (v : Value) (b : List UInt8) (w : World) (hr : ReadsD w v b) (hl : b.length ≤ 1000000) (hd : HasDb w) :
    Calls Tryd.prog 11 #[v] w fun e w' => ∃ v', e = .returned v' ∧ OwnB w.heap.size w' v' (chunkL b) ∧ Below w.heap.size w w' := by
  have HR := Lib.hid hr
  obtain ⟨ao, cap, rfl, _⟩ := hr
  by_cases hb : b = []
  · subst hb
    go_enter Tryd.func11, Tryd.ntmps11
    go_wp2_with fail
    go_ret
    exact ⟨_, rfl, OwnB.nil _ _, Below.refl _ _⟩
  · have hpos : 0 < b.length := List.length_pos_iff.2 hb
    have hne : ((b.length : Int) == 0) = false := by simp; omega
    have F := Lib.hid (format16_any b.length (by omega) w hd)
    go_enter Tryd.func11, Tryd.ntmps11
    go_wp2_with fail
    refine F.out.mono ?_
    rintro e w1 ⟨rfl, hB1⟩
    obtain ⟨s0, hs0⟩ : ∃ s, strB (hexT b.length) = s := ⟨_, rfl⟩
    have hx6 := hexT_len 6 b.length (by omega)
    have hz0 : s0.size ≤ 7 := by rw [← hs0, strB_size]; exact hx6.2
    obtain ⟨s, hs⟩ : ∃ s, s0 ++ (⟨#[13, 10]⟩ : ByteArray) = s := ⟨_, rfl⟩
    have hadd : ∀ w : World, _ := fun w => addS_run (P := Tryd.prog) hs (by omega) (by show 2 ≤ _; omega) w
    have hcvt : ∀ W : World, _ := fun W => run_bytes_of_string (P := Tryd.prog) W 9 27 5 s Tryd.underlying9 Tryd.underlying27 Tryd.underlying5
    have HSZ := Lib.hid (show s.size = (hexT b.length).length + 2 by rw [← hs, ByteArray.size_append, ← hs0, strB_size]; rfl)
    rw [hs0]
    have hcs := conv_lit (w1.alloc (.cells (bytesRow s (grownCap w1 s.size 0 5)) 5 ((bytesRow s (grownCap w1 s.size 0 5)).size, (bytesRow s (grownCap w1 s.size 0 5)).size + 1))) (w1.heap.size + 1) (by simp) #[.int .u8 13, .int .u8 10] 2 2
    go_wp2_with fail
    have hA := below_new w1 (.cells (bytesRow s (grownCap w1 s.size 0 5)) 5 ((bytesRow s (grownCap w1 s.size 0 5)).size, (bytesRow s (grownCap w1 s.size 0 5)).size + 1))
    have hR1 := reads_str s w1 ((bytesRow s (grownCap w1 s.size 0 5)).size, (bytesRow s (grownCap w1 s.size 0 5)).size + 1) (by have := HSZ.out; omega)
    have hR2 := (HR.out.below hB1).below hA
    have hzA : (w1.alloc (.cells (bytesRow s (grownCap w1 s.size 0 5)) 5 ((bytesRow s (grownCap w1 s.size 0 5)).size, (bytesRow s (grownCap w1 s.size 0 5)).size + 1))).heap.size = w1.heap.size + 1 := by simp
    have hBA := hB1.trans (hA.mono hB1.size)
    clear hcs hcvt hadd hA
    generalize w1.alloc (.cells (bytesRow s (grownCap w1 s.size 0 5)) 5 ((bytesRow s (grownCap w1 s.size 0 5)).size, (bytesRow s (grownCap w1 s.size 0 5)).size + 1)) = WA at *
    have hC := below_new WA (.cells #[.int .u8 13, .int .u8 10] 5 (2, 3))
    have hR3 : ReadsD (WA.alloc (.cells #[.int .u8 13, .int .u8 10] 5 (2, 3))) (.slice (some ⟨w1.heap.size + 1, 0, none⟩) 2 2) [13, 10] := by
      rw [← hzA]; exact readsK_lit WA [13, 10] (2, 3) (by decide)
    have hzC : (WA.alloc (.cells #[.int .u8 13, .int .u8 10] 5 (2, 3))).heap.size = w1.heap.size + 1 + 1 := by simp [hzA]
    have hR1 := hR1.below hC
    have hR2 := hR2.below hC
    have hBC := hBA.trans (hC.mono hBA.size)
    clear hC
    generalize WA.alloc (.cells #[.int .u8 13, .int .u8 10] 5 (2, 3)) = WC at *
    have hRL := reads_three WC _ _ _ 27 hR1 hR2 hR3
    rw [hzC] at hRL
    have hBD : Below w.heap.size w (WC.alloc (.cells #[.slice (some ⟨w1.heap.size, 0, none⟩) s.size (grownCap w1 s.size 0 5), .slice ao b.length cap, .slice (some ⟨w1.heap.size + 1, 0, none⟩) 2 2] 27)).drew := (hBC.alloc hBC.size _).drew
    have hsl : s.data.toList.length = s.size := by rw [Array.length_toList]; rfl
    have hsum : sumL [s.data.toList, b, [13, 10]] = s.size + (b.length + (2 + 0)) := by simp [sumL, hsl]
    refine (concat_any _ [s.data.toList, b, [13, 10]] _ hRL (by simp) (by rw [hsum]; omega) (by rw [hsum]; have := HSZ.out; omega)).mono ?_
    rintro e w5 ⟨v5, rfl, hO5, hB5⟩
    go_wp2_with fail
    go_ret
    refine ⟨_, rfl, ?_, hBD.trans (hB5.mono hBD.size)⟩
    have hfl : [s.data.toList, b, [13, 10]].flatten = chunkL b := by
      unfold chunkL
      rw [if_neg hb, ← hs, ← hs0]
      simp [strB]
    rw [← hfl]
    exact hO5.mono hBD.size
end Go.Proofs.YthlfhbhjiofneaaDoor
