import Derived.Test.YtpikjcmenmdolaaGreatDoorPa26
import Derived.Test.YtpikjcmenmdolaaGreatDoorPa9
import Derived.Maps.AppendAt
import Derived.Lib.AppendZeros
import Derived.IntWalk
import Derived.Test.YtpikjcmenmdolaaGreatDoorPa27
import Derived.Test.YtpikjcmenmdolaaGreatDoorPa6
import Derived.Lib.TrailingZeros
/- The statements' Ref: the reference's fields of the program's; an append of bytes that says where the new slice lies. -/
namespace Go.Proofs.YtpikjcmenmdolaaGreatDoor
open Go.RowKit

theorem Tryz.infoGK : (Tryz.prog.info? 91).map (fun i => (i.zero, i.size, i.bytes)) = some (some (.agg #[.string ByteArray.empty, .string ByteArray.empty]), 2, 32) := by kernel_rfl
set_option maxHeartbeats 2000000 in
set_option maxRecDepth 100000 in
theorem ref_any (lv : Value) (ps : Flds) (w : World) (hr : ReadsQ w lv ps) (hl : ps.length ≤ 1000) :
    Calls Tryz.prog 29 #[lv] w fun e w' => ∃ v, e = .returned v ∧ OwnsP 91 w.heap.size w' v ps ∧ Below w.heap.size w w' := by
  obtain ⟨i0, hi, hz0, hz1, hz2⟩ := info_parts Tryz.infoGK
  obtain ⟨ao, cap, rfl, hc⟩ := hr
  have HC := Lib.hid hc
  clear hc
  go_enter Tryz.func29, Tryz.ntmps29
  go_wp2_with fail
  go_loopw [3, 8] (fun v i wr => ∃ k : Nat, i = .int .i64 k ∧ k ≤ ps.length ∧ OwnsP 91 w.heap.size wr v (ps.take k) ∧ Below w.heap.size w wr) (fun _ i _ => ps.length - (intOf i).toNat)
  case atStart => exact ⟨0, rfl, Nat.zero_le _, OwnsP.nil _ _ _, Below.refl _ _⟩
  case round =>
    obtain ⟨k, rfl, hk, hO, hBr⟩ := hrel
    have hbr := hBr.size
    by_cases hlt : k < ps.length
    · obtain ⟨p, hp⟩ : ∃ p, ps[k]? = some p := ⟨ps[k], by simp [hlt]⟩
      obtain ⟨g, off, rfl, hg1, h1, h2⟩ := HC.out k p hp
      have hc1 : wr.cell? ⟨g, off + k * 2, none⟩ = some (.string (strB p.1)) := (hBr.cell (p := ⟨g, off + k * 2, none⟩) hg1).trans h1
      have hc2 : wr.cell? ⟨g, off + k * 2 + 1, none⟩ = some (.string (strB p.2)) := (hBr.cell (p := ⟨g, off + k * 2 + 1, none⟩) hg1).trans h2
      have HP := Lib.hid hp
      clear hp h1 h2
      have hlen : (ps.take k).length = k := by simp; omega
      have HLen := Lib.hid hlen
      clear hlen
      go_wp2_with (at_builtin; refine wpList_append_own _ rfl _ _ 74 rfl w.heap.size 91 i0 (.agg #[.string ByteArray.empty, .string ByteArray.empty]) 2 32 Tryz.underlying74 hi hz0 hz1 hz2 rfl (by decide) _ _ _ rfl ((World.ownsRow.alloc hO _).alloc _) ⟨wr.heap.size + 1, 0, none⟩ 1 1 [strV p.1, strV p.2] rfl rfl (two_new' wr p.1 p.2 _ _) (fun u hu => by simp at hu; rcases hu with rfl | rfl <;> rfl) (by rw [HLen.out]; unfold maxLen; omega) (by rw [HLen.out]; omega) (by simp; omega) ?_; intro v' w4 hown' hgrow _)
      go_roundw
      case rel => exact ⟨k + 1, by go_num, by omega, own_more HP.out hown', below_appendP hBr hbr (below_new wr _) hO hgrow⟩
      case measure => simp [intOf]; omega
    · have htk : ps.take k = ps := List.take_of_length_le (by omega)
      rw [htk] at hO
      go_wp2_with fail
      go_ret
      exact ⟨_, rfl, hO, hBr⟩
/-- An append of bytes that are read to a slice of bytes of the call's own, whatever the guard; where the new slice lies. -/
theorem wpList_appendA {B : Nat} {w : World} {ops : Array Oper} {rest : List Oper} {o : Oper} {a : Act} {Q : Exit → Act → World → Prop} (hw : Region.wanted o (yielded ops a.tmps) = true) (s x : Operand)
    (ho : o.op = .call { callee := .builtin .append, args := #[s, x], argTypes := #[40, 40] }) (v v2 : Value) (hs : a.eval s = v) (hx : a.eval x = v2) {l m : List UInt8} (hown : OwnB B w v l) (hr : ReadsD w v2 m)
    (hn : l.length + m.length ≤ 1000000000) (hB : B ≤ w.heap.size) (h : ∀ v' w', OwnB B w' v' (l ++ m) → w.grownBy w' v.ownBlock → (v'.ownBlock = v.ownBlock ∨ v'.ownBlock = some w.heap.size) → wpList Tryz.prog ops Q rest (a.put o.dst v') w') :
    wpList Tryz.prog ops Q (o :: rest) a w := by
  obtain ⟨i0, hi, hz0, hz1, hz2⟩ := info_parts Tryz.infoB
  refine BigFrame.wpList_want hw fun K hK => ?_
  obtain ⟨ao, cap, rfl, hc⟩ := id hr
  cases ao with
  | none =>
    obtain ⟨rfl, _, rfl⟩ := readsB_none hr
    have hrun := run_append_owned_none (P := Tryz.prog) (w := w) B 40 o.type 5 i0 1 Tryz.underlying40 hi v l.length (Lib.byteCells l) hown
    unfold Oper.wp
    simp [execOp, ho, resolve, invoke, builtin, hs, hx, hrun, Result.andThen]
    exact hK _ _ (h v w (by rw [List.append_nil]; exact hown) ⟨rfl, rfl, rfl, Nat.le_refl _, fun _ _ _ => rfl⟩ (.inl rfl))
  | some ad =>
    obtain ⟨_, hs'⟩ := readsB_src hr
    obtain ⟨v', w', hr', h2, h3, h4, h5⟩ := run_append_own_at (P := Tryz.prog) w B 40 o.type 5 i0 _ 1 1 Tryz.underlying40 hi hz0 hz1 hz2 rfl (by decide) v l.length (Lib.byteCells l) hown ad m.length cap (Lib.byteCells m) (by rw [Lib.byteCells_length]; omega) hs' (oneB m) (by unfold maxLen; omega) (by omega) hB
    unfold Oper.wp execOp
    simp only [ho, resolve, invoke, builtin, Sem.run_bind, Sem.run_pure, Result.andThen_ok, List.map_toArray, List.map_cons, List.map_nil, hs, hx, hr']
    exact hK _ _ (h v' w' (own_appB h2) h3 h5)
end Go.Proofs.YtpikjcmenmdolaaGreatDoor

/- What slices.Grow and slices.Concat return for slices of bytes. -/
namespace Go.Proofs.YtpikjcmenmdolaaGreatDoor
open Go.RowKit

set_option maxHeartbeats 2000000 in
theorem grow_any (n : Nat) (h0 : 0 < n) (hn : n ≤ 1000000000) (w : World) :
    Calls Tryz.prog 109 #[.slice none 0 0, .int .i64 (n : Int)] w fun e w' => ∃ v, e = .returned v ∧ OwnB w.heap.size w' v [] ∧ Below w.heap.size w w' := by
  obtain ⟨i0, hi, hz0, hz1, hz2⟩ := info_parts Tryz.infoB
  have hw : IntKind.i64.wrap (n : Int) = (n : Int) := IntWalk.i64_in _ (by omega)
  have hneg : decide ((n : Int) < 0) = false := decide_eq_false (by omega)
  have hpos : decide (0 < (n : Int)) = true := decide_eq_true (by omega)
  have hrun := fun W => Lib.run_append_nil_zeros (P := Tryz.prog) W 40 3 40 5 i0 (.int .u8 0) .i64 .i64 Tryz.underlying40 Tryz.underlying3 hi hz0 n h0 (by omega) (by omega) (by rw [hz2]; omega)
  go_enter Tryz.func109, Tryz.ntmps109
  go_wp2_with (at_builtin; refine Lib.wpList_append_run _ rfl _ _ _ _ rfl _ _ rfl rfl _ _ (hrun _) ?_)
  go_ret
  refine ⟨_, rfl, ?_, (below_new _ _).drew⟩
  have hge := grownCap_ge w n 0 5
  exact World.ownsRow_made w _ _ (Nat.le_refl _) (grownCap_le_maxLen w n 0 5 (by unfold maxLen; omega)) (by
    rw [Array.size_append, size_zeroCells, size_zeroCells]
    show n * 1 + (_ - n) * 1 = _
    omega)
/-- The flat bytes of the first k. -/
theorem flat_more {ls : List (List UInt8)} {k : Nat} {l : List UInt8} (h : ls[k]? = some l) : (ls.take (k + 1)).flatten = (ls.take k).flatten ++ l := by
  rw [List.take_add_one, h]; simp
theorem sumL_take (ls : List (List UInt8)) (k : Nat) : sumL (ls.take k) ≤ sumL ls := by
  have := sumL_app (ls.take k) (ls.drop k)
  rw [List.take_append_drop] at this
  omega
set_option maxHeartbeats 4000000 in
set_option maxRecDepth 100000 in
theorem concat_any (v : Value) (ls : List (List UInt8)) (w : World) (hr : ReadsL w v ls) (hl : ls.length ≤ 1000) (h0 : 0 < sumL ls) (hs : sumL ls ≤ 100000000) :
    Calls Tryz.prog 75 #[v] w fun e w' => ∃ v, e = .returned v ∧ OwnB w.heap.size w' v ls.flatten ∧ Below w.heap.size w w' := by
  have G := Lib.hid (fun W => grow_any (sumL ls) h0 (by omega) W)
  have HR := Lib.hid hr
  obtain ⟨ao, cap, rfl, hc⟩ := hr
  have HC := Lib.hid hc
  clear hc
  go_enter Tryz.func75, Tryz.ntmps75
  go_wp2_with fail
  go_loopw [3, 11] (fun z i wr => wr = w ∧ ∃ k : Nat, z = .int .i64 (sumL (ls.take k) : Int) ∧ i = .int .i64 (k : Int) ∧ k ≤ ls.length) (fun _ i _ => ls.length - (intOf i).toNat)
  case atStart => exact ⟨rfl, 0, rfl, rfl, Nat.zero_le _⟩
  case round =>
    obtain ⟨hwr, k, rfl, rfl, hk⟩ := hrel
    obtain rfl : w = wr := hwr.symm
    have hsk := sumL_take ls k
    by_cases hlt : k < ls.length
    · obtain ⟨l, hl'⟩ : ∃ l, ls[k]? = some l := ⟨ls[k], by simp [hlt]⟩
      obtain ⟨g, off, x, rfl, hg, hcell, hx⟩ := HC.out k l hl'
      have hm := sumL_more hl'
      have hsk1 := sumL_take ls (k + 1)
      obtain ⟨xa, xc, rfl, _⟩ := id hx
      have e1 : IntKind.i64.wrap ((sumL (ls.take k) : Int) + (l.length : Int)) = (sumL (ls.take (k + 1)) : Int) := by rw [IntWalk.i64_in _ (by omega)]; omega
      have hneg : decide ((sumL (ls.take (k + 1)) : Int) < 0) = false := decide_eq_false (by omega)
      go_wp2_with fail
      go_roundw
      case rel => exact ⟨by trivial, k + 1, by congr 1; omega, by go_num, by omega⟩
      case measure => simp [intOf]; omega
    · have hke : k = ls.length := by omega
      have htk : sumL (ls.take k) = sumL ls := by rw [hke, List.take_length]
      rw [htk]
      go_wp2_with fail
      refine (G.out _).mono ?_
      rintro e w1 ⟨v1, rfl, hO1, hB1⟩
      go_wp2_with fail
      go_loopw [6, 27] (fun u i wr => ∃ k : Nat, i = .int .i64 (k : Int) ∧ k ≤ ls.length ∧ OwnB w.heap.size wr u (ls.take k).flatten ∧ Below w.heap.size w wr) (fun _ i _ => ls.length - (intOf i).toNat)
      case atStart => exact ⟨0, rfl, Nat.zero_le _, hO1, hB1⟩
      case round =>
        obtain ⟨j, rfl, hj, hO, hB⟩ := hrel
        have hfl := sumL_flat (ls.take j)
        have hsj := sumL_take ls j
        by_cases hlt2 : j < ls.length
        · obtain ⟨l, hl'⟩ : ∃ l, ls[j]? = some l := ⟨ls[j], by simp [hlt2]⟩
          obtain ⟨g, off, x, rfl, hg, hcell, hx⟩ := HC.out j l hl'
          have hm := sumL_more hl'
          have hsk1 := sumL_take ls (j + 1)
          have HFM := Lib.hid (flat_more hl')
          have hcx := (hB.cell (p := ⟨g, off + j, none⟩) hg).trans hcell
          have HX := Lib.hid (hx.below hB)
          have HO := Lib.hid hO
          have HB := Lib.hid hB
          have hbs := hB.size
          obtain ⟨xa, xc, rfl, _⟩ := id hx
          clear hx hO hB hcell hl'
          go_wp2_with (at_builtin; refine wpList_appendA (by rfl) _ _ (by rfl) _ _ (by rfl) (by rfl) HO.out HX.out (by omega) (by omega) ?_; intro v' w2 hO2 hgrow hat)
          go_roundw
          case rel => exact ⟨j + 1, by go_num, by omega, by rw [HFM.out]; exact hO2, HB.out.grown hgrow hbs (fun q hq => (World.ownsRow.lt HO.out q hq).1)⟩
          case measure => simp [intOf]; omega
        · have htk2 : (ls.take j).flatten = ls.flatten := by rw [List.take_of_length_le (by omega)]
          rw [htk2] at hO
          have HO := Lib.hid hO
          have HB := Lib.hid hB
          clear hO hB
          go_wp2_with fail
          go_ret
          exact ⟨_, rfl, HO.out, HB.out⟩
end Go.Proofs.YtpikjcmenmdolaaGreatDoor

/- What strconv.FormatInt returns in base 16. -/
namespace Go.Proofs.YtpikjcmenmdolaaGreatDoor
open Go.RowKit

/-- The one entry of the table that base 16 asks for. -/
def HasDb (w : World) : Prop := w.cell? ⟨4, 15, none⟩ = some (.int .u8 4)
theorem HasDb.below {w w' : World} (h : HasDb w) (hb : Below w.heap.size w w') : HasDb w' := (hb.cell (p := ⟨4, 15, none⟩) (World.block_lt_of_cell? _ _ h)).trans h
set_option maxHeartbeats 1000000 in
theorem tz64_16 (w : World) (h : HasDb w) : Calls Tryz.prog 202 #[.int .u64 16] w fun e w' => e = .returned (.int .i64 4) ∧ w = w' := by
  unfold HasDb at h
  have e15 : IntKind.u64.wrap (bits BinOp.and IntKind.u64 16 (IntKind.u64.wrap (-16)) * 285870213051353865) / 288230376151711744 = 15 := by decide +kernel
  go_enter Tryz.func202, Tryz.ntmps202
  go_wp2
  go_ret
  exact ⟨rfl, rfl⟩
set_option maxHeartbeats 1000000 in
theorem tz_16 (w : World) (h : HasDb w) : Calls Tryz.prog 181 #[.int .u64 16] w fun e w' => e = .returned (.int .i64 4) ∧ w = w' := by
  have T := tz64_16 w h
  go_enter Tryz.func181, Tryz.ntmps181
  go_wp2_with fail
  refine T.mono ?_
  rintro e w' ⟨rfl, rfl⟩
  go_wp2
  go_ret
  exact ⟨rfl, rfl⟩
set_option maxHeartbeats 1000000 in
theorem pow2_16 (w : World) : Calls Tryz.prog 180 #[.int .i64 16] w fun e w' => e = .returned (.bool true) ∧ w = w' := by
  go_enter Tryz.func180, Tryz.ntmps180
  go_wp2
  go_ret
  exact ⟨rfl, rfl⟩
end Go.Proofs.YtpikjcmenmdolaaGreatDoor
