import Derived.Test.YtoiampkdmjpljaaGreatDoorPa27
import Derived.Test.YtoiampkdmjpljaaGreatDoorPa36
import Derived.Test.YtoiampkdmjpljaaGreatDoorPa23
import Derived.Test.YtoiampkdmjpljaaGreatDoorPa37
import Derived.Test.YtoiampkdmjpljaaGreatDoorPa7
import Derived.Test.YtoiampkdmjpljaaGreatDoorPa33
import Derived.Test.YtoiampkdmjpljaaGreatDoorPa10
import Derived.Deep.DeepAppendWide
import Derived.Test.YtoiampkdmjpljaaGreatDoorPa40
/- What layer 15's large says of lists as large as an input may have: its sum may wrap. -/
namespace Go.Proofs.YtoiampkdmjpljaaGreatDoor
open Go.RowKit

/-- What large counts: it may wrap. -/
def stepZ (z : Int) (p : List UInt8 × List UInt8) : Int := wrap64 (z + (2 + p.1.length + p.2.length))
def zF (z : Int) (ps : Flds) : Int := ps.foldl stepZ z
theorem zF_next {ps : Flds} {j : Nat} {p : List UInt8 × List UInt8} (z : Int) (h : ps[j]? = some p) : zF z (ps.take (j + 1)) = stepZ (zF z (ps.take j)) p := by
  rw [take_more h]; unfold zF; rw [List.foldl_append]; rfl
def zX (xs : List (Value × Flds)) : Int := xs.foldl (fun z x => zF z x.2) 0
theorem zX_next {xs : List (Value × Flds)} {j : Nat} {x : Value × Flds} (h : xs[j]? = some x) : zX (xs.take (j + 1)) = zF (zX (xs.take j)) x.2 := by
  rw [take_more h]; unfold zX; rw [List.foldl_append]; rfl
def lgZ (xs : List (Value × Flds)) : Bool := decide (4000 < zX xs)
set_option maxHeartbeats 4000000 in
set_option maxRecDepth 100000 in
theorem large15_big (lv : Value) (xs : List (Value × Flds)) (w : World) (hr : ReadsF w lv xs) (hx : xs.length ≤ 1000) (hb : ∀ x ∈ xs, x.2.length ≤ 9000000000000000000 ∧ ∀ p ∈ x.2, p.1.length ≤ 140737488355328 ∧ p.2.length ≤ 140737488355328) :
    Calls Tryz.prog 11 #[lv] w fun e w' => e = .returned (.bool (lgZ xs)) ∧ Below w.heap.size w w' := by
  obtain ⟨g0, c0, rfl, hg0, hc⟩ := hr
  have HC := Lib.hid hc
  have HBig := Lib.hid hb
  clear hc hb
  go_enter Tryz.func11, Tryz.ntmps11
  go_wp2_with fail
  go_loopw [3, 10] (fun v i wr => ∃ k : Nat, i = .int .i64 k ∧ k ≤ xs.length ∧ v = .int .i64 (zX (xs.take k)) ∧ Below w.heap.size w wr) (fun _ i _ => xs.length - (intOf i).toNat)
  case atStart => exact ⟨0, rfl, Nat.zero_le _, rfl, Below.refl _ _⟩
  case round =>
    obtain ⟨k, rfl, hk, rfl, hBr⟩ := hrel
    have hbr := hBr.size
    have HBr := Lib.hid hBr
    clear hBr
    by_cases hlt : k < xs.length
    · obtain ⟨x, hxk⟩ : ∃ x, xs[k]? = some x := ⟨xs[k], by simp [hlt]⟩
      obtain ⟨fv, ps⟩ := x
      obtain ⟨hcell, hR⟩ := HC.out k _ hxk
      have hc1 : wr.cell? ⟨g0, k, none⟩ = some fv := (HBr.out.cell (p := ⟨g0, k, none⟩) hg0).trans hcell
      have hsn : zX (xs.take (k + 1)) = zF (zX (xs.take k)) ps := zX_next hxk
      obtain ⟨hpl, hpb⟩ := HBig.out _ (List.mem_of_getElem? hxk)
      try simp only at hpl hpb
      have HSn := Lib.hid hsn
      have HPb := Lib.hid hpb
      obtain ⟨ao, cap, hfv, hcf⟩ := hR.below HBr.out
      try simp only at hfv
      subst hfv
      have HF := Lib.hid hcf
      clear hxk hcell hR hcf hsn hpb
      generalize zX (xs.take k) = m at *
      rename World => wq
      go_wp2_with fail
      go_loopw [3, 16] (fun v i wr => ∃ j : Nat, i = .int .i64 j ∧ j ≤ ps.length ∧ v = .int .i64 (zF m (ps.take j)) ∧ Below wq.heap.size wq wr) (fun _ i _ => ps.length - (intOf i).toNat)
      case atStart => exact ⟨0, rfl, Nat.zero_le _, rfl, Below.refl _ _⟩
      case round =>
        obtain ⟨j, rfl, hj, rfl, hBi⟩ := hrel
        have HBi := Lib.hid hBi
        have hbi := hBi.size
        clear hBi
        by_cases hlj : j < ps.length
        · obtain ⟨p, hp⟩ : ∃ p, ps[j]? = some p := ⟨ps[j], by simp [hlj]⟩
          obtain ⟨g, off, rfl, hg1, h1, h2⟩ := HF.out j p hp
          have hd1 : wr.cell? ⟨g, off + j * 2, none⟩ = some (.string (strB p.1)) := (HBi.out.cell (p := ⟨g, off + j * 2, none⟩) hg1).trans h1
          have hd2 : wr.cell? ⟨g, off + j * 2 + 1, none⟩ = some (.string (strB p.2)) := (HBi.out.cell (p := ⟨g, off + j * 2 + 1, none⟩) hg1).trans h2
          have e1 : (strB p.1).size = p.1.length := strB_size _
          have e2 : (strB p.2).size = p.2.length := strB_size _
          have hpb := HPb.out p (List.mem_of_getElem? hp)
          have HZ := Lib.hid (zF_next m hp)
          clear hp h1 h2
          generalize zF m (ps.take j) = z at *
          go_wp2
          go_roundw
          case rel => exact ⟨j + 1, by go_num, by omega, by rw [HZ.out]; rfl, HBi.out.alloc hbi _⟩
          case measure => simp [intOf]; omega
        · have hte : ps.take j = ps := List.take_of_length_le (by omega)
          rw [hte]
          have HB2 := Lib.hid (HBr.out.trans (HBi.out.mono hbr))
          rw [← HSn.out]
          clear hte
          go_wp2
          go_roundw
          case rel => exact ⟨k + 1, by go_num, by omega, by first | rfl | trivial, HB2.out⟩
          case measure => simp [intOf]; omega
    · have hte : xs.take k = xs := List.take_of_length_le (by omega)
      rw [hte]
      by_cases h3 : 4000 < zX xs
      · have HR := Lib.hid (show lgZ xs = true from decide_eq_true h3)
        go_wp2
        go_ret
        exact ⟨by first | (rw [HR.out]; rfl) | rw [HR.out], HBr.out⟩
      · have HR := Lib.hid (show lgZ xs = false from decide_eq_false h3)
        go_wp2
        go_ret
        exact ⟨by first | (rw [HR.out]; rfl) | rw [HR.out], HBr.out⟩
end Go.Proofs.YtoiampkdmjpljaaGreatDoor

/- What Lower, All, Value, Remove, Fields, Clone and Add return, for lists as large as an input may be. -/
namespace Go.Proofs.YtoiampkdmjpljaaGreatDoor
open Go.RowKit

set_option maxHeartbeats 2000000 in
set_option maxRecDepth 100000 in
theorem lower_big (s : ByteArray) (w : World) (hs : s.size ≤ 281474976710656) :
    Calls Tryz.prog 40 #[.string s] w fun e w' => e = .returned (.string (strB (lowS s.data.toList))) ∧ Below w.heap.size w w' := by
  have hcb := fun W : World => run_bytes_of_string (P := Tryz.prog) W 9 80 5 s Tryz.underlying9 Tryz.underlying80 Tryz.underlying5
  go_enter Tryz.func40, Tryz.ntmps40
  go_wp2
  have HCB := Lib.hid hcb
  clear hcb
  go_loopw [10] (fun i wr => LowC s w i wr) (fun i _ => s.size - (intOf i).toNat)
  case atStart => exact LowC0 s w _
  case round =>
    obtain ⟨k, rfl, hk, hc, hB⟩ := hrel
    have HC := Lib.hid hc
    clear hc
    have hsz := hB.size
    by_cases hlt : k < s.size
    · have hcell : wr.cell? ⟨w.heap.size, k, none⟩ = some (.int .u8 (s[k].toNat : Int)) := by rw [(HC.out k hlt).1, lowTo_at hlt]
      have hfz := (HC.out k hlt).2
      by_cases h1 : 65 ≤ s[k].toNat
      · by_cases h2 : s[k].toNat ≤ 90
        · go_wp2
          go_roundw
          case rel => exact ⟨k + 1, by go_num, by omega, LowC_up hlt h1 h2 HC.out hcell, hB.setCell (p := ⟨w.heap.size, k, none⟩) (Nat.le_refl _) _⟩
          case measure => simp [intOf]; omega
        · go_wp2
          go_roundw
          case rel => exact ⟨k + 1, by go_num, by omega, LowC_not hlt (by omega) HC.out, hB⟩
          case measure => simp [intOf]; omega
      · go_wp2
        go_roundw
        case rel => exact ⟨k + 1, by go_num, by omega, LowC_not hlt (by omega) HC.out, hB⟩
        case measure => simp [intOf]; omega
    · obtain rfl : k = s.size := by omega
      have hcv := low_conv s w wr (grownCap w s.size 0 5) HC.out
      go_wp2
      go_ret
      exact ⟨rfl, hB⟩

set_option maxHeartbeats 2000000 in
set_option maxRecDepth 100000 in
theorem refLower_big (s : ByteArray) (w : World) (hs : s.size ≤ 281474976710656) :
    Calls Tryz.prog 50 #[.string s] w fun e w' => e = .returned (.string (strB (lowS s.data.toList))) ∧ Below w.heap.size w w' := by
  go_enter Tryz.func50, Tryz.ntmps50
  go_wp2
  go_loopw [3, 8] (fun o i wr => LowRel s w o i wr) (fun _ i _ => s.size - (intOf i).toNat)
  case atStart => exact ⟨0, rfl, by omega, rfl, Below.refl _ _⟩
  case round =>
    obtain ⟨k, rfl, hk, rfl, hB⟩ := hrel
    have hsz := hB.size
    have hz : (strB (lowS (s.data.toList.take k))).size ≤ k := by rw [strB_size, lowS_len]; exact List.length_take_le _ _
    by_cases hlt : k < s.size
    · have hstep := lowS_take s k hlt
      have HS := Lib.hid hstep
      clear hstep
      by_cases h1 : 65 ≤ s[k].toNat
      · by_cases h2 : s[k].toNat ≤ 90
        · have hl := lowB_up h1 h2
          have hcv := fun W => conv_one ((s[k].toNat : Int) + 32) (lowB s[k]) (by rw [hl]; omega) W
          clear hl
          go_wp2
          go_roundw
          case rel => exact ⟨k + 1, by go_num, by omega, by rw [HS.out, strB_snoc], hB.alloc hsz _⟩
          case measure => simp [intOf]; omega
        · have hl : lowB s[k] = s[k] := lowB_not (by omega)
          have HLo := Lib.hid hl
          have hcv := fun W => conv_one (s[k].toNat : Int) s[k] rfl W
          clear hl
          go_wp2
          go_roundw
          case rel => exact ⟨k + 1, by go_num, by omega, by rw [HS.out, HLo.out, strB_snoc], hB.alloc hsz _⟩
          case measure => simp [intOf]; omega
      · have hl : lowB s[k] = s[k] := lowB_not (by omega)
        have HLo := Lib.hid hl
        have hcv := fun W => conv_one (s[k].toNat : Int) s[k] rfl W
        clear hl
        go_wp2
        go_roundw
        case rel => exact ⟨k + 1, by go_num, by omega, by rw [HS.out, HLo.out, strB_snoc], hB.alloc hsz _⟩
        case measure => simp [intOf]; omega
    · go_wp2
      go_ret
      exact ⟨by rw [take_all s k (by omega)]; rfl, hB⟩

set_option maxHeartbeats 400000 in
set_option maxRecDepth 100000 in
theorem lowerName_big (a b : List UInt8) (w : World) (ha : a.length ≤ 281474976710656) :
    Calls Tryz.prog 47 #[.agg #[.string (strB a), .string (strB b)]] w fun e w' => e = .returned (.string (strB (lowS a))) ∧ Below w.heap.size w w' := by
  have hz : (strB a).size ≤ 281474976710656 := by rw [strB_size]; exact ha
  go_enter Tryz.func47, Tryz.ntmps47
  go_wp2_with fail
  refine (lower_big (strB a) _ hz).mono ?_
  rintro e w1 ⟨rfl, hB⟩
  rw [strB_list]
  go_wp2_with fail
  go_ret
  exact ⟨rfl, below_pair' hB⟩

set_option maxHeartbeats 2000000 in
set_option maxRecDepth 100000 in
theorem all_big (fv : Value) (ps : Flds) (n : ByteArray) (w : World) (hr : ReadsQ w fv ps) (hn : n.size ≤ 1000000000) (hl : ps.length ≤ 4398046520000) (hb : ∀ p ∈ ps, p.1.length + p.2.length ≤ 281474976710656) :
    Calls Tryz.prog 25 #[fv, .string n] w fun e w' => ∃ v, e = .returned v ∧ OwnsS w.heap.size w' v (allL ps n.data.toList) ∧ Below w.heap.size w w' := by
  obtain ⟨i0, hi, hz0, hz1, hz2⟩ := info_parts Tryz.infoS
  obtain ⟨ao, cap, rfl, hc⟩ := hr
  have HC := Lib.hid hc
  have HBig := Lib.hid hb
  clear hc hb
  go_enter Tryz.func25, Tryz.ntmps25
  go_wp2_with fail
  refine (lower_any n _ hn).mono ?_
  rintro e w1 ⟨rfl, hB⟩
  have hz1' := hB.size
  go_wp2_with fail
  go_loopw [5, 12] (fun v i wr => AllRel ps n.data.toList w1 v i wr) (fun _ i _ => ps.length - (intOf i).toNat)
  case atStart => exact ⟨0, rfl, Nat.zero_le _, World.ownsRow_nil _ _ _ _, Below.refl _ _⟩
  case round =>
    obtain ⟨k, rfl, hk, hO, hBr⟩ := hrel
    have hbr := hBr.size
    have hal := all_le ps n.data.toList k
    by_cases hlt : k < ps.length
    · obtain ⟨p, hp⟩ : ∃ p, ps[k]? = some p := ⟨ps[k], by simp [hlt]⟩
      obtain ⟨g, off, rfl, hg1, h1, h2⟩ := HC.out k p hp
      have hc1 : wr.cell? ⟨g, off + k * 2, none⟩ = some (.string (strB p.1)) := (hBr.cell (p := ⟨g, off + k * 2, none⟩) (by show g < _; omega)).trans ((hB.cell (p := ⟨g, off + k * 2, none⟩) hg1).trans h1)
      have hc2 : wr.cell? ⟨g, off + k * 2 + 1, none⟩ = some (.string (strB p.2)) := (hBr.cell (p := ⟨g, off + k * 2 + 1, none⟩) (by show g < _; omega)).trans ((hB.cell (p := ⟨g, off + k * 2 + 1, none⟩) hg1).trans h2)
      have hpl := HBig.out p (List.mem_of_getElem? hp)
      have HP := Lib.hid hp
      clear hp h1 h2
      cases ho : ofN n.data.toList p with
      | true =>
        have heq := toList_same (of_decide_eq_true ho)
        have HO := Lib.hid ho
        clear ho
        go_wp2_with fail
        refine (lowerName_big p.1 p.2 _ (by omega)).mono ?_
        rintro e w2 ⟨rfl, hB2⟩
        have hpk := pair_kept hB2
        have hd1 := hpk.2
        have hB2' := below_pair' hB2
        have hs2 := hB2'.size
        clear hpk hB2
        go_wp2_with (at_builtin; refine wpList_append_own _ rfl _ _ 35 rfl w1.heap.size 9 i0 (.string ByteArray.empty) 1 16 Tryz.underlying35 hi hz0 hz1 hz2 rfl (by decide) _ _ _ rfl ((OwnsS.below hO hB2').alloc _) ⟨w2.heap.size, 0, none⟩ 1 1 [strV p.2] rfl rfl (cell_one_new _ _ _) (fun u hu => by simp at hu; subst hu; rfl) (by unfold maxLen; omega) (by omega) (by simp; omega) ?_; intro v' w3 hown' hgrow _)
        go_roundw
        case rel => exact ⟨k + 1, by go_num, by omega, by rw [all_yes HP.out HO.out]; exact OwnsS.snoc hown', below_append hBr hbr hB2' hO hgrow⟩
        case measure => simp [intOf]; omega
      | false =>
        have heq := toList_other (of_decide_eq_false ho)
        have HO := Lib.hid ho
        clear ho
        go_wp2_with fail
        refine (lowerName_big p.1 p.2 _ (by omega)).mono ?_
        rintro e w2 ⟨rfl, hB2⟩
        have hB2' := below_pair' hB2
        have hs2 := hB2'.size
        clear hB2
        go_wp2_with fail
        go_roundw
        case rel => exact ⟨k + 1, by go_num, by omega, by rw [all_no HP.out HO.out]; exact OwnsS.below hO hB2', hBr.trans (hB2'.mono hbr)⟩
        case measure => simp [intOf]; omega
    · have htk : ps.take k = ps := List.take_of_length_le (by omega)
      rw [htk] at hO
      go_wp2_with fail
      go_ret
      exact ⟨_, rfl, OwnsS.mono hz1' hO, hB.trans (hBr.mono hz1')⟩

set_option maxHeartbeats 2000000 in
set_option maxRecDepth 100000 in
theorem sole_big (fv : Value) (ps : Flds) (n : ByteArray) (w : World) (hr : ReadsQ w fv ps) (hn : n.size ≤ 1000000000) (hl : ps.length ≤ 4398046520000) (hb : ∀ p ∈ ps, p.1.length + p.2.length ≤ 281474976710656) :
    Calls Tryz.prog 90 #[fv, .string n] w fun e w' => e = .returned (.tuple #[.string (strB (oneL (allL ps n.data.toList)).1), .bool (oneL (allL ps n.data.toList)).2]) ∧ Below w.heap.size w w' := by
  have HA := Lib.hid (all_big fv ps n w hr hn hl hb)
  have hll := all_len ps n.data.toList
  clear hr hb
  generalize allL ps n.data.toList = ls at *
  rcases ls with _ | ⟨v, _ | ⟨b, r⟩⟩
  · go_enter Tryz.func90, Tryz.ntmps90
    go_wp2_with fail
    refine HA.out.mono ?_
    rintro e w1 ⟨x, rfl, hO, hB1⟩
    rcases hO.open' with ⟨rfl, hz⟩ | ⟨g, cap, rfl, _, hg, hc⟩
    · go_wp2_with fail
      go_ret2
      exact ⟨rfl, hB1⟩
    · clear hc hO
      go_wp2_with fail
      go_ret2
      exact ⟨rfl, hB1⟩
  · go_enter Tryz.func90, Tryz.ntmps90
    go_wp2_with fail
    refine HA.out.mono ?_
    rintro e w1 ⟨x, rfl, hO, hB1⟩
    rcases hO.open' with ⟨rfl, hz⟩ | ⟨g, cap, rfl, _, hg, hc⟩
    · cases hz
    · have hc0 : w1.cell? ⟨g, 0, none⟩ = some (.string (strB v)) := hc 0 v rfl
      have hone : ([v] : List (List UInt8)).length = 1 := rfl
      rw [hone]
      clear hc hO hone
      go_wp2_with fail
      go_ret2
      exact ⟨rfl, hB1⟩
  · have hb : (((v :: b :: r).length : Int) != 1) = true := by simp; omega
    have hv : (oneL (v :: b :: r)) = ([], false) := rfl
    rw [hv]
    clear hv
    have HA2 : Calls Tryz.prog 25 #[fv, .string n] w fun e w' => ∃ g cap, e = .returned (.slice (some ⟨g, 0, none⟩) (v :: b :: r).length cap) ∧ Below w.heap.size w w' := by
      refine HA.out.mono ?_
      rintro e w1 ⟨x, rfl, hO, hB1⟩
      rcases hO.open' with ⟨rfl, hz⟩ | ⟨g, cap, rfl, _, hg, hc⟩
      · cases hz
      · exact ⟨g, cap, rfl, hB1⟩
    have HA3 := Lib.hid HA2
    clear HA HA2
    generalize (v :: b :: r).length = m at *
    go_enter Tryz.func90, Tryz.ntmps90
    go_wp2_with fail
    refine HA3.out.mono ?_
    rintro e w1 ⟨g, cap, rfl, hB1⟩
    go_wp2_with fail
    go_ret2
    exact ⟨rfl, hB1⟩

set_option maxHeartbeats 400000 in
set_option maxRecDepth 100000 in
theorem of_big (a b n : List UInt8) (w : World) (ha : a.length ≤ 281474976710656) (hn : n.length ≤ 281474976710656) :
    Calls Tryz.prog 37 #[.agg #[.string (strB a), .string (strB b)], .string (strB n)] w fun e w' => e = .returned (.bool (ofN n (a, b))) ∧ Below w.heap.size w w' := by
  have za : (strB a).size ≤ 281474976710656 := by rw [strB_size]; exact ha
  have zn : (strB n).size ≤ 281474976710656 := by rw [strB_size]; exact hn
  have L1 := fun w => refLower_big (strB a) w za
  have L2 := fun w => refLower_big (strB n) w zn
  rw [strB_list] at L1 L2
  by_cases h : lowS a = lowS n
  · have heq := toList_same h
    have ho : ofN n (a, b) = true := decide_eq_true h
    rw [ho]
    clear h ho
    go_enter Tryz.func37, Tryz.ntmps37
    go_wp2_with fail
    refine (L1 _).mono ?_
    rintro e w1 ⟨rfl, hB⟩
    have hB' := below_pair' hB
    clear hB
    go_wp2_with fail
    refine (L2 _).mono ?_
    rintro e w2 ⟨rfl, hB2⟩
    go_wp2_with fail
    go_ret
    exact ⟨by first | rfl | simp, hB'.trans (hB2.mono hB'.size)⟩
  · have heq := toList_other h
    have ho : ofN n (a, b) = false := decide_eq_false h
    rw [ho]
    clear h ho
    go_enter Tryz.func37, Tryz.ntmps37
    go_wp2_with fail
    refine (L1 _).mono ?_
    rintro e w1 ⟨rfl, hB⟩
    have hB' := below_pair' hB
    clear hB
    go_wp2_with fail
    refine (L2 _).mono ?_
    rintro e w2 ⟨rfl, hB2⟩
    go_wp2_with fail
    go_ret
    exact ⟨by first | rfl | simp, hB'.trans (hB2.mono hB'.size)⟩

set_option maxHeartbeats 2000000 in
set_option maxRecDepth 100000 in
theorem refRemove_big (fv : Value) (ps : Flds) (n : List UInt8) (w : World) (hr : ReadsQ w fv ps) (hn : n.length ≤ 1000000000) (hl : ps.length ≤ 4398046511104) (hb : ∀ p ∈ ps, p.1.length + p.2.length ≤ 281474976710656) :
    Calls Tryz.prog 16 #[fv, .string (strB n)] w fun e w' => ∃ v, e = .returned v ∧ OwnsP 32 w.heap.size w' v (remL ps n) ∧ Below w.heap.size w w' := by
  obtain ⟨i0, hi, hz0, hz1, hz2⟩ := info_parts Tryz.infoG
  obtain ⟨ao, cap, rfl, hc⟩ := hr
  have HC := Lib.hid hc
  have HBig := Lib.hid hb
  clear hc hb
  go_enter Tryz.func16, Tryz.ntmps16
  go_wp2_with fail
  go_loopw [5, 9] (fun v i wr => ∃ k : Nat, i = .int .i64 k ∧ k ≤ ps.length ∧ OwnsP 32 w.heap.size wr v (remL (ps.take k) n) ∧ Below w.heap.size w wr) (fun _ i _ => ps.length - (intOf i).toNat)
  case atStart => exact ⟨0, rfl, Nat.zero_le _, OwnsP.nil _ _ _, Below.refl _ _⟩
  case round =>
    obtain ⟨k, rfl, hk, hO, hBr⟩ := hrel
    have hbr := hBr.size
    have hal := rem_le ps n k
    by_cases hlt : k < ps.length
    · obtain ⟨p, hp⟩ : ∃ p, ps[k]? = some p := ⟨ps[k], by simp [hlt]⟩
      obtain ⟨g, off, rfl, hg1, h1, h2⟩ := HC.out k p hp
      have hc1 : wr.cell? ⟨g, off + k * 2, none⟩ = some (.string (strB p.1)) := (hBr.cell (p := ⟨g, off + k * 2, none⟩) hg1).trans h1
      have hc2 : wr.cell? ⟨g, off + k * 2 + 1, none⟩ = some (.string (strB p.2)) := (hBr.cell (p := ⟨g, off + k * 2 + 1, none⟩) hg1).trans h2
      have hgr : g < wr.heap.size := by omega
      have hpl := HBig.out p (List.mem_of_getElem? hp)
      have HP := Lib.hid hp
      have OF := fun w => of_big p.1 p.2 n w (by omega) (by omega)
      clear hp h1 h2
      cases ho : ofN n p with
      | false =>
        have e : ofN n (p.1, p.2) = false := ho
        rw [e] at OF
        have HO := Lib.hid ho
        clear ho e
        go_wp2_with fail
        refine (OF _).mono ?_
        rintro e w2 ⟨rfl, hB2⟩
        have d1 := (hB2.cell (p := ⟨g, off + k * 2, none⟩) hgr).trans hc1
        have d2 := (hB2.cell (p := ⟨g, off + k * 2 + 1, none⟩) hgr).trans hc2
        have hs2 := hB2.size
        clear hc1 hc2 OF
        go_wp2_with (at_builtin; refine wpList_append_own _ rfl _ _ 22 rfl w.heap.size 32 i0 (.agg #[.string ByteArray.empty, .string ByteArray.empty]) 2 32 Tryz.underlying22 hi hz0 hz1 hz2 rfl (by decide) _ _ _ rfl (World.ownsRow.alloc (OwnsP.below hO hB2) _) ⟨w2.heap.size, 0, none⟩ 1 1 [strV p.1, strV p.2] rfl rfl (two_new w2 p.1 p.2 _) (fun u hu => by simp at hu; rcases hu with rfl | rfl <;> rfl) (by unfold maxLen; omega) (by omega) (by simp; omega) ?_; intro v' w4 hown' hgrow _)
        go_roundw
        case rel => exact ⟨k + 1, by go_num, by omega, by rw [rem_no HP.out HO.out]; exact OwnsP.snoc hown', below_appendP hBr hbr hB2 hO hgrow⟩
        case measure => simp [intOf]; omega
      | true =>
        have e : ofN n (p.1, p.2) = true := ho
        rw [e] at OF
        have HO := Lib.hid ho
        clear ho e
        go_wp2_with fail
        refine (OF _).mono ?_
        rintro e w2 ⟨rfl, hB2⟩
        go_wp2_with fail
        go_roundw
        case rel => exact ⟨k + 1, by go_num, by omega, by rw [rem_yes HP.out HO.out]; exact OwnsP.below hO hB2, hBr.trans (hB2.mono hbr)⟩
        case measure => simp [intOf]; omega
    · have htk : ps.take k = ps := List.take_of_length_le (by omega)
      rw [htk] at hO
      go_wp2_with fail
      go_ret
      exact ⟨_, rfl, hO, hBr⟩

set_option maxHeartbeats 2000000 in
set_option maxRecDepth 100000 in
theorem fields_big (lv : Value) (ps : Flds) (w : World) (hr : ReadsQ w lv ps) (hl : ps.length ≤ 4398046511104) (hb : ∀ p ∈ ps, p.1.length + p.2.length ≤ 281474976710656) :
    Calls Tryz.prog 18 #[lv] w fun e w' => ∃ v, e = .returned v ∧ OwnsP 58 w.heap.size w' v ps ∧ Below w.heap.size w w' := by
  obtain ⟨i0, hi, hz0, hz1, hz2⟩ := info_parts Tryz.infoF
  obtain ⟨ao, cap, rfl, hc⟩ := hr
  have HC := Lib.hid hc
  have HBig := Lib.hid hb
  clear hc hb
  go_enter Tryz.func18, Tryz.ntmps18
  go_wp2_with fail
  go_loopw [3, 8] (fun v i wr => ∃ k : Nat, i = .int .i64 k ∧ k ≤ ps.length ∧ OwnsP 58 w.heap.size wr v (ps.take k) ∧ Below w.heap.size w wr) (fun _ i _ => ps.length - (intOf i).toNat)
  case atStart => exact ⟨0, rfl, Nat.zero_le _, OwnsP.nil _ _ _, Below.refl _ _⟩
  case round =>
    obtain ⟨k, rfl, hk, hO, hBr⟩ := hrel
    have hbr := hBr.size
    by_cases hlt : k < ps.length
    · obtain ⟨p, hp⟩ : ∃ p, ps[k]? = some p := ⟨ps[k], by simp [hlt]⟩
      obtain ⟨g, off, rfl, hg1, h1, h2⟩ := HC.out k p hp
      have hc1 : wr.cell? ⟨g, off + k * 2, none⟩ = some (.string (strB p.1)) := (hBr.cell (p := ⟨g, off + k * 2, none⟩) hg1).trans h1
      have hc2 : wr.cell? ⟨g, off + k * 2 + 1, none⟩ = some (.string (strB p.2)) := (hBr.cell (p := ⟨g, off + k * 2 + 1, none⟩) hg1).trans h2
      have HP := Lib.hid hp
      clear hp h1 h2
      have hlen : (ps.take k).length = k := by simp; omega
      have HLen := Lib.hid hlen
      clear hlen
      go_wp2_with (at_builtin; refine wpList_append_own _ rfl _ _ 37 rfl w.heap.size 58 i0 (.agg #[.string ByteArray.empty, .string ByteArray.empty]) 2 32 Tryz.underlying37 hi hz0 hz1 hz2 rfl (by decide) _ _ _ rfl ((World.ownsRow.alloc hO _).alloc _) ⟨wr.heap.size + 1, 0, none⟩ 1 1 [strV p.1, strV p.2] rfl rfl (two_new' wr p.1 p.2 _ _) (fun u hu => by simp at hu; rcases hu with rfl | rfl <;> rfl) (by rw [HLen.out]; unfold maxLen; omega) (by rw [HLen.out]; omega) (by simp; omega) ?_; intro v' w4 hown' hgrow _)
      go_roundw
      case rel => exact ⟨k + 1, by go_num, by omega, own_more HP.out hown', below_appendP hBr hbr (below_new wr _) hO hgrow⟩
      case measure => simp [intOf]; omega
    · have htk : ps.take k = ps := List.take_of_length_le (by omega)
      rw [htk] at hO
      go_wp2_with fail
      go_ret
      exact ⟨_, rfl, hO, hBr⟩

set_option maxHeartbeats 1000000 in
set_option maxRecDepth 100000 in
theorem clone_big (fv : Value) (ps : Flds) (w : World) (hr : ReadsQ w fv ps) (hl : ps.length ≤ 4398046520000) :
    Calls Tryz.prog 42 #[fv] w fun e w' => ∃ v, e = .returned v ∧ OwnsP 58 w.heap.size w' v ps ∧ Below w.heap.size w w' := by
  obtain ⟨i0, hi, hz0, hz1, hz2⟩ := info_parts Tryz.infoF
  have q22 : ∀ (w : World) (a : Option Addr) (n c n' c' : Nat), (binOp .eql 37 (.slice a n c) (.slice none n' c')).run Tryz.prog w = .ok (.bool a.isNone) w := fun w a n c n' c' => Lib.run_eql_slice_nil w _ _ a n c n' c' Tryz.underlying37
  obtain ⟨ao, cap, rfl, hc⟩ := id hr
  clear hc
  cases ao with
  | none =>
    obtain ⟨rfl, _⟩ := hr.none
    clear hr
    go_enter Tryz.func42, Tryz.ntmps42
    go_wp2
    go_ret
    exact ⟨_, rfl, OwnsP.nil _ _ _, Below.refl _ _⟩
  | some ad =>
    have hs := hr.src.2
    have HS := Lib.hid hs
    clear hr hs
    go_enter Tryz.func42, Tryz.ntmps42
    go_wp2_with (at_builtin; refine wpList_append_own_wide _ rfl _ _ 37 rfl w.heap.size 58 i0 (.agg #[.string ByteArray.empty, .string ByteArray.empty]) 2 32 Tryz.underlying37 hi hz0 hz1 hz2 rfl (by decide) _ _ _ rfl (own_made w _) ad ps.length cap (flatP ps) rfl (flatP_len ps) (fun j u hj => Lib.cell?_alloc_some _ (HS.out j u hj)) (flatP_one ps) (by unfold maxLen; simp; omega) (by simp; omega) (by simp) ?_; intro v' w1 hown hgrow _)
    go_wp2
    go_ret
    refine ⟨v', rfl, own_app (ps := []) (by simpa [flatP] using hown) (by simp), ?_⟩
    exact ((Below.refl _ w).alloc (Nat.le_refl _) _).grown hgrow (by simp) (fun k hk => (World.ownsRow.lt (own_made w 58) k hk).1)

set_option maxHeartbeats 1000000 in
set_option maxRecDepth 100000 in
theorem add_big (fv : Value) (ps : Flds) (n val : List UInt8) (w : World) (hr : ReadsQ w fv ps) (hn : n.length ≤ 1000000000) (_ : val.length ≤ 1000000000) (hl : ps.length ≤ 4398046511104) :
    Calls Tryz.prog 27 #[fv, .string (strB n), .string (strB val)] w fun e w' => ∃ v, e = .returned v ∧ OwnsP 58 w.heap.size w' v (addL ps n val) ∧ Below w.heap.size w w' := by
  obtain ⟨i0, hi, hz0, hz1, hz2⟩ := info_parts Tryz.infoF
  have zn : (strB n).size ≤ 1000000000 := by rw [strB_size]; exact hn
  have HCl := clone_big fv ps w hr (by omega)
  obtain ⟨ao, cap, rfl, hc⟩ := hr
  clear hc
  go_enter Tryz.func27, Tryz.ntmps27
  go_wp2_with fail
  refine HCl.mono ?_
  rintro e w1 ⟨v, rfl, hO, hB⟩
  have hs1 := hB.size
  go_wp2_with fail
  refine (lower_any (strB n) _ zn).mono ?_
  rintro e w2 ⟨rfl, hB2⟩
  rw [strB_list]
  have hs2 := hB2.size
  have hO2 := OwnsP.below hO hB2
  go_wp2_with (at_builtin; refine wpList_append_own_wide _ rfl _ _ 37 rfl w.heap.size 58 i0 (.agg #[.string ByteArray.empty, .string ByteArray.empty]) 2 32 Tryz.underlying37 hi hz0 hz1 hz2 rfl (by decide) _ _ _ rfl (World.ownsRow.alloc hO2 _) ⟨w2.heap.size, 0, none⟩ 1 1 [strV (lowS n), strV val] rfl rfl (two_new w2 (lowS n) val _) (fun u hu => by simp at hu; rcases hu with rfl | rfl <;> rfl) (by unfold maxLen; omega) (by omega) (by simp; omega) ?_; intro v' w4 hown' hgrow _)
  go_ret
  exact ⟨v', rfl, OwnsP.snoc (p := (lowS n, val)) hown', below_appendP hB hs1 hB2 hO hgrow⟩
end Go.Proofs.YtoiampkdmjpljaaGreatDoor

/- What Update returns where the stored fields may be as many, and as long, as an input may have. -/
namespace Go.Proofs.YtoiampkdmjpljaaGreatDoor
open Go.RowKit Go.Maps

/-- A list that may be huge, of whose tags it is known that they are few and short. -/
structure FitT (ps : Flds) : Prop where
  len : ps.length ≤ 4398046520000
  each : ∀ p ∈ ps, p.1.length + p.2.length ≤ 281474976710656
  few : (allL ps nET).length ≤ 10000
  tag : ∀ v ∈ allL ps nET, v.length ≤ 100000
theorem FitL.t {ps : Flds} (h : FitL ps) : FitT ps :=
  ⟨by have := h.len; omega, fun p hp => by have := h.each p hp; omega, Nat.le_trans (all_len ps nET) h.len, all_small (n := nET) h.each⟩

theorem wpList_appendP_big {T S : TypeId} {B : Nat} {i0 : TypeInfo} (hi : Tryz.prog.info? T = some i0) (hz0 : i0.zero = some (.agg #[.string ByteArray.empty, .string ByteArray.empty])) (hz1 : i0.size = 2) (hz2 : i0.bytes = 32) (ht : Tryz.prog.underlying S = some (.slice T))
    {w : World} {ops : Array Oper} {rest : List Oper} {o : Oper} {a : Act} {Q : Exit → Act → World → Prop} (hw : Region.wanted o (yielded ops a.tmps) = true) (s x : Operand)
    (ho : o.op = .call { callee := .builtin .append, args := #[s, x], argTypes := #[S, S] }) (v v2 : Value) (hs : a.eval s = v) (hx : a.eval x = v2) {ps qs : Flds} (hown : OwnsP T B w v ps) (hr : ReadsQ w v2 qs) (hp : Sane v2)
    (hn : ps.length + qs.length ≤ 4398046520000) (hB : B ≤ w.heap.size) (h : ∀ v' w', OwnsP T B w' v' (ps ++ qs) → w.grownBy w' v.ownBlock → wpList Tryz.prog ops Q rest (a.put o.dst v') w') :
    wpList Tryz.prog ops Q (o :: rest) a w := by
  refine BigFrame.wpList_want hw fun K hK => ?_
  obtain ⟨ao, cap, rfl, hc⟩ := id hr
  cases ao with
  | none =>
    obtain ⟨rfl, _⟩ := hr.none
    obtain rfl := (hp _ _ _ rfl).2 rfl
    have hrun := run_append_owned_none (P := Tryz.prog) (w := w) B S o.type T i0 2 ht hi v ps.length (flatP ps) hown
    unfold Oper.wp
    simp [execOp, ho, resolve, invoke, builtin, hs, hx, hrun, Result.andThen]
    exact hK _ _ (h v w (by rw [List.append_nil]; exact hown) ⟨rfl, rfl, rfl, Nat.le_refl _, fun _ _ _ => rfl⟩)
  | some ad =>
    obtain ⟨_, hs'⟩ := hr.src
    exact wp_append_own_wide w s x S ho B T i0 _ 2 32 ht hi hz0 hz1 hz2 rfl (by decide) v ps.length (flatP ps) hs hown ad qs.length cap (flatP qs) hx (flatP_len qs) hs' (flatP_one qs) (by unfold maxLen; omega) (by omega) hB
      fun v' w' h1 h2 _ => hK _ _ (h v' w' (own_app h1 rfl) h2)

set_option maxHeartbeats 2000000 in
set_option maxRecDepth 100000 in
theorem tagOf_big (fv : Value) (ps : Flds) (w : World) (hr : ReadsQ w fv ps) (hf : FitT ps) (hM : MaxIs w) :
    Calls Tryz.prog 64 #[fv] w fun e w' => e = .returned (tgB (tagO (allL ps nET))) ∧ Below w.heap.size w w' := by
  have HA := Lib.hid (fun (w : World) (hr : ReadsQ w fv ps) => sole_big fv ps (strB nET) w hr (by decide) hf.len hf.each)
  have hol := oneL_len hf.tag
  have HM := Lib.hid hM
  have HR := Lib.hid hr
  have HP := Lib.hid (fun (w : World) (hM : MaxIs w) => readTag_any (oneL (allL ps nET)).1 w hM (by omega))
  have HV := Lib.hid (show tagO (allL ps nET) = readTL (oneL (allL ps nET)).1 from rfl)
  rw [strB_list] at HA
  clear hr hf hM hol
  generalize tagO (allL ps nET) = Y at *
  generalize (oneL (allL ps nET)).1 = v at *
  generalize (oneL (allL ps nET)).2 = b at *
  cases Y with
  | none =>
    rw [← HV.out] at HP
    unfold tgO at HP
    clear HV
    go_enter Tryz.func64, Tryz.ntmps64
    go_wp2_with fail
    refine (HA.out _ (HR.out.below (below_new _ _))).mono ?_
    rintro e w1 ⟨rfl, hB1⟩
    have HT1 := Lib.hid ((twoT_zero w 94).below hB1)
    have HB1 := Lib.hid ((below_new w (.cells #[.bool false, .string ByteArray.empty] 94)).trans (hB1.mono (by simp)))
    have hs1 := hB1.size
    simp at hs1
    clear hB1
    go_wp2_with fail
    refine (HP.out _ (HM.out.below HB1.out)).mono ?_
    rintro e w2 ⟨rfl, hB2⟩
    have HT2 := Lib.hid ((HT1.out.below hB2).below (below_new w2 (.cells #[.bool false, .string (strB [])] 94)))
    have HU2 := Lib.hid (twoT_new w2 false [] 94)
    have HB2 := Lib.hid ((HB1.out.trans (hB2.mono HB1.out.size)).alloc (Nat.le_trans HB1.out.size hB2.size) (.cells #[.bool false, .string (strB [])] 94))
    have hs2 := hB2.size
    clear hB2 HT1 HB1
    go_upto_region 3 with fail
    change Code.wp _ _ _ _ (w2.alloc (.cells #[.bool false, .string (strB [])] 94))
    have hne : w2.heap.size ≠ w.heap.size := by omega
    generalize (w2.alloc (.cells #[.bool false, .string (strB [])] 94)) = W at *
    generalize w2.heap.size = M at *
    obtain ⟨c0, c1, f0, f1, hN⟩ := HT2.out
    obtain ⟨d0, d1, g0, g1, hM1⟩ := HU2.out
    go_region
    all_goals
      go_wp2_with fail
      refine bodyPost_ret (v := tgB none) (by simp [results, Tryz.results64, go_sem, tgB, c0, c1, strB_nil0]) rfl ⟨rfl, ?_⟩
      first
        | exact (below_twoT HB2.out (Nat.le_refl _) _ _).drew
        | exact below_twoT HB2.out.drew (Nat.le_refl _) _ _
  | some t =>
    rw [← HV.out] at HP
    unfold tgO at HP
    clear HV
    go_enter Tryz.func64, Tryz.ntmps64
    go_wp2_with fail
    refine (HA.out _ (HR.out.below (below_new _ _))).mono ?_
    rintro e w1 ⟨rfl, hB1⟩
    have HT1 := Lib.hid ((twoT_zero w 94).below hB1)
    have HB1 := Lib.hid ((below_new w (.cells #[.bool false, .string ByteArray.empty] 94)).trans (hB1.mono (by simp)))
    have hs1 := hB1.size
    simp at hs1
    clear hB1
    go_wp2_with fail
    refine (HP.out _ (HM.out.below HB1.out)).mono ?_
    rintro e w2 ⟨rfl, hB2⟩
    have HT2 := Lib.hid ((HT1.out.below hB2).below (below_new w2 (.cells #[.bool t.1, .string (strB t.2)] 94)))
    have HU2 := Lib.hid (twoT_new w2 t.1 t.2 94)
    have HB2 := Lib.hid ((HB1.out.trans (hB2.mono HB1.out.size)).alloc (Nat.le_trans HB1.out.size hB2.size) (.cells #[.bool t.1, .string (strB t.2)] 94))
    have hs2 := hB2.size
    clear hB2 HT1 HB1
    go_upto_region 3 with fail
    change Code.wp _ _ _ _ (w2.alloc (.cells #[.bool t.1, .string (strB t.2)] 94))
    have hne : w2.heap.size ≠ w.heap.size := by omega
    generalize (w2.alloc (.cells #[.bool t.1, .string (strB t.2)] 94)) = W at *
    generalize w2.heap.size = M at *
    obtain ⟨c0, c1, f0, f1, hN⟩ := HT2.out
    obtain ⟨d0, d1, g0, g1, hM1⟩ := HU2.out
    go_region
    all_goals
      go_wp2_with fail
      refine bodyPost_ret (v := tgB (some t)) (by simp [results, Tryz.results64, go_sem, tgB, c0, c1, strB_nil0]) rfl ⟨rfl, ?_⟩
      first
        | exact (below_twoT HB2.out (Nat.le_refl _) _ _).drew
        | exact below_twoT HB2.out.drew (Nat.le_refl _) _ _

theorem allR_big (fv : Value) (ps : Flds) (n : ByteArray) (w : World) (hr : ReadsQ w fv ps) (hf : FitT ps) (hn : n.size ≤ 100) :
    Calls Tryz.prog 25 #[fv, .string n] w fun e w' => ∃ a c, e = .returned (.slice a (allL ps n.data.toList).length c) ∧ ReadsS w' (.slice a (allL ps n.data.toList).length c) (allL ps n.data.toList) ∧ Below w.heap.size w w' := by
  refine (all_big fv ps n w hr (by omega) hf.len hf.each).mono ?_
  rintro e w' ⟨v, rfl, hO, hB⟩
  have hR := hO.reads
  obtain ⟨a, c, rfl, _⟩ := id hR
  exact ⟨a, c, rfl, hR, hB⟩

set_option maxHeartbeats 8000000 in
set_option maxRecDepth 100000 in
theorem isOther_big (av : Value) (a : Flds) (bv : Value) (b : Flds) (w : World) (ha : ReadsQ w av a) (hfa : FitT a) (hb : ReadsQ w bv b) (hfb : FitT b) (hM : MaxIs w) :
    Calls Tryz.prog 38 #[av, bv] w fun e w' => e = .returned (.bool (mixB (allL a nET) (allL b nET))) ∧ Below w.heap.size w w' := by
  have HA := Lib.hid (allR_big av a (strB nET) w ha hfa (by decide))
  have HB := Lib.hid (fun (w : World) (hb : ReadsQ w bv b) => allR_big bv b (strB nET) w hb hfb (by decide))
  rw [strB_list] at HA HB
  have HTa := Lib.hid (fun (w : World) (ha : ReadsQ w av a) (hM : MaxIs w) => tagOf_big av a w ha hfa hM)
  have HTb := Lib.hid (fun (w : World) (hb : ReadsQ w bv b) (hM : MaxIs w) => tagOf_big bv b w hb hfb hM)
  have HRa := Lib.hid ha
  have HRb := Lib.hid hb
  have HM := Lib.hid hM
  have hla := hfa.few
  have hlb := hfb.few
  have hza := hfa.len
  have hzb := hfb.len
  clear ha hb hfa hfb hM
  have HV := Lib.hid (show mixB (allL a nET) (allL b nET) = if allL a nET = [] ∨ allL b nET = [] ∨ allL a nET = allL b nET then false else !sameW (tagO (allL a nET)) (tagO (allL b nET)) from rfl)
  generalize mixB (allL a nET) (allL b nET) = res at *
  generalize tagO (allL a nET) = ta at *
  generalize tagO (allL b nET) = tb at *
  generalize allL a nET = la at *
  generalize allL b nET = lb at *
  have ea := len0 la
  have eb := len0 lb
  have HQ := Lib.hid (fun (x y : Value) (w : World) (hx : ReadsS w x la) (hy : ReadsS w y lb) => equalS_any x y la lb w hx hy (by omega))
  by_cases h1 : la = []
  · rw [decide_eq_true h1] at ea
    have HV2 := Lib.hid (show res = false by rw [HV.out, if_pos (.inl h1)])
    clear h1 HV
    generalize la.length = na at *
    generalize lb.length = nb at *
    go_enter Tryz.func38, Tryz.ntmps38
    go_wp2_with fail
    refine HA.out.mono ?_
    rintro e w1 ⟨x1, c1, rfl, hR1, hB1⟩
    go_wp2_with fail
    refine (HB.out _ (HRb.out.below hB1)).mono ?_
    rintro e w2 ⟨x2, c2, rfl, hR2, hB2⟩
    clear hR1 hR2
    go_wp2_with fail
    go_ret
    exact ⟨retB HV2.out.symm, hB1.trans (hB2.mono hB1.size)⟩
  · rw [decide_eq_false h1] at ea
    by_cases h2 : lb = []
    · rw [decide_eq_true h2] at eb
      have HV2 := Lib.hid (show res = false by rw [HV.out, if_pos (.inr (.inl h2))])
      clear h1 h2 HV
      generalize la.length = na at *
      generalize lb.length = nb at *
      go_enter Tryz.func38, Tryz.ntmps38
      go_wp2_with fail
      refine HA.out.mono ?_
      rintro e w1 ⟨x1, c1, rfl, hR1, hB1⟩
      go_wp2_with fail
      refine (HB.out _ (HRb.out.below hB1)).mono ?_
      rintro e w2 ⟨x2, c2, rfl, hR2, hB2⟩
      clear hR1 hR2
      go_wp2_with fail
      go_ret
      exact ⟨retB HV2.out.symm, hB1.trans (hB2.mono hB1.size)⟩
    · rw [decide_eq_false h2] at eb
      by_cases h3 : la = lb
      · have HV2 := Lib.hid (show res = false by rw [HV.out, if_pos (.inr (.inr h3))])
        rw [decide_eq_true h3] at HQ
        clear h1 h2 h3 HV
        generalize la.length = na at *
        generalize lb.length = nb at *
        go_enter Tryz.func38, Tryz.ntmps38
        go_wp2_with fail
        refine HA.out.mono ?_
        rintro e w1 ⟨x1, c1, rfl, hR1, hB1⟩
        have HR1 := Lib.hid hR1
        clear hR1
        go_wp2_with fail
        refine (HB.out _ (HRb.out.below hB1)).mono ?_
        rintro e w2 ⟨x2, c2, rfl, hR2, hB2⟩
        have HR2 := Lib.hid hR2
        have HR1b := Lib.hid (HR1.out.below hB2)
        clear hR2
        go_wp2_with fail
        refine (HQ.out _ _ _ HR1b.out HR2.out).mono ?_
        rintro e w3 ⟨rfl, q, rfl⟩
        go_wp2_with fail
        go_ret
        exact ⟨retB HV2.out.symm, below_drewN (hB1.trans (hB2.mono hB1.size)) _⟩
      · have HV2 := Lib.hid (show res = !sameW ta tb by rw [HV.out, if_neg (by simp [h1, h2, h3])])
        rw [decide_eq_false h3] at HQ
        clear h1 h2 h3 HV
        generalize la.length = na at *
        generalize lb.length = nb at *
        cases ta with
        | none =>
          have HV3 := Lib.hid (show res = true by rw [HV2.out]; rfl)
          unfold tgB at HTa
          cases tb with
          | none =>
            simp only [tgB] at HTb
            go_enter Tryz.func38, Tryz.ntmps38
            go_wp2_with fail
            refine HA.out.mono ?_
            rintro e w1 ⟨x1, c1, rfl, hR1, hB1⟩
            have HR1 := Lib.hid hR1
            clear hR1
            go_wp2_with fail
            refine (HB.out _ (HRb.out.below hB1)).mono ?_
            rintro e w2 ⟨x2, c2, rfl, hR2, hB2⟩
            have HR2 := Lib.hid hR2
            have HR1b := Lib.hid (HR1.out.below hB2)
            have HB2 := Lib.hid (hB1.trans (hB2.mono hB1.size))
            clear hR2 hB1 hB2 HR1
            go_wp2_with fail
            refine (HQ.out _ _ _ HR1b.out HR2.out).mono ?_
            rintro e w3 ⟨rfl, q, rfl⟩
            have HB3 := Lib.hid (below_drewN HB2.out q)
            clear HR1b HR2 HB2
            generalize w2.drewN q = w3 at *
            go_wp2_with fail
            refine (HTa.out _ (HRa.out.below HB3.out) (HM.out.below HB3.out)).mono ?_
            rintro e w4 ⟨rfl, hB4⟩
            have HB4 := Lib.hid (HB3.out.trans (hB4.mono HB3.out.size))
            have hs4 := HB4.out.size
            clear hB4 HB3
            have HX4 := Lib.hid (twoT_new w4 false [] 94)
            have HB5 := Lib.hid (HB4.out.alloc hs4 (.cells #[.bool false, .string (strB [])] 94))
            go_upto_region 5 with fail
            change Code.wp _ _ _ _ (w4.alloc (.cells #[.bool false, .string (strB [])] 94))
            generalize (w4.alloc (.cells #[.bool false, .string (strB [])] 94)) = W5 at *
            generalize w4.heap.size = N4 at *
            clear HB4 hs4
            go_wp2_with fail
            refine (HTb.out _ (HRb.out.below HB5.out) (HM.out.below HB5.out)).mono ?_
            rintro e w6 ⟨rfl, hB6⟩
            have HX6 := Lib.hid ((HX4.out.below hB6).below (below_new w6 (.cells #[.bool false, .string (strB [])] 94)))
            have HB6 := Lib.hid (HB5.out.trans (hB6.mono HB5.out.size))
            have hs6 := HB6.out.size
            have HY6 := Lib.hid (twoT_new w6 false [] 94)
            have HB7 := Lib.hid (HB6.out.alloc hs6 (.cells #[.bool false, .string (strB [])] 94))
            go_upto_region 6 with fail
            change Code.wp _ _ _ _ (w6.alloc (.cells #[.bool false, .string (strB [])] 94))
            generalize (w6.alloc (.cells #[.bool false, .string (strB [])] 94)) = W7 at *
            generalize w6.heap.size = N6 at *
            clear HB6 hs6 HB5 HX4 hB6
            obtain ⟨xa0, xa1, _, _, _⟩ := HX6.out
            obtain ⟨ya0, ya1, _, _, _⟩ := HY6.out
            go_wp2_with fail
            go_ret
            exact ⟨retB HV3.out.symm, HB7.out⟩
          | some tb =>
            simp only [tgB] at HTb
            go_enter Tryz.func38, Tryz.ntmps38
            go_wp2_with fail
            refine HA.out.mono ?_
            rintro e w1 ⟨x1, c1, rfl, hR1, hB1⟩
            have HR1 := Lib.hid hR1
            clear hR1
            go_wp2_with fail
            refine (HB.out _ (HRb.out.below hB1)).mono ?_
            rintro e w2 ⟨x2, c2, rfl, hR2, hB2⟩
            have HR2 := Lib.hid hR2
            have HR1b := Lib.hid (HR1.out.below hB2)
            have HB2 := Lib.hid (hB1.trans (hB2.mono hB1.size))
            clear hR2 hB1 hB2 HR1
            go_wp2_with fail
            refine (HQ.out _ _ _ HR1b.out HR2.out).mono ?_
            rintro e w3 ⟨rfl, q, rfl⟩
            have HB3 := Lib.hid (below_drewN HB2.out q)
            clear HR1b HR2 HB2
            generalize w2.drewN q = w3 at *
            go_wp2_with fail
            refine (HTa.out _ (HRa.out.below HB3.out) (HM.out.below HB3.out)).mono ?_
            rintro e w4 ⟨rfl, hB4⟩
            have HB4 := Lib.hid (HB3.out.trans (hB4.mono HB3.out.size))
            have hs4 := HB4.out.size
            clear hB4 HB3
            have HX4 := Lib.hid (twoT_new w4 false [] 94)
            have HB5 := Lib.hid (HB4.out.alloc hs4 (.cells #[.bool false, .string (strB [])] 94))
            go_upto_region 5 with fail
            change Code.wp _ _ _ _ (w4.alloc (.cells #[.bool false, .string (strB [])] 94))
            generalize (w4.alloc (.cells #[.bool false, .string (strB [])] 94)) = W5 at *
            generalize w4.heap.size = N4 at *
            clear HB4 hs4
            go_wp2_with fail
            refine (HTb.out _ (HRb.out.below HB5.out) (HM.out.below HB5.out)).mono ?_
            rintro e w6 ⟨rfl, hB6⟩
            have HX6 := Lib.hid ((HX4.out.below hB6).below (below_new w6 (.cells #[.bool tb.1, .string (strB tb.2)] 94)))
            have HB6 := Lib.hid (HB5.out.trans (hB6.mono HB5.out.size))
            have hs6 := HB6.out.size
            have HY6 := Lib.hid (twoT_new w6 tb.1 tb.2 94)
            have HB7 := Lib.hid (HB6.out.alloc hs6 (.cells #[.bool tb.1, .string (strB tb.2)] 94))
            go_upto_region 6 with fail
            change Code.wp _ _ _ _ (w6.alloc (.cells #[.bool tb.1, .string (strB tb.2)] 94))
            generalize (w6.alloc (.cells #[.bool tb.1, .string (strB tb.2)] 94)) = W7 at *
            generalize w6.heap.size = N6 at *
            clear HB6 hs6 HB5 HX4 hB6
            obtain ⟨xa0, xa1, _, _, _⟩ := HX6.out
            obtain ⟨ya0, ya1, _, _, _⟩ := HY6.out
            go_wp2_with fail
            go_ret
            exact ⟨retB HV3.out.symm, HB7.out⟩
        | some ta =>
          unfold tgB at HTa
          cases tb with
          | none =>
            have HV3 := Lib.hid (show res = true by rw [HV2.out]; rfl)
            simp only [tgB] at HTb
            go_enter Tryz.func38, Tryz.ntmps38
            go_wp2_with fail
            refine HA.out.mono ?_
            rintro e w1 ⟨x1, c1, rfl, hR1, hB1⟩
            have HR1 := Lib.hid hR1
            clear hR1
            go_wp2_with fail
            refine (HB.out _ (HRb.out.below hB1)).mono ?_
            rintro e w2 ⟨x2, c2, rfl, hR2, hB2⟩
            have HR2 := Lib.hid hR2
            have HR1b := Lib.hid (HR1.out.below hB2)
            have HB2 := Lib.hid (hB1.trans (hB2.mono hB1.size))
            clear hR2 hB1 hB2 HR1
            go_wp2_with fail
            refine (HQ.out _ _ _ HR1b.out HR2.out).mono ?_
            rintro e w3 ⟨rfl, q, rfl⟩
            have HB3 := Lib.hid (below_drewN HB2.out q)
            clear HR1b HR2 HB2
            generalize w2.drewN q = w3 at *
            go_wp2_with fail
            refine (HTa.out _ (HRa.out.below HB3.out) (HM.out.below HB3.out)).mono ?_
            rintro e w4 ⟨rfl, hB4⟩
            have HB4 := Lib.hid (HB3.out.trans (hB4.mono HB3.out.size))
            have hs4 := HB4.out.size
            clear hB4 HB3
            have HX4 := Lib.hid (twoT_new w4 ta.1 ta.2 94)
            have HB5 := Lib.hid (HB4.out.alloc hs4 (.cells #[.bool ta.1, .string (strB ta.2)] 94))
            go_upto_region 5 with fail
            change Code.wp _ _ _ _ (w4.alloc (.cells #[.bool ta.1, .string (strB ta.2)] 94))
            generalize (w4.alloc (.cells #[.bool ta.1, .string (strB ta.2)] 94)) = W5 at *
            generalize w4.heap.size = N4 at *
            clear HB4 hs4
            go_wp2_with fail
            refine (HTb.out _ (HRb.out.below HB5.out) (HM.out.below HB5.out)).mono ?_
            rintro e w6 ⟨rfl, hB6⟩
            have HX6 := Lib.hid ((HX4.out.below hB6).below (below_new w6 (.cells #[.bool false, .string (strB [])] 94)))
            have HB6 := Lib.hid (HB5.out.trans (hB6.mono HB5.out.size))
            have hs6 := HB6.out.size
            have HY6 := Lib.hid (twoT_new w6 false [] 94)
            have HB7 := Lib.hid (HB6.out.alloc hs6 (.cells #[.bool false, .string (strB [])] 94))
            go_upto_region 6 with fail
            change Code.wp _ _ _ _ (w6.alloc (.cells #[.bool false, .string (strB [])] 94))
            generalize (w6.alloc (.cells #[.bool false, .string (strB [])] 94)) = W7 at *
            generalize w6.heap.size = N6 at *
            clear HB6 hs6 HB5 HX4 hB6
            obtain ⟨xa0, xa1, _, _, _⟩ := HX6.out
            obtain ⟨ya0, ya1, _, _, _⟩ := HY6.out
            go_wp2_with fail
            go_ret
            exact ⟨retB HV3.out.symm, HB7.out⟩
          | some tb =>
            have HV3 := Lib.hid (show res = !sameT false ta tb by rw [HV2.out]; unfold sameW sameT; simp)
            simp only [tgB] at HTb
            go_enter Tryz.func38, Tryz.ntmps38
            go_wp2_with fail
            refine HA.out.mono ?_
            rintro e w1 ⟨x1, c1, rfl, hR1, hB1⟩
            have HR1 := Lib.hid hR1
            clear hR1
            go_wp2_with fail
            refine (HB.out _ (HRb.out.below hB1)).mono ?_
            rintro e w2 ⟨x2, c2, rfl, hR2, hB2⟩
            have HR2 := Lib.hid hR2
            have HR1b := Lib.hid (HR1.out.below hB2)
            have HB2 := Lib.hid (hB1.trans (hB2.mono hB1.size))
            clear hR2 hB1 hB2 HR1
            go_wp2_with fail
            refine (HQ.out _ _ _ HR1b.out HR2.out).mono ?_
            rintro e w3 ⟨rfl, q, rfl⟩
            have HB3 := Lib.hid (below_drewN HB2.out q)
            clear HR1b HR2 HB2
            generalize w2.drewN q = w3 at *
            go_wp2_with fail
            refine (HTa.out _ (HRa.out.below HB3.out) (HM.out.below HB3.out)).mono ?_
            rintro e w4 ⟨rfl, hB4⟩
            have HB4 := Lib.hid (HB3.out.trans (hB4.mono HB3.out.size))
            have hs4 := HB4.out.size
            clear hB4 HB3
            have HX4 := Lib.hid (twoT_new w4 ta.1 ta.2 94)
            have HB5 := Lib.hid (HB4.out.alloc hs4 (.cells #[.bool ta.1, .string (strB ta.2)] 94))
            go_upto_region 5 with fail
            change Code.wp _ _ _ _ (w4.alloc (.cells #[.bool ta.1, .string (strB ta.2)] 94))
            generalize (w4.alloc (.cells #[.bool ta.1, .string (strB ta.2)] 94)) = W5 at *
            generalize w4.heap.size = N4 at *
            clear HB4 hs4
            go_wp2_with fail
            refine (HTb.out _ (HRb.out.below HB5.out) (HM.out.below HB5.out)).mono ?_
            rintro e w6 ⟨rfl, hB6⟩
            have HX6 := Lib.hid ((HX4.out.below hB6).below (below_new w6 (.cells #[.bool tb.1, .string (strB tb.2)] 94)))
            have HB6 := Lib.hid (HB5.out.trans (hB6.mono HB5.out.size))
            have hs6 := HB6.out.size
            have HY6 := Lib.hid (twoT_new w6 tb.1 tb.2 94)
            have HB7 := Lib.hid (HB6.out.alloc hs6 (.cells #[.bool tb.1, .string (strB tb.2)] 94))
            go_upto_region 6 with fail
            change Code.wp _ _ _ _ (w6.alloc (.cells #[.bool tb.1, .string (strB tb.2)] 94))
            generalize (w6.alloc (.cells #[.bool tb.1, .string (strB tb.2)] 94)) = W7 at *
            generalize w6.heap.size = N6 at *
            clear HB6 hs6 HB5 HX4 hB6
            obtain ⟨xa0, xa1, _, _, _⟩ := HX6.out
            obtain ⟨ya0, ya1, _, _, _⟩ := HY6.out
            go_wp2_with fail
            refine (weak_any ta tb _).mono ?_
            rintro e w8 ⟨rfl, hB8⟩
            go_wp2_with fail
            go_ret
            exact ⟨retB HV3.out.symm, HB7.out.trans (hB8.mono HB7.out.size)⟩

theorem cloS_big {g1 b n N : Nat} {ks : List (List UInt8)} {p : List UInt8 × List UInt8} {w0 w' : World} (h : CloS g1 b n N ks p w0 w') (hp : p.1.length ≤ 281474976710656) :
    w'.cell? ⟨g1, 0, none⟩ = some (.map (some b)) ∧ w'.cell? ⟨N, 0, none⟩ = some (.string (strB p.1)) ∧ (Instr.lookup 72 (.map (some b)) (.string (strB (lowS p.1))) false).run Tryz.prog w' = .ok (.bool (decide (lowS p.1 ∈ ks))) w' ∧ CloS g1 b n N ks p w0 w' :=
  ⟨h.u.m, h.c0, h.u.h.look (lowS p.1) (by rw [lowS_len]; unfold maxLen; omega), h⟩

set_option maxHeartbeats 4000000 in
set_option maxRecDepth 100000 in
theorem upd1_big (p : List UInt8 × List UInt8) (g1 b n : Nat) (ks : List (List UInt8)) (w : World) (hE : CloU g1 b n ks w) (hp : p.1.length ≤ 281474976710656) :
    Calls Tryz.prog 43 #[.agg #[.string (strB p.1), .string (strB p.2)], .pointer (some ⟨g1, 0, none⟩)] w fun e w' => e = .returned (.bool (decide (lowS p.1 ∈ ks))) ∧ Below w.heap.size w w' := by
  have HS := Lib.hid (show CloS g1 b n w.heap.size ks p w (w.alloc (.cells #[.string (strB p.1), .string (strB p.2)] 58)) from ⟨hE.below (below_new _ _), (new_pair w _ _ _).1, by simp, below_new _ _⟩)
  have HL := Lib.hid (fun (w : World) => lower_big (strB p.1) w (by rw [strB_size]; omega))
  rw [strB_list] at HL
  clear hE
  go_enter Tryz.func43, Tryz.ntmps43
  go_upto_region 1 with fail
  change Code.wp _ _ _ _ (w.alloc (.cells #[.string (strB p.1), .string (strB p.2)] 58))
  generalize (w.alloc (.cells #[.string (strB p.1), .string (strB p.2)] 58)) = W at *
  have hS0 := HS.out.below (Below.refl _ _).drew
  clear HS
  refine wp_region_held_drew (S := (fun w' => w'.cell? ⟨g1, 0, none⟩ = some (.map (some b)) ∧ w'.cell? ⟨w.heap.size, 0, none⟩ = some (.string (strB p.1)) ∧ (Instr.lookup 72 (.map (some b)) (.string (strB (lowS p.1))) false).run Tryz.prog w' = .ok (.bool (decide (lowS p.1 ∈ ks))) w' ∧ CloS g1 b n w.heap.size ks p w w')) (by kernel_rfl) (cloS_big hS0 hp) (fun hHeld => ?_)
  generalize W.drew = V0 at *
  refine wpAnyH_take (i := 0) (oi := { dst := some 4, op := _, type := _, pos := _, after := _, guard := _ }) (v := ?_) rfl (by kernel_rfl) (by kernel_rfl) (by kernel_rfl) (fun _ _ _ h => h) (Or.inl ⟨by rfl, ?_⟩) (by assumption) ?_
  rotate_left
  focus (intro w hSw; (try dsimp only at hSw); first | (go_simp; done) | (go_simp; with_reducible rfl))
  (try simp only [Act.put, List.setIfInBounds_toArray, List.set_cons_zero, List.set_cons_succ])
  refine wpAnyH_take (i := 1) (oi := { dst := some 5, op := _, type := _, pos := _, after := _, guard := _ }) (v := ?_) rfl (by kernel_rfl) (by kernel_rfl) (by kernel_rfl) (fun _ _ _ h => h) (Or.inl ⟨by rfl, ?_⟩) (by assumption) ?_
  rotate_left
  focus (intro w hSw; (try dsimp only at hSw); first | (go_simp; done) | (go_simp; with_reducible rfl))
  (try simp only [Act.put, List.setIfInBounds_toArray, List.set_cons_zero, List.set_cons_succ])
  refine wpAnyH_take (i := 2) (oi := { dst := some 6, op := _, type := _, pos := _, after := _, guard := _ }) (v := ?_) rfl (by kernel_rfl) (by kernel_rfl) (by kernel_rfl) (fun _ _ _ h => h) (Or.inl ⟨by rfl, ?_⟩) (by assumption) ?_
  rotate_left
  focus (intro w hSw; (try dsimp only at hSw); first | (go_simp; done) | (go_simp; with_reducible rfl))
  (try simp only [Act.put, List.setIfInBounds_toArray, List.set_cons_zero, List.set_cons_succ])
  refine wpAnyH_ready (rs := [3]) (by kernel_rfl) (by simp) ?_
  refine AllReadyH.cons (o := { dst := some 7, op := _, type := _, pos := _, after := _, guard := _ }) rfl (fun K hK => ?_) AllReadyH.nil
  go_simp
  refine (HL.out _).mono ?_
  rintro e V1 ⟨rfl, hBc⟩
  have hS1 := hS0.below hBc
  refine hK.out _ _ (cloS_big hS1 hp) (fun hH1 => ?_)
  clear hK K hBc hS0 hHeld
  (try simp only [Act.put, List.setIfInBounds_toArray, List.set_cons_zero, List.set_cons_succ])
  refine wpAnyH_take (i := 4) (oi := { dst := some 8, op := _, type := _, pos := _, after := _, guard := _ }) (v := ?_) rfl (by kernel_rfl) (by kernel_rfl) (by kernel_rfl) (fun _ _ _ h => h) (Or.inl ⟨by rfl, ?_⟩) (by assumption) ?_
  rotate_left
  focus (intro w hSw; (try dsimp only at hSw); first | (go_simp; done) | (go_simp; with_reducible rfl))
  (try simp only [Act.put, List.setIfInBounds_toArray, List.set_cons_zero, List.set_cons_succ])
  refine wpAnyH_take (i := 5) (oi := { dst := some 3, op := _, type := _, pos := _, after := _, guard := _ }) (v := ?_) rfl (by kernel_rfl) (by kernel_rfl) (by kernel_rfl) (fun _ _ _ h => h) (Or.inl ⟨by rfl, ?_⟩) (by assumption) ?_
  rotate_left
  focus (intro w hSw; (try dsimp only at hSw); first | (go_simp; done) | (go_simp; with_reducible rfl))
  (try simp only [Act.put, List.setIfInBounds_toArray, List.set_cons_zero, List.set_cons_succ])
  refine wpAnyH_done (by kernel_rfl) ?_ _
  (try simp only [Exit.then])
  (try go_wp2_with fail)
  go_ret
  exact ⟨rfl, hS1.l⟩

set_option maxHeartbeats 4000000 in
set_option maxRecDepth 100000 in
theorem indexF_big (fv : Value) (ps : Flds) (g1 b n : Nat) (ks : List (List UInt8)) (w : World) (hr : ReadsQ w fv ps) (hE : CloU g1 b n ks w) (hl : ps.length ≤ 4398046520000) (hb : ∀ p ∈ ps, p.1.length + p.2.length ≤ 281474976710656) :
    Calls Tryz.prog 68 #[fv, delV g1] w fun e w' => ∃ i, e = .returned (.int .i64 i) ∧ IxF ps (fun p => decide (lowS p.1 ∈ ks)) i ∧ Below w.heap.size w w' := by
  obtain ⟨ao, cap, rfl, hc⟩ := hr
  have HC := Lib.hid hc
  have HE := Lib.hid hE
  have HBg := Lib.hid hb
  clear hc hE hb
  go_enter Tryz.func68, Tryz.ntmps68
  go_wp2
  go_loopw [8] (fun i wr => ∃ k : Nat, i = .int .i64 k ∧ k ≤ ps.length ∧ (ps.take k).any (fun p => decide (lowS p.1 ∈ ks)) = false ∧ Below w.heap.size w wr) (fun i _ => ps.length - (intOf i).toNat)
  case atStart => exact ⟨0, rfl, Nat.zero_le _, rfl, Below.refl _ _⟩
  case round =>
    obtain ⟨k, rfl, hk, hs, hBr⟩ := hrel
    have hbr := hBr.size
    have HS := Lib.hid hs
    have HB := Lib.hid hBr
    clear hs hBr
    by_cases hlt : k < ps.length
    · obtain ⟨p, hp⟩ : ∃ p, ps[k]? = some p := ⟨ps[k], by simp [hlt]⟩
      obtain ⟨g, off, rfl, hg, h1, h2⟩ := HC.out k p hp
      have hc1 : wr.cell? ⟨g, off + k * 2, none⟩ = some (.string (strB p.1)) := (HB.out.cell (p := ⟨g, off + k * 2, none⟩) hg).trans h1
      have hc2 : wr.cell? ⟨g, off + k * 2 + 1, none⟩ = some (.string (strB p.2)) := (HB.out.cell (p := ⟨g, off + k * 2 + 1, none⟩) hg).trans h2
      have hpl := HBg.out p (List.mem_of_getElem? hp)
      have HP := Lib.hid hp
      clear hp h1 h2
      go_wp2_with fail
      refine (upd1_big p g1 b n ks _ (HE.out.below HB.out) (by omega)).mono ?_
      rintro e w2 ⟨rfl, hB2⟩
      have HB2 := Lib.hid (HB.out.trans (hB2.mono hbr))
      clear hB2
      cases hst : decide (lowS p.1 ∈ ks) with
      | true =>
        have HR := Lib.hid (anyF_hit (f := fun p => decide (lowS p.1 ∈ ks)) HP.out HS.out hst)
        clear hst
        go_wp2
        go_ret
        exact ⟨k, rfl, .inr ⟨k, rfl, HR.out⟩, HB2.out⟩
      | false =>
        have HR := Lib.hid (anyF_step (f := fun p => decide (lowS p.1 ∈ ks)) HP.out HS.out hst)
        clear hst
        go_wp2
        go_roundw
        case rel => exact ⟨k + 1, by go_num, by omega, HR.out, HB2.out⟩
        case measure => simp [intOf]; omega
    · have HR := Lib.hid (show ps.any (fun p => decide (lowS p.1 ∈ ks)) = false by have := HS.out; rwa [List.take_of_length_le (by omega)] at this)
      go_wp2
      go_ret
      exact ⟨-1, rfl, .inl ⟨rfl, HR.out⟩, HB.out⟩

set_option maxHeartbeats 8000000 in
set_option maxRecDepth 100000 in
theorem deleteF_big (B : Nat) (fv : Value) (ps : Flds) (g1 b n : Nat) (ks : List (List UInt8)) (w : World) (hO : OwnsP 58 B w fv ps) (hE : CloU g1 b n ks w) (h1 : g1 < B) (h2 : b < B) (hB : B ≤ w.heap.size) (hl : ps.length ≤ 4398046520000) (hb : ∀ p ∈ ps, p.1.length + p.2.length ≤ 281474976710656) :
    Calls Tryz.prog 41 #[fv, delV g1] w fun e w' => ∃ v, e = .returned v ∧ OwnsP 58 B w' v (ps.filter fun p => !decide (lowS p.1 ∈ ks)) ∧ Below B w w' := by
  have HI := Lib.hid (indexF_big fv ps g1 b n ks w hO.q hE hl hb)
  have HO := Lib.hid hO
  have HE := Lib.hid hE
  have HBg := Lib.hid hb
  have hv : fv = .slice none 0 0 ∨ ∃ g cap, fv = .slice (some ⟨g, 0, none⟩) ps.length cap ∧ B ≤ g ∧ g < w.heap.size ∧ ps.length ≤ cap := by
    rcases hO with ⟨_, ⟨h, _⟩ | ⟨g, cap, cur, h, hb, hg, hn, _⟩⟩
    · exact .inl h
    · exact .inr ⟨g, cap, h, hb, (Array.getElem?_eq_some_iff.1 hg).1, hn⟩
  clear hO hE hb
  rcases hv with rfl | ⟨g, cap, rfl, hBg, hgs, hcap⟩
  · have hps : ps = [] := by
      rcases HO.out with ⟨hl0, ⟨_, hn⟩ | ⟨g, cap, cur, h, _⟩⟩
      · exact List.eq_nil_of_length_eq_zero hn
      · cases h
    subst hps
    go_enter Tryz.func41, Tryz.ntmps41
    go_wp2_with fail
    refine HI.out.mono ?_
    rintro e w1 ⟨i, rfl, hix, hB1⟩
    rcases hix with ⟨rfl, hany⟩ | ⟨k, rfl, q, hq, _⟩
    · go_wp2_with fail
      go_ret
      exact ⟨_, rfl, OwnsP.nil _ _ _, hB1.mono hB⟩
    · simp at hq
  · go_enter Tryz.func41, Tryz.ntmps41
    go_wp2_with fail
    refine HI.out.mono ?_
    rintro e w1 ⟨i, rfl, hix, hB1⟩
    have HO1 := Lib.hid (OwnsP.below HO.out hB1)
    have HE1 := Lib.hid (HE.out.below hB1)
    have hs1 := hB1.size
    have HB1 := Lib.hid (hB1.mono hB)
    clear hB1
    rcases hix with ⟨rfl, hany⟩ | ⟨k, rfl, q, hq, hf, hpre⟩
    · have HF := Lib.hid (any_fil hany)
      clear hany
      go_wp2_with fail
      go_ret
      exact ⟨_, rfl, by rw [HF.out]; exact HO1.out, HB1.out⟩
    · have HS := Lib.hid (DelI.start (f := fun p => decide (lowS p.1 ∈ ks)) hq hf hpre)
      have hk1 := (List.getElem?_eq_some_iff.mp hq).1
      have hkb : ((k : Int) == -1) = false := by first | (simp; done) | (simp; omega)
      clear hq hf hpre HO HE
      have HL := Lib.hid hl
      clear hl
      have hml : ps.length ≤ 4398046520000 := HL.out
      go_wp2_with fail
      go_loopw [5, 6] (fun u v wr => ∃ (i j : Nat) (Z : Flds), u = .int .i64 i ∧ v = .int .i64 j ∧ DelI ps (fun p => decide (lowS p.1 ∈ ks)) i j Z ∧ OwnsP 58 B wr (.slice (some ⟨g, 0, none⟩) ps.length cap) Z ∧ CloU g1 b n ks wr ∧ Only (· = g) w1 wr) (fun _ v _ => ps.length - (intOf v).toNat)
      case atStart => exact ⟨k, k + 1, ps, rfl, by first | rfl | go_num, HS.out, HO1.out, HE1.out, Only.refl _ _⟩
      case round =>
        obtain ⟨i, j, Z, rfl, rfl, hI, hO, hE, hOn⟩ := hrel
        have hjl := hI.le
        have hij := hI.lt
        have HI2 := Lib.hid hI
        have HO2 := Lib.hid hO
        have HE2 := Lib.hid hE
        have HN2 := Lib.hid hOn
        have hwr := hOn.size
        clear hI hO hE hOn HI
        by_cases hlt : j < ps.length
        · obtain ⟨p, hp⟩ : ∃ p, ps[j]? = some p := ⟨ps[j], by simp [hlt]⟩
          obtain ⟨c1, c2, _, _⟩ := own_at HO2.out (HI2.out.at hp)
          have hpl := HBg.out p (List.mem_of_getElem? hp)
          have HP := Lib.hid hp
          clear hp
          go_wp2_with fail
          refine (upd1_big p g1 b n ks _ (HE2.out.below (below_new _ _)) (by omega)).mono ?_
          rintro e w2 ⟨rfl, hB2⟩
          obtain ⟨d1, d2⟩ := pair_kept hB2
          have hB2' := below_pair' hB2
          have HO3 := Lib.hid (OwnsP.below HO2.out hB2')
          have HE3 := Lib.hid (HE2.out.below hB2')
          have HN3 := Lib.hid (HN2.out.trans' (Only.below hB2'))
          have hgw2 : g < w2.heap.size := by have := hB2'.size; omega
          clear hB2 hB2' c1 c2
          cases hst : decide (lowS p.1 ∈ ks) with
          | true =>
            have HR := Lib.hid (HI2.out.gone HP.out hst)
            clear hst
            go_wp2_with fail
            go_roundw
            case rel => exact ⟨i, j + 1, Z, rfl, by go_num, HR.out, HO3.out, HE3.out, HN3.out⟩
            case measure => simp [intOf]; omega
          | false =>
            have HR := Lib.hid (HI2.out.kept HP.out hst)
            obtain ⟨z, hz⟩ := HI2.out.have_at
            obtain ⟨c3, c4, f3, f4⟩ := own_at HO3.out hz
            clear hst hz
            have hil : i < ps.length := by omega
            go_wp2_with fail
            go_roundw
            case rel => exact ⟨i + 1, j + 1, Z.set i p, by go_num, by go_num, HR.out, HO3.out.put i p, (HE3.out.only (g := g) (Only.set (X := (· = g)) rfl _ _ _) (by omega) (by omega)).only (g := g) (Only.set (X := (· = g)) rfl _ _ _) (by omega) (by omega), (HN3.out.trans' (Only.set (X := (· = g)) rfl _ _ _)).trans' (Only.set (X := (· = g)) rfl _ _ _)⟩
            case measure => simp [intOf]; omega
        · have hfin := HI2.out.fin (by omega)
          have hil : i < ps.length := by omega
          obtain ⟨cs, hcl, hOc⟩ := run_clearF HO2.out hil
          rw [hfin] at hOc
          have HOc := Lib.hid hOc
          have HNc := Lib.hid (HB1.out.trans ((HN2.out.trans' (Only.setRow wr g cs)).to (B := B) (fun k hk => by rw [hk]; exact hBg) (by omega)))
          clear hOc hfin
          go_wp2_with fail
          go_ret
          exact ⟨_, rfl, HOc.out, HNc.out⟩

set_option maxHeartbeats 4000000 in
set_option maxRecDepth 100000 in
theorem update_big_mix (av : Value) (a : Flds) (bv : Value) (b : Flds) (w : World) (ha : ReadsQ w av a) (hfa : FitT a) (hb : ReadsQ w bv b) (hfb : FitT b) (hM : MaxIs w) (hx : mixB (allL a nET) (allL b nET) = true) :
    Calls Tryz.prog 17 #[av, bv] w fun e w' => e = .returned (.tuple #[.slice none 0 0, errMix]) ∧ Below w.heap.size w w' := by
  have HI := Lib.hid (isOther_big av a bv b w ha hfa hb hfb hM)
  rw [hx] at HI
  clear ha hfa hb hfb hM hx
  go_enter Tryz.func17, Tryz.ntmps17
  go_wp2_with fail
  refine HI.out.mono ?_
  rintro e w1 ⟨rfl, hB1⟩
  go_wp2_with fail
  go_ret2
  exact ⟨rfl, hB1⟩

set_option maxHeartbeats 16000000 in
set_option maxRecDepth 100000 in
theorem update_big_ok (av : Value) (a : Flds) (bv : Value) (b : Flds) (w : World) (ha : ReadsQ w av a) (hfa : FitT a) (ha0 : a.length ≤ 4398046512000) (hb : ReadsQ w bv b) (hl : b.length ≤ 3000) (he : ∀ p ∈ b, p.1.length + p.2.length ≤ 6000) (hM : MaxIs w) (hx : mixB (allL a nET) (allL b nET) = false) :
    Calls Tryz.prog 17 #[av, bv] w fun e w' => ∃ v, e = .returned (.tuple #[v, .nilIface]) ∧ OwnsP 58 w.heap.size w' v (updL a b) ∧ Below w.heap.size w w' := by
  obtain ⟨i0, hi, hz0, hz1, hz2⟩ := info_parts Tryz.infoF
  have hmm := @run_makeMap Tryz.prog
  have hfb : FitL b := ⟨by omega, fun p hp => by have := he p hp; omega⟩
  have HI := Lib.hid (isOther_big av a bv b w ha hfa hb hfb.t hM)
  rw [hx] at HI
  have HRp := Lib.hid (fun (w : World) (hb : ReadsQ w bv b) => repl_any bv b w hb hl he)
  have HCl := Lib.hid (fun (w : World) (ha : ReadsQ w av a) => clone_big av a w ha hfa.len)
  have HRa := Lib.hid ha
  have HRb := Lib.hid hb
  have hal := hfa.len
  have HEa := Lib.hid (show ∀ p ∈ a, p.1.length + p.2.length ≤ 281474976710656 from hfa.each)
  have hPl := put_len b
  have HPe := Lib.hid (show ∀ p ∈ putL b, p.1.length + p.2.length ≤ 6000 from fun p hp => he p (put_mem hp))
  have HV := Lib.hid (show updL a b = (a.filter fun p => !decide (lowS p.1 ∈ (putL b).map fun p => lowS p.1)) ++ putL b from rfl)
  clear ha hfa hb hfb hM hx he
  generalize updL a b = U at *
  generalize putL b = P at *
  go_enter Tryz.func17, Tryz.ntmps17
  go_wp2_with fail
  refine HI.out.mono ?_
  rintro e w1 ⟨rfl, hB1⟩
  have HB1 := Lib.hid hB1
  clear hB1
  go_wp2_with fail
  refine (HRp.out _ (HRb.out.below HB1.out)).mono ?_
  rintro e w2 ⟨pv, rfl, hO2, hB2⟩
  have HB2 := Lib.hid (HB1.out.trans (hB2.mono HB1.out.size))
  have HPq := Lib.hid hO2.q
  have HPs := Lib.hid hO2.sane
  obtain ⟨pa, pc, rfl, hc⟩ := hO2.q
  have HC := Lib.hid hc
  have hs2 := HB2.out.size
  clear hc hB2 HB1 hO2
  go_upto_region 5 with fail
  change Code.wp _ _ _ _ ((w2.alloc (.map #[] 0)).alloc (.cells #[.map (some w2.heap.size)] 72))
  have h0 : HasL (w2.alloc (.map #[] 0)) w2.heap.size 0 [] := ⟨[], HasNames.made w2, fun x => Iff.rfl⟩
  have HH := Lib.hid (h0.below (below_new _ (.cells #[.map (some w2.heap.size)] 72)))
  have hc1 := cell_one_new (w2.alloc (.map #[] 0)) (.map (some w2.heap.size)) 72
  have hm1 : ((w2.alloc (.map #[] 0)).alloc (.cells #[.map (some w2.heap.size)] 72)).cell? ⟨w2.heap.size + 1, 0, none⟩ = some (.map (some w2.heap.size)) := by
    rw [show w2.heap.size + 1 = (w2.alloc (.map #[] 0)).heap.size by simp, World.cell?_alloc_at _ _ _ _ rfl]; rfl
  have HM1 := Lib.hid hm1
  have HB3 := Lib.hid (((below_new w2 (.map #[] 0)).alloc (by simp) (.cells #[.map (some w2.heap.size)] 72)))
  have hz3 : w2.heap.size + 2 ≤ ((w2.alloc (.map #[] 0)).alloc (.cells #[.map (some w2.heap.size)] 72)).heap.size := by simp
  clear h0 hc1 hm1 hmm
  generalize ((w2.alloc (.map #[] 0)).alloc (.cells #[.map (some w2.heap.size)] 72)) = W3 at *
  obtain ⟨M, hMM⟩ : ∃ M, w2.heap.size = M := ⟨_, rfl⟩
  rw [hMM] at HH HM1 HB3 hz3 hs2 ⊢
  have HMM := Lib.hid hMM
  clear hMM
  go_wp2_with fail
  go_loopw [20] (fun i wr => ∃ k : Nat, i = .int .i64 k ∧ k ≤ P.length ∧ HasL wr M k ((P.take k).map fun p => lowS p.1) ∧ wr.cell? ⟨M + 1, 0, none⟩ = some (.map (some M)) ∧ Below M w2 wr ∧ M + 2 ≤ wr.heap.size) (fun i _ => P.length - (intOf i).toNat)
  case atStart => exact ⟨0, rfl, Nat.zero_le _, HH.out, HM1.out, HB3.out, hz3⟩
  case round =>
    obtain ⟨k, rfl, hk, hH, hm, hBr, hz⟩ := hrel
    have HHk := Lib.hid hH
    have HBr := Lib.hid hBr
    have HMk := Lib.hid hm
    clear hH hBr hm
    by_cases hlt : k < P.length
    · obtain ⟨p, hp⟩ : ∃ p, P[k]? = some p := ⟨P[k], by simp [hlt]⟩
      obtain ⟨g, off, rfl, hg1, h1, h2⟩ := HC.out k p hp
      have hgM : g < M := by have := HMM.out; omega
      have hc1 : wr.cell? ⟨g, off + k * 2, none⟩ = some (.string (strB p.1)) := (HBr.out.cell (p := ⟨g, off + k * 2, none⟩) hgM).trans h1
      have hc2 : wr.cell? ⟨g, off + k * 2 + 1, none⟩ = some (.string (strB p.2)) := (HBr.out.cell (p := ⟨g, off + k * 2 + 1, none⟩) hgM).trans h2
      have hpl := HPe.out p (List.mem_of_getElem? hp)
      have HP := Lib.hid hp
      have HS8 := Lib.hid (show UpS M wr.heap.size p w2 (wr.alloc (.cells #[.string (strB p.1), .string (strB p.2)] 58)) from
        ⟨((below_new wr (.cells #[.string (strB p.1), .string (strB p.2)] 58)).cell (p := ⟨M + 1, 0, none⟩) (by show M + 1 < _; omega)).trans HMk.out, (new_pair wr _ _ _).1, by omega, by simp, HBr.out.alloc (by omega) _⟩)
      have HH8 := Lib.hid (HHk.out.below (below_new wr (.cells #[.string (strB p.1), .string (strB p.2)] 58)))
      have HL := Lib.hid (fun (w : World) => lower_any (strB p.1) w (by rw [strB_size]; omega))
      rw [strB_list] at HL
      clear hp h1 h2
      go_upto_region 8 with fail
      change Code.wp _ _ _ _ (wr.alloc (.cells #[.string (strB p.1), .string (strB p.2)] 58))
      generalize (wr.alloc (.cells #[.string (strB p.1), .string (strB p.2)] 58)) = W8 at *
      have hS0 := HS8.out.below (Below.refl _ _).drew
      have hH0 := HH8.out.below (Below.refl _ _).drew
      clear HS8 HH8 hc1 hc2
      refine wp_region_held_drew (S := (fun w' => w'.cell? ⟨M + 1, 0, none⟩ = some (.map (some M)) ∧ w'.cell? ⟨wr.heap.size, 0, none⟩ = some (.string (strB p.1)) ∧ UpS M wr.heap.size p w2 w')) (by kernel_rfl) (upS_all hS0) (fun hHeld => ?_)
      generalize W8.drew = V0 at *
      refine wpAnyH_take (i := 0) (oi := { dst := some 24, op := _, type := _, pos := _, after := _, guard := _ }) (v := ?_) rfl (by kernel_rfl) (by kernel_rfl) (by kernel_rfl) (fun _ _ _ h => h) (Or.inl ⟨by rfl, ?_⟩) (by assumption) ?_
      rotate_left
      focus (intro w hSw; (try dsimp only at hSw); first | (go_simp; done) | (go_simp; with_reducible rfl))
      (try simp only [Act.put, List.setIfInBounds_toArray, List.set_cons_zero, List.set_cons_succ])
      refine wpAnyH_take (i := 1) (oi := { dst := some 25, op := _, type := _, pos := _, after := _, guard := _ }) (v := ?_) rfl (by kernel_rfl) (by kernel_rfl) (by kernel_rfl) (fun _ _ _ h => h) (Or.inl ⟨by rfl, ?_⟩) (by assumption) ?_
      rotate_left
      focus (intro w hSw; (try dsimp only at hSw); first | (go_simp; done) | (go_simp; with_reducible rfl))
      (try simp only [Act.put, List.setIfInBounds_toArray, List.set_cons_zero, List.set_cons_succ])
      refine wpAnyH_take (i := 2) (oi := { dst := some 26, op := _, type := _, pos := _, after := _, guard := _ }) (v := ?_) rfl (by kernel_rfl) (by kernel_rfl) (by kernel_rfl) (fun _ _ _ h => h) (Or.inl ⟨by rfl, ?_⟩) (by assumption) ?_
      rotate_left
      focus (intro w hSw; (try dsimp only at hSw); first | (go_simp; done) | (go_simp; with_reducible rfl))
      (try simp only [Act.put, List.setIfInBounds_toArray, List.set_cons_zero, List.set_cons_succ])
      refine wpAnyH_ready (rs := [3]) (by kernel_rfl) (by simp) ?_
      refine AllReadyH.cons (o := { dst := some 27, op := _, type := _, pos := _, after := _, guard := _ }) rfl (fun K hK => ?_) AllReadyH.nil
      go_simp
      refine (HL.out _).mono ?_
      rintro e V1 ⟨rfl, hBc⟩
      have hS1 := hS0.below hBc
      have hH1 := hH0.below hBc
      obtain ⟨w5, hrun, hH5, hg5⟩ := hH1.put (lowS p.1) (by rw [lowS_len]; unfold maxLen; omega) (by unfold maxLen; omega)
      have hS5 := hS1.put hg5
      refine hK.out _ _ (upS_all hS1) (fun hHd => ?_)
      clear hK K hBc hS0 hH0 hHeld hH1 hS1
      (try simp only [Act.put, List.setIfInBounds_toArray, List.set_cons_zero, List.set_cons_succ])
      refine wpAnyH_ready (rs := [4]) (by kernel_rfl) (by simp) ?_
      refine AllReadyH.cons (o := { dst := none, op := _, type := _, pos := _, after := _, guard := _ }) rfl (fun K hK => ?_) AllReadyH.nil
      go_simp
      refine hK.out _ _ (upS_all hS5) (fun hHe => ?_)
      clear hK K hHd hrun
      (try simp only [Act.put, List.setIfInBounds_toArray, List.set_cons_zero, List.set_cons_succ])
      refine wpAnyH_done (by kernel_rfl) ?_ _
      (try simp only [Exit.inBlock, Exit.then])
      have HH5 := Lib.hid hH5
      have HS5 := Lib.hid hS5
      clear hH5 hS5 hg5
      (try go_wp2_with fail)
      go_roundw
      case rel => exact ⟨k + 1, by go_num, by omega, by rw [map_take HP.out]; exact HH5.out, HS5.out.m, HS5.out.b, by have := HS5.out.l1; have := HS5.out.l2; omega⟩
      case measure => simp [intOf]; omega
    · have hPk : P.take k = P := List.take_of_length_le (by omega)
      obtain ⟨ks, hN, hks⟩ := HHk.out
      rw [hPk] at hks
      have hE : CloU (M + 1) M k ks wr := ⟨HMk.out, hN, by omega⟩
      have HE := Lib.hid hE
      have HKs := Lib.hid hks
      have HBw := Lib.hid (HB2.out.trans (HBr.out.mono (by have := HMM.out; omega)))
      have HPr := Lib.hid (HPq.out.below (w' := wr) (by rw [HMM.out]; exact HBr.out))
      clear hPk hN hks hE
      go_wp2_with fail
      refine (HCl.out _ (HRa.out.below HBw.out)).mono ?_
      rintro e w6 ⟨cv, rfl, hO6, hB6⟩
      have HO6 := Lib.hid hO6
      have HE6 := Lib.hid (HE.out.below hB6)
      have HB6 := Lib.hid hB6
      have HPr6 := Lib.hid (HPr.out.below hB6)
      have hs6 := hB6.size
      clear hO6 hB6
      go_wp2_with fail
      refine (deleteF_big wr.heap.size cv a (M + 1) M k ks w6 HO6.out HE6.out (by omega) (by omega) hs6 (by omega) HEa.out).mono ?_
      rintro e w7 ⟨dv, rfl, hO7, hB7⟩
      have hde : (a.filter fun p => !decide (lowS p.1 ∈ ks)) = a.filter fun p => !decide (lowS p.1 ∈ P.map fun p => lowS p.1) := by
        refine List.filter_congr fun p _ => ?_
        by_cases h : lowS p.1 ∈ ks
        · rw [decide_eq_true h, decide_eq_true ((HKs.out _).mp h)]
        · rw [decide_eq_false h, decide_eq_false (fun e => h ((HKs.out _).mpr e))]
      rw [hde] at hO7
      have hfl : (a.filter fun p => !decide (lowS p.1 ∈ P.map fun p => lowS p.1)).length ≤ a.length := List.length_filter_le _ _
      have HO7 := Lib.hid hO7
      have HB7 := Lib.hid (HB6.out.trans hB7)
      have HR7 := Lib.hid (HPr.out.below HB7.out)
      have hs7 := HB7.out.size
      have HVu := Lib.hid HV.out
      clear hO7 hB7 hde HPr HPr6
      generalize (a.filter fun p => !decide (lowS p.1 ∈ P.map fun p => lowS p.1)) = F at *
      go_wp2_with (at_builtin; refine wpList_appendP_big hi hz0 hz1 hz2 Tryz.underlying37 rfl _ _ rfl _ _ rfl rfl HO7.out HR7.out HPs.out (by omega) (by omega) ?_; intro v8 w8 hO8 hg8)
      go_ret2
      refine ⟨_, rfl, ?_, ?_⟩
      · rw [HVu.out]; exact OwnsP.mono (by have := HBw.out.size; omega) hO8
      · exact (HBw.out.trans (HB7.out.mono (HBw.out.size))).grown hg8 (by have := HBw.out.size; omega) (fun q hq => Nat.le_trans HBw.out.size (World.ownsRow.lt HO7.out q hq).1)
end Go.Proofs.YtoiampkdmjpljaaGreatDoor
