import Derived.Test.YtacfkljpjjnlfaaGreatDoorPa18
import Derived.Test.YtacfkljpjjnlfaaGreatDoorPa16
import Derived.Deep.QuietTactic
import Derived.BigQuiet
import Derived.IntWalk
import Derived.Test.YtacfkljpjjnlfaaGreatDoorPa14
import Derived.Test.YtacfkljpjjnlfaaGreatDoorPa17
import Derived.Test.YtacfkljpjjnlfaaGreatDoorPa15
import Derived.Test.YtacfkljpjjnlfaaGreatDoorPa21
/- What the statements' fits and Fields return. -/
namespace Go.Proofs.YtacfkljpjjnlfaaGreatDoor
open Go.RowKit

/-- How many bytes the names and values of a list have. -/
def totL (ps : Flds) : Nat := ps.foldr (fun p n => p.1.length + p.2.length + n) 0
theorem tot_app (ps qs : Flds) : totL (ps ++ qs) = totL ps + totL qs := by
  induction ps with
  | nil => simp [totL]
  | cons p r ih => unfold totL at *; rw [List.cons_append, List.foldr_cons, List.foldr_cons, ih]; omega
theorem tot_more {ps : Flds} {k : Nat} {p : List UInt8 × List UInt8} (h : ps[k]? = some p) : totL (ps.take (k + 1)) = totL (ps.take k) + (p.1.length + p.2.length) := by
  rw [take_more h, tot_app]; simp [totL]
theorem tot_le {ps : Flds} {M : Nat} (hb : ∀ p ∈ ps, p.1.length ≤ M ∧ p.2.length ≤ M) (k : Nat) : totL (ps.take k) ≤ k * (M + M) := by
  induction k with
  | zero => simp [totL]
  | succ k ih =>
    cases hp : ps[k]? with
    | none =>
      have e : ps.take (k + 1) = ps.take k := by rw [List.take_add_one, hp]; simp
      rw [e]; exact Nat.le_trans ih (Nat.mul_le_mul_right _ (Nat.le_succ k))
    | some p =>
      rw [tot_more hp, Nat.succ_mul]
      have := hb p (List.mem_of_getElem? hp)
      omega
theorem tot_mem {ps : Flds} {p : List UInt8 × List UInt8} (h : p ∈ ps) : p.1.length + p.2.length ≤ totL ps := by
  induction ps with
  | nil => cases h
  | cons q r ih =>
    have e : totL (q :: r) = q.1.length + q.2.length + totL r := rfl
    rcases List.mem_cons.1 h with rfl | h
    · omega
    · have := ih h; omega
def fitsB (ps : Flds) : Bool := decide (ps.length ≤ 80 ∧ totL ps ≤ 20000)
theorem fits_yes {ps : Flds} (h : fitsB ps = true) : ps.length ≤ 80 ∧ ∀ p ∈ ps, p.1.length + p.2.length ≤ 20000 := by
  have := of_decide_eq_true h
  exact ⟨this.1, fun p hp => Nat.le_trans (tot_mem hp) this.2⟩
set_option maxHeartbeats 4000000 in
set_option maxRecDepth 100000 in
theorem fits_any (lv : Value) (ps : Flds) (w : World) (hr : ReadsQ w lv ps) (hl : ps.length ≤ 9223372036854775807) (hb : ∀ p ∈ ps, p.1.length ≤ 140737488355328 ∧ p.2.length ≤ 140737488355328) :
    Calls Tryz.prog 14 #[lv] w fun e w' => e = .returned (.bool (fitsB ps)) ∧ Below w.heap.size w w' := by
  obtain ⟨ao, cap, rfl, hc⟩ := hr
  have hs := tot_le hb
  have HC := Lib.hid hc
  have HBig := Lib.hid hb
  have HS := Lib.hid hs
  clear hc hb hs
  by_cases h70 : ps.length ≤ 80
  · go_enter Tryz.func14, Tryz.ntmps14
    go_wp2_with fail
    go_loopw [3, 4] (fun v i wr => ∃ k : Nat, i = .int .i64 k ∧ k ≤ ps.length ∧ v = .int .i64 (totL (ps.take k)) ∧ Below w.heap.size w wr) (fun _ i _ => ps.length - (intOf i).toNat)
    case atStart => exact ⟨0, rfl, Nat.zero_le _, rfl, Below.refl _ _⟩
    case round =>
      obtain ⟨k, rfl, hk, rfl, hBr⟩ := hrel
      have hsk : totL (ps.take k) ≤ 80 * (140737488355328 + 140737488355328) := Nat.le_trans (HS.out k) (Nat.mul_le_mul_right _ (by omega))
      by_cases hlt : k < ps.length
      · obtain ⟨p, hp⟩ : ∃ p, ps[k]? = some p := ⟨ps[k], by simp [hlt]⟩
        obtain ⟨g, off, rfl, hg1, h1, h2⟩ := HC.out k p hp
        have hc1 : wr.cell? ⟨g, off + k * 2, none⟩ = some (.string (strB p.1)) := (hBr.cell (p := ⟨g, off + k * 2, none⟩) hg1).trans h1
        have hc2 : wr.cell? ⟨g, off + k * 2 + 1, none⟩ = some (.string (strB p.2)) := (hBr.cell (p := ⟨g, off + k * 2 + 1, none⟩) hg1).trans h2
        have hpl := HBig.out p (List.mem_of_getElem? hp)
        have e1 : (strB p.1).size = p.1.length := strB_size _
        have e2 : (strB p.2).size = p.2.length := strB_size _
        have HM := Lib.hid (tot_more hp)
        clear hp h1 h2
        have hw1 : IntKind.i64.wrap ((p.1.length : Int) + (p.2.length : Int)) = (p.1.length : Int) + (p.2.length : Int) := IntWalk.i64_in _ (by omega)
        have hw2 : IntKind.i64.wrap ((totL (ps.take k) : Int) + ((p.1.length : Int) + (p.2.length : Int))) = (totL (ps.take k) : Int) + ((p.1.length : Int) + (p.2.length : Int)) := IntWalk.i64_in _ (by omega)
        go_wp2
        go_quiet (fail)
        go_wp2
        clear hw1 hw2
        go_roundw
        case rel => exact ⟨k + 1, by go_num, by omega, by rw [HM.out]; congr 1, below_drewN hBr _⟩
        case measure => simp [intOf]; omega
      · have htk : ps.take k = ps := List.take_of_length_le (by omega)
        rw [htk] at hsk ⊢
        by_cases h6 : totL ps ≤ 20000
        · have hf : fitsB ps = true := decide_eq_true ⟨h70, h6⟩
          have HF := Lib.hid hf
          clear hf
          have hd : decide ((totL ps : Int) ≤ 20000) = true := decide_eq_true (by omega)
          go_wp2_with fail
          go_ret
          exact ⟨by rw [HF.out]; rfl, hBr⟩
        · have hf : fitsB ps = false := decide_eq_false (fun h => h6 h.2)
          have HF := Lib.hid hf
          clear hf
          have hd : decide ((totL ps : Int) ≤ 20000) = false := decide_eq_false (by omega)
          go_wp2_with fail
          go_ret
          exact ⟨by rw [HF.out]; rfl, hBr⟩
  · have hsm : fitsB ps = false := decide_eq_false fun h => h70 h.1
    rw [hsm]
    go_enter Tryz.func14, Tryz.ntmps14
    go_wp2_with fail
    go_loopw [3, 4] (fun v i wr => ∃ (k : Nat) (z : Int), i = .int .i64 k ∧ k ≤ ps.length ∧ v = .int .i64 z ∧ Below w.heap.size w wr) (fun _ i _ => ps.length - (intOf i).toNat)
    case atStart => exact ⟨0, 0, rfl, Nat.zero_le _, rfl, Below.refl _ _⟩
    case round =>
      obtain ⟨k, z, rfl, hk, rfl, hBr⟩ := hrel
      by_cases hlt : k < ps.length
      · obtain ⟨p, hp⟩ : ∃ p, ps[k]? = some p := ⟨ps[k], by simp [hlt]⟩
        obtain ⟨g, off, rfl, hg1, h1, h2⟩ := HC.out k p hp
        have hc1 : wr.cell? ⟨g, off + k * 2, none⟩ = some (.string (strB p.1)) := (hBr.cell (p := ⟨g, off + k * 2, none⟩) hg1).trans h1
        have hc2 : wr.cell? ⟨g, off + k * 2 + 1, none⟩ = some (.string (strB p.2)) := (hBr.cell (p := ⟨g, off + k * 2 + 1, none⟩) hg1).trans h2
        have hpl := HBig.out p (List.mem_of_getElem? hp)
        have e1 : (strB p.1).size = p.1.length := strB_size _
        have e2 : (strB p.2).size = p.2.length := strB_size _
        clear hp h1 h2
        have hw1 : IntKind.i64.wrap ((p.1.length : Int) + (p.2.length : Int)) = (p.1.length : Int) + (p.2.length : Int) := IntWalk.i64_in _ (by omega)
        go_wp2
        go_quiet (fail)
        go_wp2
        clear hw1
        go_roundw
        case rel => exact ⟨k + 1, _, by go_num, by omega, rfl, below_drewN hBr _⟩
        case measure => simp [intOf]; omega
      · go_wp2_with fail
        go_ret
        exact ⟨rfl, hBr⟩
set_option maxHeartbeats 2000000 in
set_option maxRecDepth 100000 in
theorem fields_any (lv : Value) (ps : Flds) (w : World) (hr : ReadsQ w lv ps) (hl : ps.length ≤ 1000) (hb : ∀ p ∈ ps, p.1.length + p.2.length ≤ 1000000) :
    Calls Tryz.prog 40 #[lv] w fun e w' => ∃ v, e = .returned v ∧ OwnsP 91 w.heap.size w' v ps ∧ Below w.heap.size w w' := by
  obtain ⟨i0, hi, hz0, hz1, hz2⟩ := info_parts Tryz.infoF
  obtain ⟨ao, cap, rfl, hc⟩ := hr
  have HC := Lib.hid hc
  have HBig := Lib.hid hb
  clear hc hb
  go_enter Tryz.func40, Tryz.ntmps40
  go_wp2_with fail
  go_loopw [3, 8] (fun v i wr => ∃ k : Nat, i = .int .i64 k ∧ k ≤ ps.length ∧ OwnsP 91 w.heap.size wr v (ps.take k) ∧ Below w.heap.size w wr) (fun _ i _ => ps.length - (intOf i).toNat)
  case atStart => exact ⟨0, rfl, Nat.zero_le _, OwnsP.nil _ _ _, Below.refl _ _⟩
  case round =>
    obtain ⟨k, rfl, hk, hO, hBr⟩ := hrel
    have hbr := hBr.size
    by_cases hlt : k < ps.length
    · obtain ⟨p, hp⟩ : ∃ p, ps[k]? = some p := ⟨ps[k], by simp [hlt]⟩
      obtain ⟨g, off, rfl, hg1, h1, h2⟩ := HC.out k p hp
      have hc1 : wr.cell? ⟨g, off + k * 2, none⟩ = some (.string (strB p.1)) := (hBr.cell (p := ⟨g, off + k * 2, none⟩) hg1).trans h1
      have hc2 : wr.cell? ⟨g, off + k * 2 + 1, none⟩ = some (.string (strB p.2)) := (hBr.cell (p := ⟨g, off + k * 2 + 1, none⟩) hg1).trans h2
      have HP := Lib.hid hp
      clear hp h1 h2
      have hlen : (ps.take k).length = k := by simp; omega
      have HLen := Lib.hid hlen
      clear hlen
      go_wp2_with (at_builtin; refine wpList_append_own _ rfl _ _ 25 rfl w.heap.size 91 i0 (.agg #[.string ByteArray.empty, .string ByteArray.empty]) 2 32 Tryz.underlying25 hi hz0 hz1 hz2 rfl (by decide) _ _ _ rfl ((World.ownsRow.alloc hO _).alloc _) ⟨wr.heap.size + 1, 0, none⟩ 1 1 [strV p.1, strV p.2] rfl rfl (two_new' wr p.1 p.2 _ _) (fun u hu => by simp at hu; rcases hu with rfl | rfl <;> rfl) (by rw [HLen.out]; unfold maxLen; omega) (by rw [HLen.out]; omega) (by simp; omega) ?_; intro v' w4 hown' hgrow _)
      go_roundw
      case rel => exact ⟨k + 1, by go_num, by omega, own_more HP.out hown', below_appendP hBr hbr (below_new wr _) hO hgrow⟩
      case measure => simp [intOf]; omega
    · have htk : ps.take k = ps := List.take_of_length_le (by omega)
      rw [htk] at hO
      go_wp2_with fail
      go_ret
      exact ⟨_, rfl, hO, hBr⟩
end Go.Proofs.YtacfkljpjjnlfaaGreatDoor

/- What the reference's body returns. -/
namespace Go.Proofs.YtacfkljpjjnlfaaGreatDoor
open Go.RowKit

theorem flatW_more {fs : Fs} {k : Nat} {p : List UInt8 × List UInt8} (hp : fs[k]? = some p) : flat ((fs.take (k + 1)).map (lineW nmO)) = flat ((fs.take k).map (lineW nmO)) ++ (lineW nmO p ++ [13, 10]) := by
  rw [take_more hp, List.map_append]
  simp [flat]
theorem goodB_more {fs : Fs} {k : Nat} {p : List UInt8 × List UInt8} (hp : fs[k]? = some p) : goodB nmO vlO (fs.take (k + 1)) = (goodB nmO vlO (fs.take k) && ((nmO p.1).isSome && decide (vlO p.2 = some p.2))) := by
  rw [take_more hp]
  unfold goodB
  rw [List.all_append]; simp
theorem good_true {fs : Fs} {k : Nat} {p : List UInt8 × List UInt8} (hp : fs[k]? = some p) (h : goodB nmO vlO (fs.take k) = true) (hg : goodF p) : goodB nmO vlO (fs.take (k + 1)) = true := by
  rw [goodB_more hp, h, (goodF_iff p).2 hg]; rfl
theorem good_false {fs : Fs} {k : Nat} {p : List UInt8 × List UInt8} (hp : fs[k]? = some p) (hg : ¬ goodF p) : goodB nmO vlO (fs.take (k + 1)) = false := by
  rw [goodB_more hp, Bool.eq_false_iff]
  intro h
  rw [Bool.and_eq_true] at h
  exact hg ((goodF_iff p).1 h.2)
theorem good_stays {fs : Fs} {k : Nat} {p : List UInt8 × List UInt8} (hp : fs[k]? = some p) (h : goodB nmO vlO (fs.take k) = false) : goodB nmO vlO (fs.take (k + 1)) = false := by
  rw [goodB_more hp, h]; rfl
theorem line_out (o n : List UInt8) (v : List UInt8) : strB o ++ (strB n ++ (⟨#[58, 32]⟩ : ByteArray) ++ strB v ++ (⟨#[13, 10]⟩ : ByteArray)) = strB (o ++ ((n ++ 58 :: 32 :: v) ++ [13, 10])) := by
  apply ByteArray.ext; simp [strB]
theorem body_end (o : List UInt8) : strB o ++ (⟨#[13, 10]⟩ : ByteArray) = strB (o ++ [13, 10]) := by apply ByteArray.ext; simp [strB]
theorem lineW_low {p : List UInt8 × List UInt8} (h : nameC p.1 = 0) : lineW nmO p = nameR p.1 ++ 58 :: 32 :: p.2 := by
  unfold lineW nmO nameR; rw [if_pos h, if_pos h]; rfl
theorem lineW_raw {p : List UInt8 × List UInt8} (h : nameC p.1 ≠ 0) : lineW nmO p = p.1 ++ 58 :: 32 :: p.2 := by
  unfold lineW nmO; rw [if_neg h]; rfl
theorem nameR_len (l : List UInt8) : (nameR l).length ≤ l.length := by
  unfold nameR; split
  · rw [lowS_len]; exact Nat.le_refl _
  · simp
/-- What body leaves. -/
def BodyPost (fs : Fs) (w : World) (e : Ending) (w' : World) : Prop := e = .returned (.tuple #[.string (strB (flat (fs.map (lineW nmO)) ++ [13, 10])), .bool (goodB nmO vlO fs)]) ∧ Below w.heap.size w w'
set_option maxHeartbeats 8000000 in
set_option maxRecDepth 100000 in
theorem refBody_any (v : Value) (fs : Fs) (w : World) (hr : ReadsQ w v fs) (hl : fs.length ≤ 1000) (hb : ∀ p ∈ fs, p.1.length + p.2.length ≤ 1000000) :
    Calls Tryz.prog 41 #[v] w (BodyPost fs w) := by
  obtain ⟨ao, cap, rfl, hc⟩ := hr
  have HC := Lib.hid hc
  have HBig := Lib.hid hb
  have HSZ := Lib.hid (fun k => show (flat ((fs.take k).map (lineW nmO))).length ≤ 1100000000 by
    rw [sizL_lines]
    have h1 := sizL_le (fs := fs.take k) (M := 1000000) (fun p hp => hb p (List.mem_of_mem_take hp))
    have h2 : (fs.take k).length ≤ 1000 := by rw [List.length_take]; omega
    have h3 : (fs.take k).length * (1000000 + 4) ≤ 1000 * (1000000 + 4) := Nat.mul_le_mul_right _ h2
    omega)
  clear hc hb
  go_enter Tryz.func41, Tryz.ntmps41
  go_wp2_with fail
  go_loopw [4, 5, 6] (fun o g i wr => ∃ k : Nat, i = .int .i64 k ∧ k ≤ fs.length ∧ o = .string (strB (flat ((fs.take k).map (lineW nmO)))) ∧ g = .bool (goodB nmO vlO (fs.take k)) ∧ Below w.heap.size w wr) (fun _ _ i _ => fs.length - (intOf i).toNat)
  case atStart => exact ⟨0, rfl, Nat.zero_le _, rfl, rfl, Below.refl _ _⟩
  case round =>
    obtain ⟨k, rfl, hk, rfl, rfl, hBr⟩ := hrel
    have hbr := hBr.size
    have hoz : (strB (flat ((fs.take k).map (lineW nmO)))).size ≤ 1100000000 := by rw [strB_size]; exact HSZ.out k
    by_cases hlt : k < fs.length
    · obtain ⟨p, hp⟩ : ∃ p, fs[k]? = some p := ⟨fs[k], by simp [hlt]⟩
      obtain ⟨g, off, rfl, hg1, h1, h2⟩ := HC.out k p hp
      have hc1 : wr.cell? ⟨g, off + k * 2, none⟩ = some (.string (strB p.1)) := (hBr.cell (p := ⟨g, off + k * 2, none⟩) hg1).trans h1
      have hc2 : wr.cell? ⟨g, off + k * 2 + 1, none⟩ = some (.string (strB p.2)) := (hBr.cell (p := ⟨g, off + k * 2 + 1, none⟩) hg1).trans h2
      have HG1 := Lib.hid (Nat.lt_of_lt_of_le hg1 hBr.size)
      have HP := Lib.hid hp
      have hpl := HBig.out p (List.mem_of_getElem? hp)
      have hz1 : (strB p.1).size ≤ 1000000 := by rw [strB_size]; omega
      have hz2 : (strB p.2).size ≤ 1000000 := by rw [strB_size]; omega
      have hz3 : (strB (nameR p.1)).size ≤ 1000000 := by rw [strB_size]; have := nameR_len p.1; omega
      have N := Lib.hid (fun w => refName_any (strB p.1) w (by omega))
      have V := Lib.hid (fun w => refValue_any (strB p.2) w (by omega))
      rw [strB_list] at N V
      have HF := Lib.hid (flatW_more hp)
      clear hp h1 h2 hpl
      generalize flat ((fs.take k).map (lineW nmO)) = O at *
      cases hgk : goodB nmO vlO (fs.take k) with
      | false =>
        by_cases hn : nameC p.1 = 0
        · have HGs := Lib.hid (good_stays HP.out hgk)
          have HL := Lib.hid (lineW_low hn)
          have HO := Lib.hid (show strB O ++ (strB (nameR p.1) ++ (⟨#[58, 32]⟩ : ByteArray) ++ strB p.2 ++ (⟨#[13, 10]⟩ : ByteArray)) = strB (flat ((fs.take (k + 1)).map (lineW nmO))) by rw [line_out, HF.out, HL.out])
          have HGo := Lib.hid (HGs.out)
          have qn : ((nameC p.1 : Int) == 0) = true := by rw [hn]; rfl
          have qn2 : ((nameC p.1 : Int) != 0) = false := by rw [hn]; rfl
          clear hn hgk
          go_wp2_with fail
          refine (N.out _).mono ?_
          rintro e w1 ⟨rfl, hB1⟩
          have hd1 := (hB1.cell (p := ⟨g, off + k * 2, none⟩) HG1.out).trans hc1
          have hd2 := (hB1.cell (p := ⟨g, off + k * 2 + 1, none⟩) HG1.out).trans hc2
          have hB1' := hBr.trans (hB1.mono hbr)
          clear hB1 hc1 hc2
          go_wp2_with fail
          refine (V.out _).mono ?_
          rintro e w2 ⟨rfl, rfl⟩
          go_wp2_with fail
          go_roundw
          case rel => exact ⟨k + 1, by go_num, by omega, by rw [← HO.out], by rw [HGo.out], hB1'⟩
          case measure => simp [intOf]; omega
        · have HGs := Lib.hid (good_stays HP.out hgk)
          have HL := Lib.hid (lineW_raw hn)
          have HO := Lib.hid (show strB O ++ (strB (p.1) ++ (⟨#[58, 32]⟩ : ByteArray) ++ strB p.2 ++ (⟨#[13, 10]⟩ : ByteArray)) = strB (flat ((fs.take (k + 1)).map (lineW nmO))) by rw [line_out, HF.out, HL.out])
          have HGo := Lib.hid (HGs.out)
          have qn : ((nameC p.1 : Int) == 0) = false := by simp; omega
          have qn2 : ((nameC p.1 : Int) != 0) = true := by simp; omega
          clear hn hgk
          go_wp2_with fail
          refine (N.out _).mono ?_
          rintro e w1 ⟨rfl, hB1⟩
          have hd1 := (hB1.cell (p := ⟨g, off + k * 2, none⟩) HG1.out).trans hc1
          have hd2 := (hB1.cell (p := ⟨g, off + k * 2 + 1, none⟩) HG1.out).trans hc2
          have hB1' := hBr.trans (hB1.mono hbr)
          clear hB1 hc1 hc2
          go_wp2_with fail
          refine (V.out _).mono ?_
          rintro e w2 ⟨rfl, rfl⟩
          go_wp2_with fail
          go_roundw
          case rel => exact ⟨k + 1, by go_num, by omega, by rw [← HO.out], by rw [HGo.out], hB1'⟩
          case measure => simp [intOf]; omega
      | true =>
        by_cases hn : nameC p.1 = 0
        · by_cases hv : valueC p.2 = 0
          · have hvr : valueR p.2 = trimB p.2 := by unfold valueR; rw [if_pos hv]
            by_cases ht : trimB p.2 = p.2
            · have HGs := Lib.hid (good_true HP.out hgk ⟨hn, hv, ht⟩)
              have HL := Lib.hid (lineW_low hn)
              have HO := Lib.hid (show strB O ++ (strB (nameR p.1) ++ (⟨#[58, 32]⟩ : ByteArray) ++ strB p.2 ++ (⟨#[13, 10]⟩ : ByteArray)) = strB (flat ((fs.take (k + 1)).map (lineW nmO))) by rw [line_out, HF.out, HL.out])
              have HGo := Lib.hid (HGs.out)
              have qn : ((nameC p.1 : Int) == 0) = true := by rw [hn]; rfl
              have qn2 : ((nameC p.1 : Int) != 0) = false := by rw [hn]; rfl
              have qv : ((valueC p.2 : Int) == 0) = true := by rw [hv]; rfl
              have qt := toList_same (show valueR p.2 = p.2 from hvr.trans ht)
              clear hn hgk hv hvr ht
              go_wp2_with fail
              refine (N.out _).mono ?_
              rintro e w1 ⟨rfl, hB1⟩
              have hd1 := (hB1.cell (p := ⟨g, off + k * 2, none⟩) HG1.out).trans hc1
              have hd2 := (hB1.cell (p := ⟨g, off + k * 2 + 1, none⟩) HG1.out).trans hc2
              have hB1' := hBr.trans (hB1.mono hbr)
              clear hB1 hc1 hc2
              go_wp2_with fail
              refine (V.out _).mono ?_
              rintro e w2 ⟨rfl, rfl⟩
              go_wp2_with fail
              go_roundw
              case rel => exact ⟨k + 1, by go_num, by omega, by rw [← HO.out], by rw [HGo.out], hB1'⟩
              case measure => simp [intOf]; omega
            · have HGs := Lib.hid (good_false HP.out (fun h => ht h.2.2))
              have HL := Lib.hid (lineW_low hn)
              have HO := Lib.hid (show strB O ++ (strB (nameR p.1) ++ (⟨#[58, 32]⟩ : ByteArray) ++ strB p.2 ++ (⟨#[13, 10]⟩ : ByteArray)) = strB (flat ((fs.take (k + 1)).map (lineW nmO))) by rw [line_out, HF.out, HL.out])
              have HGo := Lib.hid (HGs.out)
              have qn : ((nameC p.1 : Int) == 0) = true := by rw [hn]; rfl
              have qn2 : ((nameC p.1 : Int) != 0) = false := by rw [hn]; rfl
              have qv : ((valueC p.2 : Int) == 0) = true := by rw [hv]; rfl
              have qt := toList_other (show valueR p.2 ≠ p.2 from fun h => ht (hvr.symm.trans h))
              clear hn hgk hv hvr ht
              go_wp2_with fail
              refine (N.out _).mono ?_
              rintro e w1 ⟨rfl, hB1⟩
              have hd1 := (hB1.cell (p := ⟨g, off + k * 2, none⟩) HG1.out).trans hc1
              have hd2 := (hB1.cell (p := ⟨g, off + k * 2 + 1, none⟩) HG1.out).trans hc2
              have hB1' := hBr.trans (hB1.mono hbr)
              clear hB1 hc1 hc2
              go_wp2_with fail
              refine (V.out _).mono ?_
              rintro e w2 ⟨rfl, rfl⟩
              go_wp2_with fail
              go_roundw
              case rel => exact ⟨k + 1, by go_num, by omega, by rw [← HO.out], by rw [HGo.out], hB1'⟩
              case measure => simp [intOf]; omega
          · have HGs := Lib.hid (good_false HP.out (fun h => hv h.2.1))
            have HL := Lib.hid (lineW_low hn)
            have HO := Lib.hid (show strB O ++ (strB (nameR p.1) ++ (⟨#[58, 32]⟩ : ByteArray) ++ strB p.2 ++ (⟨#[13, 10]⟩ : ByteArray)) = strB (flat ((fs.take (k + 1)).map (lineW nmO))) by rw [line_out, HF.out, HL.out])
            have HGo := Lib.hid (HGs.out)
            have qn : ((nameC p.1 : Int) == 0) = true := by rw [hn]; rfl
            have qn2 : ((nameC p.1 : Int) != 0) = false := by rw [hn]; rfl
            have qv : ((valueC p.2 : Int) == 0) = false := by simp; omega
            clear hn hgk hv
            go_wp2_with fail
            refine (N.out _).mono ?_
            rintro e w1 ⟨rfl, hB1⟩
            have hd1 := (hB1.cell (p := ⟨g, off + k * 2, none⟩) HG1.out).trans hc1
            have hd2 := (hB1.cell (p := ⟨g, off + k * 2 + 1, none⟩) HG1.out).trans hc2
            have hB1' := hBr.trans (hB1.mono hbr)
            clear hB1 hc1 hc2
            go_wp2_with fail
            refine (V.out _).mono ?_
            rintro e w2 ⟨rfl, rfl⟩
            go_wp2_with fail
            go_roundw
            case rel => exact ⟨k + 1, by go_num, by omega, by rw [← HO.out], by rw [HGo.out], hB1'⟩
            case measure => simp [intOf]; omega
        · have HGs := Lib.hid (good_false HP.out (fun h => hn h.1))
          have HL := Lib.hid (lineW_raw hn)
          have HO := Lib.hid (show strB O ++ (strB (p.1) ++ (⟨#[58, 32]⟩ : ByteArray) ++ strB p.2 ++ (⟨#[13, 10]⟩ : ByteArray)) = strB (flat ((fs.take (k + 1)).map (lineW nmO))) by rw [line_out, HF.out, HL.out])
          have HGo := Lib.hid (HGs.out)
          have qn : ((nameC p.1 : Int) == 0) = false := by simp; omega
          have qn2 : ((nameC p.1 : Int) != 0) = true := by simp; omega
          clear hn hgk
          go_wp2_with fail
          refine (N.out _).mono ?_
          rintro e w1 ⟨rfl, hB1⟩
          have hd1 := (hB1.cell (p := ⟨g, off + k * 2, none⟩) HG1.out).trans hc1
          have hd2 := (hB1.cell (p := ⟨g, off + k * 2 + 1, none⟩) HG1.out).trans hc2
          have hB1' := hBr.trans (hB1.mono hbr)
          clear hB1 hc1 hc2
          go_wp2_with fail
          refine (V.out _).mono ?_
          rintro e w2 ⟨rfl, rfl⟩
          go_wp2_with fail
          go_roundw
          case rel => exact ⟨k + 1, by go_num, by omega, by rw [← HO.out], by rw [HGo.out], hB1'⟩
          case measure => simp [intOf]; omega
    · have htk : fs.take k = fs := List.take_of_length_le (by omega)
      rw [htk] at hoz ⊢
      have HE := Lib.hid (body_end (flat (fs.map (lineW nmO))))
      go_wp2_with fail
      refine bodyPost_ret (v := .tuple #[.string (strB (flat (fs.map (lineW nmO))) ++ (⟨#[13, 10]⟩ : ByteArray)), .bool (goodB nmO vlO fs)]) (by simp [results, Tryz.results41, go_sem]) rfl ?_
      exact ⟨by rw [HE.out], hBr⟩
end Go.Proofs.YtacfkljpjjnlfaaGreatDoor

/- What the reference's WriteRequest returns. -/
namespace Go.Proofs.YtacfkljpjjnlfaaGreatDoor
open Go.RowKit

theorem start_ref (m t : List UInt8) : strB m ++ (⟨#[32]⟩ : ByteArray) ++ strB t ++ (⟨#[32, 72, 84, 84, 80, 47, 49, 46, 49, 13, 10]⟩ : ByteArray) = strB (startQ m t ++ [13, 10]) := by
  unfold startQ
  apply ByteArray.ext; simp [strB, verL]
theorem head_ref (m t : List UInt8) (ls : List (List UInt8)) : strB (startQ m t ++ [13, 10]) ++ strB (flat ls ++ [13, 10]) = strB (enc (startQ m t :: ls)) := by
  rw [enc_cons]
  unfold enc
  apply ByteArray.ext; simp [strB]
def RefWPost (m t : List UInt8) (fs : Fs) (w : World) (e : Ending) (w' : World) : Prop := e = .returned (.tuple #[.string (strB (wqP m t fs).2), .int .i64 ((wqP m t fs).1 : Int)]) ∧ Below w.heap.size w w'
theorem refW_err {m t : List UInt8} {fs : Fs} {w w' : World} {c : Nat} (h : wqP m t fs = (c, [])) (hB : Below w.heap.size w w') : RefWPost m t fs w (.returned (.tuple #[.string ⟨#[]⟩, .int .i64 (c : Int)])) w' := ⟨by rw [h]; rfl, hB⟩
set_option maxHeartbeats 8000000 in
set_option maxRecDepth 100000 in
theorem refWriteRequest_any (m t : List UInt8) (fv : Value) (fs : Fs) (w : World) (hr : ReadsQ w fv fs) (hm : m.length ≤ 100000) (ht : t.length ≤ 100000) (hl : fs.length ≤ 1000) (hb : ∀ p ∈ fs, p.1.length + p.2.length ≤ 1000000) :
    Calls Tryz.prog 17 #[.agg #[.string (strB m), .string (strB t), fv]] w (RefWPost m t fs w) := by
  have HR := Lib.hid hr
  have BO := Lib.hid (fun w (hr : ReadsQ w fv fs) => refBody_any fv fs w hr hl hb)
  have HO := Lib.hid (fun w (hr : ReadsQ w fv fs) => refHosted_any fv fs w hr hl hb)
  have HB := Lib.hid hb
  have H5 := Lib.hid (fun h => wqP_large (m := m) (t := t) (fs := fs) h)
  have H2 := Lib.hid (fun h => wqP_rest (m := m) (t := t) (fs := fs) h)
  have M := Lib.hid (fun w => refMethod_any (strB m) w (by rw [strB_size]; omega))
  have T := Lib.hid (fun w => refTarget_any m t w (by omega))
  rw [strB_list] at M
  obtain ⟨ao, cap, rfl, hc⟩ := hr
  have hB0 : Below w.heap.size w (w.alloc (.cells #[.string (strB m), .string (strB t), .slice ao fs.length cap] 34)) := below_new _ _
  have hmz : (strB m).size = m.length := strB_size _
  have htz : (strB t).size = t.length := strB_size _
  have HST := Lib.hid (start_ref m t)
  have HD := Lib.hid (head_ref m t)
  have hrz : (strB (flat (fs.map (lineW nmO)) ++ [13, 10])).size = sizL fs + 2 := by rw [strB_size, List.length_append, sizL_lines]; rfl
  have hzl : sizL fs ≤ 1100000000 := by
    have h1 := sizL_le (M := 1000000) hb
    have h3 : fs.length * (1000000 + 4) ≤ 1000 * (1000000 + 4) := Nat.mul_le_mul_right _ hl
    omega
  clear hc hb
  go_enter Tryz.func17, Tryz.ntmps17
  go_wp2_with fail
  refine (BO.out _ (HR.out.below hB0)).mono ?_
  rintro e w1 ⟨rfl, hB1⟩
  obtain ⟨b0, b1, b2, bf0, bf1, bf2, bz⟩ := three_kept w hB1
  have hBx := hB0.trans (hB1.mono hB0.size)
  generalize hRB : strB (flat (fs.map (lineW nmO)) ++ [13, 10]) = RB at *
  have HRB := Lib.hid hRB
  clear hRB
  by_cases h0 : sizeC (m.length + t.length + 10) fs = 0
  · have hs0 : fs.length ≤ 64 ∧ m.length + t.length + 10 + 4 + sizL fs ≤ 8192 := by
      unfold sizeC at h0
      by_cases h1 : 64 < fs.length ∨ 8192 < m.length + t.length + 10 + 4 + sizL fs
      · rw [if_pos h1] at h0; exact absurd h0 (by decide)
      · omega
    obtain ⟨hs1, hs2⟩ := hs0
    have HE := Lib.hid (H2.out h0)
    clear h0
    go_wp2_with fail
    refine (HO.out _ (HR.out.below hBx)).mono ?_
    rintro e w2 ⟨v5, he5, ⟨ao5, n5, cp5, rfl⟩, hO5, hB5⟩
    have hB12 := hB1.trans (hB5.mono hB1.size)
    have hBy := hB0.trans (hB12.mono hB0.size)
    clear b0 b1 b2 bf0 bf1 bf2 bz hB1 hB5
    obtain ⟨b0, b1, b2, bf0, bf1, bf2, bz⟩ := three_kept w hB12
    cases h1 : methodB m with
    | false =>
      have HE2 := Lib.hid (show wqP m t fs = (26, []) by rw [HE.out, if_pos h1])
      rw [h1] at M
      subst he5
      clear h1
      go_wp2_with fail
      refine (M.out _).mono ?_
      rintro e w' ⟨rfl, rfl⟩
      go_wp2_with fail
      go_ret2
      exact refW_err HE2.out hBy
    | true =>
      rw [h1] at M
      cases h2 : targetB m t with
      | false =>
        have HE2 := Lib.hid (show wqP m t fs = (27, []) by rw [HE.out, if_neg (by rw [h1]; simp), if_pos h2])
        rw [h2] at T
        subst he5
        clear h1 h2
        go_wp2_with fail
        refine (M.out _).mono ?_
        rintro e w' ⟨rfl, rfl⟩
        go_wp2_with fail
        refine (T.out _).mono ?_
        rintro e w' ⟨rfl, rfl⟩
        go_wp2_with fail
        go_ret2
        exact refW_err HE2.out hBy
      | true =>
        rw [h2] at T
        have HE2 := Lib.hid (show wqP m t fs = if goodB nmO vlO fs = false then (25, []) else match hosted hostO lowS fs with
            | none => (29, [])
            | some q => (0, enc (startQ m t :: q.map (lineW nmO))) by rw [HE.out, if_neg (by rw [h1]; simp), if_neg (by rw [h2]; simp)]; cases hosted hostO lowS fs <;> rfl)
        clear h1 h2
        cases hg : goodB nmO vlO fs with
        | false =>
          have HE3 := Lib.hid (show wqP m t fs = (25, []) by rw [HE2.out, if_pos hg])
          subst he5
          clear HE2
          go_wp2_with fail
          refine (M.out _).mono ?_
          rintro e w' ⟨rfl, rfl⟩
          go_wp2_with fail
          refine (T.out _).mono ?_
          rintro e w' ⟨rfl, rfl⟩
          go_wp2_with fail
          go_ret2
          exact refW_err HE3.out hBy
        | true =>
          cases hh : hosted hostO lowS fs with
          | none =>
            rw [hh] at he5
            have HE3 := Lib.hid (show wqP m t fs = (29, []) by rw [HE2.out, if_neg (by rw [hg]; simp), hh])
            subst he5
            clear HE2 hh
            go_wp2_with fail
            refine (M.out _).mono ?_
            rintro e w' ⟨rfl, rfl⟩
            go_wp2_with fail
            refine (T.out _).mono ?_
            rintro e w' ⟨rfl, rfl⟩
            go_wp2_with fail
            go_ret2
            exact refW_err HE3.out hBy
          | some q =>
            rw [hh] at he5
            have HE3 := Lib.hid (show wqP m t fs = (0, enc (startQ m t :: q.map (lineW nmO))) by rw [HE2.out, if_neg (by rw [hg]; simp), hh])
            have hOq := hO5 q hh
            have e1 := (hosted_some flk hh).1
            have hql : q.length ≤ 1000 := by rw [e1, List.length_map]; omega
            have hqb : ∀ p ∈ q, p.1.length + p.2.length ≤ 1000000 := by
              intro p hp
              rw [e1] at hp
              obtain ⟨f, hf, rfl⟩ := List.mem_map.1 hp
              have := HB.out f hf
              unfold lowH
              split <;> simp only [lowS_len] <;> exact this
            have hqz : (strB (flat (q.map (lineW nmO)) ++ [13, 10])).size ≤ 1200000000 := by
              rw [strB_size, List.length_append, sizL_lines]
              have h1 := sizL_le (M := 1000000) hqb
              have h3 : q.length * (1000000 + 4) ≤ 1000 * (1000000 + 4) := Nat.mul_le_mul_right _ hql
              simp; omega
            have B2 := Lib.hid (fun w (hr : ReadsQ w (.slice ao5 n5 cp5) q) => refBody_any (.slice ao5 n5 cp5) q w hr hql hqb)
            have HFin := Lib.hid (show (strB m ++ (⟨#[32]⟩ : ByteArray) ++ strB t ++ (⟨#[32, 72, 84, 84, 80, 47, 49, 46, 49, 13, 10]⟩ : ByteArray)) ++ strB (flat (q.map (lineW nmO)) ++ [13, 10]) = strB (enc (startQ m t :: q.map (lineW nmO))) by rw [HST.out, HD.out])
            have HQ := Lib.hid hOq.q
            subst he5
            clear HE2 hh hg hOq e1 hqb
            go_wp2_with fail
            refine (M.out _).mono ?_
            rintro e w' ⟨rfl, rfl⟩
            go_wp2_with fail
            refine (T.out _).mono ?_
            rintro e w' ⟨rfl, rfl⟩
            go_wp2_with fail
            refine (B2.out _ HQ.out).mono ?_
            rintro e w6 ⟨rfl, hB6⟩
            go_wp2_with fail
            refine bodyPost_ret (v := .tuple #[.string ((strB m ++ (⟨#[32]⟩ : ByteArray) ++ strB t ++ (⟨#[32, 72, 84, 84, 80, 47, 49, 46, 49, 13, 10]⟩ : ByteArray)) ++ strB (flat (q.map (lineW nmO)) ++ [13, 10])), .int .i64 0]) (by simp [results, Tryz.results17, go_sem]) rfl ?_
            exact ⟨by rw [HFin.out, HE3.out]; rfl, hBy.trans (hB6.mono hBy.size)⟩
  · obtain ⟨h5, h6⟩ := H5.out h0
    have HE := Lib.hid h6
    have hs0 : 64 < fs.length ∨ 8192 < m.length + t.length + 10 + 4 + sizL fs := by
      unfold sizeC at h0
      by_cases h1 : 64 < fs.length ∨ 8192 < m.length + t.length + 10 + 4 + sizL fs
      · exact h1
      · rw [if_neg h1] at h0; exact absurd rfl h0
    clear h0 h5 h6
    by_cases h64 : 64 < fs.length
    · clear hs0
      go_wp2_with fail
      go_ret2
      exact refW_err HE.out hBx
    · have hs1 : 8192 < m.length + t.length + 10 + 4 + sizL fs := by omega
      clear hs0
      go_wp2_with fail
      go_ret2
      exact refW_err HE.out hBx
end Go.Proofs.YtacfkljpjjnlfaaGreatDoor
