import Derived.Test.YtacfkljpjjnlfaaGreatDoorPa9
/- What lowerName, All and Size return, for every list of fields. -/
namespace Go.Proofs.YtacfkljpjjnlfaaGreatDoor
open Go.RowKit

theorem toList_same {a b : List UInt8} (h : a = b) : ((strB a).toList == (strB b).toList) = true := by subst h; exact beq_self_eq_true _
theorem toList_other {a b : List UInt8} (h : a ≠ b) : ((strB a).toList == (strB b).toList) = false := by
  rw [ByteArray.toList_eq, ByteArray.toList_eq]
  simpa [strB] using h
theorem new_pair (w : World) (a b : Value) (T : TypeId) : (w.alloc (.cells #[a, b] T)).cell? ⟨w.heap.size, 0, none⟩ = some a ∧ (w.alloc (.cells #[a, b] T)).cell? ⟨w.heap.size, 1, none⟩ = some b := by
  constructor <;> rw [World.cell?_alloc_at _ _ _ _ rfl] <;> rfl
/-- Both cells of a new variable of two strings, behind a call that leaves what was there. -/
theorem pair_kept {w w' : World} {a b : Value} {T : TypeId} (h : Below (w.alloc (.cells #[a, b] T)).heap.size (w.alloc (.cells #[a, b] T)) w') :
    w'.cell? ⟨w.heap.size, 0, none⟩ = some a ∧ w'.cell? ⟨w.heap.size, 1, none⟩ = some b := by
  have hs : w.heap.size < (w.alloc (.cells #[a, b] T)).heap.size := by simp
  exact ⟨(h.cell (p := ⟨w.heap.size, 0, none⟩) hs).trans (new_pair w a b T).1, (h.cell (p := ⟨w.heap.size, 1, none⟩) hs).trans (new_pair w a b T).2⟩
theorem below_pair {B : Nat} {w0 w w' : World} {a b : Value} {T : TypeId} (hB : Below B w0 w) (hBs : B ≤ w.heap.size) (h : Below (w.alloc (.cells #[a, b] T)).heap.size (w.alloc (.cells #[a, b] T)) w') : Below B w0 w' :=
  (hB.alloc hBs _).trans (h.mono (by simp; omega))
theorem below_pair' {w w' : World} {a b : Value} {T : TypeId} (h : Below (w.alloc (.cells #[a, b] T)).heap.size (w.alloc (.cells #[a, b] T)) w') : Below w.heap.size w w' := below_pair (Below.refl _ _) (Nat.le_refl _) h

set_option maxHeartbeats 400000 in
set_option maxRecDepth 100000 in
theorem lowerName_any (a b : List UInt8) (w : World) (ha : a.length ≤ 1000000000) :
    Calls Tryz.prog 86 #[.agg #[.string (strB a), .string (strB b)]] w fun e w' => e = .returned (.string (strB (lowS a))) ∧ Below w.heap.size w w' := by
  have hz : (strB a).size ≤ 1000000000 := by rw [strB_size]; exact ha
  go_enter Tryz.func86, Tryz.ntmps86
  go_wp2_with fail
  refine (lower_any (strB a) _ hz).mono ?_
  rintro e w1 ⟨rfl, hB⟩
  rw [strB_list]
  go_wp2_with fail
  go_ret
  exact ⟨rfl, below_pair' hB⟩

def AllRel (ps : Flds) (n : List UInt8) (w : World) (v i : Value) (wr : World) : Prop :=
  ∃ k : Nat, i = .int .i64 k ∧ k ≤ ps.length ∧ OwnsS w.heap.size wr v (allL (ps.take k) n) ∧ Below w.heap.size w wr

set_option maxHeartbeats 2000000 in
set_option maxRecDepth 100000 in
theorem all_any (fv : Value) (ps : Flds) (n : ByteArray) (w : World) (hr : ReadsQ w fv ps) (hn : n.size ≤ 1000000000) (hl : ps.length ≤ 1000000) (hb : ∀ p ∈ ps, p.1.length + p.2.length ≤ 1000000) :
    Calls Tryz.prog 83 #[fv, .string n] w fun e w' => ∃ v, e = .returned v ∧ OwnsS w.heap.size w' v (allL ps n.data.toList) ∧ Below w.heap.size w w' := by
  obtain ⟨i0, hi, hz0, hz1, hz2⟩ := info_parts Tryz.infoS
  obtain ⟨ao, cap, rfl, hc⟩ := hr
  have HC := Lib.hid hc
  have HBig := Lib.hid hb
  clear hc hb
  go_enter Tryz.func83, Tryz.ntmps83
  go_wp2_with fail
  refine (lower_any n _ hn).mono ?_
  rintro e w1 ⟨rfl, hB⟩
  have hz1' := hB.size
  go_wp2_with fail
  go_loopw [5, 12] (fun v i wr => AllRel ps n.data.toList w1 v i wr) (fun _ i _ => ps.length - (intOf i).toNat)
  case atStart => exact ⟨0, rfl, Nat.zero_le _, World.ownsRow_nil _ _ _ _, Below.refl _ _⟩
  case round =>
    obtain ⟨k, rfl, hk, hO, hBr⟩ := hrel
    have hbr := hBr.size
    have hal := all_le ps n.data.toList k
    by_cases hlt : k < ps.length
    · obtain ⟨p, hp⟩ : ∃ p, ps[k]? = some p := ⟨ps[k], by simp [hlt]⟩
      obtain ⟨g, off, rfl, hg1, h1, h2⟩ := HC.out k p hp
      have hc1 : wr.cell? ⟨g, off + k * 2, none⟩ = some (.string (strB p.1)) := (hBr.cell (p := ⟨g, off + k * 2, none⟩) (by show g < _; omega)).trans ((hB.cell (p := ⟨g, off + k * 2, none⟩) hg1).trans h1)
      have hc2 : wr.cell? ⟨g, off + k * 2 + 1, none⟩ = some (.string (strB p.2)) := (hBr.cell (p := ⟨g, off + k * 2 + 1, none⟩) (by show g < _; omega)).trans ((hB.cell (p := ⟨g, off + k * 2 + 1, none⟩) hg1).trans h2)
      have hpl := HBig.out p (List.mem_of_getElem? hp)
      have HP := Lib.hid hp
      clear hp h1 h2
      cases ho : ofN n.data.toList p with
      | true =>
        have heq := toList_same (of_decide_eq_true ho)
        have HO := Lib.hid ho
        clear ho
        go_wp2_with fail
        refine (lowerName_any p.1 p.2 _ (by omega)).mono ?_
        rintro e w2 ⟨rfl, hB2⟩
        have hpk := pair_kept hB2
        have hd1 := hpk.2
        have hB2' := below_pair' hB2
        have hs2 := hB2'.size
        clear hpk hB2
        go_wp2_with (at_builtin; refine wpList_append_own _ rfl _ _ 68 rfl w1.heap.size 9 i0 (.string ByteArray.empty) 1 16 Tryz.underlying68 hi hz0 hz1 hz2 rfl (by decide) _ _ _ rfl ((OwnsS.below hO hB2').alloc _) ⟨w2.heap.size, 0, none⟩ 1 1 [strV p.2] rfl rfl (cell_one_new _ _ _) (fun u hu => by simp at hu; subst hu; rfl) (by unfold maxLen; omega) (by omega) (by simp; omega) ?_; intro v' w3 hown' hgrow _)
        go_roundw
        case rel => exact ⟨k + 1, by go_num, by omega, by rw [all_yes HP.out HO.out]; exact OwnsS.snoc hown', below_append hBr hbr hB2' hO hgrow⟩
        case measure => simp [intOf]; omega
      | false =>
        have heq := toList_other (of_decide_eq_false ho)
        have HO := Lib.hid ho
        clear ho
        go_wp2_with fail
        refine (lowerName_any p.1 p.2 _ (by omega)).mono ?_
        rintro e w2 ⟨rfl, hB2⟩
        have hB2' := below_pair' hB2
        have hs2 := hB2'.size
        clear hB2
        go_wp2_with fail
        go_roundw
        case rel => exact ⟨k + 1, by go_num, by omega, by rw [all_no HP.out HO.out]; exact OwnsS.below hO hB2', hBr.trans (hB2'.mono hbr)⟩
        case measure => simp [intOf]; omega
    · have htk : ps.take k = ps := List.take_of_length_le (by omega)
      rw [htk] at hO
      go_wp2_with fail
      go_ret
      exact ⟨_, rfl, OwnsS.mono hz1' hO, hB.trans (hBr.mono hz1')⟩
end Go.Proofs.YtacfkljpjjnlfaaGreatDoor

/- What the code's Set returns, for every list of fields. -/
namespace Go.Proofs.YtacfkljpjjnlfaaGreatDoor
open Go.RowKit

set_option maxHeartbeats 4000000 in
set_option maxRecDepth 100000 in
theorem set_any (fv : Value) (ps : Flds) (n val : List UInt8) (w : World) (hr : ReadsQ w fv ps) (hn : n.length ≤ 1000000000) (_ : val.length ≤ 1000000000) (hl : ps.length ≤ 1000) (hb : ∀ p ∈ ps, p.1.length + p.2.length ≤ 1000000) :
    Calls Tryz.prog 54 #[fv, .string (strB n), .string (strB val)] w fun e w' => ∃ v, e = .returned v ∧ OwnsP 91 w.heap.size w' v (setL ps n val) ∧ Below w.heap.size w w' := by
  obtain ⟨i0, hi, hz0, hz1, hz2⟩ := info_parts Tryz.infoF
  obtain ⟨ao, cap, rfl, hc⟩ := hr
  have HC := Lib.hid hc
  have HBig := Lib.hid hb
  clear hc hb
  have zn : (strB n).size ≤ 1000000000 := by rw [strB_size]; exact hn
  go_enter Tryz.func54, Tryz.ntmps54
  go_wp2_with fail
  refine (lower_any (strB n) _ zn).mono ?_
  rintro e w1 ⟨rfl, hB⟩
  rw [strB_list]
  have hz1' := hB.size
  go_wp2_with fail
  go_loopw [7, 8, 15] (fun v f i wr => ∃ (k : Nat) (fb : Bool), i = .int .i64 k ∧ k ≤ ps.length ∧ f = .bool fb ∧ (ps.take k).any (ofN n) = fb ∧ OwnsP 91 w1.heap.size wr v (setK ps n val k) ∧ Below w1.heap.size w1 wr) (fun _ _ i _ => ps.length - (intOf i).toNat)
  case atStart => exact ⟨0, false, rfl, Nat.zero_le _, rfl, rfl, by rw [setK0]; exact OwnsP.nil _ _ _, Below.refl _ _⟩
  case round =>
    obtain ⟨k, fb, rfl, hk, rfl, hfb, hO, hBr⟩ := hrel
    have hbr := hBr.size
    have hsl := setK_len ps n val k
    have HF := Lib.hid hfb
    clear hfb
    by_cases hlt : k < ps.length
    · obtain ⟨p, hp⟩ : ∃ p, ps[k]? = some p := ⟨ps[k], by simp [hlt]⟩
      obtain ⟨g, off, rfl, hg1, h1, h2⟩ := HC.out k p hp
      have hc1 : wr.cell? ⟨g, off + k * 2, none⟩ = some (.string (strB p.1)) := (hBr.cell (p := ⟨g, off + k * 2, none⟩) (by show g < _; omega)).trans ((hB.cell (p := ⟨g, off + k * 2, none⟩) hg1).trans h1)
      have hc2 : wr.cell? ⟨g, off + k * 2 + 1, none⟩ = some (.string (strB p.2)) := (hBr.cell (p := ⟨g, off + k * 2 + 1, none⟩) (by show g < _; omega)).trans ((hB.cell (p := ⟨g, off + k * 2 + 1, none⟩) hg1).trans h2)
      have hpl := HBig.out p (List.mem_of_getElem? hp)
      have HP := Lib.hid hp
      clear hp h1 h2
      cases ho : ofN n p with
      | false =>
        have heq := toList_other (of_decide_eq_false ho)
        have HO := Lib.hid ho
        clear ho
        go_wp2_with fail
        refine (lowerName_any p.1 p.2 _ (by omega)).mono ?_
        rintro e w2 ⟨rfl, hB2⟩
        obtain ⟨d1, d2⟩ := pair_kept hB2
        have hB2' := below_pair' hB2
        have hs2 := hB2'.size
        clear hB2
        go_wp2_with (at_builtin; refine wpList_append_own _ rfl _ _ 25 rfl w1.heap.size 91 i0 (.agg #[.string ByteArray.empty, .string ByteArray.empty]) 2 32 Tryz.underlying25 hi hz0 hz1 hz2 rfl (by decide) _ _ _ rfl (World.ownsRow.alloc (OwnsP.below hO hB2') _) ⟨w2.heap.size, 0, none⟩ 1 1 [strV p.1, strV p.2] rfl rfl (two_new w2 p.1 p.2 _) (fun u hu => by simp at hu; rcases hu with rfl | rfl <;> rfl) (by unfold maxLen; omega) (by omega) (by simp; omega) ?_; intro v' w4 hown' hgrow _)
        go_roundw
        case rel => exact ⟨k + 1, fb, by go_num, by omega, rfl, by rw [any_more HP.out, HF.out, HO.out, Bool.or_false], by rw [setK_other HP.out HO.out]; exact OwnsP.snoc hown', below_appendP hBr hbr hB2' hO hgrow⟩
        case measure => simp [intOf]; omega
      | true =>
        have heq := toList_same (of_decide_eq_true ho)
        have HO := Lib.hid ho
        clear ho
        cases fb with
        | false =>
          go_wp2_with fail
          refine (lowerName_any p.1 p.2 _ (by omega)).mono ?_
          rintro e w2 ⟨rfl, hB2⟩
          have hB2' := below_pair' hB2
          have hs2 := hB2'.size
          clear hB2
          go_wp2_with (at_builtin; refine wpList_append_own _ rfl _ _ 25 rfl w1.heap.size 91 i0 (.agg #[.string ByteArray.empty, .string ByteArray.empty]) 2 32 Tryz.underlying25 hi hz0 hz1 hz2 rfl (by decide) _ _ _ rfl (World.ownsRow.alloc (OwnsP.below hO hB2') _) ⟨w2.heap.size, 0, none⟩ 1 1 [strV (lowS n), strV val] rfl rfl (two_new w2 (lowS n) val _) (fun u hu => by simp at hu; rcases hu with rfl | rfl <;> rfl) (by unfold maxLen; omega) (by omega) (by simp; omega) ?_; intro v' w4 hown' hgrow _)
          go_roundw
          case rel => exact ⟨k + 1, true, by go_num, by omega, rfl, by rw [any_more HP.out, HO.out, Bool.or_true], by rw [setK_first HP.out HO.out HF.out]; exact OwnsP.snoc (p := (lowS n, val)) hown', below_appendP hBr hbr hB2' hO hgrow⟩
          case measure => simp [intOf]; omega
        | true =>
          go_wp2_with fail
          refine (lowerName_any p.1 p.2 _ (by omega)).mono ?_
          rintro e w2 ⟨rfl, hB2⟩
          have hB2' := below_pair' hB2
          have hs2 := hB2'.size
          clear hB2
          go_wp2_with fail
          go_roundw
          case rel => exact ⟨k + 1, true, by go_num, by omega, rfl, by rw [any_more HP.out, HO.out, Bool.or_true], by rw [setK_again HP.out HO.out HF.out]; exact OwnsP.below hO hB2', hBr.trans (hB2'.mono hbr)⟩
          case measure => simp [intOf]; omega
    · cases fb with
      | true =>
        have he := setK_end (v := val) (by omega : ps.length ≤ k) HF.out
        rw [he] at hO
        go_wp2_with fail
        go_ret
        exact ⟨_, rfl, OwnsP.mono hz1' hO, hB.trans (hBr.mono hz1')⟩
      | false =>
        have he := setK_end' (v := val) (by omega : ps.length ≤ k) HF.out
        have HE := Lib.hid he
        clear he
        go_wp2_with (at_builtin; refine wpList_append_own _ rfl _ _ 25 rfl w1.heap.size 91 i0 (.agg #[.string ByteArray.empty, .string ByteArray.empty]) 2 32 Tryz.underlying25 hi hz0 hz1 hz2 rfl (by decide) _ _ _ rfl (World.ownsRow.alloc hO _) ⟨wr.heap.size, 0, none⟩ 1 1 [strV (lowS n), strV val] rfl rfl (two_new wr (lowS n) val _) (fun u hu => by simp at hu; rcases hu with rfl | rfl <;> rfl) (by unfold maxLen; omega) (by omega) (by simp; omega) ?_; intro v' w4 hown' hgrow _)
        go_ret
        refine ⟨v', rfl, ?_, hB.trans ((below_appendP hBr hbr (Below.refl _ _) hO hgrow).mono hz1')⟩
        have := OwnsP.snoc (p := (lowS n, val)) hown'
        rw [HE.out] at this
        exact OwnsP.mono hz1' this
end Go.Proofs.YtacfkljpjjnlfaaGreatDoor

/- Plain mathematics: the text of a list of one. -/
namespace Go.Proofs.YtacfkljpjjnlfaaGreatDoor

/-- The text of a list of one, and whether it is one. -/
def oneL : List (List UInt8) → List UInt8 × Bool
  | [v] => (v, true)
  | _ => ([], false)
theorem oneL_len {l : List (List UInt8)} {M : Nat} (h : ∀ v ∈ l, v.length ≤ M) : (oneL l).1.length ≤ M := by
  match l with
  | [] => exact Nat.zero_le _
  | [v] => exact h v (List.mem_singleton.mpr rfl)
  | _ :: _ :: _ => exact Nat.zero_le _
end Go.Proofs.YtacfkljpjjnlfaaGreatDoor
