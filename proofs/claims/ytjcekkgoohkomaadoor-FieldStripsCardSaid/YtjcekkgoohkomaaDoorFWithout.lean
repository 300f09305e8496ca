/- What the code's without returns, for every list of fields; lists of fields as the source of an append. -/
import Derived.Test.YtjcekkgoohkomaaDoorFSmall
import Derived.Test.YtjcekkgoohkomaaDoorFNamesMap
import Derived.Laws.AppendOwnNone
namespace Go.Proofs.YtjcekkgoohkomaaDoor
open Go.RowKit

theorem flatP_get : ∀ (ps : Flds) (j : Nat) (u : Value), (flatP ps)[j]? = some u → ∃ i p, ps[i]? = some p ∧ ((j = i * 2 ∧ u = strV p.1) ∨ (j = i * 2 + 1 ∧ u = strV p.2)) := by
  intro ps
  induction ps with
  | nil => intro j u h; simp [flatP] at h
  | cons q r ih =>
    intro j u h
    have e : flatP (q :: r) = strV q.1 :: strV q.2 :: flatP r := rfl
    rw [e] at h
    match j, h with
    | 0, h => simp at h; exact ⟨0, q, rfl, .inl ⟨rfl, h.symm⟩⟩
    | 1, h => simp at h; exact ⟨0, q, rfl, .inr ⟨rfl, h.symm⟩⟩
    | j + 2, h =>
      obtain ⟨i, p, hi, hc⟩ := ih j u (by simpa using h)
      exact ⟨i + 1, p, by simpa using hi, by rcases hc with ⟨rfl, hu⟩ | ⟨rfl, hu⟩
                                             · exact .inl ⟨by omega, hu⟩
                                             · exact .inr ⟨by omega, hu⟩⟩
theorem flatP_one (ps : Flds) : ∀ u ∈ flatP ps, u.oneCell' = true := by
  intro u hu
  obtain ⟨j, hj⟩ := List.getElem?_of_mem hu
  obtain ⟨i, p, _, h | h⟩ := flatP_get ps j u hj <;> rw [h.2] <;> rfl
/-- The cells of a slice that is read, as the source of an append. -/
theorem ReadsQ.src {w : World} {ad : Addr} {n cap : Nat} {ps : Flds} (h : ReadsQ w (.slice (some ad) n cap) ps) : n = ps.length ∧ ∀ j u, (flatP ps)[j]? = some u → w.cell? (ad.add j) = some u := by
  obtain ⟨ao, c, hv, hc⟩ := h
  simp only [Value.slice.injEq] at hv
  obtain ⟨rfl, rfl, rfl⟩ := hv
  refine ⟨rfl, fun j u hj => ?_⟩
  obtain ⟨i, p, hi, hu⟩ := flatP_get ps j u hj
  obtain ⟨g, off, ha, _, h1, h2⟩ := hc i p hi
  obtain rfl : ad = ⟨g, off, none⟩ := Option.some.inj ha
  rcases hu with ⟨rfl, rfl⟩ | ⟨rfl, rfl⟩
  · rw [Addr.add_lit]; exact h1
  · rw [Addr.add_lit, ← Nat.add_assoc]; exact h2
theorem ReadsQ.none {w : World} {n cap : Nat} {ps : Flds} (h : ReadsQ w (.slice none n cap) ps) : ps = [] ∧ n = 0 := by
  obtain ⟨ao, c, hv, hc⟩ := h
  simp only [Value.slice.injEq] at hv
  obtain ⟨rfl, rfl, rfl⟩ := hv
  cases ps with
  | nil => exact ⟨rfl, rfl⟩
  | cons p r => obtain ⟨g, off, ha, _⟩ := hc 0 p rfl; cases ha

def WithoutRel (ps : Flds) (f : List UInt8 × List UInt8 → Bool) (w : World) (v i : Value) (wr : World) : Prop :=
  ∃ k : Nat, i = .int .i64 k ∧ k ≤ ps.length ∧ OwnsP 70 w.heap.size wr v ((ps.take k).filter f) ∧ Below w.heap.size w wr
theorem fil_yes {ps : Flds} {f : List UInt8 × List UInt8 → Bool} {k : Nat} {p : List UInt8 × List UInt8} (h : ps[k]? = some p) (ho : f p = true) : (ps.take (k + 1)).filter f = (ps.take k).filter f ++ [p] := by
  rw [take_more h, List.filter_append]; simp [ho]
theorem fil_no {ps : Flds} {f : List UInt8 × List UInt8 → Bool} {k : Nat} {p : List UInt8 × List UInt8} (h : ps[k]? = some p) (ho : f p = false) : (ps.take (k + 1)).filter f = (ps.take k).filter f := by
  rw [take_more h, List.filter_append]; simp [ho]
theorem fil_len (ps : Flds) (f : List UInt8 × List UInt8 → Bool) (k : Nat) : ((ps.take k).filter f).length ≤ k := Nat.le_trans (List.length_filter_le _ _) (List.length_take_le _ _)

set_option maxHeartbeats 2000000 in
set_option maxRecDepth 100000 in
theorem without_any (fv : Value) (ps : Flds) (b n : Nat) (ks : List (List UInt8)) (w : World) (hr : ReadsQ w fv ps) (hl : ps.length ≤ 100000) (hb : ∀ p ∈ ps, p.1.length + p.2.length ≤ 1000000) (hN : HasNames w b n ks) :
    Calls Tryd.prog 65 #[fv, .map (some b)] w fun e w' => ∃ v, e = .returned v ∧ OwnsP 70 w.heap.size w' v (ps.filter fun p => !decide (lowS p.1 ∈ ks)) ∧ Below w.heap.size w w' := by
  obtain ⟨i0, hi, hz0, hz1, hz2⟩ := info_parts Tryd.infoF
  obtain ⟨ao, cap, rfl, hc⟩ := hr
  have HC := Lib.hid hc
  have HBig := Lib.hid hb
  have HN := Lib.hid hN
  clear hc hb hN
  go_enter Tryd.func65, Tryd.ntmps65
  go_wp2_with fail
  go_loopw [5, 10] (fun v i wr => WithoutRel ps (fun p => !decide (lowS p.1 ∈ ks)) w v i wr) (fun _ i _ => ps.length - (intOf i).toNat)
  case atStart => exact ⟨0, rfl, Nat.zero_le _, OwnsP.nil _ _ _, Below.refl _ _⟩
  case round =>
    obtain ⟨k, rfl, hk, hO, hBr⟩ := hrel
    have hbr := hBr.size
    have hfl := fil_len ps (fun p => !decide (lowS p.1 ∈ ks)) k
    by_cases hlt : k < ps.length
    · obtain ⟨p, hp⟩ : ∃ p, ps[k]? = some p := ⟨ps[k], by simp [hlt]⟩
      obtain ⟨g, off, rfl, hg1, h1, h2⟩ := HC.out k p hp
      have hc1 : wr.cell? ⟨g, off + k * 2, none⟩ = some (.string (strB p.1)) := (hBr.cell (p := ⟨g, off + k * 2, none⟩) hg1).trans h1
      have hc2 : wr.cell? ⟨g, off + k * 2 + 1, none⟩ = some (.string (strB p.2)) := (hBr.cell (p := ⟨g, off + k * 2 + 1, none⟩) hg1).trans h2
      have hpl := HBig.out p (List.mem_of_getElem? hp)
      have HP := Lib.hid hp
      have hlw : (lowS p.1).length ≤ maxLen := by rw [lowS_len]; unfold maxLen; omega
      clear hp h1 h2
      by_cases hm : lowS p.1 ∈ ks
      · have ho : (!decide (lowS p.1 ∈ ks)) = false := by simp [hm]
        have HO := Lib.hid ho
        clear ho
        go_wp2_with fail
        refine (lowerName_any p.1 p.2 _ (by omega)).mono ?_
        rintro e w2 ⟨rfl, hB2⟩
        have hB2' := below_pair' hB2
        have hs2 := hB2'.size
        have hlook := ((HN.out.below (hBr)).below hB2').look (lowS p.1) hlw
        rw [decide_eq_true hm] at hlook
        clear hB2 hm
        go_wp2_with fail
        go_roundw
        case rel => exact ⟨k + 1, by go_num, by omega, by rw [fil_no HP.out HO.out]; exact OwnsP.below hO hB2', hBr.trans (hB2'.mono hbr)⟩
        case measure => simp [intOf]; omega
      · have ho : (!decide (lowS p.1 ∈ ks)) = true := by simp [hm]
        have HO := Lib.hid ho
        clear ho
        go_wp2_with fail
        refine (lowerName_any p.1 p.2 _ (by omega)).mono ?_
        rintro e w2 ⟨rfl, hB2⟩
        obtain ⟨d1, d2⟩ := pair_kept hB2
        have hB2' := below_pair' hB2
        have hs2 := hB2'.size
        have hlook := ((HN.out.below (hBr)).below hB2').look (lowS p.1) hlw
        rw [decide_eq_false hm] at hlook
        clear hB2 hm
        go_wp2_with (at_builtin; refine wpList_append_own _ rfl _ _ 62 rfl w.heap.size 70 i0 (.agg #[.string ByteArray.empty, .string ByteArray.empty]) 2 32 Tryd.underlying62 hi hz0 hz1 hz2 rfl (by decide) _ _ _ rfl (World.ownsRow.alloc (OwnsP.below hO hB2') _) ⟨w2.heap.size, 0, none⟩ 1 1 [strV p.1, strV p.2] rfl rfl (two_new w2 p.1 p.2 _) (fun u hu => by simp at hu; rcases hu with rfl | rfl <;> rfl) (by unfold maxLen; omega) (by omega) (by simp; omega) ?_; intro v' w4 hown' hgrow _)
        go_roundw
        case rel => exact ⟨k + 1, by go_num, by omega, by rw [fil_yes HP.out HO.out]; exact OwnsP.snoc hown', below_appendP hBr hbr hB2' hO hgrow⟩
        case measure => simp [intOf]; omega
    · have htk : ps.take k = ps := List.take_of_length_le (by omega)
      rw [htk] at hO
      go_wp2_with fail
      go_ret
      exact ⟨_, rfl, hO, hBr⟩
theorem rem_names (ps : Flds) (n : List UInt8) : (ps.filter fun p => !decide (lowS p.1 ∈ [lowS n])) = remL ps n := by
  unfold remL
  refine List.filter_congr fun p _ => ?_
  unfold ofN; simp

end Go.Proofs.YtjcekkgoohkomaaDoor
