import Derived.Test.YtoiampkdmjpljaaGreatDoorPa9
import Derived.Test.YtoiampkdmjpljaaGreatDoorPa7
import Derived.Test.YtoiampkdmjpljaaGreatDoorPa10
import Derived.Test.YtoiampkdmjpljaaGreatDoorPa24
import Derived.Test.YtoiampkdmjpljaaGreatDoorPa29
import Derived.Test.YtoiampkdmjpljaaGreatDoorPa32
/- What the reference's Of returns. -/
namespace Go.Proofs.YtoiampkdmjpljaaGreatDoor
open Go.RowKit

set_option maxHeartbeats 400000 in
set_option maxRecDepth 100000 in
theorem of_any (a b n : List UInt8) (w : World) (ha : a.length ≤ 1000000000) (hn : n.length ≤ 1000000000) :
    Calls Tryz.prog 37 #[.agg #[.string (strB a), .string (strB b)], .string (strB n)] w fun e w' => e = .returned (.bool (ofN n (a, b))) ∧ Below w.heap.size w w' := by
  have za : (strB a).size ≤ 1000000000 := by rw [strB_size]; exact ha
  have zn : (strB n).size ≤ 1000000000 := by rw [strB_size]; exact hn
  have L1 := fun w => refLower_any (strB a) w za
  have L2 := fun w => refLower_any (strB n) w zn
  rw [strB_list] at L1 L2
  by_cases h : lowS a = lowS n
  · have heq := toList_same h
    have ho : ofN n (a, b) = true := decide_eq_true h
    rw [ho]
    clear h ho
    go_enter Tryz.func37, Tryz.ntmps37
    go_wp2_with fail
    refine (L1 _).mono ?_
    rintro e w1 ⟨rfl, hB⟩
    have hB' := below_pair' hB
    clear hB
    go_wp2_with fail
    refine (L2 _).mono ?_
    rintro e w2 ⟨rfl, hB2⟩
    go_wp2_with fail
    go_ret
    exact ⟨by first | rfl | simp, hB'.trans (hB2.mono hB'.size)⟩
  · have heq := toList_other h
    have ho : ofN n (a, b) = false := decide_eq_false h
    rw [ho]
    clear h ho
    go_enter Tryz.func37, Tryz.ntmps37
    go_wp2_with fail
    refine (L1 _).mono ?_
    rintro e w1 ⟨rfl, hB⟩
    have hB' := below_pair' hB
    clear hB
    go_wp2_with fail
    refine (L2 _).mono ?_
    rintro e w2 ⟨rfl, hB2⟩
    go_wp2_with fail
    go_ret
    exact ⟨by first | rfl | simp, hB'.trans (hB2.mono hB'.size)⟩

end Go.Proofs.YtoiampkdmjpljaaGreatDoor

/- What the reference's Of and All return. -/
namespace Go.Proofs.YtoiampkdmjpljaaGreatDoor
open Go.RowKit

set_option maxHeartbeats 2000000 in
set_option maxRecDepth 100000 in
theorem refAll_any (fv : Value) (ps : Flds) (n : List UInt8) (w : World) (hr : ReadsQ w fv ps) (hn : n.length ≤ 1000000000) (hl : ps.length ≤ 1000000) (hb : ∀ p ∈ ps, p.1.length + p.2.length ≤ 1000000) :
    Calls Tryz.prog 34 #[fv, .string (strB n)] w fun e w' => ∃ v, e = .returned v ∧ OwnsS w.heap.size w' v (allL ps n) ∧ Below w.heap.size w w' := by
  obtain ⟨i0, hi, hz0, hz1, hz2⟩ := info_parts Tryz.infoS
  obtain ⟨ao, cap, rfl, hc⟩ := hr
  have HC := Lib.hid hc
  have HBig := Lib.hid hb
  clear hc hb
  go_enter Tryz.func34, Tryz.ntmps34
  go_wp2_with fail
  go_loopw [5, 9] (fun v i wr => AllRel ps n w v i wr) (fun _ i _ => ps.length - (intOf i).toNat)
  case atStart => exact ⟨0, rfl, Nat.zero_le _, World.ownsRow_nil _ _ _ _, Below.refl _ _⟩
  case round =>
    obtain ⟨k, rfl, hk, hO, hBr⟩ := hrel
    have hbr := hBr.size
    have hal := all_le ps n k
    by_cases hlt : k < ps.length
    · obtain ⟨p, hp⟩ : ∃ p, ps[k]? = some p := ⟨ps[k], by simp [hlt]⟩
      obtain ⟨g, off, rfl, hg1, h1, h2⟩ := HC.out k p hp
      have hc1 : wr.cell? ⟨g, off + k * 2, none⟩ = some (.string (strB p.1)) := (hBr.cell (p := ⟨g, off + k * 2, none⟩) hg1).trans h1
      have hc2 : wr.cell? ⟨g, off + k * 2 + 1, none⟩ = some (.string (strB p.2)) := (hBr.cell (p := ⟨g, off + k * 2 + 1, none⟩) hg1).trans h2
      have hgr : g < wr.heap.size := by omega
      have hpl := HBig.out p (List.mem_of_getElem? hp)
      have HP := Lib.hid hp
      have OF := fun w => of_any p.1 p.2 n w (by omega) hn
      clear hp h1 h2
      cases ho : ofN n p with
      | true =>
        have e : ofN n (p.1, p.2) = true := ho
        rw [e] at OF
        have HO := Lib.hid ho
        clear ho e
        go_wp2_with fail
        refine (OF _).mono ?_
        rintro e w2 ⟨rfl, hB2⟩
        have d2 := (hB2.cell (p := ⟨g, off + k * 2 + 1, none⟩) hgr).trans hc2
        have hs2 := hB2.size
        clear hc1 hc2 OF
        go_wp2_with (at_builtin; refine wpList_append_own _ rfl _ _ 35 rfl w.heap.size 9 i0 (.string ByteArray.empty) 1 16 Tryz.underlying35 hi hz0 hz1 hz2 rfl (by decide) _ _ _ rfl ((OwnsS.below hO hB2).alloc _) ⟨w2.heap.size, 0, none⟩ 1 1 [strV p.2] rfl rfl (cell_one_new _ _ _) (fun u hu => by simp at hu; subst hu; rfl) (by unfold maxLen; omega) (by omega) (by simp; omega) ?_; intro v' w3 hown' hgrow _)
        go_roundw
        case rel => exact ⟨k + 1, by go_num, by omega, by rw [all_yes HP.out HO.out]; exact OwnsS.snoc hown', below_append hBr hbr hB2 hO hgrow⟩
        case measure => simp [intOf]; omega
      | false =>
        have e : ofN n (p.1, p.2) = false := ho
        rw [e] at OF
        have HO := Lib.hid ho
        clear ho e
        go_wp2_with fail
        refine (OF _).mono ?_
        rintro e w2 ⟨rfl, hB2⟩
        go_wp2_with fail
        go_roundw
        case rel => exact ⟨k + 1, by go_num, by omega, by rw [all_no HP.out HO.out]; exact OwnsS.below hO hB2, hBr.trans (hB2.mono hbr)⟩
        case measure => simp [intOf]; omega
    · have htk : ps.take k = ps := List.take_of_length_le (by omega)
      rw [htk] at hO
      go_wp2_with fail
      go_ret
      exact ⟨_, rfl, hO, hBr⟩
end Go.Proofs.YtoiampkdmjpljaaGreatDoor

/- What the reference's functions of chapter 14 return. -/
namespace Go.Proofs.YtoiampkdmjpljaaGreatDoor
open Go.RowKit

set_option maxHeartbeats 4000000 in
theorem refNegative_any (s : Int) (w : World) :
    Calls Tryz.prog 61 #[.int .i64 s] w fun e w' => e = .returned (.bool (negB s)) ∧ w = w' := by
  by_cases h1 : s = 404
  · subst h1
    go_enter Tryz.func61, Tryz.ntmps61
    go_wp2
    go_ret
    exact ⟨rfl, rfl⟩
  · have e1 : (s == 404) = false := by simpa using h1
    by_cases h2 : s = 405
    · subst h2
      go_enter Tryz.func61, Tryz.ntmps61
      go_wp2
      go_ret
      exact ⟨rfl, rfl⟩
    · have e2 : (s == 405) = false := by simpa using h2
      by_cases h3 : s = 410
      · subst h3
        go_enter Tryz.func61, Tryz.ntmps61
        go_wp2
        go_ret
        exact ⟨rfl, rfl⟩
      · have e3 : (s == 410) = false := by simpa using h3
        by_cases h4 : s = 414
        · subst h4
          go_enter Tryz.func61, Tryz.ntmps61
          go_wp2
          go_ret
          exact ⟨rfl, rfl⟩
        · have e4 : (s == 414) = false := by simpa using h4
          have HV := Lib.hid (show negB s = (s == 501) by unfold negB; by_cases h5 : s = 501 <;> simp [h1, h2, h3, h4, h5])
          clear h1 h2 h3 h4
          go_enter Tryz.func61, Tryz.ntmps61
          go_wp2
          go_ret
          exact ⟨retB HV.out.symm, rfl⟩
def codes7 : List Int := [200, 203, 204, 206, 300, 301, 308]
theorem codes7_at (w : World) : ∀ k c, codes7[k]? = some c → (w.alloc (.cells #[.int .i64 200, .int .i64 203, .int .i64 204, .int .i64 206, .int .i64 300, .int .i64 301, .int .i64 308] 3)).cell? ⟨w.heap.size, k, none⟩ = some (.int .i64 c) := by
  intro k c h
  rw [World.cell?_alloc_at _ _ _ _ rfl]
  have hk : k < 7 := (List.getElem?_eq_some_iff.mp h).1
  have : k = 0 ∨ k = 1 ∨ k = 2 ∨ k = 3 ∨ k = 4 ∨ k = 5 ∨ k = 6 := by omega
  rcases this with rfl | rfl | rfl | rfl | rfl | rfl | rfl <;> (simp only [codes7, List.getElem?_cons_zero, List.getElem?_cons_succ, Option.some.injEq] at h; subst h; rfl)
theorem codes7_cac (s : Int) (h : s ∈ codes7) : cacB s = true := by
  unfold codes7 at h
  simp only [List.mem_cons, List.not_mem_nil, or_false] at h
  unfold cacB
  rw [decide_eq_true h]; rfl
theorem codes7_neg (s : Int) (h : s ∉ codes7) : cacB s = negB s := by
  unfold codes7 at h
  simp only [List.mem_cons, List.not_mem_nil, or_false] at h
  unfold cacB
  rw [decide_eq_false h]; rfl
set_option maxHeartbeats 4000000 in
set_option maxRecDepth 100000 in
theorem refCacheable_any (s : Int) (w : World) :
    Calls Tryz.prog 32 #[.int .i64 s] w fun e w' => e = .returned (.bool (cacB s)) ∧ Below w.heap.size w w' := by
  have HN := Lib.hid (fun w => refNegative_any s w)
  have HC := Lib.hid (codes7_at w)
  have HB := Lib.hid (below_new w (.cells #[.int .i64 200, .int .i64 203, .int .i64 204, .int .i64 206, .int .i64 300, .int .i64 301, .int .i64 308] 3))
  have HL := Lib.hid (show w.heap.size < (w.alloc (.cells #[.int .i64 200, .int .i64 203, .int .i64 204, .int .i64 206, .int .i64 300, .int .i64 301, .int .i64 308] 3)).heap.size by simp)
  go_enter Tryz.func32, Tryz.ntmps32
  go_upto_region 2 with fail
  change Code.wp _ _ _ _ (w.alloc (.cells #[.int .i64 200, .int .i64 203, .int .i64 204, .int .i64 206, .int .i64 300, .int .i64 301, .int .i64 308] 3))
  generalize (w.alloc (.cells #[.int .i64 200, .int .i64 203, .int .i64 204, .int .i64 206, .int .i64 300, .int .i64 301, .int .i64 308] 3)) = W at *
  go_loopw [7] (fun i wr => wr = W ∧ ∃ k : Nat, i = .int .i64 k ∧ k ≤ 7 ∧ s ∉ codes7.take k) (fun i _ => 7 - (intOf i).toNat)
  case atStart => exact ⟨rfl, 0, rfl, Nat.zero_le _, by simp⟩
  case round =>
    obtain ⟨hwr, k, rfl, hk, hs⟩ := hrel
    subst hwr
    have HS := Lib.hid hs
    clear hs
    by_cases hlt : k < 7
    · obtain ⟨c, hc⟩ : ∃ c, codes7[k]? = some c := ⟨codes7[k]'(by simpa [codes7] using hlt), by simp⟩
      have hcell := HC.out k c hc
      have HK := Lib.hid hc
      clear hc
      by_cases he : c = s
      · subst he
        have HV := Lib.hid (codes7_cac c (List.mem_of_getElem? HK.out))
        have hcc : (c == c) = true := by simp
        go_wp2
        (try simp only [Exit.inBlock, Exit.then])
        go_ret
        exact ⟨retB HV.out.symm, HB.out⟩
      · have hb : (c == s) = false := by simpa using he
        have HE := Lib.hid he
        clear he
        go_wp2
        go_roundw
        case rel => exact ⟨by first | rfl | trivial, k + 1, by go_num, by omega, by rw [List.take_add_one, HK.out]; simp only [Option.toList_some, List.mem_append, List.mem_singleton, not_or]; exact ⟨HS.out, fun e => HE.out e.symm⟩⟩
        case measure => simp [intOf]; omega
    · have HV := Lib.hid (codes7_neg s (by have := HS.out; rwa [List.take_of_length_le (by simp [codes7]; omega)] at this))
      go_wp2_with fail
      refine (HN.out _).mono ?_
      rintro e w1 ⟨rfl, rfl⟩
      go_wp2_with fail
      go_ret
      exact ⟨retB HV.out.symm, HB.out⟩
set_option maxHeartbeats 4000000 in
set_option maxRecDepth 100000 in
theorem refDirectives_any (fv : Value) (ps : Flds) (w : World) (hr : ReadsQ w fv ps) (hf : FitL ps) :
    Calls Tryz.prog 30 #[fv] w fun e w' => e = .returned (dvV (parseD (allL ps nCC))) ∧ Below w.heap.size w w' := by
  have hlen := hf.len
  have hal := all_len ps nCC
  have hsm := all_small (n := nCC) hf.each
  have HA := Lib.hid (fun (w : World) (hr : ReadsQ w fv ps) => refAll_any fv ps nCC w hr (by decide) (by omega) hf.each6)
  have HP := Lib.hid (fun (v : Value) (w : World) (hr : ReadsS w v (allL ps nCC)) => refParse11_any v (allL ps nCC) w hr (by omega) hsm)
  have HR := Lib.hid hr
  have hN := dvB_new w zD 64
  have HN := Lib.hid hN
  have HB := Lib.hid (below_new w (.cells (dvC zD) 64))
  clear hr hf hN hal hsm hlen
  generalize parseD (allL ps nCC) = D at *
  go_enter Tryz.func30, Tryz.ntmps30
  go_upto_region 1 with fail
  change Code.wp _ _ _ _ (w.alloc (.cells (dvC zD) 64))
  generalize (w.alloc (.cells (dvC zD) 64)) = W at *
  go_wp2_with fail
  refine (HA.out _ (HR.out.below HB.out)).mono ?_
  rintro e w1 ⟨v, rfl, hO, hB1⟩
  have HB1 := Lib.hid (HB.out.trans (hB1.mono HB.out.size))
  have HN1 := Lib.hid (HN.out.below hB1)
  have HO := Lib.hid hO
  clear hO hB1
  go_wp2_with fail
  refine (HP.out _ _ HO.out.reads).mono ?_
  rintro e w2 ⟨rfl, hB2⟩
  have HB2 := Lib.hid (HB1.out.trans (hB2.mono HB1.out.size))
  obtain ⟨c0, c1, c2, c3, c4, c5, c6, c7, c8, c9, c10, c11, fr, lt⟩ := HN1.out.below hB2
  clear hB2
  go_wp2_with fail
  refine bodyPost_ret (v := dvV D) (by simp (maxDischargeDepth := 15) [results, Tryz.results30, go_sem, c0, c1, c2, c3, c4, c5, c6, c7, c8, c9, c10, c11]) rfl ?_
  exact ⟨rfl, below_dv HB2.out (Nat.le_refl _) _ _ _ _ _ _ _ _ _ _ _ _⟩
set_option maxHeartbeats 4000000 in
set_option maxRecDepth 100000 in
theorem lfRefDate_any (fv : Value) (ps : Flds) (n : List UInt8) (d : Option Nat) (w : World) (hr : ReadsQ w fv ps) (hf : FitL ps) (hn : n.length ≤ 100) (hd : DatF ps n d) :
    Calls Tryz.prog 60 #[fv, .string (strB n)] w fun e w' => ∃ x, e = .returned (.tuple #[x, .bool d.isSome]) ∧ (∀ k, d = some k → x = .int .i64 (k : Int)) ∧ Below w.heap.size w w' := by
  have HA := Lib.hid (refAll_any fv ps n w hr (by omega) (by have := hf.len; omega) hf.each6)
  have hsm := all_small (n := n) hf.each
  unfold DatF at hd
  have hll := all_len ps n
  have hlen := hf.len
  clear hr hf
  generalize allL ps n = ls at *
  by_cases h1 : ls.length = 1
  · obtain ⟨v, rfl, hv⟩ := oneIs_one hd h1
    have hvl := hsm v (List.mem_singleton.mpr rfl)
    have HP := Lib.hid (fun (w : World) => hRefParse_any v d hv w (by omega))
    clear h1 hd hsm hll
    go_enter Tryz.func60, Tryz.ntmps60
    go_wp2_with fail
    refine HA.out.mono ?_
    rintro e w1 ⟨x, rfl, hO, hB1⟩
    rcases hO.opens with ⟨_, hnil⟩ | ⟨g, cap, rfl, hcap, hg, hc⟩
    · cases hnil
    · have hc0 : w1.cell? ⟨g, 0, none⟩ = some (.string (strB v)) := hc 0 v rfl
      have hone : ([v] : List (List UInt8)).length = 1 := rfl
      rw [hone] at hcap ⊢
      clear hc hO hone
      go_wp2_with fail
      refine (HP.out _).mono ?_
      rintro e w2 ⟨x, rfl, hx, hB2⟩
      go_wp2_with fail
      go_ret2
      exact ⟨_, rfl, hx, hB1.trans (hB2.mono hB1.size)⟩
  · have hdn := oneIs_len hd h1
    subst hdn
    clear hd hsm
    go_enter Tryz.func60, Tryz.ntmps60
    go_wp2_with fail
    refine HA.out.mono ?_
    rintro e w1 ⟨x, rfl, hO, hB1⟩
    rcases hO.opens with ⟨rfl, rfl⟩ | ⟨g, cap, rfl, hcap, hg, hc⟩
    · go_wp2_with fail
      go_ret2
      exact ⟨_, rfl, fun k hk => by (first | cases hk | simp at hk), hB1⟩
    · have hb : ((ls.length : Int) != 1) = true := by simp; omega
      clear h1 hc
      go_wp2_with fail
      go_ret2
      exact ⟨_, rfl, fun k hk => by (first | cases hk | simp at hk), hB1⟩
end Go.Proofs.YtoiampkdmjpljaaGreatDoor
