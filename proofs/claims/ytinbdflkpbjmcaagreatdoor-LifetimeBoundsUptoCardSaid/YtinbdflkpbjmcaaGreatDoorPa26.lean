import Derived.Test.YtinbdflkpbjmcaaGreatDoorPa19
import Derived.Test.YtinbdflkpbjmcaaGreatDoorPa23
import Derived.Test.YtinbdflkpbjmcaaGreatDoorPa25
import Derived.Test.YtinbdflkpbjmcaaGreatDoorPa22
/- What the reference's Of and All return. -/
namespace Go.Proofs.YtinbdflkpbjmcaaGreatDoor
open Go.RowKit

set_option maxHeartbeats 2000000 in
set_option maxRecDepth 100000 in
theorem refAll_any (fv : Value) (ps : Flds) (n : List UInt8) (w : World) (hr : ReadsQ w fv ps) (hn : n.length ≤ 1000000000) (hl : ps.length ≤ 1000000) (hb : ∀ p ∈ ps, p.1.length + p.2.length ≤ 1000000) :
    Calls Tryz.prog 32 #[fv, .string (strB n)] w fun e w' => ∃ v, e = .returned v ∧ OwnsS w.heap.size w' v (allL ps n) ∧ Below w.heap.size w w' := by
  obtain ⟨i0, hi, hz0, hz1, hz2⟩ := info_parts Tryz.infoS
  obtain ⟨ao, cap, rfl, hc⟩ := hr
  have HC := Lib.hid hc
  have HBig := Lib.hid hb
  clear hc hb
  go_enter Tryz.func32, Tryz.ntmps32
  go_wp2_with fail
  go_loopw [5, 9] (fun v i wr => AllRel ps n w v i wr) (fun _ i _ => ps.length - (intOf i).toNat)
  case atStart => exact ⟨0, rfl, Nat.zero_le _, World.ownsRow_nil _ _ _ _, Below.refl _ _⟩
  case round =>
    obtain ⟨k, rfl, hk, hO, hBr⟩ := hrel
    have hbr := hBr.size
    have hal := all_le ps n k
    by_cases hlt : k < ps.length
    · obtain ⟨p, hp⟩ : ∃ p, ps[k]? = some p := ⟨ps[k], by simp [hlt]⟩
      obtain ⟨g, off, rfl, hg1, h1, h2⟩ := HC.out k p hp
      have hc1 : wr.cell? ⟨g, off + k * 2, none⟩ = some (.string (strB p.1)) := (hBr.cell (p := ⟨g, off + k * 2, none⟩) hg1).trans h1
      have hc2 : wr.cell? ⟨g, off + k * 2 + 1, none⟩ = some (.string (strB p.2)) := (hBr.cell (p := ⟨g, off + k * 2 + 1, none⟩) hg1).trans h2
      have hgr : g < wr.heap.size := by omega
      have hpl := HBig.out p (List.mem_of_getElem? hp)
      have HP := Lib.hid hp
      have OF := fun w => of_any p.1 p.2 n w (by omega) hn
      clear hp h1 h2
      cases ho : ofN n p with
      | true =>
        have e : ofN n (p.1, p.2) = true := ho
        rw [e] at OF
        have HO := Lib.hid ho
        clear ho e
        go_wp2_with fail
        refine (OF _).mono ?_
        rintro e w2 ⟨rfl, hB2⟩
        have d2 := (hB2.cell (p := ⟨g, off + k * 2 + 1, none⟩) hgr).trans hc2
        have hs2 := hB2.size
        clear hc1 hc2 OF
        go_wp2_with (at_builtin; refine wpList_append_own _ rfl _ _ 50 rfl w.heap.size 9 i0 (.string ByteArray.empty) 1 16 Tryz.underlying50 hi hz0 hz1 hz2 rfl (by decide) _ _ _ rfl ((OwnsS.below hO hB2).alloc _) ⟨w2.heap.size, 0, none⟩ 1 1 [strV p.2] rfl rfl (cell_one_new _ _ _) (fun u hu => by simp at hu; subst hu; rfl) (by unfold maxLen; omega) (by omega) (by simp; omega) ?_; intro v' w3 hown' hgrow _)
        go_roundw
        case rel => exact ⟨k + 1, by go_num, by omega, by rw [all_yes HP.out HO.out]; exact OwnsS.snoc hown', below_append hBr hbr hB2 hO hgrow⟩
        case measure => simp [intOf]; omega
      | false =>
        have e : ofN n (p.1, p.2) = false := ho
        rw [e] at OF
        have HO := Lib.hid ho
        clear ho e
        go_wp2_with fail
        refine (OF _).mono ?_
        rintro e w2 ⟨rfl, hB2⟩
        go_wp2_with fail
        go_roundw
        case rel => exact ⟨k + 1, by go_num, by omega, by rw [all_no HP.out HO.out]; exact OwnsS.below hO hB2, hBr.trans (hB2.mono hbr)⟩
        case measure => simp [intOf]; omega
    · have htk : ps.take k = ps := List.take_of_length_le (by omega)
      rw [htk] at hO
      go_wp2_with fail
      go_ret
      exact ⟨_, rfl, hO, hBr⟩
end Go.Proofs.YtinbdflkpbjmcaaGreatDoor

/- What the reference's functions of chapter 14 return. -/
namespace Go.Proofs.YtinbdflkpbjmcaaGreatDoor
open Go.RowKit

set_option maxHeartbeats 4000000 in
theorem refNegative_any (s : Int) (w : World) :
    Calls Tryz.prog 33 #[.int .i64 s] w fun e w' => e = .returned (.bool (negB s)) ∧ w = w' := by
  by_cases h1 : s = 404
  · subst h1
    go_enter Tryz.func33, Tryz.ntmps33
    go_wp2
    go_ret
    exact ⟨rfl, rfl⟩
  · have e1 : (s == 404) = false := by simpa using h1
    by_cases h2 : s = 405
    · subst h2
      go_enter Tryz.func33, Tryz.ntmps33
      go_wp2
      go_ret
      exact ⟨rfl, rfl⟩
    · have e2 : (s == 405) = false := by simpa using h2
      by_cases h3 : s = 410
      · subst h3
        go_enter Tryz.func33, Tryz.ntmps33
        go_wp2
        go_ret
        exact ⟨rfl, rfl⟩
      · have e3 : (s == 410) = false := by simpa using h3
        by_cases h4 : s = 414
        · subst h4
          go_enter Tryz.func33, Tryz.ntmps33
          go_wp2
          go_ret
          exact ⟨rfl, rfl⟩
        · have e4 : (s == 414) = false := by simpa using h4
          have HV := Lib.hid (show negB s = (s == 501) by unfold negB; by_cases h5 : s = 501 <;> simp [h1, h2, h3, h4, h5])
          clear h1 h2 h3 h4
          go_enter Tryz.func33, Tryz.ntmps33
          go_wp2
          go_ret
          exact ⟨retB HV.out.symm, rfl⟩
def codes7 : List Int := [200, 203, 204, 206, 300, 301, 308]
theorem codes7_at (w : World) : ∀ k c, codes7[k]? = some c → (w.alloc (.cells #[.int .i64 200, .int .i64 203, .int .i64 204, .int .i64 206, .int .i64 300, .int .i64 301, .int .i64 308] 3)).cell? ⟨w.heap.size, k, none⟩ = some (.int .i64 c) := by
  intro k c h
  rw [World.cell?_alloc_at _ _ _ _ rfl]
  have hk : k < 7 := (List.getElem?_eq_some_iff.mp h).1
  have : k = 0 ∨ k = 1 ∨ k = 2 ∨ k = 3 ∨ k = 4 ∨ k = 5 ∨ k = 6 := by omega
  rcases this with rfl | rfl | rfl | rfl | rfl | rfl | rfl <;> (simp only [codes7, List.getElem?_cons_zero, List.getElem?_cons_succ, Option.some.injEq] at h; subst h; rfl)
theorem codes7_cac (s : Int) (h : s ∈ codes7) : cacB s = true := by
  unfold codes7 at h
  simp only [List.mem_cons, List.not_mem_nil, or_false] at h
  unfold cacB
  rw [decide_eq_true h]; rfl
theorem codes7_neg (s : Int) (h : s ∉ codes7) : cacB s = negB s := by
  unfold codes7 at h
  simp only [List.mem_cons, List.not_mem_nil, or_false] at h
  unfold cacB
  rw [decide_eq_false h]; rfl
set_option maxHeartbeats 4000000 in
set_option maxRecDepth 100000 in
theorem refCacheable_any (s : Int) (w : World) :
    Calls Tryz.prog 18 #[.int .i64 s] w fun e w' => e = .returned (.bool (cacB s)) ∧ Below w.heap.size w w' := by
  have HN := Lib.hid (fun w => refNegative_any s w)
  have HC := Lib.hid (codes7_at w)
  have HB := Lib.hid (below_new w (.cells #[.int .i64 200, .int .i64 203, .int .i64 204, .int .i64 206, .int .i64 300, .int .i64 301, .int .i64 308] 3))
  have HL := Lib.hid (show w.heap.size < (w.alloc (.cells #[.int .i64 200, .int .i64 203, .int .i64 204, .int .i64 206, .int .i64 300, .int .i64 301, .int .i64 308] 3)).heap.size by simp)
  go_enter Tryz.func18, Tryz.ntmps18
  go_upto_region 2 with fail
  change Code.wp _ _ _ _ (w.alloc (.cells #[.int .i64 200, .int .i64 203, .int .i64 204, .int .i64 206, .int .i64 300, .int .i64 301, .int .i64 308] 3))
  generalize (w.alloc (.cells #[.int .i64 200, .int .i64 203, .int .i64 204, .int .i64 206, .int .i64 300, .int .i64 301, .int .i64 308] 3)) = W at *
  go_loopw [7] (fun i wr => wr = W ∧ ∃ k : Nat, i = .int .i64 k ∧ k ≤ 7 ∧ s ∉ codes7.take k) (fun i _ => 7 - (intOf i).toNat)
  case atStart => exact ⟨rfl, 0, rfl, Nat.zero_le _, by simp⟩
  case round =>
    obtain ⟨hwr, k, rfl, hk, hs⟩ := hrel
    subst hwr
    have HS := Lib.hid hs
    clear hs
    by_cases hlt : k < 7
    · obtain ⟨c, hc⟩ : ∃ c, codes7[k]? = some c := ⟨codes7[k]'(by simpa [codes7] using hlt), by simp⟩
      have hcell := HC.out k c hc
      have HK := Lib.hid hc
      clear hc
      by_cases he : c = s
      · subst he
        have HV := Lib.hid (codes7_cac c (List.mem_of_getElem? HK.out))
        have hcc : (c == c) = true := by simp
        go_wp2
        (try simp only [Exit.inBlock, Exit.then])
        go_ret
        exact ⟨retB HV.out.symm, HB.out⟩
      · have hb : (c == s) = false := by simpa using he
        have HE := Lib.hid he
        clear he
        go_wp2
        go_roundw
        case rel => exact ⟨by first | rfl | trivial, k + 1, by go_num, by omega, by rw [List.take_add_one, HK.out]; simp only [Option.toList_some, List.mem_append, List.mem_singleton, not_or]; exact ⟨HS.out, fun e => HE.out e.symm⟩⟩
        case measure => simp [intOf]; omega
    · have HV := Lib.hid (codes7_neg s (by have := HS.out; rwa [List.take_of_length_le (by simp [codes7]; omega)] at this))
      go_wp2_with fail
      refine (HN.out _).mono ?_
      rintro e w1 ⟨rfl, rfl⟩
      go_wp2_with fail
      go_ret
      exact ⟨retB HV.out.symm, HB.out⟩
set_option maxHeartbeats 4000000 in
set_option maxRecDepth 100000 in
theorem refDirectives_any (fv : Value) (ps : Flds) (w : World) (hr : ReadsQ w fv ps) (hf : FitL ps) :
    Calls Tryz.prog 30 #[fv] w fun e w' => e = .returned (dvV (parseD (allL ps nCC))) ∧ Below w.heap.size w w' := by
  have hlen := hf.len
  have hal := all_len ps nCC
  have hsm := all_small (n := nCC) hf.each
  have HA := Lib.hid (fun (w : World) (hr : ReadsQ w fv ps) => refAll_any fv ps nCC w hr (by decide) (by omega) hf.each6)
  have HP := Lib.hid (fun (v : Value) (w : World) (hr : ReadsS w v (allL ps nCC)) => refParse11_any v (allL ps nCC) w hr (by omega) hsm)
  have HR := Lib.hid hr
  have hN := dvB_new w zD 60
  have HN := Lib.hid hN
  have HB := Lib.hid (below_new w (.cells (dvC zD) 60))
  clear hr hf hN hal hsm hlen
  generalize parseD (allL ps nCC) = D at *
  go_enter Tryz.func30, Tryz.ntmps30
  go_upto_region 1 with fail
  change Code.wp _ _ _ _ (w.alloc (.cells (dvC zD) 60))
  generalize (w.alloc (.cells (dvC zD) 60)) = W at *
  go_wp2_with fail
  refine (HA.out _ (HR.out.below HB.out)).mono ?_
  rintro e w1 ⟨v, rfl, hO, hB1⟩
  have HB1 := Lib.hid (HB.out.trans (hB1.mono HB.out.size))
  have HN1 := Lib.hid (HN.out.below hB1)
  have HO := Lib.hid hO
  clear hO hB1
  go_wp2_with fail
  refine (HP.out _ _ HO.out.reads).mono ?_
  rintro e w2 ⟨rfl, hB2⟩
  have HB2 := Lib.hid (HB1.out.trans (hB2.mono HB1.out.size))
  obtain ⟨c0, c1, c2, c3, c4, c5, c6, c7, c8, c9, c10, c11, fr, lt⟩ := HN1.out.below hB2
  clear hB2
  go_wp2_with fail
  refine bodyPost_ret (v := dvV D) (by simp (maxDischargeDepth := 15) [results, Tryz.results30, go_sem, c0, c1, c2, c3, c4, c5, c6, c7, c8, c9, c10, c11]) rfl ?_
  exact ⟨rfl, below_dv HB2.out (Nat.le_refl _) _ _ _ _ _ _ _ _ _ _ _ _⟩
set_option maxHeartbeats 4000000 in
set_option maxRecDepth 100000 in
theorem lfRefDate_any (fv : Value) (ps : Flds) (n : List UInt8) (d : Option Nat) (w : World) (hr : ReadsQ w fv ps) (hf : FitL ps) (hn : n.length ≤ 100) (hd : DatF ps n d) :
    Calls Tryz.prog 31 #[fv, .string (strB n)] w fun e w' => ∃ x, e = .returned (.tuple #[x, .bool d.isSome]) ∧ (∀ k, d = some k → x = .int .i64 (k : Int)) ∧ Below w.heap.size w w' := by
  have HA := Lib.hid (refAll_any fv ps n w hr (by omega) (by have := hf.len; omega) hf.each6)
  have hsm := all_small (n := n) hf.each
  unfold DatF at hd
  have hll := all_len ps n
  have hlen := hf.len
  clear hr hf
  generalize allL ps n = ls at *
  by_cases h1 : ls.length = 1
  · obtain ⟨v, rfl, hv⟩ := oneIs_one hd h1
    have hvl := hsm v (List.mem_singleton.mpr rfl)
    have HP := Lib.hid (fun (w : World) => hRefParse_any v d hv w (by omega))
    clear h1 hd hsm hll
    go_enter Tryz.func31, Tryz.ntmps31
    go_wp2_with fail
    refine HA.out.mono ?_
    rintro e w1 ⟨x, rfl, hO, hB1⟩
    rcases hO.opens with ⟨_, hnil⟩ | ⟨g, cap, rfl, hcap, hg, hc⟩
    · cases hnil
    · have hc0 : w1.cell? ⟨g, 0, none⟩ = some (.string (strB v)) := hc 0 v rfl
      have hone : ([v] : List (List UInt8)).length = 1 := rfl
      rw [hone] at hcap ⊢
      clear hc hO hone
      go_wp2_with fail
      refine (HP.out _).mono ?_
      rintro e w2 ⟨x, rfl, hx, hB2⟩
      go_wp2_with fail
      go_ret2
      exact ⟨_, rfl, hx, hB1.trans (hB2.mono hB1.size)⟩
  · have hdn := oneIs_len hd h1
    subst hdn
    clear hd hsm
    go_enter Tryz.func31, Tryz.ntmps31
    go_wp2_with fail
    refine HA.out.mono ?_
    rintro e w1 ⟨x, rfl, hO, hB1⟩
    rcases hO.opens with ⟨rfl, rfl⟩ | ⟨g, cap, rfl, hcap, hg, hc⟩
    · go_wp2_with fail
      go_ret2
      exact ⟨_, rfl, fun k hk => by (first | cases hk | simp at hk), hB1⟩
    · have hb : ((ls.length : Int) != 1) = true := by simp; omega
      clear h1 hc
      go_wp2_with fail
      go_ret2
      exact ⟨_, rfl, fun k hk => by (first | cases hk | simp at hk), hB1⟩
end Go.Proofs.YtinbdflkpbjmcaaGreatDoor

/- What the reference's Of, Explicit, Allowance return. -/
namespace Go.Proofs.YtinbdflkpbjmcaaGreatDoor
open Go.RowKit

theorem of_sa {s : Int} {D : Dv} {x : Bool} {dd de dl : Option Nat} (h : 0 ≤ D.sa) : ofV s D x dd de dl = (1000 * D.sa, 1) := by
  unfold ofV expV; simp [h]
theorem of_ma {s : Int} {D : Dv} {x : Bool} {dd de dl : Option Nat} (h : ¬ 0 ≤ D.sa) (h2 : 0 ≤ D.ma) : ofV s D x dd de dl = (1000 * D.ma, 2) := by
  unfold ofV expV; simp [h, h2]
theorem of_exp {s : Int} {D : Dv} {dd de dl : Option Nat} (h : ¬ 0 ≤ D.sa) (h2 : ¬ 0 ≤ D.ma) : ofV s D true dd de dl = (betV dd de, 3) := by
  unfold ofV expV; simp [h, h2]
theorem of_non {s : Int} {D : Dv} {dd de dl : Option Nat} (h : ¬ 0 ≤ D.sa) (h2 : ¬ 0 ≤ D.ma) (h3 : cacB s = false) : ofV s D false dd de dl = (0, 5) := by
  unfold ofV expV; simp [h, h2, h3]
theorem of_heu {s : Int} {D : Dv} {dd de dl : Option Nat} (h : ¬ 0 ≤ D.sa) (h2 : ¬ 0 ≤ D.ma) (h3 : cacB s = true) : ofV s D false dd de dl = heuV s dl dd := by
  unfold ofV expV; simp [h, h2, h3]
theorem bet_lt {a b : Nat} (h : a < b) : betV (some a) (some b) = 1000 * ((b : Int) - (a : Int)) := by
  unfold betV; show 1000 * max _ _ = _; omega
theorem bet_ge {a b : Nat} (h : ¬ a < b) : betV (some a) (some b) = 0 := by
  unfold betV; show 1000 * max _ _ = _; omega
theorem heu_zero {s : Int} {dl dd : Option Nat} (h : betV dl dd = 0) : heuV s dl dd = (0, 5) := by unfold heuV; rw [if_pos h]
theorem heu_some {s : Int} {a b : Nat} (h : a < b) : heuV s (some a) (some b) = (min (if negB s = true then 10000 else 86400000) ((1000 * ((b : Int) - (a : Int))) / 10), 4) := by
  unfold heuV
  rw [bet_lt h, if_neg (by omega)]
  congr 1
  omega
theorem ret2_of {p q : Int × Int} (h : p = q) : Ending.returned (.tuple #[.int .i64 q.1, .int .i64 q.2]) = .returned (.tuple #[.int .i64 p.1, .int .i64 p.2]) := by rw [h]
set_option maxHeartbeats 8000000 in
set_option maxRecDepth 100000 in
theorem lfRefOf_any (s : Int) (fv : Value) (ps : Flds) (dd de dl : Option Nat) (w : World) (hr : ReadsQ w fv ps) (hf : FitL ps) (hd : DatF ps nDA dd) (he : DatF ps nEX de) (hl : DatF ps nLM dl) :
    Calls Tryz.prog 14 #[.int .i64 s, fv] w fun e w' => e = .returned (.tuple #[.int .i64 (ofV s (parseD (allL ps nCC)) (hasF ps nEX) dd de dl).1, .int .i64 (ofV s (parseD (allL ps nCC)) (hasF ps nEX) dd de dl).2]) ∧ Below w.heap.size w w' := by
  have hlen := hf.len
  have hal := all_len ps nEX
  have HP := Lib.hid (refDirectives_any fv ps w hr hf)
  have HD := Lib.hid (fun (w : World) (hr : ReadsQ w fv ps) => lfRefDate_any fv ps nDA dd w hr hf (by decide) hd)
  have HX := Lib.hid (fun (w : World) (hr : ReadsQ w fv ps) => lfRefDate_any fv ps nEX de w hr hf (by decide) he)
  have HL := Lib.hid (fun (w : World) (hr : ReadsQ w fv ps) => lfRefDate_any fv ps nLM dl w hr hf (by decide) hl)
  have HA := Lib.hid (fun (w : World) (hr : ReadsQ w fv ps) => refAll_any fv ps nEX w hr (by decide) (by omega) hf.each6)
  have HC := Lib.hid (fun w => refCacheable_any s w)
  have HN := Lib.hid (fun w => refNegative_any s w)
  have HR := Lib.hid hr
  have bd : ∀ k, dd = some k → k ≤ 253402300799 := fun k hk => by subst hk; exact oneIs_le hd
  have be : ∀ k, de = some k → k ≤ 253402300799 := fun k hk => by subst hk; exact oneIs_le he
  have bl : ∀ k, dl = some k → k ≤ 253402300799 := fun k hk => by subst hk; exact oneIs_le hl
  have hnor := nor_parse (allL ps nCC)
  have hsa := hnor.sa
  have hma := hnor.ma
  generalize parseD (allL ps nCC) = D at *
  have hx : hasF ps nEX = decide (0 < (allL ps nEX).length) := rfl
  have HXX := Lib.hid hx
  generalize hasF ps nEX = x at *
  have hlx : (allL ps nEX).length ≤ 10000 := by omega
  generalize allL ps nEX = ls at *
  clear hr hf hd he hl hnor hx hlen hal
  go_enter Tryz.func14, Tryz.ntmps14
  go_wp2_with fail
  refine HP.out.mono ?_
  rintro e w1 ⟨rfl, hB1⟩
  have HB1 := Lib.hid (hB1.alloc hB1.size (.cells (dvC D) 60))
  have HNN := Lib.hid (dvB_new w1 D 60)
  clear hB1
  go_upto_region 2 with fail
  change Code.wp _ _ _ _ (w1.alloc (.cells (dvC D) 60))
  generalize w1.heap.size = M at *
  generalize (w1.alloc (.cells (dvC D) 60)) = W3 at *
  obtain ⟨c0, c1, c2, c3, c4, c5, c6, c7, c8, c9, c10, c11, fr, lt⟩ := HNN.out
  clear c0 c1 c2 c3 c4 c5 c8 c9 c10 c11 HNN
  by_cases h1 : 0 ≤ D.sa
  · have HV := Lib.hid (of_sa (s := s) (D := D) (x := x) (dd := dd) (de := de) (dl := dl) h1)
    generalize D.sa = sa at *
    go_wp2_with fail
    go_ret2
    exact ⟨ret2_of HV.out, HB1.out⟩
  · by_cases h2 : 0 ≤ D.ma
    · have HV := Lib.hid (of_ma (s := s) (D := D) (x := x) (dd := dd) (de := de) (dl := dl) h1 h2)
      generalize D.ma = ma at *
      generalize D.sa = sa at *
      go_wp2_with fail
      go_ret2
      exact ⟨ret2_of HV.out, HB1.out⟩
    · have HV1 := Lib.hid (fun de => of_exp (s := s) (D := D) (dd := dd) (de := de) (dl := dl) h1 h2)
      have HV2 := Lib.hid (fun h3 => of_non (s := s) (D := D) (dd := dd) (de := de) (dl := dl) h1 h2 h3)
      have HV3 := Lib.hid (fun dd dl h3 => of_heu (s := s) (D := D) (dd := dd) (de := de) (dl := dl) h1 h2 h3)
      generalize D.ma = ma at *
      generalize D.sa = sa at *
      clear hsa hma
      go_wp2_with fail
      refine (HD.out _ (HR.out.below HB1.out)).mono ?_
      rintro e w2 ⟨z, rfl, hz, hB2⟩
      have HB2 := Lib.hid (HB1.out.trans (hB2.mono HB1.out.size))
      clear hB2
      go_wp2_with fail
      refine (HA.out _ (HR.out.below HB2.out)).mono ?_
      rintro e w3 ⟨v, rfl, hO, hB3⟩
      have HB3 := Lib.hid (HB2.out.trans (hB3.mono HB2.out.size))
      clear hB3
      cases hxx : x with
      | true =>
        subst hxx
        have hl0 : 0 < ls.length := of_decide_eq_true HXX.out.symm
        rcases hO.opens with ⟨_, rfl⟩ | ⟨g, cap, rfl, hcap, hg, hc⟩
        · simp at hl0
        · clear hO hc
          go_wp2_with fail
          refine (HX.out _ (HR.out.below HB3.out)).mono ?_
          rintro e w4 ⟨y, rfl, hy, hB4⟩
          have HB4 := Lib.hid (HB3.out.trans (hB4.mono HB3.out.size))
          clear hB4
          cases de with
          | none =>
            have HV := Lib.hid (HV1.out none)
            simp only [Option.isSome_none]
            go_wp2_with fail
            go_ret2
            exact ⟨ret2_of (q := (0, 3)) (HV.out.trans (by rw [bet_none])), HB4.out⟩
          | some b =>
            obtain rfl := hy b rfl
            have lb := be b rfl
            cases dd with
            | none =>
              have HV := Lib.hid (HV1.out (some b))
              simp only [Option.isSome_none, Option.isSome_some]
              go_wp2_with fail
              go_ret2
              exact ⟨ret2_of (q := (0, 3)) HV.out, HB4.out⟩
            | some a =>
              obtain rfl := hz a rfl
              have la := bd a rfl
              simp only [Option.isSome_some]
              by_cases hab : a < b
              · have HV := Lib.hid (HV1.out (some b))
                have HW := Lib.hid (bet_lt hab)
                have hg : (a : Int) < (b : Int) := by omega
                clear hab
                go_wp2_with fail
                go_ret2
                exact ⟨ret2_of (q := (1000 * ((b : Int) - (a : Int)), 3)) (HV.out.trans (by rw [HW.out])), HB4.out⟩
              · have HV := Lib.hid (HV1.out (some b))
                have HW := Lib.hid (bet_ge hab)
                have hg : ¬ (a : Int) < (b : Int) := by omega
                clear hab
                go_wp2_with fail
                go_ret2
                exact ⟨ret2_of (q := (0, 3)) (HV.out.trans (by rw [HW.out])), HB4.out⟩
      | false =>
        subst hxx
        have hl0 : ls.length = 0 := by have := of_decide_eq_false HXX.out.symm; omega
        have hls : ls = [] := List.length_eq_zero_iff.mp hl0
        subst hls
        rcases hO.opens with ⟨rfl, _⟩ | ⟨g, cap, rfl, hcap, hg, hc⟩
        all_goals
          (try rw [hl0])
          clear hO
          (try clear hc hcap)
          go_wp2_with fail
          refine (HL.out _ (HR.out.below HB3.out)).mono ?_
          rintro e w4 ⟨y, rfl, hy, hB4⟩
          have HB4 := Lib.hid (HB3.out.trans (hB4.mono HB3.out.size))
          clear hB4
          go_wp2_with fail
          refine (HC.out _).mono ?_
          rintro e w5 ⟨rfl, hB5⟩
          have HB5 := Lib.hid (HB4.out.trans (hB5.mono HB4.out.size))
          clear hB5
          cases hcc : cacB s with
          | false =>
            have HV := Lib.hid (HV2.out hcc)
            clear hcc
            go_wp2_with fail
            go_ret2
            exact ⟨ret2_of (q := (0, 5)) HV.out, HB5.out⟩
          | true =>
            have HV := Lib.hid (fun dd dl => HV3.out dd dl hcc)
            clear hcc
            cases dd with
            | none =>
              have HW := Lib.hid (HV.out none dl)
              simp only [Option.isSome_none]
              go_wp2_with fail
              go_ret2
              exact ⟨ret2_of (q := (0, 5)) (HW.out.trans (heu_zero (bet_none _))), HB5.out⟩
            | some a =>
              obtain rfl := hz a rfl
              have la := bd a rfl
              cases dl with
              | none =>
                have HW := Lib.hid (HV.out (some a) none)
                simp only [Option.isSome_none, Option.isSome_some]
                go_wp2_with fail
                go_ret2
                exact ⟨ret2_of (q := (0, 5)) (HW.out.trans (heu_zero rfl)), HB5.out⟩
              | some b =>
                obtain rfl := hy b rfl
                have lb := bl b rfl
                simp only [Option.isSome_some]
                have HW := Lib.hid (HV.out (some a) (some b))
                by_cases hab : b < a
                · have HU := Lib.hid (heu_some (s := s) hab)
                  have hg : (b : Int) < (a : Int) := by omega
                  have hq : (1000 * ((a : Int) - (b : Int))).tdiv 10 = (1000 * ((a : Int) - (b : Int))) / 10 := Int.tdiv_eq_ediv_of_nonneg (by omega)
                  clear hab
                  cases hn : negB s with
                  | true =>
                    rw [hn] at HN HU
                    go_wp2_with fail
                    refine (HN.out _).mono ?_
                    rintro e w6 ⟨rfl, rfl⟩
                    go_wp2_with fail
                    go_ret2
                    exact ⟨ret2_of (HW.out.trans HU.out), HB5.out⟩
                  | false =>
                    rw [hn] at HN HU
                    go_wp2_with fail
                    refine (HN.out _).mono ?_
                    rintro e w6 ⟨rfl, rfl⟩
                    go_wp2_with fail
                    go_ret2
                    exact ⟨ret2_of (HW.out.trans HU.out), HB5.out⟩
                · have hg : ¬ (b : Int) < (a : Int) := by omega
                  have HU := Lib.hid (heu_zero (s := s) (bet_ge hab))
                  clear hab
                  go_wp2_with fail
                  go_ret2
                  exact ⟨ret2_of (q := (0, 5)) (HW.out.trans HU.out), HB5.out⟩
theorem exp_of (D : Dv) (x : Bool) (dd de dl : Option Nat) : decide ((ofV 0 D x dd de dl).2 ≤ 3) = decide ((expV D x dd de).2 ≠ 5) := by
  have h0 : cacB 0 = false := by decide
  have : ofV 0 D x dd de dl = expV D x dd de := by unfold ofV; rw [if_neg (fun h => by rw [h0] at h; cases h.2)]
  rw [this]
  unfold expV
  split
  · rfl
  · split
    · rfl
    · split <;> rfl
set_option maxHeartbeats 4000000 in
set_option maxRecDepth 100000 in
theorem lfRefExplicit_any (fv : Value) (ps : Flds) (dd de dl : Option Nat) (w : World) (hr : ReadsQ w fv ps) (hf : FitL ps) (hd : DatF ps nDA dd) (he : DatF ps nEX de) (hl : DatF ps nLM dl) :
    Calls Tryz.prog 16 #[fv] w fun e w' => e = .returned (.bool (decide ((expV (parseD (allL ps nCC)) (hasF ps nEX) dd de).2 ≠ 5))) ∧ Below w.heap.size w w' := by
  have HX := Lib.hid (lfRefOf_any 0 fv ps dd de dl w hr hf hd he hl)
  rw [← exp_of _ _ _ _ dl]
  generalize ofV 0 (parseD (allL ps nCC)) (hasF ps nEX) dd de dl = Y at *
  obtain ⟨a, k⟩ := Y
  clear hr hf hd he hl
  go_enter Tryz.func16, Tryz.ntmps16
  go_wp2_with fail
  refine HX.out.mono ?_
  rintro e w1 ⟨rfl, hB1⟩
  go_wp2_with fail
  go_ret
  exact ⟨rfl, hB1⟩
set_option maxHeartbeats 4000000 in
set_option maxRecDepth 100000 in
theorem lfRefAllowance_any (fv : Value) (ps : Flds) (w : World) (hr : ReadsQ w fv ps) (hf : FitL ps) :
    Calls Tryz.prog 20 #[fv] w fun e w' => e = .returned (.tuple #[.int .i64 (allowV (parseD (allL ps nCC))).1, .int .i64 (allowV (parseD (allL ps nCC))).2]) ∧ Below w.heap.size w w' := by
  have HP := Lib.hid (refDirectives_any fv ps w hr hf)
  have hnor := nor_parse (allL ps nCC)
  generalize parseD (allL ps nCC) = D at *
  have HV := Lib.hid (show allowV D = if (D.mr || D.nc || decide (0 ≤ D.sa)) = true then (0, 0) else (1000 * max D.ws 0, 1000 * max D.oe 0) from rfl)
  generalize allowV D = Y at *
  clear hr hf
  have hws := hnor.ws
  have hoe := hnor.oe
  clear hnor
  go_enter Tryz.func20, Tryz.ntmps20
  go_wp2_with fail
  refine HP.out.mono ?_
  rintro e w1 ⟨rfl, hB1⟩
  have HB1 := Lib.hid (hB1.alloc hB1.size (.cells (dvC D) 60))
  have HN := Lib.hid (dvB_new w1 D 60)
  clear hB1
  go_upto_region 2 with fail
  change Code.wp _ _ _ _ (w1.alloc (.cells (dvC D) 60))
  generalize w1.heap.size = M at *
  generalize (w1.alloc (.cells (dvC D) 60)) = W3 at *
  obtain ⟨c0, c1, c2, c3, c4, c5, c6, c7, c8, c9, c10, c11, fr, lt⟩ := HN.out
  clear c0 c2 c3 c5 c6 c10 c11 HN
  cases hm : D.mr with
  | true =>
    rw [hm] at c4 HV
    have HV2 := HV.out
    rw [if_pos (by simp)] at HV2
    subst HV2
    clear HV hm
    go_wp2_with fail
    go_ret2
    exact ⟨rfl, HB1.out⟩
  | false =>
    rw [hm] at c4 HV
    cases hn : D.nc with
    | true =>
      rw [hn] at c1 HV
      have HV2 := HV.out
      rw [if_pos (by simp)] at HV2
      subst HV2
      clear HV hm hn
      go_wp2_with fail
      go_ret2
      exact ⟨rfl, HB1.out⟩
    | false =>
      rw [hn] at c1 HV
      generalize D.ws = ws at *
      generalize D.oe = oe at *
      by_cases hs : 0 ≤ D.sa
      · have HV2 := HV.out
        rw [if_pos (by simp [hs])] at HV2
        subst HV2
        clear HV hm hn
        generalize D.sa = sa at *
        go_wp2_with fail
        go_ret2
        exact ⟨rfl, HB1.out⟩
      · have HV2 := HV.out
        rw [if_neg (by simp [hs])] at HV2
        subst HV2
        clear HV hm hn
        generalize D.sa = sa at *
        have m1 : max 0 ws = max ws 0 := by omega
        have m2 : max 0 oe = max oe 0 := by omega
        go_wp2_with fail
        go_region
        all_goals
          go_wp2_with fail
          go_ret2
          first
            | exact ⟨ret2_of (q := (1000 * max 0 ws, 1000 * max 0 oe)) (by rw [m1, m2]), HB1.out.drew⟩
            | exact ⟨ret2_of (q := (1000 * max ws 0, 1000 * max oe 0)) rfl, HB1.out.drew⟩
end Go.Proofs.YtinbdflkpbjmcaaGreatDoor
