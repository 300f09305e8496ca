import Derived.Test.YtieolalohindgaaGreatDoorPa18
import Derived.Test.YtieolalohindgaaGreatDoorPa6
/- What Parse returns: the directives of the values with the name cache-control. -/
namespace Go.Proofs.YtieolalohindgaaGreatDoor
open Go.RowKit

theorem list_len {v : List UInt8} {ls : List (List UInt8)} (h : listO v = some ls) : ∀ e ∈ ls, e.length ≤ v.length := by
  unfold listO at h
  cases hp : partsO 44 v with
  | none => rw [hp] at h; cases h
  | some ps =>
    rw [hp] at h
    simp only [Option.map_some, Option.some.injEq] at h
    subst h
    intro e he
    exact partsO_len hp e (List.mem_filter.mp he).1
theorem fold_take {α β : Type} (f : β → α → β) (b : β) {l : List α} {k : Nat} {x : α} (h : l[k]? = some x) : (l.take (k + 1)).foldl f b = f ((l.take k).foldl f b) x := by
  rw [List.take_add_one, h, List.foldl_append]; rfl
/-- The outer loop: the values before k are read. -/
def PrRel (N : Nat) (vs : List (List UInt8)) (w : World) (i : Value) (wr : World) : Prop :=
  ∃ k : Nat, i = .int .i64 k ∧ k ≤ vs.length ∧ DvB N wr ((vs.take k).foldl valD noneD) ∧ Only (· = N) w wr
/-- The inner loop: the elements before k are read. -/
def ElRel (N : Nat) (d : Dv) (ls : List (List UInt8)) (w : World) (i : Value) (wr : World) : Prop :=
  ∃ k : Nat, i = .int .i64 k ∧ k ≤ ls.length ∧ DvB N wr ((ls.take k).foldl elemD d) ∧ Only (· = N) w wr
theorem only_n {N B : Nat} {w w' : World} (h : Only (· = N) w w') (hN : B ≤ N) (hB : B ≤ w.heap.size) : Below B w w' := h.to (fun k hk => by omega) hB
set_option maxHeartbeats 8000000 in
set_option maxRecDepth 100000 in
theorem parse11_any (fv : Value) (ps : Flds) (w : World) (hr : ReadsQ w fv ps) (hl : ps.length ≤ 1000000) (hb : ∀ p ∈ ps, p.1.length + p.2.length ≤ 100000) (hM : MaxIs w) :
    Calls Tryz.prog 28 #[fv] w fun e w' => e = .returned (dvV (parseD (allL ps nCC))) ∧ Below w.heap.size w w' := by
  have hvl : ∀ v ∈ allL ps nCC, v.length ≤ 100000 := fun v hv => by
    obtain ⟨p, hp, rfl⟩ := List.mem_map.mp hv
    have := hb p (List.mem_filter.mp hp).1
    omega
  have hvn := all_len ps nCC
  have HV := Lib.hid hvl
  have HM := Lib.hid hM
  have HAll := Lib.hid (fun (w : World) (hr : ReadsQ w fv ps) => all_any fv ps ⟨#[99, 97, 99, 104, 101, 45, 99, 111, 110, 116, 114, 111, 108]⟩ w hr (by decide) hl (fun p hp => by have := hb p hp; omega))
  have HP := Lib.hid (show parseD (allL ps nCC) = (allL ps nCC).foldl valD noneD from rfl)
  have HAL := Lib.hid (show (⟨#[99, 97, 99, 104, 101, 45, 99, 111, 110, 116, 114, 111, 108]⟩ : ByteArray).data.toList = nCC from rfl)
  rw [HAL.out] at HAll
  have HR := Lib.hid hr
  have hW0 := below_new w (.cells (dvC zD) 40)
  have HW0 := Lib.hid hW0
  have HZ0 := Lib.hid (dvB_new w zD 40)
  have hz0 : (w.alloc (.cells (dvC zD) 40)).heap.size = w.heap.size + 1 := by simp
  clear hvl hM hr hb hW0 HAL
  generalize allL ps nCC = vs at *
  go_enter Tryz.func28, Tryz.ntmps28
  go_upto_region 1 with fail
  change Code.wp _ _ _ _ (w.alloc (.cells (dvC zD) 40))
  generalize w.alloc (.cells (dvC zD) 40) = W0 at *
  go_wp2_with fail
  refine (none_any _).mono ?_
  rintro e w1 ⟨rfl, hB1⟩
  have HW1 := Lib.hid (HW0.out.trans (hB1.mono HW0.out.size))
  have HZ1 := Lib.hid (HZ0.out.below hB1)
  have hs1 := hB1.size
  rw [hz0] at hs1
  have HNS := Lib.hid (dvB_new w1 noneD 40)
  have HBS := Lib.hid (HW1.out.alloc HW1.out.size (.cells (dvC noneD) 40))
  have HZS := Lib.hid (HZ1.out.below (below_new w1 (.cells (dvC noneD) 40)))
  have hsz : (w1.alloc (.cells (dvC noneD) 40)).heap.size = w1.heap.size + 1 := by simp
  have hnv : dvV noneD = .agg #[.bool false, .bool false, .bool false, .bool false, .bool false, .bool false, .int .i64 (-1), .int .i64 (-1), .int .i64 (-1), .int .i64 (-1), .int .i64 (-1), .int .i64 (-1)] := rfl
  rw [hnv]
  clear hB1 HW0 HZ0 hnv
  go_upto_region 2 with fail
  change Code.wp _ _ _ _ (w1.alloc (.cells (dvC noneD) 40))
  generalize w1.alloc (.cells (dvC noneD) 40) = W1 at *
  go_wp2_with fail
  refine (HAll.out _ (HR.out.below HBS.out)).mono ?_
  rintro e w2 ⟨v, rfl, hO, hB2⟩
  have HNd := Lib.hid (HNS.out.below hB2)
  have HZd := Lib.hid (HZS.out.below hB2)
  have HB := Lib.hid (HBS.out.trans (hB2.mono HBS.out.size))
  have hs2 := hB2.size
  rw [hsz] at hs2
  have hop : ∃ ao cap, v = .slice ao vs.length cap ∧ ∀ j l, vs[j]? = some l → ∃ g, ao = some ⟨g, 0, none⟩ ∧ g ≠ w1.heap.size ∧ g < w2.heap.size ∧ w2.cell? ⟨g, j, none⟩ = some (.string (strB l)) := by
    rcases hO.open' with ⟨rfl, rfl⟩ | ⟨g, cap, rfl, hg1, hg2, hc⟩
    · exact ⟨none, 0, rfl, fun j l h => by simp at h⟩
    · exact ⟨_, cap, rfl, fun j l h => ⟨g, rfl, by omega, hg2, hc j l h⟩⟩
  obtain ⟨ao, cap, rfl, hc⟩ := hop
  have HC := Lib.hid hc
  clear hc hO hB2 HNS HZS HBS HAll HR HW1 HZ1
  go_wp2_with fail
  go_loopw [14] (fun i wr => PrRel w1.heap.size vs w2 i wr) (fun i _ => vs.length - (intOf i).toNat)
  case atStart => exact ⟨0, rfl, Nat.zero_le _, HNd.out, Only.refl _ _⟩
  case round =>
    obtain ⟨k, rfl, hk, hD, hOn⟩ := hrel
    have HD := Lib.hid hD
    have HOn := Lib.hid hOn
    have hsr := hOn.size
    clear hD hOn
    by_cases hlt : k < vs.length
    · obtain ⟨l, hl'⟩ : ∃ l, vs[k]? = some l := ⟨vs[k], by simp [hlt]⟩
      obtain ⟨g, rfl, hgN, hgs, hcl⟩ := HC.out k l hl'
      have hcell : wr.cell? ⟨g, k, none⟩ = some (.string (strB l)) := (HOn.out.cell (p := ⟨g, k, none⟩) hgs (by show ¬ g = _; exact hgN)).trans hcl
      have hll := HV.out l (List.mem_of_getElem? hl')
      have HT := Lib.hid (fold_take valD noneD hl')
      have hlz : (strB l).size = l.length := strB_size l
      clear hl' hcl
      go_wp2_with fail
      refine (list_any (strB l) _ (by omega)).mono ?_
      rintro e w4 ⟨hB4, hcase⟩
      rw [strB_list] at hcase
      have hs4 := hB4.size
      cases hlo : listO l with
      | none =>
        rw [hlo] at hcase
        subst hcase
        have HE := Lib.hid (show valD ((vs.take k).foldl valD noneD) l = { (vs.take k).foldl valD noneD with ns := true } by unfold valD; rw [hlo])
        have HD4 := Lib.hid (HD.out.below hB4)
        have HO4 := Lib.hid (HOn.out.trans' (Only.below hB4))
        clear hB4 hlo
        obtain ⟨c0, _, _, _, _, _, _, _, _, _, _, _, fr, lt⟩ := HD4.out
        have f0 := fr 0
        clear fr
        go_wp2_with fail
        refine wp_loop_rounds 1 ?_
        rw [rounds_succ]
        go_wp2_with fail
        go_roundw
        case rel => exact ⟨k + 1, by go_num, by omega, by rw [HT.out, HE.out]; exact HD4.out.set0 true, HO4.out.trans' (Only.set (X := (· = w1.heap.size)) rfl _ 0 _)⟩
        case measure => simp [intOf]; omega
      | some ls =>
        rw [hlo] at hcase
        obtain ⟨u, rfl, hOu, hlsn⟩ := hcase
        have HE := Lib.hid (show valD ((vs.take k).foldl valD noneD) l = ls.foldl elemD ((vs.take k).foldl valD noneD) by unfold valD; rw [hlo])
        have HLL := Lib.hid (list_len hlo)
        have HD4 := Lib.hid (HD.out.below hB4)
        have HO4 := Lib.hid (HOn.out.trans' (Only.below hB4))
        have hNs := HD.out.lt
        have hou : ∃ bo cap, u = .slice bo ls.length cap ∧ ∀ j l, ls[j]? = some l → ∃ g, bo = some ⟨g, 0, none⟩ ∧ g ≠ w1.heap.size ∧ g < w4.heap.size ∧ w4.cell? ⟨g, j, none⟩ = some (.string (strB l)) := by
          rcases hOu.open' with ⟨rfl, rfl⟩ | ⟨g, cap, rfl, hg1, hg2, hc⟩
          · exact ⟨none, 0, rfl, fun j l h => by simp at h⟩
          · exact ⟨_, cap, rfl, fun j l h => ⟨g, rfl, by omega, hg2, hc j l h⟩⟩
        obtain ⟨bo, cap2, rfl, hcu⟩ := hou
        have HCu := Lib.hid hcu
        have HNor := Lib.hid (show Nor ((vs.take k).foldl valD noneD) from nor_vals _ nor_none)
        clear hcu hOu hB4 hlo hcell
        generalize (vs.take k).foldl valD noneD = D at *
        go_wp2_with fail
        go_loopw [28] (fun i wr => ElRel w1.heap.size D ls w4 i wr) (fun i _ => ls.length - (intOf i).toNat)
        case atStart => exact ⟨0, rfl, Nat.zero_le _, HD4.out, Only.refl _ _⟩
        case round =>
          obtain ⟨j, rfl, hj, hDj, hOj⟩ := hrel
          have HDj := Lib.hid hDj
          have HOj := Lib.hid hOj
          have hsj := hOj.size
          clear hDj hOj
          by_cases hjt : j < ls.length
          · obtain ⟨q, hq⟩ : ∃ q, ls[j]? = some q := ⟨ls[j], by simp [hjt]⟩
            obtain ⟨g2, rfl, hg2N, hg2s, hcq⟩ := HCu.out j q hq
            have hcell : wr.cell? ⟨g2, j, none⟩ = some (.string (strB q)) := (HOj.out.cell (p := ⟨g2, j, none⟩) hg2s (by show ¬ g2 = _; exact hg2N)).trans hcq
            have hql := HLL.out q (List.mem_of_getElem? hq)
            have HQ := Lib.hid (fold_take elemD D hq)
            have HMj := Lib.hid (HM.out.below (HB.out.trans (only_n ((HO4.out.trans' HOj.out)) (by omega) HB.out.size)))
            have HNj := Lib.hid (show Nor ((ls.take j).foldl elemD D) from nor_fold _ HNor.out)
            clear hq hcq
            go_wp2_with fail
            refine (addD_any w1.heap.size _ q _ HDj.out HNj.out HMj.out (by omega)).mono ?_
            rintro e w6 ⟨rfl, hD6, hO6⟩
            have HD6 := Lib.hid hD6
            have HO6 := Lib.hid (HOj.out.trans' hO6)
            clear hD6 hO6
            go_wp2_with fail
            go_roundw
            case rel => exact ⟨j + 1, by go_num, by omega, by rw [HQ.out]; exact HD6.out, HO6.out⟩
            case measure => simp [intOf]; omega
          · have htk : ls.take j = ls := List.take_of_length_le (by omega)
            have HDD := Lib.hid (show DvB w1.heap.size wr (ls.foldl elemD D) by rw [← htk]; exact HDj.out)
            clear htk HDj
            go_wp2_with fail
            go_roundw
            case rel => exact ⟨k + 1, by go_num, by omega, by rw [HT.out, HE.out]; exact HDD.out, HO4.out.trans' HOj.out⟩
            case measure => simp [intOf]; omega
    · have htk : vs.take k = vs := List.take_of_length_le (by omega)
      have hDD : DvB w1.heap.size wr (vs.foldl valD noneD) := by rw [← htk]; exact HD.out
      have HZr := HZd.out.only HOn.out (by omega)
      have hBf := below_dv (HB.out.trans (only_n HOn.out (show w.heap.size ≤ w1.heap.size by omega) HB.out.size)) (Nat.le_refl _)
      have HBF := Lib.hid hBf
      clear htk hBf HD

      generalize vs.foldl valD noneD = D at *
      obtain ⟨a0, a1, a2, a3, a4, a5, a6, a7, a8, a9, a10, a11, fa, la⟩ := hDD
      obtain ⟨c0, c1, c2, c3, c4, c5, c6, c7, c8, c9, c10, c11, fr, lt⟩ := HZr
      go_wp2_with fail
      refine bodyPost_ret (v := dvV D) (by simp [results, Tryz.results28, go_sem, c0, c1, c2, c3, c4, c5, c6, c7, c8, c9, c10, c11]) rfl ?_
      exact ⟨by rw [HP.out], HBF.out _ _ _ _ _ _ _ _ _ _ _ _⟩
end Go.Proofs.YtieolalohindgaaGreatDoor

/- What the program's sole.Value returns. -/
namespace Go.Proofs.YtieolalohindgaaGreatDoor
open Go.RowKit

set_option maxHeartbeats 2000000 in
set_option maxRecDepth 100000 in
theorem sole_any (fv : Value) (ps : Flds) (n : ByteArray) (w : World) (hr : ReadsQ w fv ps) (hn : n.size ≤ 1000000000) (hl : ps.length ≤ 1000000) (hb : ∀ p ∈ ps, p.1.length + p.2.length ≤ 1000000) :
    Calls Tryz.prog 108 #[fv, .string n] w fun e w' => e = .returned (.tuple #[.string (strB (oneL (allL ps n.data.toList)).1), .bool (oneL (allL ps n.data.toList)).2]) ∧ Below w.heap.size w w' := by
  have HA := Lib.hid (all_any fv ps n w hr hn hl hb)
  have hll := all_len ps n.data.toList
  clear hr hb
  generalize allL ps n.data.toList = ls at *
  rcases ls with _ | ⟨v, _ | ⟨b, r⟩⟩
  · go_enter Tryz.func108, Tryz.ntmps108
    go_wp2_with fail
    refine HA.out.mono ?_
    rintro e w1 ⟨x, rfl, hO, hB1⟩
    rcases hO.open' with ⟨rfl, hz⟩ | ⟨g, cap, rfl, _, hg, hc⟩
    · go_wp2_with fail
      go_ret2
      exact ⟨rfl, hB1⟩
    · clear hc hO
      go_wp2_with fail
      go_ret2
      exact ⟨rfl, hB1⟩
  · go_enter Tryz.func108, Tryz.ntmps108
    go_wp2_with fail
    refine HA.out.mono ?_
    rintro e w1 ⟨x, rfl, hO, hB1⟩
    rcases hO.open' with ⟨rfl, hz⟩ | ⟨g, cap, rfl, _, hg, hc⟩
    · cases hz
    · have hc0 : w1.cell? ⟨g, 0, none⟩ = some (.string (strB v)) := hc 0 v rfl
      have hone : ([v] : List (List UInt8)).length = 1 := rfl
      rw [hone]
      clear hc hO hone
      go_wp2_with fail
      go_ret2
      exact ⟨rfl, hB1⟩
  · have hb : (((v :: b :: r).length : Int) != 1) = true := by simp; omega
    have hv : (oneL (v :: b :: r)) = ([], false) := rfl
    rw [hv]
    clear hv
    have HA2 : Calls Tryz.prog 51 #[fv, .string n] w fun e w' => ∃ g cap, e = .returned (.slice (some ⟨g, 0, none⟩) (v :: b :: r).length cap) ∧ Below w.heap.size w w' := by
      refine HA.out.mono ?_
      rintro e w1 ⟨x, rfl, hO, hB1⟩
      rcases hO.open' with ⟨rfl, hz⟩ | ⟨g, cap, rfl, _, hg, hc⟩
      · cases hz
      · exact ⟨g, cap, rfl, hB1⟩
    have HA3 := Lib.hid HA2
    clear HA HA2
    generalize (v :: b :: r).length = m at *
    go_enter Tryz.func108, Tryz.ntmps108
    go_wp2_with fail
    refine HA3.out.mono ?_
    rintro e w1 ⟨g, cap, rfl, hB1⟩
    go_wp2_with fail
    go_ret2
    exact ⟨rfl, hB1⟩
end Go.Proofs.YtieolalohindgaaGreatDoor

/- What the code's Size returns, for every list of fields. -/
namespace Go.Proofs.YtieolalohindgaaGreatDoor
open Go.RowKit

end Go.Proofs.YtieolalohindgaaGreatDoor
