import Derived.Test.YtoiampkdmjpljaaGreatDoorPa6
import Derived.Test.YtoiampkdmjpljaaGreatDoorPa2
import Derived.Test.YtoiampkdmjpljaaGreatDoorPa31
import Derived.Test.YtoiampkdmjpljaaGreatDoorPa22
/- What the reference's Parts and List return: the same parts as the code's divide and List. -/
namespace Go.Proofs.YtoiampkdmjpljaaGreatDoor
open Go.RowKit

theorem refTrim_seg (s : ByteArray) (x k : Nat) (w : World) (hs : s.size ≤ 100000) :
    Calls Tryz.prog 114 #[.string (s.extract x k)] w fun e w' => e = .returned (strV (trimB ((s.data.toList.drop x).take (k - x)))) ∧ w = w' := by
  have h := refTrim_any ((s.data.toList.drop x).take (k - x)) w (by simp; omega)
  rw [← seg_list, strB_of] at h
  rwa [seg_list] at h

def PartsPost (s : ByteArray) (b : UInt8) (w : World) (e : Ending) (w' : World) : Prop :=
  Below w.heap.size w w' ∧
  match partsO b s.data.toList with
  | none => e = .returned (.tuple #[.slice none 0 0, .bool false])
  | some ls => ∃ v, e = .returned (.tuple #[v, .bool true]) ∧ OwnsS w.heap.size w' v ls ∧ ls.length ≤ 100002
theorem partsO_none {b : UInt8} {L : List UInt8} (h : scan b .out [] L = none) : partsO b L = none := by
  unfold partsO; rw [h]; split <;> rfl

set_option maxHeartbeats 2000000 in
set_option maxRecDepth 100000 in
theorem parts_any (s : ByteArray) (b : UInt8) (w : World) (hs : s.size ≤ 100000) :
    Calls Tryz.prog 89 #[.string s, .int .u8 (b.toNat : Int)] w fun e w' => PartsPost s b w e w' := by
  obtain ⟨i0, hi, hz0, hz1, hz2⟩ := info_parts Tryz.infoS
  go_enter Tryz.func89, Tryz.ntmps89
  go_wp2
  go_loopw [6, 7, 8, 9] (fun v st q i wr => DivRel s b w v q st i wr) (fun _ _ _ i _ => s.size - (intOf i).toNat)
  case atStart => exact DivRel0 s b w
  case round =>
    obtain ⟨acc, x, k, qb, rfl, rfl, rfl, hI, hown, hB⟩ := hrel
    have hL : s.data.toList.length = s.size := by simp
    have HI := Lib.hid hI
    have HL := Lib.hid hL
    have hxk : x ≤ k := hI.1
    have hxs : x ≤ s.size := by have := hI.2.1; omega
    have hal : acc.length ≤ k := hI.2.2.2.1
    have hBs := hB.size
    have hke : k ≤ s.size + 1 := by rcases hI.2.2.1 with h | h <;> omega
    clear hI hL
    by_cases hlt : k < s.size
    · by_cases h34 : s[k].toNat = 34
      · have h34a : 34 ≤ s[k].toNat := by omega
        have h34b : s[k].toNat ≤ 34 := by omega
        clear h34
        cases qb
        all_goals
          go_wp2
          go_roundw
          case rel => exact ⟨acc, x, k + 1, _, by go_num, rfl, rfl, HI.out.quote (by rw [HL.out]; omega) (nat_of_u8 (by show s[k].toNat = 34; omega)), hown, hB⟩
          case measure => simp [intOf]; omega
      · cases qb
        · by_cases hb : s[k].toNat = b.toNat
          · have hba : b.toNat ≤ s[k].toNat := by omega
            have hbb : s[k].toNat ≤ b.toNat := by omega
            clear hb
            go_wp2_with (first
              | (go_at_call 114; refine (refTrim_seg s x k _ hs).mono ?_; rintro e w1 ⟨rfl, rfl⟩)
              | (at_builtin; refine wpList_append_own _ rfl _ _ 35 rfl w.heap.size 9 i0 (.string ByteArray.empty) 1 16 Tryz.underlying35 hi hz0 hz1 hz2 rfl (by decide) _ _ _ rfl (World.ownsRow.alloc hown _) ⟨wr.heap.size, 0, none⟩ 1 1 [strV (trimB ((s.data.toList.drop x).take (k - x)))] rfl rfl (cell_one_new _ _ _) (fun u hu => by simp at hu; subst hu; rfl) (by unfold maxLen; simp; omega) (by simp; omega) (by simp; omega) ?_; intro v' w2 hown' hgrow _))
            all_goals
              go_roundw
              case rel => exact ⟨acc ++ [(s.data.toList.drop x).take (k - x)], k + 1, k + 1, _, by go_num, by go_num, rfl, HI.out.cut (by rw [HL.out]; omega) (nat_of_u8 (by show s[k].toNat = b.toNat; omega)) (fun h => h34 (congrArg UInt8.toNat h)), by rw [List.map_append]; exact OwnsS.snoc hown', below_append hB hBs (Below.refl _ _) hown hgrow⟩
              case measure => simp [intOf]; omega
          · go_wp2
            all_goals
              go_roundw
              case rel => exact ⟨acc, x, k + 1, _, by go_num, rfl, rfl, HI.out.other (by rw [HL.out]; omega) (fun h => h34 (congrArg UInt8.toNat h)) (fun h => by cases h) (fun _ h => hb (congrArg UInt8.toNat h)), hown, hB⟩
              case measure => simp [intOf]; omega
        · by_cases h92 : s[k].toNat = 92
          · have h92a : 92 ≤ s[k].toNat := by omega
            have h92b : s[k].toNat ≤ 92 := by omega
            have hI2 := HI.out.escape (by rw [HL.out]; omega) (nat_of_u8 (by show s[k].toNat = 92; omega))
            have HI2 := Lib.hid hI2
            clear h92 h34 hI2
            by_cases hend : k + 1 = s.size
            · have hend1 : ((k : Int) + 1 == (s.size : Int)) = true := by simp; omega
              have HE := Lib.hid hend
              clear hend
              go_wp2
              go_ret2
              exact ⟨hB, by rw [partsO_none (HI2.out.open' (by rw [HL.out]; have := HE.out; omega))]; rfl⟩
            · have hend1 : ((k : Int) + 1 == (s.size : Int)) = false := by simp; omega
              go_wp2
              go_roundw
              case rel => exact ⟨acc, x, k + 2, _, by go_num, rfl, rfl, HI2.out, hown, hB⟩
              case measure => simp [intOf]; omega
          · go_wp2
            all_goals
              go_roundw
              case rel => exact ⟨acc, x, k + 1, _, by go_num, rfl, rfl, HI.out.other (by rw [HL.out]; omega) (fun h => h34 (congrArg UInt8.toNat h)) (fun _ h => h92 (congrArg UInt8.toNat h)) (fun h => by cases h), hown, hB⟩
              case measure => simp [intOf]; omega
    · cases qb
      · by_cases hc : ctlS s.data.toList = true
        · go_wp2_with (go_at_call 115; refine (refControl_any _ _ (by unfold maxLen; omega)).mono ?_; rintro e w' ⟨rfl, rfl⟩)
          go_ret2
          exact ⟨hB, by simp [partsO, hc]⟩
        · have hc' : ctlS s.data.toList = false := by simpa using hc
          go_wp2_with (first
            | (go_at_call 115; refine (refControl_any _ _ (by unfold maxLen; omega)).mono ?_; rintro e w' ⟨rfl, rfl⟩)
            | (go_at_call 114; refine (refTrim_seg s x s.size _ hs).mono ?_; rintro e w1 ⟨rfl, rfl⟩)
            | (at_builtin; refine wpList_append_own _ rfl _ _ 35 rfl w.heap.size 9 i0 (.string ByteArray.empty) 1 16 Tryz.underlying35 hi hz0 hz1 hz2 rfl (by decide) _ _ _ rfl (World.ownsRow.alloc hown _) ⟨wr.heap.size, 0, none⟩ 1 1 [strV (trimB ((s.data.toList.drop x).take (s.size - x)))] rfl rfl (cell_one_new _ _ _) (fun u hu => by simp at hu; subst hu; rfl) (by unfold maxLen; simp; omega) (by simp; omega) (by simp; omega) ?_; intro v' w2 hown' hgrow _))
          go_ret2
          refine ⟨below_append hB hBs (Below.refl _ _) hown hgrow, ?_⟩
          have hp : partsO b s.data.toList = some ((acc ++ [s.data.toList.drop x]).map trimB) := by
            simp [partsO, hc', HI.out.done (by rw [HL.out]; omega)]
          rw [hp]
          refine ⟨v', rfl, ?_, by simp; omega⟩
          rw [List.map_append]
          rw [List.take_of_length_le (by simp)] at hown'
          exact OwnsS.snoc hown'
      · go_wp2
        go_ret2
        exact ⟨hB, by rw [partsO_none (HI.out.open' (by rw [HL.out]; omega))]; rfl⟩
end Go.Proofs.YtoiampkdmjpljaaGreatDoor

/- What the reference's List returns: the same parts as the code's List. -/
namespace Go.Proofs.YtoiampkdmjpljaaGreatDoor
open Go.RowKit

def RefListPost (s : ByteArray) (w : World) (e : Ending) (w' : World) : Prop :=
  Below w.heap.size w w' ∧
  match listO s.data.toList with
  | none => e = .returned (.tuple #[.slice none 0 0, .bool false])
  | some ls => ∃ v, e = .returned (.tuple #[v, .bool true]) ∧ OwnsS w.heap.size w' v ls ∧ ls.length ≤ 100002

set_option maxHeartbeats 2000000 in
set_option maxRecDepth 100000 in
theorem refList_any (s : ByteArray) (w : World) (hs : s.size ≤ 100000) :
    Calls Tryz.prog 62 #[.string s] w fun e w' => RefListPost s w e w' := by
  obtain ⟨i0, hi, hz0, hz1, hz2⟩ := info_parts Tryz.infoS
  have D := parts_any s 44 w hs
  cases hp : partsO 44 s.data.toList with
  | none =>
    go_enter Tryz.func62, Tryz.ntmps62
    go_wp2_with (go_at_call 89; refine D.mono ?_; rintro e w1 ⟨hB, he⟩; rw [hp] at he; subst he)
    refine wp_loop_rounds 1 ?_
    rw [rounds_succ]
    go_wp2
    go_ret2
    exact ⟨hB, by simp [listO, hp]⟩
  | some ls =>
    go_enter Tryz.func62, Tryz.ntmps62
    go_wp2_with (go_at_call 89; refine D.mono ?_; rintro e w1 ⟨hB, he⟩; rw [hp] at he; obtain ⟨v, rfl, hv, hle⟩ := he; have hsz := hB.size; rcases hv.open' with ⟨rfl, rfl⟩ | ⟨g, cap, rfl, hBg, hgs, hcells⟩)
    · go_loopw [6, 15] (fun u i wr => ListRel [] w1 u i wr) (fun _ i _ => 0 - (intOf i).toNat)
      case atStart => exact ListRel0 [] w1
      case round =>
        obtain ⟨k, rfl, hk, hu, hBw⟩ := hrel
        obtain rfl : k = 0 := by simpa using hk
        go_wp2
        go_ret2
        have hlo : listO s.data.toList = some (fil []) := by unfold listO; rw [hp]; rfl
        refine ⟨hB.trans (hBw.mono hsz), ?_⟩
        rw [hlo]
        exact ⟨_, rfl, OwnsS.mono hsz hu, by simp [fil]⟩
    · have Hcells := Lib.hid hcells
      have HP := Lib.hid hp
      clear hcells hp D
      go_loopw [6, 15] (fun u i wr => ListRel ls w1 u i wr) (fun _ i _ => ls.length - (intOf i).toNat)
      case atStart => exact ListRel0 ls w1
      case round =>
        obtain ⟨k, rfl, hk, hu, hBw⟩ := hrel
        have hwz := hBw.size
        have hfl := fil_le ls k
        by_cases hlt : k < ls.length
        · obtain ⟨l, hl⟩ : ∃ l, ls[k]? = some l := ⟨ls[k], by simp [hlt]⟩
          have hcell : wr.cell? ⟨g, k, none⟩ = some (.string (strB l)) := (hBw.cell (p := ⟨g, k, none⟩) hgs).trans (Hcells.out k l hl)
          have HL := Lib.hid hl
          clear hl
          by_cases he : l = []
          · have he1 := empty_yes he
            have HE := Lib.hid he
            clear he
            go_wp2
            go_roundw
            case rel => exact ⟨k + 1, by go_num, by omega, by rw [fil_drop HL.out HE.out]; exact hu, hBw⟩
            case measure => simp [intOf]; omega
          · have he1 := empty_no he
            go_wp2_with (at_builtin; refine wpList_append_own _ rfl _ _ 35 rfl w1.heap.size 9 i0 (.string ByteArray.empty) 1 16 Tryz.underlying35 hi hz0 hz1 hz2 rfl (by decide) _ _ _ rfl (World.ownsRow.alloc hu _) ⟨wr.heap.size, 0, none⟩ 1 1 [strV l] rfl rfl (cell_one_new _ _ _) (fun u hu => by simp at hu; subst hu; rfl) (by unfold maxLen; omega) (by omega) (by simp; omega) ?_; intro v' w2 hown' hgrow _)
            go_roundw
            case rel => exact ⟨k + 1, by go_num, by omega, by rw [fil_keep HL.out he]; exact OwnsS.snoc hown', below_append hBw hwz (Below.refl _ _) hu hgrow⟩
            case measure => simp [intOf]; omega
        · go_wp2
          go_ret2
          have hk' : fil (ls.take k) = fil ls := by rw [List.take_of_length_le (by omega)]
          rw [hk'] at hu
          have hlo : listO s.data.toList = some (fil ls) := by unfold listO; rw [HP.out]; rfl
          refine ⟨hB.trans (hBw.mono hsz), ?_⟩
          rw [hlo]
          exact ⟨_, rfl, OwnsS.mono hsz hu, by rw [hk'] at hfl; omega⟩
end Go.Proofs.YtoiampkdmjpljaaGreatDoor

/- What the reference's Parse returns: the directives of the values. -/
namespace Go.Proofs.YtoiampkdmjpljaaGreatDoor
open Go.RowKit

theorem only_dv {N : Nat} {w w1 : World} (h : Only (· = N) w w1) (v0 v1 v2 v3 v4 v5 v6 v7 v8 v9 v10 v11 : Value) : Only (· = N) w (((((((((((((w1).setCell ⟨N, 0, none⟩ v0).setCell ⟨N, 1, none⟩ v1).setCell ⟨N, 2, none⟩ v2).setCell ⟨N, 3, none⟩ v3).setCell ⟨N, 4, none⟩ v4).setCell ⟨N, 5, none⟩ v5).setCell ⟨N, 6, none⟩ v6).setCell ⟨N, 7, none⟩ v7).setCell ⟨N, 8, none⟩ v8).setCell ⟨N, 9, none⟩ v9).setCell ⟨N, 10, none⟩ v10).setCell ⟨N, 11, none⟩ v11) :=
  ((((((((((((h).trans' (Only.set (X := (· = N)) rfl _ 0 v0)).trans' (Only.set (X := (· = N)) rfl _ 1 v1)).trans' (Only.set (X := (· = N)) rfl _ 2 v2)).trans' (Only.set (X := (· = N)) rfl _ 3 v3)).trans' (Only.set (X := (· = N)) rfl _ 4 v4)).trans' (Only.set (X := (· = N)) rfl _ 5 v5)).trans' (Only.set (X := (· = N)) rfl _ 6 v6)).trans' (Only.set (X := (· = N)) rfl _ 7 v7)).trans' (Only.set (X := (· = N)) rfl _ 8 v8)).trans' (Only.set (X := (· = N)) rfl _ 9 v9)).trans' (Only.set (X := (· = N)) rfl _ 10 v10)).trans' (Only.set (X := (· = N)) rfl _ 11 v11)
set_option maxHeartbeats 2000000 in
set_option maxRecDepth 100000 in
theorem refNone_any (w : World) : Calls Tryz.prog 86 #[] w fun e w' => e = .returned (dvV noneD) ∧ Below w.heap.size w w' := by
  have HB := Lib.hid (below_new w (.cells (dvC zD) 64))
  have hD := dvB_new w zD 64
  go_enter Tryz.func86, Tryz.ntmps86
  go_upto_region 1 with fail
  change Code.wp _ _ _ _ (w.alloc (.cells (dvC zD) 64))
  generalize (w.alloc (.cells (dvC zD) 64)) = W at *
  obtain ⟨c0, c1, c2, c3, c4, c5, c6, c7, c8, c9, c10, c11, fr, lt⟩ := hD
  go_wp2_with fail
  refine bodyPost_ret (v := .agg #[.bool false, .bool false, .bool false, .bool false, .bool false, .bool false, .int .i64 (-1), .int .i64 (-1), .int .i64 (-1), .int .i64 (-1), .int .i64 (-1), .int .i64 (-1)]) (by simp [results, Tryz.results86, go_sem, c0, c1, c2, c3, c4, c5, c6, c7, c8, c9, c10, c11]) rfl ?_
  exact ⟨rfl, below_dv HB.out (Nat.le_refl _) _ _ _ _ _ _ _ _ _ _ _ _⟩
set_option maxHeartbeats 8000000 in
set_option maxRecDepth 100000 in
theorem refParse11_any (vv : Value) (vs : List (List UInt8)) (w : World) (hr : ReadsS w vv vs) (hl : vs.length ≤ 1000000) (hb : ∀ v ∈ vs, v.length ≤ 100000) :
    Calls Tryz.prog 59 #[vv] w fun e w' => e = .returned (dvV (parseD vs)) ∧ Below w.heap.size w w' := by
  obtain ⟨ao, cap, rfl, hc0⟩ := hr
  have HC := Lib.hid hc0
  have HV := Lib.hid hb
  have HP := Lib.hid (show parseD vs = vs.foldl valD noneD from rfl)
  have HW0 := Lib.hid (below_new w (.cells (dvC zD) 64))
  have HZ0 := Lib.hid (dvB_new w zD 64)
  have hz0 : (w.alloc (.cells (dvC zD) 64)).heap.size = w.heap.size + 1 := by simp
  clear hb hc0
  go_enter Tryz.func59, Tryz.ntmps59
  go_upto_region 1 with fail
  change Code.wp _ _ _ _ (w.alloc (.cells (dvC zD) 64))
  generalize w.alloc (.cells (dvC zD) 64) = W0 at *
  go_wp2_with fail
  refine (refNone_any _).mono ?_
  rintro e w1 ⟨rfl, hB1⟩
  have HW1 := Lib.hid (HW0.out.trans (hB1.mono HW0.out.size))
  have HZ1 := Lib.hid (HZ0.out.below hB1)
  have hs1 := hB1.size
  rw [hz0] at hs1
  have HNd := Lib.hid (dvB_new w1 noneD 64)
  have HB := Lib.hid (HW1.out.alloc HW1.out.size (.cells (dvC noneD) 64))
  have HZd := Lib.hid (HZ1.out.below (below_new w1 (.cells (dvC noneD) 64)))
  have hsz : (w1.alloc (.cells (dvC noneD) 64)).heap.size = w1.heap.size + 1 := by simp
  have hnv : dvV noneD = .agg #[.bool false, .bool false, .bool false, .bool false, .bool false, .bool false, .int .i64 (-1), .int .i64 (-1), .int .i64 (-1), .int .i64 (-1), .int .i64 (-1), .int .i64 (-1)] := rfl
  rw [hnv]
  clear hB1 HW0 HZ0 hnv
  go_upto_region 2 with fail
  change Code.wp _ _ _ _ (w1.alloc (.cells (dvC noneD) 64))
  generalize w1.alloc (.cells (dvC noneD) 64) = W1 at *
  go_wp2_with fail
  go_loopw [13] (fun i wr => PrRel w1.heap.size vs W1 i wr) (fun i _ => vs.length - (intOf i).toNat)
  case atStart => exact ⟨0, rfl, Nat.zero_le _, HNd.out, Only.refl _ _⟩
  case round =>
    obtain ⟨k, rfl, hk, hD, hOn⟩ := hrel
    have HD := Lib.hid hD
    have HOn := Lib.hid hOn
    have hsr := hOn.size
    have HBR := Lib.hid (HB.out.trans (only_n hOn (show w.heap.size ≤ w1.heap.size by omega) HB.out.size))
    clear hD hOn
    by_cases hlt : k < vs.length
    · obtain ⟨l, hl'⟩ : ∃ l, vs[k]? = some l := ⟨vs[k], by simp [hlt]⟩
      obtain ⟨g, off, rfl, hgs, hcl⟩ := HC.out k l hl'
      have hcell : wr.cell? ⟨g, off + k, none⟩ = some (.string (strB l)) := (HBR.out.cell (p := ⟨g, off + k, none⟩) hgs).trans hcl
      have hll := HV.out l (List.mem_of_getElem? hl')
      have HT := Lib.hid (fold_take valD noneD hl')
      have hlz : (strB l).size = l.length := strB_size l
      clear hl' hcl
      go_wp2_with fail
      refine (refList_any (strB l) _ (by omega)).mono ?_
      rintro e w4 ⟨hB4, hcase⟩
      rw [strB_list] at hcase
      have hs4 := hB4.size
      cases hlo : listO l with
      | none =>
        rw [hlo] at hcase
        subst hcase
        have HE := Lib.hid (show valD ((vs.take k).foldl valD noneD) l = { (vs.take k).foldl valD noneD with ns := true } by unfold valD; rw [hlo])
        have HD4 := Lib.hid (HD.out.below hB4)
        have HO4 := Lib.hid (HOn.out.trans' (Only.below hB4))
        clear hB4 hlo
        obtain ⟨c0, _, _, _, _, _, _, _, _, _, _, _, fr, lt⟩ := HD4.out
        have f0 := fr 0
        clear fr
        go_wp2_with fail
        go_roundw
        case rel => exact ⟨k + 1, by go_num, by omega, by rw [HT.out, HE.out]; exact HD4.out.set0 true, HO4.out.trans' (Only.set (X := (· = w1.heap.size)) rfl _ 0 _)⟩
        case measure => simp [intOf]; omega
      | some ls =>
        rw [hlo] at hcase
        obtain ⟨u, rfl, hOu, hlsn⟩ := hcase
        have HE := Lib.hid (show valD ((vs.take k).foldl valD noneD) l = ls.foldl elemD ((vs.take k).foldl valD noneD) by unfold valD; rw [hlo])
        have HLL := Lib.hid (list_len hlo)
        have HD4 := Lib.hid (HD.out.below hB4)
        have HO4 := Lib.hid (HOn.out.trans' (Only.below hB4))
        have hNs := HD.out.lt
        have hou : ∃ bo cap, u = .slice bo ls.length cap ∧ ∀ j l, ls[j]? = some l → ∃ g, bo = some ⟨g, 0, none⟩ ∧ g ≠ w1.heap.size ∧ g < w4.heap.size ∧ w4.cell? ⟨g, j, none⟩ = some (.string (strB l)) := by
          rcases hOu.open' with ⟨rfl, rfl⟩ | ⟨g, cap, rfl, hg1, hg2, hc⟩
          · exact ⟨none, 0, rfl, fun j l h => by simp at h⟩
          · exact ⟨_, cap, rfl, fun j l h => ⟨g, rfl, by omega, hg2, hc j l h⟩⟩
        obtain ⟨bo, cap2, rfl, hcu⟩ := hou
        have HCu := Lib.hid hcu
        have HNor := Lib.hid (show Nor ((vs.take k).foldl valD noneD) from nor_vals _ nor_none)
        clear hcu hOu hB4 hlo hcell
        generalize (vs.take k).foldl valD noneD = D at *
        go_wp2_with fail
        go_loopw [27] (fun i wr => ElRel w1.heap.size D ls w4 i wr) (fun i _ => ls.length - (intOf i).toNat)
        case atStart => exact ⟨0, rfl, Nat.zero_le _, HD4.out, Only.refl _ _⟩
        case round =>
          obtain ⟨j, rfl, hj, hDj, hOj⟩ := hrel
          have HDj := Lib.hid hDj
          have HOj := Lib.hid hOj
          have hsj := hOj.size
          clear hDj hOj
          by_cases hjt : j < ls.length
          · obtain ⟨q, hq⟩ : ∃ q, ls[j]? = some q := ⟨ls[j], by simp [hjt]⟩
            obtain ⟨g2, rfl, hg2N, hg2s, hcq⟩ := HCu.out j q hq
            have hcell : wr.cell? ⟨g2, j, none⟩ = some (.string (strB q)) := (HOj.out.cell (p := ⟨g2, j, none⟩) hg2s (by show ¬ g2 = _; exact hg2N)).trans hcq
            have hql := HLL.out q (List.mem_of_getElem? hq)
            have HQ := Lib.hid (fold_take elemD D hq)
            have HNj := Lib.hid (show Nor ((ls.take j).foldl elemD D) from nor_fold _ HNor.out)
            clear hq hcq
            generalize (ls.take j).foldl elemD D = E at *
            obtain ⟨a0, a1, a2, a3, a4, a5, a6, a7, a8, a9, a10, a11, fa, la⟩ := HDj.out
            go_wp2_with fail
            refine (with_any E q _ HNj.out (by omega)).mono ?_
            rintro e w6 ⟨rfl, hB6⟩
            have hD6 := HDj.out.below hB6
            have HD6 := Lib.hid (hD6.set (elemD E q))
            have HO6 := Lib.hid (only_dv (HOj.out.trans' (Only.below hB6)) (.bool (elemD E q).ns) (.bool (elemD E q).nc) (.bool (elemD E q).pr) (.bool (elemD E q).pu) (.bool (elemD E q).mr) (.bool (elemD E q).oc) (.int .i64 (elemD E q).ma) (.int .i64 (elemD E q).sa) (.int .i64 (elemD E q).ws) (.int .i64 (elemD E q).oe) (.int .i64 (elemD E q).ms) (.int .i64 (elemD E q).mf))
            obtain ⟨b0, b1, b2, b3, b4, b5, b6, b7, b8, b9, b10, b11, fb, lb⟩ := hD6
            clear hB6 a0 a1 a2 a3 a4 a5 a6 a7 a8 a9 a10 a11 fa la

            generalize elemD E q = E2 at *
            go_wp2_with fail
            go_roundw
            case rel => exact ⟨j + 1, by go_num, by omega, by rw [HQ.out]; exact HD6.out, HO6.out⟩
            case measure => simp [intOf]; omega
          · have htk : ls.take j = ls := List.take_of_length_le (by omega)
            have HDD := Lib.hid (show DvB w1.heap.size wr (ls.foldl elemD D) by rw [← htk]; exact HDj.out)
            clear htk HDj
            go_wp2_with fail
            go_roundw
            case rel => exact ⟨k + 1, by go_num, by omega, by rw [HT.out, HE.out]; exact HDD.out, HO4.out.trans' HOj.out⟩
            case measure => simp [intOf]; omega
    · have htk : vs.take k = vs := List.take_of_length_le (by omega)
      have hDD : DvB w1.heap.size wr (vs.foldl valD noneD) := by rw [← htk]; exact HD.out
      have HZr := HZd.out.only HOn.out (by omega)
      have HBF := Lib.hid (below_dv HBR.out (Nat.le_refl _))
      clear htk HD
      generalize vs.foldl valD noneD = D at *
      obtain ⟨a0, a1, a2, a3, a4, a5, a6, a7, a8, a9, a10, a11, fa, la⟩ := hDD
      obtain ⟨c0, c1, c2, c3, c4, c5, c6, c7, c8, c9, c10, c11, fr, lt⟩ := HZr
      go_wp2_with fail
      refine bodyPost_ret (v := dvV D) (by simp [results, Tryz.results59, go_sem, c0, c1, c2, c3, c4, c5, c6, c7, c8, c9, c10, c11]) rfl ?_
      exact ⟨by rw [HP.out], HBF.out _ _ _ _ _ _ _ _ _ _ _ _⟩
end Go.Proofs.YtoiampkdmjpljaaGreatDoor
