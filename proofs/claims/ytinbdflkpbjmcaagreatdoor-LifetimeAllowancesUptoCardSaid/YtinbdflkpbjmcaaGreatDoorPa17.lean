import Derived.Test.YtinbdflkpbjmcaaGreatDoorPa4
import Derived.Test.YtinbdflkpbjmcaaGreatDoorPa13
import Derived.Test.YtinbdflkpbjmcaaGreatDoorPa2
import Derived.Test.YtinbdflkpbjmcaaGreatDoorPa16
/- What lowerName, All and Size return, for every list of fields. -/
namespace Go.Proofs.YtinbdflkpbjmcaaGreatDoor
open Go.RowKit

theorem toList_same {a b : List UInt8} (h : a = b) : ((strB a).toList == (strB b).toList) = true := by subst h; exact beq_self_eq_true _
theorem toList_other {a b : List UInt8} (h : a ≠ b) : ((strB a).toList == (strB b).toList) = false := by
  rw [ByteArray.toList_eq, ByteArray.toList_eq]
  simpa [strB] using h
theorem new_pair (w : World) (a b : Value) (T : TypeId) : (w.alloc (.cells #[a, b] T)).cell? ⟨w.heap.size, 0, none⟩ = some a ∧ (w.alloc (.cells #[a, b] T)).cell? ⟨w.heap.size, 1, none⟩ = some b := by
  constructor <;> rw [World.cell?_alloc_at _ _ _ _ rfl] <;> rfl
/-- Both cells of a new variable of two strings, behind a call that leaves what was there. -/
theorem pair_kept {w w' : World} {a b : Value} {T : TypeId} (h : Below (w.alloc (.cells #[a, b] T)).heap.size (w.alloc (.cells #[a, b] T)) w') :
    w'.cell? ⟨w.heap.size, 0, none⟩ = some a ∧ w'.cell? ⟨w.heap.size, 1, none⟩ = some b := by
  have hs : w.heap.size < (w.alloc (.cells #[a, b] T)).heap.size := by simp
  exact ⟨(h.cell (p := ⟨w.heap.size, 0, none⟩) hs).trans (new_pair w a b T).1, (h.cell (p := ⟨w.heap.size, 1, none⟩) hs).trans (new_pair w a b T).2⟩
theorem below_pair {B : Nat} {w0 w w' : World} {a b : Value} {T : TypeId} (hB : Below B w0 w) (hBs : B ≤ w.heap.size) (h : Below (w.alloc (.cells #[a, b] T)).heap.size (w.alloc (.cells #[a, b] T)) w') : Below B w0 w' :=
  (hB.alloc hBs _).trans (h.mono (by simp; omega))
theorem below_pair' {w w' : World} {a b : Value} {T : TypeId} (h : Below (w.alloc (.cells #[a, b] T)).heap.size (w.alloc (.cells #[a, b] T)) w') : Below w.heap.size w w' := below_pair (Below.refl _ _) (Nat.le_refl _) h

set_option maxHeartbeats 400000 in
set_option maxRecDepth 100000 in
theorem lowerName_any (a b : List UInt8) (w : World) (ha : a.length ≤ 1000000000) :
    Calls Tryz.prog 51 #[.agg #[.string (strB a), .string (strB b)]] w fun e w' => e = .returned (.string (strB (lowS a))) ∧ Below w.heap.size w w' := by
  have hz : (strB a).size ≤ 1000000000 := by rw [strB_size]; exact ha
  go_enter Tryz.func51, Tryz.ntmps51
  go_wp2_with fail
  refine (lower_any (strB a) _ hz).mono ?_
  rintro e w1 ⟨rfl, hB⟩
  rw [strB_list]
  go_wp2_with fail
  go_ret
  exact ⟨rfl, below_pair' hB⟩

def AllRel (ps : Flds) (n : List UInt8) (w : World) (v i : Value) (wr : World) : Prop :=
  ∃ k : Nat, i = .int .i64 k ∧ k ≤ ps.length ∧ OwnsS w.heap.size wr v (allL (ps.take k) n) ∧ Below w.heap.size w wr

set_option maxHeartbeats 2000000 in
set_option maxRecDepth 100000 in
theorem all_any (fv : Value) (ps : Flds) (n : ByteArray) (w : World) (hr : ReadsQ w fv ps) (hn : n.size ≤ 1000000000) (hl : ps.length ≤ 1000000) (hb : ∀ p ∈ ps, p.1.length + p.2.length ≤ 1000000) :
    Calls Tryz.prog 57 #[fv, .string n] w fun e w' => ∃ v, e = .returned v ∧ OwnsS w.heap.size w' v (allL ps n.data.toList) ∧ Below w.heap.size w w' := by
  obtain ⟨i0, hi, hz0, hz1, hz2⟩ := info_parts Tryz.infoS
  obtain ⟨ao, cap, rfl, hc⟩ := hr
  have HC := Lib.hid hc
  have HBig := Lib.hid hb
  clear hc hb
  go_enter Tryz.func57, Tryz.ntmps57
  go_wp2_with fail
  refine (lower_any n _ hn).mono ?_
  rintro e w1 ⟨rfl, hB⟩
  have hz1' := hB.size
  go_wp2_with fail
  go_loopw [5, 12] (fun v i wr => AllRel ps n.data.toList w1 v i wr) (fun _ i _ => ps.length - (intOf i).toNat)
  case atStart => exact ⟨0, rfl, Nat.zero_le _, World.ownsRow_nil _ _ _ _, Below.refl _ _⟩
  case round =>
    obtain ⟨k, rfl, hk, hO, hBr⟩ := hrel
    have hbr := hBr.size
    have hal := all_le ps n.data.toList k
    by_cases hlt : k < ps.length
    · obtain ⟨p, hp⟩ : ∃ p, ps[k]? = some p := ⟨ps[k], by simp [hlt]⟩
      obtain ⟨g, off, rfl, hg1, h1, h2⟩ := HC.out k p hp
      have hc1 : wr.cell? ⟨g, off + k * 2, none⟩ = some (.string (strB p.1)) := (hBr.cell (p := ⟨g, off + k * 2, none⟩) (by show g < _; omega)).trans ((hB.cell (p := ⟨g, off + k * 2, none⟩) hg1).trans h1)
      have hc2 : wr.cell? ⟨g, off + k * 2 + 1, none⟩ = some (.string (strB p.2)) := (hBr.cell (p := ⟨g, off + k * 2 + 1, none⟩) (by show g < _; omega)).trans ((hB.cell (p := ⟨g, off + k * 2 + 1, none⟩) hg1).trans h2)
      have hpl := HBig.out p (List.mem_of_getElem? hp)
      have HP := Lib.hid hp
      clear hp h1 h2
      cases ho : ofN n.data.toList p with
      | true =>
        have heq := toList_same (of_decide_eq_true ho)
        have HO := Lib.hid ho
        clear ho
        go_wp2_with fail
        refine (lowerName_any p.1 p.2 _ (by omega)).mono ?_
        rintro e w2 ⟨rfl, hB2⟩
        have hpk := pair_kept hB2
        have hd1 := hpk.2
        have hB2' := below_pair' hB2
        have hs2 := hB2'.size
        clear hpk hB2
        go_wp2_with (at_builtin; refine wpList_append_own _ rfl _ _ 50 rfl w1.heap.size 9 i0 (.string ByteArray.empty) 1 16 Tryz.underlying50 hi hz0 hz1 hz2 rfl (by decide) _ _ _ rfl ((OwnsS.below hO hB2').alloc _) ⟨w2.heap.size, 0, none⟩ 1 1 [strV p.2] rfl rfl (cell_one_new _ _ _) (fun u hu => by simp at hu; subst hu; rfl) (by unfold maxLen; omega) (by omega) (by simp; omega) ?_; intro v' w3 hown' hgrow _)
        go_roundw
        case rel => exact ⟨k + 1, by go_num, by omega, by rw [all_yes HP.out HO.out]; exact OwnsS.snoc hown', below_append hBr hbr hB2' hO hgrow⟩
        case measure => simp [intOf]; omega
      | false =>
        have heq := toList_other (of_decide_eq_false ho)
        have HO := Lib.hid ho
        clear ho
        go_wp2_with fail
        refine (lowerName_any p.1 p.2 _ (by omega)).mono ?_
        rintro e w2 ⟨rfl, hB2⟩
        have hB2' := below_pair' hB2
        have hs2 := hB2'.size
        clear hB2
        go_wp2_with fail
        go_roundw
        case rel => exact ⟨k + 1, by go_num, by omega, by rw [all_no HP.out HO.out]; exact OwnsS.below hO hB2', hBr.trans (hB2'.mono hbr)⟩
        case measure => simp [intOf]; omega
    · have htk : ps.take k = ps := List.take_of_length_le (by omega)
      rw [htk] at hO
      go_wp2_with fail
      go_ret
      exact ⟨_, rfl, OwnsS.mono hz1' hO, hB.trans (hBr.mono hz1')⟩
end Go.Proofs.YtinbdflkpbjmcaaGreatDoor

/- Plain mathematics: how many parts there are, and how long they are. -/
namespace Go.Proofs.YtinbdflkpbjmcaaGreatDoor
open Go.RowKit

theorem scan_ne (b : UInt8) : ∀ (l : List UInt8) (st : St) (cur : List UInt8) (ps : List (List UInt8)), scan b st cur l = some ps → ps ≠ [] := by
  intro l
  induction l with
  | nil =>
    intro st cur ps h
    cases st <;> simp [scan] at h
    rw [← h]; simp
  | cons c r ih =>
    intro st cur ps h
    cases st
    · unfold scan at h
      split at h
      · exact ih _ _ _ h
      · split at h
        · cases hr : scan b .out [] r with
          | none => rw [hr] at h; cases h
          | some qs => rw [hr] at h; simp at h; rw [← h]; simp
        · exact ih _ _ _ h
    · unfold scan at h
      split at h
      · exact ih _ _ _ h
      · split at h
        · exact ih _ _ _ h
        · exact ih _ _ _ h
    · unfold scan at h; exact ih _ _ _ h
theorem scan_len (b : UInt8) : ∀ (l : List UInt8) (st : St) (cur : List UInt8) (ps : List (List UInt8)), scan b st cur l = some ps → ∀ p ∈ ps, p.length ≤ cur.length + l.length := by
  intro l
  induction l with
  | nil =>
    intro st cur ps h p hp
    cases st <;> simp [scan] at h
    subst h; simp at hp; subst hp; simp
  | cons c r ih =>
    intro st cur ps h p hp
    cases st
    · unfold scan at h
      split at h
      · have := ih _ _ _ h p hp; simp at this ⊢; omega
      · split at h
        · cases hr : scan b .out [] r with
          | none => rw [hr] at h; cases h
          | some qs =>
            rw [hr] at h; simp at h; subst h
            rcases List.mem_cons.mp hp with e | e
            · subst e; simp
            · have := ih _ _ _ hr p e; simp at this ⊢; omega
        · have := ih _ _ _ h p hp; simp at this ⊢; omega
    · unfold scan at h
      split at h
      · have := ih _ _ _ h p hp; simp at this ⊢; omega
      · split at h
        · have := ih _ _ _ h p hp; simp at this ⊢; omega
        · have := ih _ _ _ h p hp; simp at this ⊢; omega
    · unfold scan at h; have := ih _ _ _ h p hp; simp at this ⊢; omega
theorem trimB_len (l : List UInt8) : (trimB l).length ≤ l.length := by
  rw [trimB_eq]
  have h1 : (tL l).length ≤ l.length := (List.dropWhile_sublist _).length_le
  have h2 : (tR (tL l)).length ≤ (tL l).length := by
    unfold tR; rw [List.length_reverse]
    have := (List.dropWhile_sublist (p := blank) (l := (tL l).reverse)).length_le
    simpa using this
  omega
theorem partsO_ne {b : UInt8} {l : List UInt8} {ls : List (List UInt8)} (h : partsO b l = some ls) : ls ≠ [] := by
  unfold partsO at h
  split at h
  · cases h
  · cases hs : scan b .out [] l with
    | none => rw [hs] at h; cases h
    | some ps =>
      rw [hs] at h; simp at h; subst h
      have := scan_ne b l _ _ _ hs
      simpa using this
theorem partsO_len {b : UInt8} {l : List UInt8} {ls : List (List UInt8)} (h : partsO b l = some ls) : ∀ p ∈ ls, p.length ≤ l.length := by
  unfold partsO at h
  split at h
  · cases h
  · cases hs : scan b .out [] l with
    | none => rw [hs] at h; cases h
    | some ps =>
      rw [hs] at h; simp at h; subst h
      intro p hp
      obtain ⟨q, hq, rfl⟩ := List.mem_map.mp hp
      have h1 := scan_len b l _ _ _ hs q hq
      have h2 := trimB_len q
      simp at h1; omega
end Go.Proofs.YtinbdflkpbjmcaaGreatDoor

/- What Parse returns: the directives of the values with the name cache-control. -/
namespace Go.Proofs.YtinbdflkpbjmcaaGreatDoor
open Go.RowKit

theorem list_len {v : List UInt8} {ls : List (List UInt8)} (h : listO v = some ls) : ∀ e ∈ ls, e.length ≤ v.length := by
  unfold listO at h
  cases hp : partsO 44 v with
  | none => rw [hp] at h; cases h
  | some ps =>
    rw [hp] at h
    simp only [Option.map_some, Option.some.injEq] at h
    subst h
    intro e he
    exact partsO_len hp e (List.mem_filter.mp he).1
theorem fold_take {α β : Type} (f : β → α → β) (b : β) {l : List α} {k : Nat} {x : α} (h : l[k]? = some x) : (l.take (k + 1)).foldl f b = f ((l.take k).foldl f b) x := by
  rw [List.take_add_one, h, List.foldl_append]; rfl
/-- The outer loop: the values before k are read. -/
def PrRel (N : Nat) (vs : List (List UInt8)) (w : World) (i : Value) (wr : World) : Prop :=
  ∃ k : Nat, i = .int .i64 k ∧ k ≤ vs.length ∧ DvB N wr ((vs.take k).foldl valD noneD) ∧ Only (· = N) w wr
/-- The inner loop: the elements before k are read. -/
def ElRel (N : Nat) (d : Dv) (ls : List (List UInt8)) (w : World) (i : Value) (wr : World) : Prop :=
  ∃ k : Nat, i = .int .i64 k ∧ k ≤ ls.length ∧ DvB N wr ((ls.take k).foldl elemD d) ∧ Only (· = N) w wr
theorem only_n {N B : Nat} {w w' : World} (h : Only (· = N) w w') (hN : B ≤ N) (hB : B ≤ w.heap.size) : Below B w w' := h.to (fun k hk => by omega) hB
set_option maxHeartbeats 8000000 in
set_option maxRecDepth 100000 in
theorem parse11_any (fv : Value) (ps : Flds) (w : World) (hr : ReadsQ w fv ps) (hl : ps.length ≤ 1000000) (hb : ∀ p ∈ ps, p.1.length + p.2.length ≤ 100000) (hM : MaxIs w) :
    Calls Tryz.prog 35 #[fv] w fun e w' => e = .returned (dvV (parseD (allL ps nCC))) ∧ Below w.heap.size w w' := by
  have hvl : ∀ v ∈ allL ps nCC, v.length ≤ 100000 := fun v hv => by
    obtain ⟨p, hp, rfl⟩ := List.mem_map.mp hv
    have := hb p (List.mem_filter.mp hp).1
    omega
  have hvn := all_len ps nCC
  have HV := Lib.hid hvl
  have HM := Lib.hid hM
  have HAll := Lib.hid (fun (w : World) (hr : ReadsQ w fv ps) => all_any fv ps ⟨#[99, 97, 99, 104, 101, 45, 99, 111, 110, 116, 114, 111, 108]⟩ w hr (by decide) hl (fun p hp => by have := hb p hp; omega))
  have HP := Lib.hid (show parseD (allL ps nCC) = (allL ps nCC).foldl valD noneD from rfl)
  have HAL := Lib.hid (show (⟨#[99, 97, 99, 104, 101, 45, 99, 111, 110, 116, 114, 111, 108]⟩ : ByteArray).data.toList = nCC from rfl)
  rw [HAL.out] at HAll
  have HR := Lib.hid hr
  have hW0 := below_new w (.cells (dvC zD) 45)
  have HW0 := Lib.hid hW0
  have HZ0 := Lib.hid (dvB_new w zD 45)
  have hz0 : (w.alloc (.cells (dvC zD) 45)).heap.size = w.heap.size + 1 := by simp
  clear hvl hM hr hb hW0 HAL
  generalize allL ps nCC = vs at *
  go_enter Tryz.func35, Tryz.ntmps35
  go_upto_region 1 with fail
  change Code.wp _ _ _ _ (w.alloc (.cells (dvC zD) 45))
  generalize w.alloc (.cells (dvC zD) 45) = W0 at *
  go_wp2_with fail
  refine (none_any _).mono ?_
  rintro e w1 ⟨rfl, hB1⟩
  have HW1 := Lib.hid (HW0.out.trans (hB1.mono HW0.out.size))
  have HZ1 := Lib.hid (HZ0.out.below hB1)
  have hs1 := hB1.size
  rw [hz0] at hs1
  have HNS := Lib.hid (dvB_new w1 noneD 45)
  have HBS := Lib.hid (HW1.out.alloc HW1.out.size (.cells (dvC noneD) 45))
  have HZS := Lib.hid (HZ1.out.below (below_new w1 (.cells (dvC noneD) 45)))
  have hsz : (w1.alloc (.cells (dvC noneD) 45)).heap.size = w1.heap.size + 1 := by simp
  have hnv : dvV noneD = .agg #[.bool false, .bool false, .bool false, .bool false, .bool false, .bool false, .int .i64 (-1), .int .i64 (-1), .int .i64 (-1), .int .i64 (-1), .int .i64 (-1), .int .i64 (-1)] := rfl
  rw [hnv]
  clear hB1 HW0 HZ0 hnv
  go_upto_region 2 with fail
  change Code.wp _ _ _ _ (w1.alloc (.cells (dvC noneD) 45))
  generalize w1.alloc (.cells (dvC noneD) 45) = W1 at *
  go_wp2_with fail
  refine (HAll.out _ (HR.out.below HBS.out)).mono ?_
  rintro e w2 ⟨v, rfl, hO, hB2⟩
  have HNd := Lib.hid (HNS.out.below hB2)
  have HZd := Lib.hid (HZS.out.below hB2)
  have HB := Lib.hid (HBS.out.trans (hB2.mono HBS.out.size))
  have hs2 := hB2.size
  rw [hsz] at hs2
  have hop : ∃ ao cap, v = .slice ao vs.length cap ∧ ∀ j l, vs[j]? = some l → ∃ g, ao = some ⟨g, 0, none⟩ ∧ g ≠ w1.heap.size ∧ g < w2.heap.size ∧ w2.cell? ⟨g, j, none⟩ = some (.string (strB l)) := by
    rcases hO.open' with ⟨rfl, rfl⟩ | ⟨g, cap, rfl, hg1, hg2, hc⟩
    · exact ⟨none, 0, rfl, fun j l h => by simp at h⟩
    · exact ⟨_, cap, rfl, fun j l h => ⟨g, rfl, by omega, hg2, hc j l h⟩⟩
  obtain ⟨ao, cap, rfl, hc⟩ := hop
  have HC := Lib.hid hc
  clear hc hO hB2 HNS HZS HBS HAll HR HW1 HZ1
  go_wp2_with fail
  go_loopw [14] (fun i wr => PrRel w1.heap.size vs w2 i wr) (fun i _ => vs.length - (intOf i).toNat)
  case atStart => exact ⟨0, rfl, Nat.zero_le _, HNd.out, Only.refl _ _⟩
  case round =>
    obtain ⟨k, rfl, hk, hD, hOn⟩ := hrel
    have HD := Lib.hid hD
    have HOn := Lib.hid hOn
    have hsr := hOn.size
    clear hD hOn
    by_cases hlt : k < vs.length
    · obtain ⟨l, hl'⟩ : ∃ l, vs[k]? = some l := ⟨vs[k], by simp [hlt]⟩
      obtain ⟨g, rfl, hgN, hgs, hcl⟩ := HC.out k l hl'
      have hcell : wr.cell? ⟨g, k, none⟩ = some (.string (strB l)) := (HOn.out.cell (p := ⟨g, k, none⟩) hgs (by show ¬ g = _; exact hgN)).trans hcl
      have hll := HV.out l (List.mem_of_getElem? hl')
      have HT := Lib.hid (fold_take valD noneD hl')
      have hlz : (strB l).size = l.length := strB_size l
      clear hl' hcl
      go_wp2_with fail
      refine (list_any (strB l) _ (by omega)).mono ?_
      rintro e w4 ⟨hB4, hcase⟩
      rw [strB_list] at hcase
      have hs4 := hB4.size
      cases hlo : listO l with
      | none =>
        rw [hlo] at hcase
        subst hcase
        have HE := Lib.hid (show valD ((vs.take k).foldl valD noneD) l = { (vs.take k).foldl valD noneD with ns := true } by unfold valD; rw [hlo])
        have HD4 := Lib.hid (HD.out.below hB4)
        have HO4 := Lib.hid (HOn.out.trans' (Only.below hB4))
        clear hB4 hlo
        obtain ⟨c0, _, _, _, _, _, _, _, _, _, _, _, fr, lt⟩ := HD4.out
        have f0 := fr 0
        clear fr
        go_wp2_with fail
        refine wp_loop_rounds 1 ?_
        rw [rounds_succ]
        go_wp2_with fail
        go_roundw
        case rel => exact ⟨k + 1, by go_num, by omega, by rw [HT.out, HE.out]; exact HD4.out.set0 true, HO4.out.trans' (Only.set (X := (· = w1.heap.size)) rfl _ 0 _)⟩
        case measure => simp [intOf]; omega
      | some ls =>
        rw [hlo] at hcase
        obtain ⟨u, rfl, hOu, hlsn⟩ := hcase
        have HE := Lib.hid (show valD ((vs.take k).foldl valD noneD) l = ls.foldl elemD ((vs.take k).foldl valD noneD) by unfold valD; rw [hlo])
        have HLL := Lib.hid (list_len hlo)
        have HD4 := Lib.hid (HD.out.below hB4)
        have HO4 := Lib.hid (HOn.out.trans' (Only.below hB4))
        have hNs := HD.out.lt
        have hou : ∃ bo cap, u = .slice bo ls.length cap ∧ ∀ j l, ls[j]? = some l → ∃ g, bo = some ⟨g, 0, none⟩ ∧ g ≠ w1.heap.size ∧ g < w4.heap.size ∧ w4.cell? ⟨g, j, none⟩ = some (.string (strB l)) := by
          rcases hOu.open' with ⟨rfl, rfl⟩ | ⟨g, cap, rfl, hg1, hg2, hc⟩
          · exact ⟨none, 0, rfl, fun j l h => by simp at h⟩
          · exact ⟨_, cap, rfl, fun j l h => ⟨g, rfl, by omega, hg2, hc j l h⟩⟩
        obtain ⟨bo, cap2, rfl, hcu⟩ := hou
        have HCu := Lib.hid hcu
        have HNor := Lib.hid (show Nor ((vs.take k).foldl valD noneD) from nor_vals _ nor_none)
        clear hcu hOu hB4 hlo hcell
        generalize (vs.take k).foldl valD noneD = D at *
        go_wp2_with fail
        go_loopw [28] (fun i wr => ElRel w1.heap.size D ls w4 i wr) (fun i _ => ls.length - (intOf i).toNat)
        case atStart => exact ⟨0, rfl, Nat.zero_le _, HD4.out, Only.refl _ _⟩
        case round =>
          obtain ⟨j, rfl, hj, hDj, hOj⟩ := hrel
          have HDj := Lib.hid hDj
          have HOj := Lib.hid hOj
          have hsj := hOj.size
          clear hDj hOj
          by_cases hjt : j < ls.length
          · obtain ⟨q, hq⟩ : ∃ q, ls[j]? = some q := ⟨ls[j], by simp [hjt]⟩
            obtain ⟨g2, rfl, hg2N, hg2s, hcq⟩ := HCu.out j q hq
            have hcell : wr.cell? ⟨g2, j, none⟩ = some (.string (strB q)) := (HOj.out.cell (p := ⟨g2, j, none⟩) hg2s (by show ¬ g2 = _; exact hg2N)).trans hcq
            have hql := HLL.out q (List.mem_of_getElem? hq)
            have HQ := Lib.hid (fold_take elemD D hq)
            have HMj := Lib.hid (HM.out.below (HB.out.trans (only_n ((HO4.out.trans' HOj.out)) (by omega) HB.out.size)))
            have HNj := Lib.hid (show Nor ((ls.take j).foldl elemD D) from nor_fold _ HNor.out)
            clear hq hcq
            go_wp2_with fail
            refine (addD_any w1.heap.size _ q _ HDj.out HNj.out HMj.out (by omega)).mono ?_
            rintro e w6 ⟨rfl, hD6, hO6⟩
            have HD6 := Lib.hid hD6
            have HO6 := Lib.hid (HOj.out.trans' hO6)
            clear hD6 hO6
            go_wp2_with fail
            go_roundw
            case rel => exact ⟨j + 1, by go_num, by omega, by rw [HQ.out]; exact HD6.out, HO6.out⟩
            case measure => simp [intOf]; omega
          · have htk : ls.take j = ls := List.take_of_length_le (by omega)
            have HDD := Lib.hid (show DvB w1.heap.size wr (ls.foldl elemD D) by rw [← htk]; exact HDj.out)
            clear htk HDj
            go_wp2_with fail
            go_roundw
            case rel => exact ⟨k + 1, by go_num, by omega, by rw [HT.out, HE.out]; exact HDD.out, HO4.out.trans' HOj.out⟩
            case measure => simp [intOf]; omega
    · have htk : vs.take k = vs := List.take_of_length_le (by omega)
      have hDD : DvB w1.heap.size wr (vs.foldl valD noneD) := by rw [← htk]; exact HD.out
      have HZr := HZd.out.only HOn.out (by omega)
      have hBf := below_dv (HB.out.trans (only_n HOn.out (show w.heap.size ≤ w1.heap.size by omega) HB.out.size)) (Nat.le_refl _)
      have HBF := Lib.hid hBf
      clear htk hBf HD

      generalize vs.foldl valD noneD = D at *
      obtain ⟨a0, a1, a2, a3, a4, a5, a6, a7, a8, a9, a10, a11, fa, la⟩ := hDD
      obtain ⟨c0, c1, c2, c3, c4, c5, c6, c7, c8, c9, c10, c11, fr, lt⟩ := HZr
      go_wp2_with fail
      refine bodyPost_ret (v := dvV D) (by simp [results, Tryz.results35, go_sem, c0, c1, c2, c3, c4, c5, c6, c7, c8, c9, c10, c11]) rfl ?_
      exact ⟨by rw [HP.out], HBF.out _ _ _ _ _ _ _ _ _ _ _ _⟩
end Go.Proofs.YtinbdflkpbjmcaaGreatDoor
