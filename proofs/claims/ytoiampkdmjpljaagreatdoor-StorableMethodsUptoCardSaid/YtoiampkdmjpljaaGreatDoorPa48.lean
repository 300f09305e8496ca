import Derived.Test.YtoiampkdmjpljaaGreatDoorPa47
import Derived.Test.YtoiampkdmjpljaaGreatDoorPa2
import Derived.Test.YtoiampkdmjpljaaGreatDoorPa46
/- Upper case: what the statements' upper returns. -/
namespace Go.Proofs.YtoiampkdmjpljaaGreatDoor
open Go.RowKit

theorem upB_in {c : UInt8} (h1 : 97 ≤ c.toNat) (h2 : c.toNat ≤ 122) : (upB c).toNat = c.toNat - 32 := by
  unfold upB; rw [if_pos ⟨h1, h2⟩, UInt8.toNat_sub_of_le _ _ (by rw [UInt8.le_iff_toNat_le]; show 32 ≤ c.toNat; omega)]; rfl
theorem upB_not {c : UInt8} (h : ¬ (97 ≤ c.toNat ∧ c.toNat ≤ 122)) : upB c = c := by unfold upB; rw [if_neg h]
theorem upS_len (l : List UInt8) : (upS l).length = l.length := by simp [upS]
/-- The bytes after k rounds: those before k in upper case. -/
def upToU (l : List UInt8) (k j : Nat) : Int := if j < k then ((upB (l.getD j 0)).toNat : Int) else ((l.getD j 0).toNat : Int)
def UpC (s : ByteArray) (w : World) (i : Value) (wr : World) : Prop :=
  ∃ k : Nat, i = .int .i64 k ∧ k ≤ s.size ∧ (∀ j, j < s.size → wr.cell? ⟨w.heap.size, j, none⟩ = some (.int .u8 (upToU s.data.toList k j)) ∧ wr.frozen? ⟨w.heap.size, j, none⟩ = false) ∧ Below w.heap.size w wr
theorem upToU_at {s : ByteArray} {k : Nat} (h : k < s.size) : upToU s.data.toList k k = (s[k].toNat : Int) := by
  unfold upToU; rw [if_neg (by omega), getD_list s k h]
theorem UpC0 (s : ByteArray) (w : World) (cap : Nat) : UpC s w (.int .i64 0) (w.alloc (.cells (bytesRow s cap) 5 ((bytesRow s cap).size, (bytesRow s cap).size + 1))).drew := by
  obtain ⟨k, hk, hk', hc, hB⟩ := LowC0 s w cap
  obtain rfl : k = 0 := by
    have := (Value.int.inj hk).2
    omega
  refine ⟨0, rfl, Nat.zero_le _, fun j hj => ⟨?_, (hc j hj).2⟩, hB⟩
  rw [(hc j hj).1]
  unfold lowTo upToU
  rw [if_neg (by omega), if_neg (by omega)]
theorem UpC_up {s : ByteArray} {w wr : World} {k : Nat} (h : k < s.size) (h1 : 97 ≤ s[k].toNat) (h2 : s[k].toNat ≤ 122)
    (hc : ∀ j, j < s.size → wr.cell? ⟨w.heap.size, j, none⟩ = some (.int .u8 (upToU s.data.toList k j)) ∧ wr.frozen? ⟨w.heap.size, j, none⟩ = false)
    (hk : wr.cell? ⟨w.heap.size, k, none⟩ = some (.int .u8 (s[k].toNat : Int))) :
    ∀ j, j < s.size → (wr.setCell ⟨w.heap.size, k, none⟩ (.int .u8 ((s[k].toNat : Int) - 32))).cell? ⟨w.heap.size, j, none⟩ = some (.int .u8 (upToU s.data.toList (k + 1) j)) ∧
      (wr.setCell ⟨w.heap.size, k, none⟩ (.int .u8 ((s[k].toNat : Int) - 32))).frozen? ⟨w.heap.size, j, none⟩ = false := by
  intro j hj
  refine ⟨?_, (World.frozen?_setCell _ _ _ _).trans (hc j hj).2⟩
  by_cases e : j = k
  · subst e
    rw [World.cell?_setCell_same _ _ _ hk]
    unfold upToU
    rw [if_pos (by omega), getD_list s j hj, upB_in h1 h2]
    congr 2; omega
  · rw [World.cell?_setCell_other _ _ _ _ (by first | (simp; done) | (simp; exact fun h => e h.symm)), (hc j hj).1]
    unfold upToU
    by_cases hjk : j < k
    · rw [if_pos hjk, if_pos (by omega)]
    · rw [if_neg hjk, if_neg (by omega)]
theorem UpC_not {s : ByteArray} {w wr : World} {k : Nat} (h : k < s.size) (hn : ¬ (97 ≤ s[k].toNat ∧ s[k].toNat ≤ 122))
    (hc : ∀ j, j < s.size → wr.cell? ⟨w.heap.size, j, none⟩ = some (.int .u8 (upToU s.data.toList k j)) ∧ wr.frozen? ⟨w.heap.size, j, none⟩ = false) :
    ∀ j, j < s.size → wr.cell? ⟨w.heap.size, j, none⟩ = some (.int .u8 (upToU s.data.toList (k + 1) j)) ∧ wr.frozen? ⟨w.heap.size, j, none⟩ = false := by
  intro j hj
  refine ⟨?_, (hc j hj).2⟩
  rw [(hc j hj).1]
  unfold upToU
  by_cases hjk : j < k
  · rw [if_pos hjk, if_pos (by omega)]
  · rw [if_neg hjk]
    by_cases e : j = k
    · subst e; rw [if_pos (by omega), getD_list s j hj, upB_not hn]
    · rw [if_neg (by omega)]
theorem up_conv (s : ByteArray) (w wr : World) (cap : Nat)
    (hc : ∀ j, j < s.size → wr.cell? ⟨w.heap.size, j, none⟩ = some (.int .u8 (upToU s.data.toList s.size j)) ∧ wr.frozen? ⟨w.heap.size, j, none⟩ = false) :
    (convert 80 9 (.slice (some ⟨w.heap.size, 0, none⟩) s.size cap)).run Tryz.prog wr = .ok (.string (strB (upS s.data.toList))) wr := by
  have hl : (upS s.data.toList).length = s.size := by rw [upS_len]; simp
  have := run_convert_bytes_back wr 80 9 5 ⟨w.heap.size, 0, none⟩ cap (upS s.data.toList) Tryz.underlying80 Tryz.underlying5 Tryz.underlying9 (fun j hj => by
    rw [Addr.add_lit, Nat.zero_add, (hc j (by omega)).1]
    unfold upToU
    rw [if_pos (by omega)]
    have hj' : j < s.data.toList.length := by rw [upS_len] at hj; exact hj
    rw [List.getD, List.getElem?_eq_getElem hj']
    simp [upS])
  rw [hl] at this
  exact this
end Go.Proofs.YtoiampkdmjpljaaGreatDoor

/- What the statements' loud returns. -/
namespace Go.Proofs.YtoiampkdmjpljaaGreatDoor
open Go.RowKit

def louL (ps : Flds) : Flds := ps.map fun p => (upS (lowS p.1), p.2)
theorem lou_all (ps : Flds) (n : List UInt8) : allL (louL ps) n = allL ps n := by
  unfold allL louL
  rw [List.filter_map, List.map_map]
  congr 1
  refine List.filter_congr fun p _ => ?_
  show ofN n (upS (lowS p.1), p.2) = ofN n p
  unfold ofN
  rw [up_lowS, lowS_low]
theorem lou_len (ps : Flds) : (louL ps).length = ps.length := List.length_map ..
theorem lou_more {ps : Flds} {k : Nat} {p : List UInt8 × List UInt8} (h : ps[k]? = some p) : louL (ps.take (k + 1)) = louL (ps.take k) ++ [(upS (lowS p.1), p.2)] := by
  unfold louL; rw [take_more h, List.map_append]; rfl
theorem lou_fit {ps : Flds} (h : FitL ps) : FitL (louL ps) := ⟨by rw [lou_len]; exact h.len, fun p hp => by
  obtain ⟨q, hq, rfl⟩ := List.mem_map.1 hp
  have := h.each q hq
  simp only [upS_len, lowS_len]
  exact this⟩
set_option maxHeartbeats 8000000 in
set_option maxRecDepth 100000 in
theorem loud_any (fv : Value) (ps : Flds) (w : World) (hr : ReadsQ w fv ps) (hl : ps.length ≤ 10000) (hb : ∀ p ∈ ps, p.1.length + p.2.length ≤ 1000000) :
    Calls Tryz.prog 28 #[fv] w fun e w' => ∃ v, e = .returned v ∧ OwnsP 32 w.heap.size w' v (louL ps) ∧ Below w.heap.size w w' := by
  obtain ⟨i0, hi, hz0, hz1, hz2⟩ := info_parts Tryz.infoG
  obtain ⟨ao, cap, rfl, hc⟩ := hr
  have HC := Lib.hid hc
  have HBig := Lib.hid hb
  clear hc hb
  go_enter Tryz.func28, Tryz.ntmps28
  go_wp2_with fail
  go_loopw [3, 10] (fun v i wr => ∃ k : Nat, i = .int .i64 k ∧ k ≤ ps.length ∧ OwnsP 32 w.heap.size wr v (louL (ps.take k)) ∧ Below w.heap.size w wr) (fun _ i _ => ps.length - (intOf i).toNat)
  case atStart => exact ⟨0, rfl, Nat.zero_le _, OwnsP.nil _ _ _, Below.refl _ _⟩
  case round =>
    obtain ⟨k, rfl, hk, hO, hBr⟩ := hrel
    have hbr := hBr.size
    have hlk : (louL (ps.take k)).length ≤ 10000 := by rw [lou_len, List.length_take]; omega
    by_cases hlt : k < ps.length
    · obtain ⟨p, hp⟩ : ∃ p, ps[k]? = some p := ⟨ps[k], by simp [hlt]⟩
      obtain ⟨g, off, rfl, hg1, h1, h2⟩ := HC.out k p hp
      have hc1 : wr.cell? ⟨g, off + k * 2, none⟩ = some (.string (strB p.1)) := (hBr.cell (p := ⟨g, off + k * 2, none⟩) hg1).trans h1
      have hc2 : wr.cell? ⟨g, off + k * 2 + 1, none⟩ = some (.string (strB p.2)) := (hBr.cell (p := ⟨g, off + k * 2 + 1, none⟩) hg1).trans h2
      have hpl := HBig.out p (List.mem_of_getElem? hp)
      have HP := Lib.hid hp
      have HM := Lib.hid (lou_more hp)
      clear hp h1 h2
      go_wp2_with fail
      refine (refLower_any (strB p.1) _ (by rw [strB_size]; omega)).mono ?_
      rintro e w2 ⟨rfl, hB2⟩
      rw [strB_list]
      obtain ⟨d1, d2⟩ := pair_kept hB2
      have hB2' := below_pair' hB2
      have HO2 := Lib.hid (OwnsP.below hO hB2')
      have HB2 := Lib.hid (hBr.trans (hB2'.mono hbr))
      have hb2 := HB2.out.size
      have hbx : wr.heap.size < w2.heap.size := by have := hB2.size; simp at this; omega
      generalize hbl : wr.heap.size = NB at *
      clear hB2 hB2' hO hBr hc1 hc2 hbl
      have hls : (lowS p.1).length ≤ 1000000 := by rw [lowS_len]; omega
      have HSL := Lib.hid (strB_list (lowS p.1))
      have hsz : (strB (lowS p.1)).size ≤ 1000000 := by rw [strB_size]; exact hls
      generalize strB (lowS p.1) = s at *
      have hcb := fun W : World => run_bytes_of_string (P := Tryz.prog) W 9 80 5 s Tryz.underlying9 Tryz.underlying80 Tryz.underlying5
      go_wp2_with fail
      have HCB := Lib.hid hcb
      clear hcb
      go_loopw [20] (fun i wi => UpC s w2 i wi) (fun i _ => s.size - (intOf i).toNat)
      case atStart => exact UpC0 s w2 _
      case round =>
        obtain ⟨j, rfl, hj, hc, hB⟩ := hrel
        have HCc := Lib.hid hc
        have hsb := hB.size
        have HBi := Lib.hid hB
        clear hc hB
        by_cases hlj : j < s.size
        · have hcell : wr.cell? ⟨w2.heap.size, j, none⟩ = some (.int .u8 (s[j].toNat : Int)) := by rw [(HCc.out j hlj).1, upToU_at hlj]
          have hfz := (HCc.out j hlj).2
          by_cases h1 : 97 ≤ s[j].toNat
          · by_cases h2 : s[j].toNat ≤ 122
            · go_wp2
              go_roundw
              case rel => exact ⟨j + 1, by go_num, by omega, UpC_up hlj h1 h2 HCc.out hcell, HBi.out.setCell (p := ⟨w2.heap.size, j, none⟩) (Nat.le_refl _) _⟩
              case measure => simp [intOf]; omega
            · go_wp2
              go_roundw
              case rel => exact ⟨j + 1, by go_num, by omega, UpC_not hlj (by omega) HCc.out, HBi.out⟩
              case measure => simp [intOf]; omega
          · go_wp2
            go_roundw
            case rel => exact ⟨j + 1, by go_num, by omega, UpC_not hlj (by omega) HCc.out, HBi.out⟩
            case measure => simp [intOf]; omega
        · have hje : j = s.size := by omega
          have hcv := up_conv s w2 wr (grownCap w2 s.size 0 5) (by have := HCc.out; rw [hje] at this; exact this)
          have d2' := (HBi.out.cell (p := ⟨NB, 1, none⟩) hbx).trans d2
          have HO3 := Lib.hid (OwnsP.below HO2.out HBi.out)
          have hup : (upS s.data.toList).length ≤ 1000000 := by rw [upS_len, Array.length_toList]; exact hsz
          rw [← HSL.out] at HM
          clear hje d1 d2 HCc
          go_wp2_with (at_builtin; refine wpList_append_own _ rfl _ _ 22 rfl w.heap.size 32 i0 (.agg #[.string ByteArray.empty, .string ByteArray.empty]) 2 32 Tryz.underlying22 hi hz0 hz1 hz2 rfl (by decide) _ _ _ rfl (World.ownsRow.alloc HO3.out _) ⟨wr.heap.size, 0, none⟩ 1 1 [strV (upS s.data.toList), strV p.2] rfl rfl (two_new wr (upS s.data.toList) p.2 _) (fun u hu => by simp at hu; rcases hu with rfl | rfl <;> rfl) (by unfold maxLen; omega) (by omega) (by simp; omega) ?_; intro v' w4 hown' hgrow _)
          go_roundw
          case rel => exact ⟨k + 1, by go_num, by omega, by rw [HM.out]; exact OwnsP.snoc hown', below_appendP HB2.out hb2 HBi.out HO2.out hgrow⟩
          case measure => simp [intOf]; omega
    · have htk : ps.take k = ps := List.take_of_length_le (by omega)
      rw [htk] at hO
      go_wp2_with fail
      go_ret
      exact ⟨_, rfl, hO, hBr⟩
end Go.Proofs.YtoiampkdmjpljaaGreatDoor

/- StorableMethods: the walk. -/
namespace Go.Proofs.YtoiampkdmjpljaaGreatDoor
open Go.RowKit

def mget : List UInt8 := [103, 101, 116]
/-- A case's block, another's whose lists are to be set, and what is read. -/
structure MeT (N M : Nat) (m : List UInt8) (qv : Value) (q : Flds) (rv : Value) (r : Flds) (s : Int) (w w' : World) : Prop where
  a : CsS N m qv q rv r s w w'
  b : ∃ x y, BxS M m x y s w'
theorem MeT.below {N M : Nat} {m : List UInt8} {qv : Value} {q : Flds} {rv : Value} {r : Flds} {s : Int} {w w1 w2 : World} (h : MeT N M m qv q rv r s w w1) (hb : Below w1.heap.size w1 w2) : MeT N M m qv q rv r s w w2 :=
  ⟨h.a.below hb, by obtain ⟨x, y, hb2⟩ := h.b; exact ⟨x, y, hb2.below hb⟩⟩
theorem meT_all {N M : Nat} {m : List UInt8} {qv : Value} {q : Flds} {rv : Value} {r : Flds} {s : Int} {w w' : World} (h : MeT N M m qv q rv r s w w') : w'.cell? ⟨N, 1, none⟩ = some qv ∧ w'.cell? ⟨N, 2, none⟩ = some rv ∧ MeT N M m qv q rv r s w w' := ⟨h.a.c1, h.a.c2, h⟩
theorem BxS.set3 {N : Nat} {m : List UInt8} {a b : Value} {s : Int} {w : World} (h : BxS N m a b s w) : BxS N m a b s (w.setCell ⟨N, 3, none⟩ (.int .i64 s)) := by
  obtain ⟨c0, c1, c2, c3, fr, lt⟩ := h
  refine ⟨?_, ?_, ?_, ?_, fun j => by simpa using fr j, by simpa using lt⟩
  all_goals simp [go_sem, c0, c1, c2, c3]
theorem CsS.far {N K j : Nat} {m : List UInt8} {qv : Value} {q : Flds} {rv : Value} {r : Flds} {s : Int} {w w1 : World} (h : CsS N m qv q rv r s w w1) (hK : K ≠ N) (hw : w.heap.size ≤ K) (hq : ReadsQ w qv q) (hr : ReadsQ w rv r) (hE : EnvL w) (v : Value) : CsS N m qv q rv r s w (w1.setCell ⟨K, j, none⟩ v) := by
  have hb : Below w.heap.size w (w1.setCell ⟨K, j, none⟩ v) := h.b.setCell (p := ⟨K, j, none⟩) hw v
  exact csS_of (h.box.other hK v) (hq.below hb) (hr.below hb) (hE.below hb) hb
set_option maxHeartbeats 16000000 in
set_option maxRecDepth 100000 in
theorem sb_methods_walk (m : List UInt8) (qa : Option Addr) (qc : Nat) (q : Flds) (ra : Option Addr) (rc : Nat) (r : Flds) (s : Int) (w : World) (hE : EnvL w) (hq : ReadsQ w (.slice qa q.length qc) q) (hr : ReadsQ w (.slice ra r.length rc) r) (hbq : 2 * q.length + totL q ≤ 3000000) (hbr : 2 * r.length + totL r ≤ 3000000) :
    Calls Tryz.prog 10 #[caV m (.slice qa q.length qc) (.slice ra r.length rc) s] w fun e w' => e = .returned (.bool true) ∧ Below w.heap.size w w' := by
  have HS := Lib.hid (csS_new (m := m) s w 24 hq hr hE)
  have HLg := Lib.hid (fun (lv : Value) (w : World) (hr : ReadsF w lv [((.slice qa q.length qc), q), ((.slice ra r.length rc), r)]) => large15_any lv _ w hr (by simp) (by show 0 + (2 * q.length + totL q) + (2 * r.length + totL r) ≤ _; omega))
  have HAw := Lib.hid (fun (w : World) (hE : EnvL w) => awake15_any w hE)
  have HQ0 := Lib.hid hq
  have HR0 := Lib.hid hr
  have HE0 := Lib.hid hE
  clear hE hq hr hbq hbr
  generalize hlg : lgB [((.slice qa q.length qc), q), ((.slice ra r.length rc), r)] = lg at *
  cases lg with
  | true =>
    clear hlg
    go_enter Tryz.func10, Tryz.ntmps10
    go_upto_region 1 with fail
    change Code.wp _ _ _ _ (w.alloc (.cells (caC m (.slice qa q.length qc) (.slice ra r.length rc) s) 24))
    generalize (w.alloc (.cells (caC m (.slice qa q.length qc) (.slice ra r.length rc) s) 24)) = W at *
    obtain ⟨c0, c1, c2, c3, _⟩ := csS_all HS.out
    go_wp2_with fail
    refine (HLg.out _ _ (readsF_two _ HS.out.rq HS.out.rr)).mono ?_
    rintro e w1 ⟨rfl, hB1⟩
    have HS1 := Lib.hid ((HS.out.below (below_new _ _)).below hB1)
    clear c0 c1 c2 c3 hB1
    obtain ⟨c0, c1, c2, c3, _⟩ := csS_all HS1.out
    go_wp2_with fail
    refine (HLg.out _ _ (readsF_two _ HS1.out.rq HS1.out.rr)).mono ?_
    rintro e w2 ⟨rfl, hB2⟩
    have HS2 := Lib.hid ((HS1.out.below (below_new _ _)).below hB2)
    go_wp2_with fail
    go_ret
    exact ⟨rfl, HS2.out.b⟩
  | false =>
    obtain ⟨hfq, hfr⟩ := lg_fits hlg
    clear hlg
    obtain ⟨dd, hdd⟩ := oneIs_ex (allL r nDA)
    obtain ⟨de, hde⟩ := oneIs_ex (allL r nEX)
    obtain ⟨dl, hdl⟩ := oneIs_ex (allL r nLM)
    have hql := hfq.len
    have hrl := hfr.len
    have HOf := Lib.hid (fun (n : List UInt8) (w : World) (hq : ReadsQ w (.slice qa q.length qc) q) (hr : ReadsQ w (.slice ra r.length rc) r) (hE : EnvL w) => of15_any n qa qc q ra rc r s dd de dl w hq hfq hr hfr hdd hde hdl hE)
    have HOl := Lib.hid (fun (a b : Option Addr) (c d : Nat) (w : World) (hq : ReadsQ w (.slice a (louL q).length c) (louL q)) (hr : ReadsQ w (.slice b (louL r).length d) (louL r)) (hE : EnvL w) => of15_any mGET a c (louL q) b d (louL r) s dd de dl w hq (lou_fit hfq) hr (lou_fit hfr) (show OneIs (allL (louL r) nDA) dd from (lou_all r nDA) ▸ hdd) (show OneIs (allL (louL r) nEX) de from (lou_all r nEX) ▸ hde) (show OneIs (allL (louL r) nLM) dl from (lou_all r nLM) ▸ hdl) hE)
    rw [stor_same (lou_all q) (lou_all r)] at HOl
    have HLq := Lib.hid (fun (w : World) (hr : ReadsQ w (.slice qa q.length qc) q) => loud_any (.slice qa q.length qc) q w hr hfq.len hfq.each6)
    have HLr := Lib.hid (fun (w : World) (hr : ReadsQ w (.slice ra r.length rc) r) => loud_any (.slice ra r.length rc) r w hr hfr.len hfr.each6)
    have hlq := lou_len q
    have hlr := lou_len r
    clear hfq hfr hdd hde hdl
    go_enter Tryz.func10, Tryz.ntmps10
    go_upto_region 1 with fail
    change Code.wp _ _ _ _ (w.alloc (.cells (caC m (.slice qa q.length qc) (.slice ra r.length rc) s) 24))
    generalize (w.alloc (.cells (caC m (.slice qa q.length qc) (.slice ra r.length rc) s) 24)) = W at *
    obtain ⟨c0, c1, c2, c3, _⟩ := csS_all HS.out
    go_wp2_with fail
    refine (HLg.out _ _ (readsF_two _ HS.out.rq HS.out.rr)).mono ?_
    rintro e w1 ⟨rfl, hB1⟩
    have HS1 := Lib.hid ((HS.out.below (below_new _ _)).below hB1)
    clear c0 c1 c2 c3 hB1
    go_wp2_with fail
    refine (HAw.out _ HS1.out.e).mono ?_
    rintro e w2 ⟨rfl, hB2⟩
    have HS2 := Lib.hid (HS1.out.below hB2)
    clear hB2 HS1 HS
    have hNw : w.heap.size < w2.heap.size := HS2.out.lt
    have hm := getM m
    go_upto_region 3 with fail
    go_cut [27] (fun u wx => u = .bool false ∧ Below w2.heap.size w2 wx)
    case first =>
      obtain ⟨c0, c1, c2, c3, _⟩ := csS_all HS2.out
      by_cases hg : m = mGET
      · have e1 : decide (m ≠ mGET) = false := by simp [hg]
        rw [e1] at hm
        clear hg e1
        go_wp2_with fail
        go_meet
        exact ⟨rfl, Below.refl _ _⟩
      · have e1 : decide (m ≠ mGET) = true := by simp [hg]
        rw [e1] at hm
        have HO1 := Lib.hid (HOf.out m)
        rw [stor_get hg] at HO1
        clear hg e1
        go_wp2_with fail
        refine (HO1.out _ HS2.out.rq HS2.out.rr HS2.out.e).mono ?_
        rintro e w3 ⟨rfl, hB3⟩
        go_wp2_with fail
        go_meet
        exact ⟨rfl, hB3⟩
    case rest =>
    rename World => w3
    obtain ⟨rfl, hBx⟩ := hcut
    have HS3 := Lib.hid (HS2.out.below hBx)
    have hw23 := hBx.size
    clear hBx HS2 hm
    obtain ⟨c0, c1, c2, c3, _⟩ := csS_all HS3.out
    go_upto_region 6 with fail
    have BN4 := Lib.hid (HS3.out.box.below (below_new w3 (.cells (caC m (.slice qa q.length qc) (.slice ra r.length rc) s) 24)))
    have BM4 := Lib.hid (bxS_new m (.slice qa q.length qc) (.slice ra r.length rc) s w3 24)
    have HB4 := Lib.hid (HS3.out.b.alloc HS3.out.b.size (.cells (caC m (.slice qa q.length qc) (.slice ra r.length rc) s) 24))
    clear c0 c1 c2 c3 HS3
    change Code.wp _ _ _ _ (w3.alloc (.cells (caC m (.slice qa q.length qc) (.slice ra r.length rc) s) 24))
    generalize (w3.alloc (.cells (caC m (.slice qa q.length qc) (.slice ra r.length rc) s) 24)) = W4 at *
    generalize hMM : w3.heap.size = M at *
    clear hMM
    have f0 := BM4.out.fr 0
    have g0 := BM4.out.c0
    go_upto_region 7 with fail
    have BN5 := Lib.hid (BN4.out.other (j := 0) (K := M) (by omega) (.string (strB mget)))
    have BM5 := Lib.hid (BM4.out.set0 mget)
    have HB5 := Lib.hid (HB4.out.setCell (p := ⟨M, 0, none⟩) (by show w.heap.size ≤ M; omega) (.string (strB mget)))
    clear f0 g0 BN4 BM4 HB4
    change Code.wp _ _ _ _ (W4.setCell ⟨M, 0, none⟩ (.string (strB mget)))
    generalize W4.setCell ⟨M, 0, none⟩ (.string (strB mget)) = W5 at *
    have HO2 := Lib.hid (HOf.out mget)
    rw [stor_get (show mget ≠ mGET by decide)] at HO2
    obtain ⟨g0, g1, g2, g3, _, _⟩ := BM5.out
    go_wp2_with fail
    refine (HO2.out _ (HQ0.out.below HB5.out) (HR0.out.below HB5.out) (HE0.out.below HB5.out)).mono ?_
    rintro e w6 ⟨rfl, hB6⟩
    have BN6 := Lib.hid (BN5.out.below hB6)
    have BM6 := Lib.hid (BM5.out.below hB6)
    have HB6 := Lib.hid (HB5.out.trans (hB6.mono HB5.out.size))
    clear g0 g1 g2 g3 hB6 BN5 BM5 HB5 HO2
    have f0 := BN6.out.fr 0
    have d0 := BN6.out.c0
    go_upto_region 10 with fail
    have BN7 := Lib.hid (BN6.out.set0 mGET)
    have BM7 := Lib.hid (BM6.out.other (j := 0) (K := w.heap.size) (by omega) (.string (strB mGET)))
    have HB7 := Lib.hid (HB6.out.setCell (p := ⟨w.heap.size, 0, none⟩) (Nat.le_refl _) (.string (strB mGET)))
    clear f0 d0 BN6 BM6 HB6
    change Code.wp _ _ _ _ (w6.setCell ⟨w.heap.size, 0, none⟩ (.string (strB mGET)))
    generalize w6.setCell ⟨w.heap.size, 0, none⟩ (.string (strB mGET)) = W7 at *
    obtain ⟨d0, d1, d2, d3, _, _⟩ := BN7.out
    obtain ⟨g0, g1, g2, g3, gf, _⟩ := BM7.out
    have gf0 := gf 0
    have gf1 := gf 1
    have gf2 := gf 2
    have gf3 := gf 3
    clear gf
    go_upto_region 11 with fail
    have BM8 := Lib.hid ((((BM7.out.set0 mGET).set1 (.slice qa q.length qc)).set2 (.slice ra r.length rc)))
    have BM9 := Lib.hid (BM8.out.set3)
    have BN9 := Lib.hid ((((BN7.out.other (j := 0) (K := M) (by omega) (.string (strB mGET))).other (j := 1) (K := M) (by omega) (.slice qa q.length qc)).other (j := 2) (K := M) (by omega) (.slice ra r.length rc)).other (j := 3) (K := M) (by omega) (.int .i64 s))
    have HB9 := Lib.hid ((((HB7.out.setCell (p := ⟨M, 0, none⟩) (by show w.heap.size ≤ M; omega) (.string (strB mGET))).setCell (p := ⟨M, 1, none⟩) (by show w.heap.size ≤ M; omega) (.slice qa q.length qc)).setCell (p := ⟨M, 2, none⟩) (by show w.heap.size ≤ M; omega) (.slice ra r.length rc)).setCell (p := ⟨M, 3, none⟩) (by show w.heap.size ≤ M; omega) (.int .i64 s))
    clear d0 d1 d2 d3 g0 g1 g2 g3 gf0 gf1 gf2 gf3 BM7 BN7 HB7 BM8
    change Code.wp _ _ _ _ ((((W7.setCell ⟨M, 0, none⟩ (.string (strB mGET))).setCell ⟨M, 1, none⟩ (.slice qa q.length qc)).setCell ⟨M, 2, none⟩ (.slice ra r.length rc)).setCell ⟨M, 3, none⟩ (.int .i64 s))
    generalize ((((W7.setCell ⟨M, 0, none⟩ (.string (strB mGET))).setCell ⟨M, 1, none⟩ (.slice qa q.length qc)).setCell ⟨M, 2, none⟩ (.slice ra r.length rc)).setCell ⟨M, 3, none⟩ (.int .i64 s)) = W9 at *
    have hS0 : MeT w.heap.size M mGET (.slice qa q.length qc) q (.slice ra r.length rc) r s w W9.drew := (⟨csS_of BN9.out (HQ0.out.below HB9.out) (HR0.out.below HB9.out) (HE0.out.below HB9.out) HB9.out, _, _, BM9.out⟩ : MeT w.heap.size M mGET (.slice qa q.length qc) q (.slice ra r.length rc) r s w W9).below (Below.refl _ _).drew
    clear BN9 BM9 HB9
    refine wp_region_held_drew (S := (fun w' => w'.cell? ⟨w.heap.size, 1, none⟩ = some (.slice qa q.length qc) ∧ w'.cell? ⟨w.heap.size, 2, none⟩ = some (.slice ra r.length rc) ∧ MeT w.heap.size M mGET (.slice qa q.length qc) q (.slice ra r.length rc) r s w w')) (by kernel_rfl) (meT_all hS0) (fun hHeld => ?_)
    generalize W9.drew = V0 at *
    refine wpAnyH_take (i := 0) (oi := { dst := some 35, op := _, type := _, pos := _, after := _, guard := _ }) (v := ?_) rfl (by kernel_rfl) (by kernel_rfl) (by kernel_rfl) (fun _ _ _ h => h) (Or.inl ⟨by rfl, ?_⟩) (by assumption) ?_
    rotate_left
    focus (intro w hSw; (try dsimp only at hSw); first | (go_simp; done) | (go_simp; with_reducible rfl))
    (try simp only [Act.put, List.setIfInBounds_toArray, List.set_cons_zero, List.set_cons_succ])
    refine wpAnyH_take (i := 1) (oi := { dst := some 36, op := _, type := _, pos := _, after := _, guard := _ }) (v := ?_) rfl (by kernel_rfl) (by kernel_rfl) (by kernel_rfl) (fun _ _ _ h => h) (Or.inl ⟨by rfl, ?_⟩) (by assumption) ?_
    rotate_left
    focus (intro w hSw; (try dsimp only at hSw); first | (go_simp; done) | (go_simp; with_reducible rfl))
    (try simp only [Act.put, List.setIfInBounds_toArray, List.set_cons_zero, List.set_cons_succ])
    refine wpAnyH_take (i := 3) (oi := { dst := some 38, op := _, type := _, pos := _, after := _, guard := _ }) (v := ?_) rfl (by kernel_rfl) (by kernel_rfl) (by kernel_rfl) (fun _ _ _ h => h) (Or.inl ⟨by rfl, ?_⟩) (by assumption) ?_
    rotate_left
    focus (intro w hSw; (try dsimp only at hSw); first | (go_simp; done) | (go_simp; with_reducible rfl))
    (try simp only [Act.put, List.setIfInBounds_toArray, List.set_cons_zero, List.set_cons_succ])
    refine wpAnyH_take (i := 4) (oi := { dst := some 39, op := _, type := _, pos := _, after := _, guard := _ }) (v := ?_) rfl (by kernel_rfl) (by kernel_rfl) (by kernel_rfl) (fun _ _ _ h => h) (Or.inl ⟨by rfl, ?_⟩) (by assumption) ?_
    rotate_left
    focus (intro w hSw; (try dsimp only at hSw); first | (go_simp; done) | (go_simp; with_reducible rfl))
    (try simp only [Act.put, List.setIfInBounds_toArray, List.set_cons_zero, List.set_cons_succ])
    refine wpAnyH_ready (rs := [2]) (by kernel_rfl) (by simp) ?_
    refine AllReadyH.cons (o := { dst := some 37, op := _, type := _, pos := _, after := _, guard := _ }) rfl (fun K hK => ?_) AllReadyH.nil
    go_simp
    refine (HLq.out _ hS0.a.rq).mono ?_
    rintro e V1 ⟨v1, rfl, hO1, hBc⟩
    have hS1 := hS0.below hBc
    obtain ⟨a1, k1, rfl⟩ := ownsP_slice hO1
    have hM1 : M < V1.heap.size := by obtain ⟨x, y, hb⟩ := hS1.b; exact hb.lt
    have hMV : M < V0.heap.size := by obtain ⟨x, y, hb⟩ := hS0.b; exact hb.lt
    have hNV : w.heap.size < V0.heap.size := hS0.a.lt
    refine hK.out _ _ (meT_all hS1) (fun hH1 => ?_)
    clear hK K hBc hS0 hHeld
    (try simp only [Act.put, List.setIfInBounds_toArray, List.set_cons_zero, List.set_cons_succ])
    refine wpAnyH_take (i := 6) (oi := { dst := some 41, op := _, type := _, pos := _, after := _, guard := _ }) (v := ?_) rfl (by kernel_rfl) (by kernel_rfl) (by kernel_rfl) (fun _ _ _ h => h) (Or.inl ⟨by rfl, ?_⟩) (by assumption) ?_
    rotate_left
    focus (intro w hSw; (try dsimp only at hSw); first | (go_simp; done) | (go_simp; with_reducible rfl))
    (try simp only [Act.put, List.setIfInBounds_toArray, List.set_cons_zero, List.set_cons_succ])
    refine wpAnyH_ready (rs := [5]) (by kernel_rfl) (by simp) ?_
    refine AllReadyH.cons (o := { dst := some 40, op := _, type := _, pos := _, after := _, guard := _ }) rfl (fun K hK => ?_) AllReadyH.nil
    go_simp
    refine (HLr.out _ hS1.a.rr).mono ?_
    rintro e V2 ⟨v2, rfl, hO2, hBc⟩
    have hS2 := hS1.below hBc
    have hO1b := OwnsP.below hO1 hBc
    obtain ⟨a2, k2, rfl⟩ := ownsP_slice hO2
    refine hK.out _ _ (meT_all hS2) (fun hH2 => ?_)
    clear hK K hBc hS1 hH1 hO1
    (try simp only [Act.put, List.setIfInBounds_toArray, List.set_cons_zero, List.set_cons_succ])
    rw [hlq] at hO1b
    rw [hlr] at hO2
    rw [hlq, hlr] at HOl
    obtain ⟨x1, y1, hb1⟩ := hS2.b
    have gf1 := hb1.fr 1
    have gc1 := hb1.c1
    refine wpAnyH_ready (rs := [7]) (by kernel_rfl) (by simp) ?_
    refine AllReadyH.cons (o := { dst := none, op := _, type := _, pos := _, after := _, guard := _ }) rfl (fun K hK => ?_) AllReadyH.nil
    go_simp
    have hb2 := hb1.set1 (.slice a1 q.length k1)
    have hS3 : MeT w.heap.size M mGET (.slice qa q.length qc) q (.slice ra r.length rc) r s w (V2.setCell ⟨M, 1, none⟩ (.slice a1 q.length k1)) := ⟨hS2.a.far (by omega) (by omega) HQ0.out HR0.out HE0.out _, _, _, hb2⟩
    have hO1c := ownsP_other (j := 1) hO1b hMV (.slice a1 q.length k1)
    have hO2c := ownsP_other (j := 1) hO2 hM1 (.slice a1 q.length k1)
    refine hK.out _ _ (meT_all hS3) (fun hH3 => ?_)
    clear hK K gf1 gc1 hS2 hH2 hO1b hO2 hb1
    (try simp only [Act.put, List.setIfInBounds_toArray, List.set_cons_zero, List.set_cons_succ])
    generalize V2.setCell ⟨M, 1, none⟩ (.slice a1 q.length k1) = V3 at *
    refine wpAnyH_take (i := 8) (oi := { dst := some 42, op := _, type := _, pos := _, after := _, guard := _ }) (v := ?_) rfl (by kernel_rfl) (by kernel_rfl) (by kernel_rfl) (fun _ _ _ h => h) (Or.inl ⟨by rfl, ?_⟩) (by assumption) ?_
    rotate_left
    focus (intro w hSw; (try dsimp only at hSw); first | (go_simp; done) | (go_simp; with_reducible rfl))
    (try simp only [Act.put, List.setIfInBounds_toArray, List.set_cons_zero, List.set_cons_succ])
    have gf2 := hb2.fr 2
    have gc2 := hb2.c2
    refine wpAnyH_ready (rs := [9]) (by kernel_rfl) (by simp) ?_
    refine AllReadyH.cons (o := { dst := none, op := _, type := _, pos := _, after := _, guard := _ }) rfl (fun K hK => ?_) AllReadyH.nil
    go_simp
    have hb3 := hb2.set2 (.slice a2 r.length k2)
    have hS4 : MeT w.heap.size M mGET (.slice qa q.length qc) q (.slice ra r.length rc) r s w (V3.setCell ⟨M, 2, none⟩ (.slice a2 r.length k2)) := ⟨hS3.a.far (by omega) (by omega) HQ0.out HR0.out HE0.out _, _, _, hb3⟩
    have hO1d := ownsP_other (j := 2) hO1c hMV (.slice a2 r.length k2)
    have hO2d := ownsP_other (j := 2) hO2c hM1 (.slice a2 r.length k2)
    refine hK.out _ _ (meT_all hS4) (fun hH4 => ?_)
    clear hK K gf2 gc2 hS3 hH3 hO1c hO2c hb2
    (try simp only [Act.put, List.setIfInBounds_toArray, List.set_cons_zero, List.set_cons_succ])
    generalize V3.setCell ⟨M, 2, none⟩ (.slice a2 r.length k2) = V4 at *
    refine wpAnyH_done (by kernel_rfl) ?_ _
    (try simp only [Exit.then])
    have hT : TwC w.heap.size M mGET mGET (.slice qa q.length qc) q (.slice ra r.length rc) r (.slice a1 q.length k1) (louL q) (.slice a2 r.length k2) (louL r) s w V4 := ⟨hS4.a, csS_of hb3 hO1d.q hO2d.q hS4.a.e hS4.a.b⟩
    have hY0 := hT.below (Below.refl _ _).drew
    clear hT hS4 hH4 hO1d hO2d hb3
    have HO3 := Lib.hid (HOf.out mGET)
    generalize storV mGET q r s dd de dl = res at *
    go_upto_region 12 with fail
    refine wp_region_held_drew (S := (fun w' => w'.cell? ⟨w.heap.size, 0, none⟩ = some (.string (strB mGET)) ∧ w'.cell? ⟨w.heap.size, 1, none⟩ = some (.slice qa q.length qc) ∧ w'.cell? ⟨w.heap.size, 2, none⟩ = some (.slice ra r.length rc) ∧ w'.cell? ⟨w.heap.size, 3, none⟩ = some (.int .i64 s) ∧ w'.cell? ⟨M, 0, none⟩ = some (.string (strB mGET)) ∧ w'.cell? ⟨M, 1, none⟩ = some (.slice a1 q.length k1) ∧ w'.cell? ⟨M, 2, none⟩ = some (.slice a2 r.length k2) ∧ w'.cell? ⟨M, 3, none⟩ = some (.int .i64 s) ∧ TwC w.heap.size M mGET mGET (.slice qa q.length qc) q (.slice ra r.length rc) r (.slice a1 q.length k1) (louL q) (.slice a2 r.length k2) (louL r) s w w')) (by kernel_rfl) (twC_all hY0) (fun hHeld => ?_)
    generalize V4.drew = Y0 at *
    refine wpAnyH_take (i := 0) (oi := { dst := some 43, op := _, type := _, pos := _, after := _, guard := _ }) (v := caV mGET (.slice qa q.length qc) (.slice ra r.length rc) s) rfl (by kernel_rfl) (by kernel_rfl) (by kernel_rfl) (fun _ _ _ h => h) (Or.inl ⟨by rfl, ?_⟩) (by assumption) ?_
    focus (intro w hSw; (try dsimp only at hSw); first | (go_simp; done) | (go_simp; with_reducible rfl))
    (try simp only [Act.put, List.setIfInBounds_toArray, List.set_cons_zero, List.set_cons_succ])
    refine wpAnyH_take (i := 2) (oi := { dst := some 45, op := _, type := _, pos := _, after := _, guard := _ }) (v := caV mGET (.slice a1 q.length k1) (.slice a2 r.length k2) s) rfl (by kernel_rfl) (by kernel_rfl) (by kernel_rfl) (fun _ _ _ h => h) (Or.inl ⟨by rfl, ?_⟩) (by assumption) ?_
    focus (intro w hSw; (try dsimp only at hSw); first | (go_simp; done) | (go_simp; with_reducible rfl))
    (try simp only [Act.put, List.setIfInBounds_toArray, List.set_cons_zero, List.set_cons_succ])
    refine wpAnyH_ready (rs := [1]) (by kernel_rfl) (by simp) ?_
    refine AllReadyH.cons (o := { dst := some 44, op := _, type := _, pos := _, after := _, guard := _ }) rfl (fun K hK => ?_) AllReadyH.nil
    go_simp
    refine (HO3.out _ hY0.a.rq hY0.a.rr hY0.a.e).mono ?_
    rintro e Y1 ⟨rfl, hBc⟩
    have hY1 := hY0.below hBc
    refine hK.out _ _ (twC_all hY1) (fun hG1 => ?_)
    clear hK K hBc hY0 hHeld
    (try simp only [Act.put, List.setIfInBounds_toArray, List.set_cons_zero, List.set_cons_succ])
    refine wpAnyH_ready (rs := [3]) (by kernel_rfl) (by simp) ?_
    refine AllReadyH.cons (o := { dst := some 46, op := _, type := _, pos := _, after := _, guard := _ }) rfl (fun K hK => ?_) AllReadyH.nil
    go_simp
    refine (HOl.out _ _ _ _ _ hY1.b.rq hY1.b.rr hY1.b.e).mono ?_
    rintro e Y2 ⟨rfl, hBc⟩
    have hY2 := hY1.below hBc
    refine hK.out _ _ (twC_all hY2) (fun hG2 => ?_)
    clear hK K hBc hY1 hG1
    (try simp only [Act.put, List.setIfInBounds_toArray, List.set_cons_zero, List.set_cons_succ])
    refine wpAnyH_take (i := 4) (oi := { dst := some 47, op := _, type := _, pos := _, after := _, guard := _ }) (v := .bool true) rfl (by kernel_rfl) (by kernel_rfl) (by kernel_rfl) (fun _ _ _ h => h) (Or.inl ⟨by rfl, ?_⟩) (by assumption) ?_
    focus (intro w hSw; (try dsimp only at hSw); first | (go_simp; done) | (go_simp; with_reducible rfl))
    (try simp only [Act.put, List.setIfInBounds_toArray, List.set_cons_zero, List.set_cons_succ])
    refine wpAnyH_take (i := 5) (oi := { dst := some 2, op := _, type := _, pos := _, after := _, guard := _ }) (v := ?_) rfl (by kernel_rfl) (by kernel_rfl) (by kernel_rfl) (fun _ _ _ h => h) (Or.inl ⟨by rfl, ?_⟩) (by assumption) ?_
    rotate_left
    focus (intro w hSw; (try dsimp only at hSw); first | (go_simp; done) | (go_simp; with_reducible rfl))
    (try simp only [Act.put, List.setIfInBounds_toArray, List.set_cons_zero, List.set_cons_succ])
    refine wpAnyH_done (by kernel_rfl) ?_ _
    (try simp only [Exit.then])
    (try go_wp2_with fail)
    go_ret
    exact ⟨rfl, hY2.a.b⟩
end Go.Proofs.YtoiampkdmjpljaaGreatDoor
