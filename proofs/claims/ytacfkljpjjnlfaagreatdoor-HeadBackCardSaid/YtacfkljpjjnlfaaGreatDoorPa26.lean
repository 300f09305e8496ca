import Derived.Test.YtacfkljpjjnlfaaGreatDoorPa25
import Derived.Test.YtacfkljpjjnlfaaGreatDoorPa19
import Derived.Test.YtacfkljpjjnlfaaGreatDoorPa24
import Derived.Test.YtacfkljpjjnlfaaGreatDoorPa21
import Derived.Lib.AppendStr
import Derived.Deep.RegionHeld3
import Derived.Deep.Cut
import Derived.Test.YtacfkljpjjnlfaaGreatDoorPa23
/- HeadResponses: for every text the statement's function returns true: the walk. -/
namespace Go.Proofs.YtacfkljpjjnlfaaGreatDoor
open Go.RowKit

theorem rdP_flen (l : List UInt8) : (rdP l).2.1.2.length ≤ 64 := by
  by_cases h : (splitG l).1 = 0
  · obtain ⟨x, t, hx, ht, _⟩ := split_lines h
    by_cases h1 : statC x = 0
    · by_cases h2 : (readFs nmO vlO t).1 = 0
      · rw [rdP_g h hx h1 h2]
        have := readFs_len (nm := nmO) (vl := vlO) t
        show (readFs nmO vlO t).2.length ≤ 64
        omega
      · rw [rdP_f h hx h1 h2]; simp
    · rw [rdP_start h hx rfl h1]; simp
  · rw [rdP_split rfl h]; simp
end Go.Proofs.YtacfkljpjjnlfaaGreatDoor

/- HeadBack: for every response and text the statement's function returns true: the walk. -/
namespace Go.Proofs.YtacfkljpjjnlfaaGreatDoor
open Go.RowKit

theorem Tryz.infoU8 : (Tryz.prog.info? 5).map (fun i => (i.zero, i.size, i.bytes)) = some (some (.int .u8 0), 1, 1) := by kernel_rfl
theorem wrP_none {z : Int} {fs : Fs} (h : (wrP z fs).1 ≠ 0) : (wrP z fs).2 = [] := by
  unfold wrP writeP at h ⊢
  split
  · rfl
  · rename_i h1
    rw [if_neg h1] at h
    split
    · rfl
    · rename_i h2
      rw [if_neg h2] at h
      split
      · rfl
      · rename_i h3
        rw [if_neg h3] at h
        exact absurd rfl h
theorem wrP_ne {z : Int} {fs : Fs} {b : List UInt8} (h : wrP z fs = (0, b)) : b ≠ [] := by
  unfold wrP writeP at h
  split at h
  · exact absurd (congrArg Prod.fst h) (by simp)
  · split at h
    · exact absurd (congrArg Prod.fst h) (by simp)
    · split at h
      · exact absurd (congrArg Prod.fst h) (by simp)
      · have := congrArg Prod.snd h
        simp only at this
        rw [← this, enc_cons]; simp
theorem wrP_le {z : Int} {fs : Fs} {b : List UInt8} (h : wrP z fs = (0, b)) : b.length ≤ 8192 := by
  unfold wrP writeP at h
  split at h
  · exact absurd (congrArg Prod.fst h) (by simp)
  · rename_i h1
    split at h
    · exact absurd (congrArg Prod.fst h) (by simp)
    · split at h
      · exact absurd (congrArg Prod.fst h) (by simp)
      · have := congrArg Prod.snd h
        simp only at this
        rw [← this]; omega
theorem cells_at {w : World} {g : Nat} {b : List UInt8} (hc : ∀ i (h : i < b.length), w.cell? ⟨g, i, none⟩ = some (.int .u8 ((b[i]'h).toNat : Int))) (o : Obj) (hg : g < w.heap.size) :
    ∀ j u, (Lib.byteCells b)[j]? = some u → (w.alloc o).cell? ((⟨g, 0, none⟩ : Addr).add j) = some u := by
  intro j u hj
  have hl : j < b.length := by have := (List.getElem?_eq_some_iff.1 hj).1; rw [Lib.byteCells_length] at this; exact this
  have e : (Lib.byteCells b)[j]? = some (.int .u8 ((b[j]'hl).toNat : Int)) := by unfold Lib.byteCells; rw [List.getElem?_map, List.getElem?_eq_getElem hl]; rfl
  rw [e] at hj
  rw [Addr.add_lit, Nat.zero_add, (below_new w o).cell (p := ⟨g, j, none⟩) hg, hc j hl]; exact hj
theorem one_cells (b : List UInt8) : ∀ u ∈ Lib.byteCells b, u.oneCell' = true := by
  intro u hu
  unfold Lib.byteCells at hu
  obtain ⟨c, _, rfl⟩ := List.mem_map.1 hu
  rfl
theorem str_cells (r : ByteArray) : Lib.strCells r = Lib.byteCells r.data.toList := rfl
/-- Two responses lie in their variables, and their fields are read. -/
def BkS (M N : Nat) (z : Int) (v1 v2 : Value) (fs gs : Fs) (w w' : World) : Prop :=
  w'.cell? ⟨M, 0, none⟩ = some (.int .i64 z) ∧ w'.cell? ⟨M, 1, none⟩ = some v1 ∧ w'.cell? ⟨N, 0, none⟩ = some (.int .i64 z) ∧ w'.cell? ⟨N, 1, none⟩ = some v2 ∧ M < w'.heap.size ∧ N < w'.heap.size ∧ ReadsQ w' v1 fs ∧ ReadsQ w' v2 gs ∧ Below w.heap.size w w'
theorem BkS.below {M N : Nat} {z : Int} {v1 v2 : Value} {fs gs : Fs} {w w1 w2 : World} (h : BkS M N z v1 v2 fs gs w w1) (hb : Below w1.heap.size w1 w2) : BkS M N z v1 v2 fs gs w w2 := by
  obtain ⟨a0, a1, b0, b1, hM, hN, r1, r2, hB⟩ := h
  exact ⟨(hb.cell (p := ⟨M, 0, none⟩) hM).trans a0, (hb.cell (p := ⟨M, 1, none⟩) hM).trans a1, (hb.cell (p := ⟨N, 0, none⟩) hN).trans b0, (hb.cell (p := ⟨N, 1, none⟩) hN).trans b1,
    Nat.lt_of_lt_of_le hM hb.size, Nat.lt_of_lt_of_le hN hb.size, r1.below hb, r2.below hb, hB.trans (hb.mono hB.size)⟩
theorem lower_bk {M N : Nat} {z : Int} {v1 v2 : Value} {fs gs : Fs} {w w1 : World} (h : BkS M N z v1 v2 fs gs w w1) (hl : fs.length ≤ 1000) (hb : ∀ p ∈ fs, p.1.length + p.2.length ≤ 1000000) :
    Calls Tryz.prog 18 #[v1] w1 fun e w' => ∃ v, e = .returned v ∧ ReadsQ w' v (fs.map low1) ∧ BkS M N z v1 v2 fs gs w w' := by
  refine (lowerF_any v1 fs w1 h.2.2.2.2.2.2.1 hl hb).mono ?_
  rintro e w' ⟨v, rfl, hO, hB⟩
  exact ⟨v, rfl, hO.q, h.below hB⟩
theorem are_bk {M N : Nat} {z : Int} {v1 v2 v : Value} {fs gs : Fs} {w w1 : World} (h : BkS M N z v1 v2 fs gs w w1) (hv : ReadsQ w1 v gs) (hl : gs.length ≤ 1000) :
    Calls Tryz.prog 20 #[v2, v] w1 fun e w' => e = .returned (.bool true) ∧ BkS M N z v1 v2 fs gs w w' := by
  refine (are_below v2 v gs gs w1 h.2.2.2.2.2.2.2.1 hv (by omega) (by omega)).mono ?_
  rintro e w' ⟨rfl, hB⟩
  exact ⟨by rw [decide_eq_true rfl], h.below hB⟩
set_option maxHeartbeats 8000000 in
set_option maxRecDepth 100000 in
theorem back_walk (z : Int) (v : Value) (ps : List (List UInt8 × List UInt8)) (r : ByteArray) (w : World) (hM : HasMax w) (hT : HasTab w)
    (hg : ReadsQ w v ps ∧ ps.length ≤ maxLen ∧ (∀ q ∈ ps, q.1.length ≤ 140737488355328 ∧ q.2.length ≤ 140737488355328)) (hrs : r.size ≤ 140737488355328) :
    Calls Tryz.prog 6 #[.agg #[.int .i64 z, v], .string r] w fun e w' => e = .returned (.bool true) ∧ Below w.heap.size w w' := by
  obtain ⟨hr, hpl, hpb⟩ := hg
  have HM := Lib.hid hM
  have HT := Lib.hid hT
  have HR := Lib.hid hr
  have F := Lib.hid (fun W (hr : ReadsQ W v ps) => fits_any v ps W hr (by unfold maxLen at hpl; omega) hpb)
  obtain ⟨ao, cap, rfl, hc⟩ := hr
  have hB0 : Below w.heap.size w (w.alloc (.cells #[.int .i64 z, .slice ao ps.length cap] 54)) := below_new _ _
  clear hM hT hc hpl hpb
  go_enter Tryz.func6, Tryz.ntmps6
  go_wp2_with fail
  refine (awake_any _ (HT.out.below hB0)).mono ?_
  rintro e w1 ⟨rfl, hB1⟩
  obtain ⟨b0, b1, bf0, bf1, bz⟩ := box_kept w hB1
  have hBx := hB0.trans (hB1.mono hB0.size)
  go_wp2_with fail
  refine (F.out _ (HR.out.below hBx)).mono ?_
  rintro e w2 ⟨rfl, hB2⟩
  have hB12 := hB1.trans (hB2.mono hB1.size)
  have hBy := hB0.trans (hB12.mono hB0.size)
  clear b0 b1 bf0 bf1 bz hB1 hB2 hBx
  obtain ⟨b0, b1, bf0, bf1, bz⟩ := box_kept w hB12
  cases hfit : fitsB ps with
  | false =>
    go_wp2_with fail
    refine (awake_any _ (HT.out.below hBy)).mono ?_
    rintro e w3 ⟨rfl, hB3⟩
    go_wp2_with fail
    go_ret
    exact ⟨rfl, hBy.trans (hB3.mono hBy.size)⟩
  | true =>
    by_cases hbig : 20000 < r.size
    · go_wp2_with fail
      refine (awake_any _ (HT.out.below hBy)).mono ?_
      rintro e w3 ⟨rfl, hB3⟩
      go_wp2_with fail
      go_ret
      exact ⟨rfl, hBy.trans (hB3.mono hBy.size)⟩
    · obtain ⟨hl80, hq⟩ := fits_yes hfit
      have hb : ∀ p ∈ ps, p.1.length + p.2.length ≤ 1000000 := fun p hp => Nat.le_trans (hq p hp) (by decide)
      have HPB := Lib.hid hb
      have HL := Lib.hid (show ps.length ≤ 1000 by omega)
      have Q := Lib.hid (fun W (hr : ReadsQ W (.slice ao ps.length cap) ps) => response_any z (.slice ao ps.length cap) ps W hr (by omega) hb)
      have WR := Lib.hid (fun v W (hr : ReadsQ W v ps) hT => writeResponse_any z v ps W hr hT (by omega) hb)
      unfold RespPost at WR
      have WN := Lib.hid (wrP_none (z := z) (fs := ps))
      have WB := Lib.hid (fun b (h : wrP z ps = (0, b)) => writeP_read flk h r.data.toList)
      have HNE := Lib.hid (fun b (h : wrP z ps = (0, b)) => wrP_ne h)
      have HLB := Lib.hid (fun b (h : wrP z ps = (0, b)) => wrP_le h)
      generalize wrP z ps = q at *
      obtain ⟨c, b⟩ := q
      clear hq hb hl80 hfit
      go_wp2_with fail
      refine (Q.out _ (HR.out.below hBy)).mono ?_
      rintro e w3 ⟨a3, n3, c3, rfl, hO3, hB3⟩
      have hB13 := hB12.trans (hB3.mono hB12.size)
      have hBz := hB0.trans (hB13.mono hB0.size)
      clear b0 b1 bf0 bf1 bz hB12 hB3 hBy
      have WR := WR.out _ _ hO3.q (HT.out.below hBz)
      go_wp2_with fail
      refine WR.mono ?_
      rintro e w4 ⟨v4, he4, hO4, hB4⟩
      have hB14 := hB13.trans (hB4.mono hB13.size)
      have hBw := hB0.trans (hB14.mono hB0.size)
      clear WR hO3 hB13 hB4 hBz
      obtain ⟨b0, b1, bf0, bf1, bz⟩ := box_kept w hB14
      by_cases hc0 : c = 0
      · subst hc0
        obtain ⟨hst, hrd⟩ := WB.out b rfl
        obtain ⟨k, rfl⟩ : ∃ k : Nat, z = (k : Int) := ⟨z.toNat, by omega⟩
        have hbne : b ≠ [] := HNE.out b rfl
        obtain ⟨g4, cp4, rfl, hg4, hc4⟩ : ∃ g4 cp4, v4 = .slice (some ⟨g4, 0, none⟩) b.length cp4 ∧ g4 < w4.heap.size ∧ ∀ i (h : i < b.length), w4.cell? ⟨g4, i, none⟩ = some (.int .u8 ((b[i]'h).toNat : Int)) := by
          rcases hO4.isSlice with ⟨_, e⟩ | ⟨g, cap, rfl, _, _, h2, h3⟩
          · exact absurd e hbne
          · exact ⟨g, cap, rfl, h2, h3⟩
        obtain ⟨i0, hi, hz0, hz1, hz2⟩ := info_parts Tryz.infoU8
        have hcell := cells_at hc4 (.cells #[] 5) hg4
        have hown0 : (w4.alloc (.cells #[] 5)).ownsRow w4.heap.size 5 1 (.slice (some ⟨w4.heap.size, 0, none⟩) 0 0) 0 [] := World.ownsRow_made w4 #[] 0 (Nat.le_refl _) (Nat.zero_le _) (by simp)
        have hlb : (Lib.byteCells b).length = b.length * 1 := by rw [Lib.byteCells_length, Nat.mul_one]
        have hbl : b.length ≤ 8192 := HLB.out b rfl
        have HB14 := Lib.hid hB14
        have HC4 := Lib.hid hcell
        have he4' : e = .returned (.tuple #[.slice (some ⟨g4, 0, none⟩) b.length cp4, .nilIface]) := he4
        subst he4'
        clear he4 hc4 hcell hO4
        go_wp2_with (at_builtin; first
          | (refine wpList_append_own _ rfl _ _ 23 rfl w4.heap.size 5 i0 (.int .u8 0) 1 1 Tryz.underlying23 hi hz0 hz1 hz2 rfl (by decide) _ _ _ rfl hown0 ⟨g4, 0, none⟩ b.length cp4 (Lib.byteCells b) rfl hlb HC4.out (one_cells b) (by unfold maxLen; omega) (by omega) (by simp) ?_; intro v6 w6 hown6 hgrow6 _)
          | (refine Lib.wpList_append_own_string _ rfl _ _ 23 9 rfl w4.heap.size 5 i0 Tryz.underlying23 Tryz.underlying9 hi hz0 hz1 hz2 _ _ _ rfl hown6 r rfl (by unfold maxLen; omega) (by omega) (by have := hgrow6.size; simp at this; omega) ?_; intro v7 w7 hown7 hgrow7 _))
        have hsr : r.data.toList.length = r.size := by rw [Array.length_toList]; rfl
        have hB46 : Below w4.heap.size w4 w6 := (below_new w4 (.cells #[] 5)).grown hgrow6 (by simp) (fun q hq => by have := Option.some.inj hq; simp at this; omega)
        have hB47 : Below w4.heap.size w4 w7 := hB46.grown hgrow7 hB46.size (fun q hq => (World.ownsRow.lt hown6 q hq).1)
        have hO7 : OwnsB w4.heap.size w7 v7 (b ++ r.data.toList) := by
          unfold OwnsB
          rw [List.length_append, hsr, ← cellsB_app, ← str_cells]
          simpa using hown7
        obtain ⟨g7, c7, rfl, hR7⟩ := hO7.readsB (by simp [hbne])
        have hBv := hBw.trans (hB47.mono hBw.size)
        have R := readResponse_any _ (b ++ r.data.toList) w7 hR7 (HM.out.below hBv) (by rw [List.length_append]; omega)
        unfold ResPost at R
        rw [show rdP (b ++ r.data.toList) = (0, ((k : Int).toNat, ps.map fun f => (lowS f.1, f.2)), b.length) from hrd] at R
        clear hR7 hO7 hown7 hown6 hown0 hgrow6 hgrow7 hB46 hrd WN WB HNE HLB
        refine R.mono ?_
        rintro e w8 ⟨v8, he8, hO8, hB8⟩
        have hO8' : OwnsP 91 w7.heap.size w8 v8 (ps.map low1) := hO8
        obtain ⟨a8, c8, rfl, _⟩ := hO8'.reads
        rw [List.length_map] at hO8' he8
        have he8' : e = .returned (.tuple #[.agg #[.int .i64 (k : Int), .slice a8 ps.length c8], .int .i64 (b.length : Int), .nilIface]) := he8
        subst he8'
        have hB48 := hB14.trans ((hB47.trans (hB8.mono hB47.size)).mono hB14.size)
        have hBu := hB0.trans (hB48.mono hB0.size)
        clear R hB47 hBv hB8 hB14 b0 b1 bf0 bf1 bz he8 hO8 HB14
        obtain ⟨b0, b1, bf0, bf1, bz⟩ := box_kept w hB48
        go_upto_region 7 with fail
        have hbn := below_new w8 (.cells #[.int .i64 (k : Int), .slice a8 ps.length c8] 57)
        have hx : ∀ j, (w8.alloc (.cells #[.int .i64 (k : Int), .slice a8 ps.length c8] 57)).cell? ⟨w8.heap.size, j, none⟩ = (#[.int .i64 (k : Int), .slice a8 ps.length c8] : Array Value)[j]? := fun j => by rw [World.cell?_alloc_at _ _ _ _ rfl]
        have hS0 : BkS w.heap.size w8.heap.size (k : Int) (.slice ao ps.length cap) (.slice a8 ps.length c8) ps (ps.map low1) w (w8.alloc (.cells #[.int .i64 (k : Int), .slice a8 ps.length c8] 57)) :=
          ⟨(hbn.cell (p := ⟨w.heap.size, 0, none⟩) bz).trans b0, (hbn.cell (p := ⟨w.heap.size, 1, none⟩) bz).trans b1, hx 0, hx 1, by simp; omega, by simp, (HR.out.below hBu).below hbn, (OwnsP.below hO8' hbn).q, hBu.trans (hbn.mono hBu.size)⟩
        generalize (w8.alloc (.cells #[.int .i64 (k : Int), .slice a8 ps.length c8] 57)) = w9 at *
        clear hbn hx b0 b1 bf0 bf1 bz hO8' hBu hB48
        generalize w8.heap.size = N at *
        have hSd := hS0.below (Below.refl _ _).drew
        go_region_held3 (fun w' => w'.cell? ⟨w.heap.size, 0, none⟩ = some (.int .i64 (k : Int)) ∧ w'.cell? ⟨w.heap.size, 1, none⟩ = some (.slice ao ps.length cap) ∧ w'.cell? ⟨N, 0, none⟩ = some (.int .i64 (k : Int)) ∧ w'.cell? ⟨N, 1, none⟩ = some (.slice a8 ps.length c8) ∧ w.heap.size < w'.heap.size ∧ N < w'.heap.size ∧ ReadsQ w' (.slice ao ps.length cap) ps ∧ ReadsQ w' (.slice a8 ps.length c8) (ps.map low1) ∧ Below w.heap.size w w')
          (first | exact hK | exact hK1 | exact hSd)
          (first
            | (go_at_call 18; refine (lower_bk (by first | exact hSd | assumption) HL.out HPB.out).mono ?_; rintro e w10 ⟨vr, rfl, hvr, hK1⟩)
            | (go_at_call 20; refine (are_bk hK1 hvr (by rw [List.length_map]; exact HL.out)).mono ?_; rintro e w11 ⟨rfl, hK⟩))
        have hBf := hK.2.2.2.2.2.2.2.2
        go_wp2_with fail
        go_ret
        exact ⟨rfl, hBf⟩
      · have hbn := WN.out hc0
        have hbn' : b = [] := hbn
        subst hbn'
        rw [errV_no hc0] at he4
        obtain ⟨a4, c4, rfl⟩ : ∃ a c, v4 = .slice a 0 c := by
          rcases hO4.isSlice with ⟨rfl, _⟩ | ⟨g, cap, rfl, _⟩
          · exact ⟨_, _, rfl⟩
          · exact ⟨_, _, rfl⟩
        subst he4
        clear hbn hc0 WN WB hO4
        go_wp2_with fail
        go_ret
        exact ⟨rfl, hBw⟩
end Go.Proofs.YtacfkljpjjnlfaaGreatDoor

/- A response of the reference among the arguments, opened. -/
namespace Go.Proofs.YtacfkljpjjnlfaaGreatDoor
open Go.ChangeShapes Go.WideShapes Go.ChangeAt Go.RowKit

section
variable {H : Type} {enc : TypeId × Value → H} {P : Program} {w : World} {base : Nat} {spare : Nat → Bool} {held : Bool}
theorem trod_struct2 {t : TypeId} {f0 f1 : Field} {fuel : Nat} {cs : List Value} {x : DataW H × List MemPlace} (ht : P.underlying t = some (.struct #[f0, f1])) (h : DataW.trod enc P w base spare held fuel t cs = some x) :
    ∃ y0 y1 n, x = (.agg [y0.1, y1.1], y0.2 ++ y1.2) ∧ cs.length = P.cellsOf t ∧ DataW.trod enc P w base spare held n f0.type ((cs.drop f0.offset).take (P.cellsOf f0.type)) = some y0 ∧
      DataW.trod enc P w base spare held n f1.type ((cs.drop f1.offset).take (P.cellsOf f1.type)) = some y1 := by
  obtain ⟨xs, n, _, rfl, hl, hlen, hf⟩ := DataW.trod_struct ht h
  match xs, hlen with
  | [y0, y1], _ => exact ⟨y0, y1, n, by simp, hl, by simpa using hf 0 f0 rfl, by simpa using hf 1 f1 rfl⟩
end
set_option maxRecDepth 100000 in
theorem open_resp {H : Type} {enc : TypeId × Value → H} {w : World} {v : Value} {d : DataW H} {p : List MemPlace} {base : Nat} (hv : Value.okWide Tryz.prog w .any base 54 v)
    (h : DataW.Trod enc Tryz.prog w 0 (fun _ => true) true 54 v d p) (hw : ∀ n ∈ d.weights Tryz.prog 54, n ≤ reachBytes) :
    ∃ (z : Int) (v' : Value) (ps : List (List UInt8 × List UInt8)), v = .agg #[.int .i64 z, v'] ∧
      ReadsQ w v' ps ∧ ps.length ≤ maxLen ∧ (∀ q ∈ ps, q.1.length ≤ 140737488355328 ∧ q.2.length ≤ 140737488355328) := by
  obtain ⟨cs, rfl, hsz, hall⟩ : ∃ cs, v = .agg cs ∧ cs.size = 2 ∧ True := by
    simp only [Value.okWide, Tryz.underlying54] at hv
    obtain ⟨cs, h1, h2, _⟩ := hv
    exact ⟨cs, h1, h2.trans (by kernel_rfl), trivial⟩
  obtain ⟨c0, c1, rfl⟩ : ∃ c0 c1, cs = #[c0, c1] := by
    obtain ⟨l⟩ := cs
    match l, hsz with
    | [a, b], _ => exact ⟨a, b, rfl⟩
    | [], hz => simp at hz
    | [_], hz => simp at hz
    | _ :: _ :: _ :: _, hz => simp at hz
  obtain ⟨fuel, hf⟩ := h
  have hf' : DataW.trod enc Tryz.prog w 0 (fun _ => true) true fuel 54 [c0, c1] = some (d, p) := by simpa [Value.cells] using hf
  obtain ⟨y0, y1, n, hx, _, g0, g1⟩ := trod_struct2 Tryz.underlying54 hf'
  have hce : Tryz.prog.cellsOf 3 = 1 := by kernel_rfl
  have hcb : Tryz.prog.cellsOf 32 = 1 := by kernel_rfl
  simp only [hce, hcb, List.drop_zero, List.drop_succ_cons, List.take_succ_cons, List.take_zero] at g0 g1
  obtain ⟨z, e0, _, _⟩ := DataW.trod_int Tryz.underlying3 g0
  simp only [List.cons.injEq, and_true] at e0
  simp only [Prod.mk.injEq] at hx
  rw [hx.1] at hw
  have key := hw
  unfold DataW.weights at key
  rw [Tryz.underlying54] at key
  simp only [DataW.weightsEach, List.map_cons, List.map_nil, List.mem_append, List.not_mem_nil, or_false] at key
  have k2 : ∀ n ∈ y1.1.weights Tryz.prog 32, n ≤ reachBytes := fun n hn => key n (.inr hn)
  obtain ⟨ps, q1, q2, q3⟩ := open_fields ⟨n, g1⟩ k2
  exact ⟨z, c1, ps, by rw [e0], q1, q2, q3⟩
end Go.Proofs.YtacfkljpjjnlfaaGreatDoor
