import Derived.Test.YtgbcpheccaldlaaGreatDoorPa12
import Derived.Test.YtgbcpheccaldlaaGreatDoorPa15
import Derived.Test.YtgbcpheccaldlaaGreatDoorPa16
import Derived.Lib.AppendStr
import Derived.Deep.RegionHeld3
import Derived.Deep.Cut
import Derived.Test.YtgbcpheccaldlaaGreatDoorPa11
import Derived.Test.YtgbcpheccaldlaaGreatDoorTie
import Derived.Test.YtgbcpheccaldlaaGreatDoorCards
import Derived.WalkKit
import Derived.ProofKit
import Derived.OpenShut
import Derived.LaidMore
import Derived.Lay
import Derived.SevenTiedAt
import Derived.Stop.Joined
import Derived.Below
import Derived.Stop.LaidErr
import Derived.Shelf.Vars
import Derived.Deep.DeepHandedRow
import Derived.Test.YtgbcpheccaldlaaGreatDoorPa8
import Derived.Test.YtgbcpheccaldlaaGreatDoorPa7
import Derived.Deep.SlicePairs
import Derived.Carry
/- HeadBack: for every response and text the statement's function returns true: the walk. -/
namespace Go.Proofs.YtgbcpheccaldlaaGreatDoor
open Go.RowKit

theorem Tryz.infoU8 : (Tryz.prog.info? 5).map (fun i => (i.zero, i.size, i.bytes)) = some (some (.int .u8 0), 1, 1) := by kernel_rfl
theorem wrP_none {z : Int} {fs : Fs} (h : (wrP z fs).1 ≠ 0) : (wrP z fs).2 = [] := by
  unfold wrP writeP at h ⊢
  split
  · rfl
  · rename_i h1
    rw [if_neg h1] at h
    split
    · rfl
    · rename_i h2
      rw [if_neg h2] at h
      split
      · rfl
      · rename_i h3
        rw [if_neg h3] at h
        exact absurd rfl h
theorem wrP_ne {z : Int} {fs : Fs} {b : List UInt8} (h : wrP z fs = (0, b)) : b ≠ [] := by
  unfold wrP writeP at h
  split at h
  · exact absurd (congrArg Prod.fst h) (by simp)
  · split at h
    · exact absurd (congrArg Prod.fst h) (by simp)
    · split at h
      · exact absurd (congrArg Prod.fst h) (by simp)
      · have := congrArg Prod.snd h
        simp only at this
        rw [← this, enc_cons]; simp
theorem wrP_le {z : Int} {fs : Fs} {b : List UInt8} (h : wrP z fs = (0, b)) : b.length ≤ 8192 := by
  unfold wrP writeP at h
  split at h
  · exact absurd (congrArg Prod.fst h) (by simp)
  · rename_i h1
    split at h
    · exact absurd (congrArg Prod.fst h) (by simp)
    · split at h
      · exact absurd (congrArg Prod.fst h) (by simp)
      · have := congrArg Prod.snd h
        simp only at this
        rw [← this]; omega
theorem cells_at {w : World} {g : Nat} {b : List UInt8} (hc : ∀ i (h : i < b.length), w.cell? ⟨g, i, none⟩ = some (.int .u8 ((b[i]'h).toNat : Int))) (o : Obj) (hg : g < w.heap.size) :
    ∀ j u, (Lib.byteCells b)[j]? = some u → (w.alloc o).cell? ((⟨g, 0, none⟩ : Addr).add j) = some u := by
  intro j u hj
  have hl : j < b.length := by have := (List.getElem?_eq_some_iff.1 hj).1; rw [Lib.byteCells_length] at this; exact this
  have e : (Lib.byteCells b)[j]? = some (.int .u8 ((b[j]'hl).toNat : Int)) := by unfold Lib.byteCells; rw [List.getElem?_map, List.getElem?_eq_getElem hl]; rfl
  rw [e] at hj
  rw [Addr.add_lit, Nat.zero_add, (below_new w o).cell (p := ⟨g, j, none⟩) hg, hc j hl]; exact hj
theorem one_cells (b : List UInt8) : ∀ u ∈ Lib.byteCells b, u.oneCell' = true := by
  intro u hu
  unfold Lib.byteCells at hu
  obtain ⟨c, _, rfl⟩ := List.mem_map.1 hu
  rfl
theorem str_cells (r : ByteArray) : Lib.strCells r = Lib.byteCells r.data.toList := rfl
/-- Two responses lie in their variables, and their fields are read. -/
def BkS (M N : Nat) (z : Int) (v1 v2 : Value) (fs gs : Fs) (w w' : World) : Prop :=
  w'.cell? ⟨M, 0, none⟩ = some (.int .i64 z) ∧ w'.cell? ⟨M, 1, none⟩ = some v1 ∧ w'.cell? ⟨N, 0, none⟩ = some (.int .i64 z) ∧ w'.cell? ⟨N, 1, none⟩ = some v2 ∧ M < w'.heap.size ∧ N < w'.heap.size ∧ ReadsQ w' v1 fs ∧ ReadsQ w' v2 gs ∧ Below w.heap.size w w'
theorem BkS.below {M N : Nat} {z : Int} {v1 v2 : Value} {fs gs : Fs} {w w1 w2 : World} (h : BkS M N z v1 v2 fs gs w w1) (hb : Below w1.heap.size w1 w2) : BkS M N z v1 v2 fs gs w w2 := by
  obtain ⟨a0, a1, b0, b1, hM, hN, r1, r2, hB⟩ := h
  exact ⟨(hb.cell (p := ⟨M, 0, none⟩) hM).trans a0, (hb.cell (p := ⟨M, 1, none⟩) hM).trans a1, (hb.cell (p := ⟨N, 0, none⟩) hN).trans b0, (hb.cell (p := ⟨N, 1, none⟩) hN).trans b1,
    Nat.lt_of_lt_of_le hM hb.size, Nat.lt_of_lt_of_le hN hb.size, r1.below hb, r2.below hb, hB.trans (hb.mono hB.size)⟩
theorem lower_bk {M N : Nat} {z : Int} {v1 v2 : Value} {fs gs : Fs} {w w1 : World} (h : BkS M N z v1 v2 fs gs w w1) (hl : fs.length ≤ 1000) (hb : ∀ p ∈ fs, p.1.length + p.2.length ≤ 1000000) :
    Calls Tryz.prog 9 #[v1] w1 fun e w' => ∃ v, e = .returned v ∧ ReadsQ w' v (fs.map low1) ∧ BkS M N z v1 v2 fs gs w w' := by
  refine (lowerF_any v1 fs w1 h.2.2.2.2.2.2.1 hl hb).mono ?_
  rintro e w' ⟨v, rfl, hO, hB⟩
  exact ⟨v, rfl, hO.q, h.below hB⟩
theorem are_bk {M N : Nat} {z : Int} {v1 v2 v : Value} {fs gs : Fs} {w w1 : World} (h : BkS M N z v1 v2 fs gs w w1) (hv : ReadsQ w1 v gs) (hl : gs.length ≤ 1000) :
    Calls Tryz.prog 11 #[v2, v] w1 fun e w' => e = .returned (.bool true) ∧ BkS M N z v1 v2 fs gs w w' := by
  refine (are_below v2 v gs gs w1 h.2.2.2.2.2.2.2.1 hv (by omega) (by omega)).mono ?_
  rintro e w' ⟨rfl, hB⟩
  exact ⟨by rw [decide_eq_true rfl], h.below hB⟩
end Go.Proofs.YtgbcpheccaldlaaGreatDoor

/- HeadReturns: for every request and text the statement's function returns true: the walk. -/
namespace Go.Proofs.YtgbcpheccaldlaaGreatDoor
open Go.RowKit

theorem wqP_cases (m t : List UInt8) (fs : Fs) : ((wqP m t fs).1 ≠ 0 ∧ (wqP m t fs).2 = []) ∨ ((wqP m t fs).1 = 0 ∧ (wqP m t fs).2 ≠ []) := by
  unfold wqP writeQ
  simp only
  split
  · exact .inl ⟨by simp, rfl⟩
  split
  · exact .inl ⟨by simp, rfl⟩
  split
  · exact .inl ⟨by simp, rfl⟩
  split
  · exact .inl ⟨by simp, rfl⟩
  split
  · exact .inl ⟨by simp, rfl⟩
  · exact .inr ⟨rfl, by rw [enc_cons]; simp⟩
theorem wqP_none {m t : List UInt8} {fs : Fs} (h : (wqP m t fs).1 ≠ 0) : (wqP m t fs).2 = [] := by
  rcases wqP_cases m t fs with ⟨_, h2⟩ | ⟨h1, _⟩
  · exact h2
  · exact absurd h1 h
/-- A field as the statement's function wants it: its host in lower case. -/
def hostW (p : List UInt8 × List UInt8) : List UInt8 × List UInt8 := if p.1 = hostN then (p.1, lowS p.2) else p
theorem hostW_name (p : List UInt8 × List UInt8) : (hostW p).1 = p.1 := by unfold hostW; split <;> rfl
theorem hostW_low (ps : Fs) : (ps.map low1).map hostW = ps.map fun f => (lowS f.1, (lowH lowS f).2) := by
  rw [List.map_map]
  apply List.map_congr_left
  intro p _
  show hostW (lowS p.1, p.2) = _
  unfold hostW lowH
  by_cases h : lowS p.1 = hostN
  · rw [if_pos h, if_pos h]
  · rw [if_neg h, if_neg h]
/-- The first k fields as they are wanted, the others as they are. -/
def wantK (qs : Fs) (k : Nat) : Fs := (qs.take k).map hostW ++ qs.drop k
theorem wantK_len (qs : Fs) (k : Nat) : (wantK qs k).length = qs.length := by
  unfold wantK; rw [List.length_append, List.length_map, List.length_take, List.length_drop]; omega
theorem wantK_at {qs : Fs} {k : Nat} {q : List UInt8 × List UInt8} (h : qs[k]? = some q) : (wantK qs k)[k]? = some q := by
  have hk : k < qs.length := (List.getElem?_eq_some_iff.mp h).1
  unfold wantK
  rw [List.getElem?_append_right (by simp; omega)]
  simp only [List.length_map, List.length_take]
  rw [Nat.min_eq_left (by omega), Nat.sub_self, List.getElem?_drop, Nat.add_zero]; exact h
theorem wantK_more {qs : Fs} {k : Nat} {q : List UInt8 × List UInt8} (h : qs[k]? = some q) : wantK qs (k + 1) = (wantK qs k).set k (hostW q) := by
  have hk : k < qs.length := (List.getElem?_eq_some_iff.mp h).1
  have hq : qs[k] = q := by rw [List.getElem?_eq_getElem hk] at h; exact Option.some.inj h
  unfold wantK
  have e1 : (List.map hostW (List.take k qs) ++ List.drop k qs).set k (hostW q) = List.map hostW (List.take k qs) ++ hostW q :: List.drop (k + 1) qs := by
    rw [List.drop_eq_getElem_cons hk]
    apply List.ext_getElem?
    intro i
    rw [List.getElem?_set]
    by_cases hi : k = i
    · subst hi
      rw [if_pos rfl, if_pos (by simp; omega), List.getElem?_append_right (by simp; omega)]
      simp only [List.length_map, List.length_take]
      rw [Nat.min_eq_left (by omega), Nat.sub_self]; rfl
    · rw [if_neg hi]
      by_cases hl : i < k
      · rw [List.getElem?_append_left (by simp; omega), List.getElem?_append_left (by simp; omega)]
      · rw [List.getElem?_append_right (by simp; omega), List.getElem?_append_right (by simp; omega)]
        simp only [List.length_map, List.length_take]
        rw [Nat.min_eq_left (by omega), show i - k = (i - k - 1) + 1 by omega, List.getElem?_cons_succ, List.getElem?_cons_succ]
  rw [e1, List.take_add_one, h, List.map_append, List.append_assoc]; rfl
theorem wantK_end (qs : Fs) {k : Nat} (h : qs.length ≤ k) : wantK qs k = qs.map hostW := by
  unfold wantK; rw [List.take_of_length_le h, List.drop_eq_nil_of_le h, List.append_nil]
theorem wantK_same {qs : Fs} {k : Nat} {q : List UInt8 × List UInt8} (h : qs[k]? = some q) (hn : q.1 ≠ hostN) : wantK qs (k + 1) = wantK qs k := by
  rw [wantK_more h]
  have : hostW q = q := by unfold hostW; rw [if_neg hn]
  rw [this]
  have h2 := wantK_at h
  apply List.ext_getElem?
  intro i
  rw [List.getElem?_set]
  split
  · rename_i e
    subst e
    split
    · exact h2.symm
    · rename_i e2; rw [List.getElem?_eq_none (by omega)]
  · rfl
theorem flatP_set : ∀ (l : Fs) (k : Nat) (a : List UInt8 × List UInt8) (b : List UInt8), l[k]? = some a → (flatP l).set (k * 2 + 1) (strV b) = flatP (l.set k (a.1, b)) := by
  intro l
  induction l with
  | nil => intro k a b h; simp at h
  | cons q r ih =>
    intro k a b h
    have e : flatP (q :: r) = strV q.1 :: strV q.2 :: flatP r := rfl
    rw [e]
    cases k with
    | zero =>
      simp only [List.getElem?_cons_zero, Option.some.injEq] at h
      subst h
      rfl
    | succ k =>
      rw [show (k + 1) * 2 + 1 = (k * 2 + 1) + 1 + 1 by omega]
      simp only [List.set_cons_succ]
      rw [ih k a b (by simpa using h)]; rfl
theorem wqP_ne {m t : List UInt8} {fs : Fs} {b : List UInt8} (h : wqP m t fs = (0, b)) : b ≠ [] ∧ b.length ≤ 8192 := by
  constructor
  · rcases wqP_cases m t fs with ⟨h1, _⟩ | ⟨_, h2⟩
    · rw [h] at h1; exact absurd rfl h1
    · rw [h] at h2; exact h2
  · have hr : rdQ (b ++ []) = (0, (m, t, fs.map fun f => (lowS f.1, (lowH lowS f).2)), b.length) := writeQ_read flk h []
    by_cases h0 : (splitG (b ++ [])).1 = 0
    · have hl := rdQ_lines h0
      rw [hr] at hl
      by_cases h1 : (reqL nmO vlO hostO lowS (splitG (b ++ [])).2.1).1 ≠ 0
      · rw [if_pos h1] at hl
        exact absurd (congrArg Prod.fst hl).symm h1
      · rw [if_neg h1] at hl
        have hn := congrArg (fun x => x.2.2) hl
        simp only at hn
        have hs := splitG_some (s := b ++ []) (l := (splitG (b ++ [])).2.1) (n := (splitG (b ++ [])).2.2) (by rw [← h0])
        omega
    · have := rdQ_split (l := b ++ []) rfl h0
      rw [hr] at this
      exact absurd (congrArg Prod.fst this).symm h0
/-- A store of the value of a field into a list of fields of the call's own. -/
theorem wantK_store {B g cap : Nat} {w : World} {qs : Fs} {k : Nat} {q : List UInt8 × List UInt8} (hq : qs[k]? = some q) (hn : q.1 = hostN) (h : OwnsP 41 B w (.slice (some ⟨g, 0, none⟩) qs.length cap) (wantK qs k)) :
    OwnsP 41 B (w.setCell ⟨g, k * 2 + 1, none⟩ (.string (strB (lowS q.2)))) (.slice (some ⟨g, 0, none⟩) qs.length cap) (wantK qs (k + 1)) ∧ w.grownBy (w.setCell ⟨g, k * 2 + 1, none⟩ (.string (strB (lowS q.2)))) (some g) := by
  unfold OwnsP at h ⊢
  rw [wantK_len] at h ⊢
  obtain ⟨h1, h2⟩ := World.ownsRow.stored h (k * 2 + 1) (strV (lowS q.2))
  refine ⟨?_, h2⟩
  rw [wantK_more hq]
  have e : hostW q = (q.1, lowS q.2) := by unfold hostW; rw [if_pos hn]
  rw [e, ← flatP_set (wantK qs k) k q (lowS q.2) (wantK_at hq)]
  exact h1
set_option maxHeartbeats 8000000 in
set_option maxRecDepth 100000 in
theorem returns_walk (m t : List UInt8) (v : Value) (ps : List (List UInt8 × List UInt8)) (r : ByteArray) (w : World) (hM : HasMax w) (hT : HasTab w)
    (hg : m.length ≤ 140737488355328 ∧ t.length ≤ 140737488355328 ∧ ReadsQ w v ps ∧ ps.length ≤ maxLen ∧ (∀ q ∈ ps, q.1.length ≤ 140737488355328 ∧ q.2.length ≤ 140737488355328)) (hrs : r.size ≤ 140737488355328) :
    Calls Tryz.prog 3 #[.agg #[.string (strB m), .string (strB t), v], .string r] w fun e w' => e = .returned (.bool true) ∧ Below w.heap.size w w' := by
  obtain ⟨hm, ht, hr, hpl, hpb⟩ := hg
  have HM := Lib.hid hM
  have HT := Lib.hid hT
  have HR := Lib.hid hr
  have F := Lib.hid (fun W (hr : ReadsQ W v ps) => fits_any v ps W hr (by unfold maxLen at hpl; omega) hpb)
  obtain ⟨ao, cap, rfl, hc⟩ := hr
  have hB0 : Below w.heap.size w (w.alloc (.cells #[.string (strB m), .string (strB t), .slice ao ps.length cap] 24)) := below_new _ _
  have hmz : (strB m).size = m.length := strB_size _
  have htz : (strB t).size = t.length := strB_size _
  clear hM hT hc hpl hpb
  go_enter Tryz.func3, Tryz.ntmps3
  go_wp2_with fail
  refine (awake_any _ (HT.out.below hB0)).mono ?_
  rintro e w1 ⟨rfl, hB1⟩
  obtain ⟨b0, b1, b2, bf0, bf1, bf2, bz⟩ := three_kept w hB1
  have hBx := hB0.trans (hB1.mono hB0.size)
  go_wp2_with fail
  refine (F.out _ (HR.out.below hBx)).mono ?_
  rintro e w2 ⟨rfl, hB2⟩
  have hB12 := hB1.trans (hB2.mono hB1.size)
  have hBy := hB0.trans (hB12.mono hB0.size)
  clear b0 b1 b2 bf0 bf1 bf2 bz hB1 hB2 hBx
  obtain ⟨b0, b1, b2, bf0, bf1, bf2, bz⟩ := three_kept w hB12
  cases hfit : fitsB ps with
  | false =>
    go_wp2_with fail
    refine (awake_any _ (HT.out.below hBy)).mono ?_
    rintro e w3 ⟨rfl, hB3⟩
    go_wp2_with fail
    go_ret
    exact ⟨rfl, hBy.trans (hB3.mono hBy.size)⟩
  | true =>
    by_cases hbig : 20000 < m.length + t.length + r.size
    · go_wp2_with fail
      refine (awake_any _ (HT.out.below hBy)).mono ?_
      rintro e w3 ⟨rfl, hB3⟩
      go_wp2_with fail
      go_ret
      exact ⟨rfl, hBy.trans (hB3.mono hBy.size)⟩
    · obtain ⟨hl80, hq⟩ := fits_yes hfit
      have hb : ∀ p ∈ ps, p.1.length + p.2.length ≤ 1000000 := fun p hp => Nat.le_trans (hq p hp) (by decide)
      have HPB := Lib.hid hb
      have Q := Lib.hid (fun W (hr : ReadsQ W (.slice ao ps.length cap) ps) => request_any m t (.slice ao ps.length cap) ps W hr (by omega) hb)
      have WR := Lib.hid (fun v W (hr : ReadsQ W v ps) hM => writeRequest_any m t v ps W hr hM (by omega) (by omega) (by omega) hb)
      unfold WReqPost at WR
      have WN := Lib.hid (wqP_none (m := m) (t := t) (fs := ps))
      have WB := Lib.hid (fun b (h : wqP m t ps = (0, b)) => writeQ_read flk h r.data.toList)
      have HNE := Lib.hid (fun b (h : wqP m t ps = (0, b)) => wqP_ne h)
      generalize wqP m t ps = q at *
      obtain ⟨c, b⟩ := q
      clear hq hb hfit
      go_wp2_with fail
      refine (Q.out _ (HR.out.below hBy)).mono ?_
      rintro e w3 ⟨a3, n3, c3, rfl, hO3, hB3⟩
      have hB13 := hB12.trans (hB3.mono hB12.size)
      have hBz := hB0.trans (hB13.mono hB0.size)
      clear b0 b1 b2 bf0 bf1 bf2 bz hB12 hB3 hBy
      have WR := WR.out _ _ hO3.q (HM.out.below hBz)
      go_wp2_with fail
      refine WR.mono ?_
      rintro e w4 ⟨v4, he4, hO4, hB4⟩
      have hB14 := hB13.trans (hB4.mono hB13.size)
      have hBw := hB0.trans (hB14.mono hB0.size)
      clear WR hO3 hB13 hB4 hBz
      obtain ⟨b0, b1, b2, bf0, bf1, bf2, bz⟩ := three_kept w hB14
      by_cases hc0 : c = 0
      · subst hc0
        have hrd := WB.out b rfl
        obtain ⟨hbne, hbl⟩ := HNE.out b rfl
        obtain ⟨g4, cp4, rfl, hg4, hc4⟩ : ∃ g4 cp4, v4 = .slice (some ⟨g4, 0, none⟩) b.length cp4 ∧ g4 < w4.heap.size ∧ ∀ i (h : i < b.length), w4.cell? ⟨g4, i, none⟩ = some (.int .u8 ((b[i]'h).toNat : Int)) := by
          rcases hO4.isSlice with ⟨_, e⟩ | ⟨g, cap, rfl, _, _, h2, h3⟩
          · exact absurd e hbne
          · exact ⟨g, cap, rfl, h2, h3⟩
        obtain ⟨i0, hi, hz0, hz1, hz2⟩ := info_parts Tryz.infoU8
        have hcell := cells_at hc4 (.cells #[] 5) hg4
        have hown0 : (w4.alloc (.cells #[] 5)).ownsRow w4.heap.size 5 1 (.slice (some ⟨w4.heap.size, 0, none⟩) 0 0) 0 [] := World.ownsRow_made w4 #[] 0 (Nat.le_refl _) (Nat.zero_le _) (by simp)
        have hlb : (Lib.byteCells b).length = b.length * 1 := by rw [Lib.byteCells_length, Nat.mul_one]
        have HB14 := Lib.hid hB14
        have HC4 := Lib.hid hcell
        have he4' : e = .returned (.tuple #[.slice (some ⟨g4, 0, none⟩) b.length cp4, .nilIface]) := he4
        subst he4'
        clear he4 hc4 hcell hO4
        go_wp2_with (at_builtin; first
          | (refine wpList_append_own _ rfl _ _ 27 rfl w4.heap.size 5 i0 (.int .u8 0) 1 1 Tryz.underlying27 hi hz0 hz1 hz2 rfl (by decide) _ _ _ rfl hown0 ⟨g4, 0, none⟩ b.length cp4 (Lib.byteCells b) rfl hlb HC4.out (one_cells b) (by unfold maxLen; omega) (by omega) (by simp) ?_; intro v6 w6 hown6 hgrow6 _)
          | (refine Lib.wpList_append_own_string _ rfl _ _ 27 9 rfl w4.heap.size 5 i0 Tryz.underlying27 Tryz.underlying9 hi hz0 hz1 hz2 _ _ _ rfl hown6 r rfl (by unfold maxLen; omega) (by omega) (by have := hgrow6.size; simp at this; omega) ?_; intro v7 w7 hown7 hgrow7 _))
        have hsr : r.data.toList.length = r.size := by rw [Array.length_toList]; rfl
        have hB46 : Below w4.heap.size w4 w6 := (below_new w4 (.cells #[] 5)).grown hgrow6 (by simp) (fun q hq => by have := Option.some.inj hq; simp at this; omega)
        have hB47 : Below w4.heap.size w4 w7 := hB46.grown hgrow7 hB46.size (fun q hq => (World.ownsRow.lt hown6 q hq).1)
        have hO7 : OwnsB w4.heap.size w7 v7 (b ++ r.data.toList) := by
          unfold OwnsB
          rw [List.length_append, hsr, ← cellsB_app, ← str_cells]
          simpa using hown7
        obtain ⟨g7, c7, rfl, hR7⟩ := hO7.readsB (by simp [hbne])
        have hBv := hBw.trans (hB47.mono hBw.size)
        have R := readRequest_any _ (b ++ r.data.toList) w7 hR7 (HM.out.below hBv) (by rw [List.length_append]; omega)
        unfold ReqPost at R
        rw [show rdQ (b ++ r.data.toList) = (0, (m, t, ps.map fun f => (lowS f.1, (lowH lowS f).2)), b.length) from hrd] at R
        clear hR7 hO7 hown7 hown6 hown0 hgrow6 hgrow7 hB46 hrd WN WB HNE
        refine R.mono ?_
        rintro e w8 ⟨v8, he8, hO8, hB8⟩
        have hO8' : OwnsP 60 w7.heap.size w8 v8 ((ps.map low1).map hostW) := by rw [hostW_low]; exact hO8
        have hW8 : ((ps.map low1).map hostW).length = ps.length := by simp
        obtain ⟨a8, c8, rfl, _⟩ := hO8'.reads
        rw [hW8] at hO8' he8
        have he8' : e = .returned (.tuple #[.agg #[.string (strB m), .string (strB t), .slice a8 ps.length c8], .int .i64 (b.length : Int), .nilIface]) := he8
        subst he8'
        have hB48 := hB14.trans ((hB47.trans (hB8.mono hB47.size)).mono hB14.size)
        have hBu := hB0.trans (hB48.mono hB0.size)
        clear R hB47 hBv hB8 hB14 b0 b1 b2 bf0 bf1 bf2 bz he8 hO8 HB14 hW8
        obtain ⟨b0, b1, b2, bf0, bf1, bf2, bz⟩ := three_kept w hB48
        have hbn := below_new w8 (.cells #[.string (strB m), .string (strB t), .slice a8 ps.length c8] 35)
        have hx : ∀ j, (w8.alloc (.cells #[.string (strB m), .string (strB t), .slice a8 ps.length c8] 35)).cell? ⟨w8.heap.size, j, none⟩ = (#[.string (strB m), .string (strB t), .slice a8 ps.length c8] : Array Value)[j]? := fun j => by rw [World.cell?_alloc_at _ _ _ _ rfl]
        have qm : ((strB m).toList == (strB m).toList) = true := beq_self_eq_true _
        have qt : ((strB t).toList == (strB t).toList) = true := beq_self_eq_true _
        have k0 := (hbn.cell (p := ⟨w.heap.size, 0, none⟩) bz).trans b0
        have k1 := (hbn.cell (p := ⟨w.heap.size, 1, none⟩) bz).trans b1
        have k2 := (hbn.cell (p := ⟨w.heap.size, 2, none⟩) bz).trans b2
        have x0 := hx 0
        have x1 := hx 1
        have x2 := hx 2
        have HR9 := Lib.hid ((HR.out.below hBu).below hbn)
        have HO9 := Lib.hid (OwnsP.below hO8' hbn)
        have HB9 := Lib.hid (hBu.trans (hbn.mono hBu.size))
        have LW := Lib.hid (lowerF_any (.slice ao ps.length cap) ps _ HR9.out (by omega) HPB.out)
        have hsz9 : w8.heap.size < (w8.alloc (.cells #[.string (strB m), .string (strB t), .slice a8 ps.length c8] 35)).heap.size := by simp
        have hszw : w.heap.size < (w8.alloc (.cells #[.string (strB m), .string (strB t), .slice a8 ps.length c8] 35)).heap.size := by simp; omega
        clear hbn hx b0 b1 b2 bf0 bf1 bf2 bz hO8' hBu hB48
        go_wp2_with fail
        refine LW.out.mono ?_
        generalize w8.alloc (.cells #[.string (strB m), .string (strB t), .slice a8 ps.length c8] 35) = w9 at *
        rintro e w10 ⟨vw, rfl, hOw, hB10⟩
        have hlow : (ps.map low1).length = ps.length := by simp
        obtain ⟨wa, wc, rfl⟩ : ∃ a c, vw = .slice a ps.length c := by
          obtain ⟨ao, cap, rfl, _⟩ := hOw.reads; exact ⟨ao, cap, by rw [hlow]⟩
        have HOw := Lib.hid (show OwnsP 41 w9.heap.size w10 (.slice wa ps.length wc) (wantK (ps.map low1) 0) from hOw)
        have HB10 := Lib.hid hB10
        have hs10 := hB10.size
        have HLow := Lib.hid hlow
        have HQL := Lib.hid (fun q (hq : q ∈ ps.map low1) => show q.2.length ≤ 1000000 by
          obtain ⟨p, hp, rfl⟩ := List.mem_map.1 hq
          have := HPB.out p hp
          show p.2.length ≤ _
          omega)
        generalize ps.map low1 = qs at *
        clear hlow hOw hB10 LW
        go_wp2_with fail
        go_loopw [10] (fun i wr => ∃ k : Nat, i = .int .i64 (k : Int) ∧ k ≤ ps.length ∧ OwnsP 41 w9.heap.size wr (.slice wa ps.length wc) (wantK qs k) ∧ Below w9.heap.size w9 wr) (fun i _ => ps.length - (intOf i).toNat)
        case atStart => exact ⟨0, rfl, Nat.zero_le _, HOw.out, HB10.out⟩
        case round =>
          obtain ⟨k, rfl, hk, hO, hBr⟩ := hrel
          have hbr := hBr.size
          by_cases hlt : k < ps.length
          · obtain ⟨q, hq⟩ : ∃ q, qs[k]? = some q := ⟨qs[k]'(by rw [HLow.out]; exact hlt), List.getElem?_eq_getElem _⟩
            obtain ⟨g, rfl, hgb, hgl⟩ : ∃ g, wa = some ⟨g, 0, none⟩ ∧ w9.heap.size ≤ g ∧ g < wr.heap.size := by
              have hO2 := hO
              rcases hO with ⟨_, ⟨hv, hn⟩ | ⟨g, cap, cur, hv, hb, hg, _⟩⟩
              · rw [wantK_len, HLow.out] at hn; omega
              · simp only [Value.slice.injEq] at hv
                exact ⟨g, hv.1, hb, (Array.getElem?_eq_some_iff.1 hg).1⟩
            have hO3 : wr.ownsRow w9.heap.size 41 2 (.slice (some ⟨g, 0, none⟩) ps.length wc) ps.length (flatP (wantK qs k)) := by
              have := hO; unfold OwnsP at this; rw [wantK_len, HLow.out] at this; exact this
            have hfa := flatP_at _ k q (wantK_at hq)
            have hc1 : wr.cell? ⟨g, k * 2, none⟩ = some (.string (strB q.1)) := by rw [World.ownsRow.cellAt hO3 (k * 2) (by omega), hfa.1]
            have hc2 : wr.cell? ⟨g, k * 2 + 1, none⟩ = some (.string (strB q.2)) := by rw [World.ownsRow.cellAt hO3 (k * 2 + 1) (by omega), hfa.2]
            have hf2 := World.ownsRow.frozenAt hO3 (k * 2 + 1)
            have HQ := Lib.hid hq
            have HO := Lib.hid hO
            clear hO3 hfa hO
            by_cases hh : q.1 = hostN
            · have heq : ((strB q.1).toList == ([104, 111, 115, 116] : List UInt8)) = true := by rw [ByteArray.toList_eq, strB_list, hh]; rfl
              have hql := HQL.out q (List.mem_of_getElem? hq)
              have LO := Lib.hid (refLower_any (strB q.2) wr (by rw [strB_size]; omega))
              rw [strB_list] at LO
              have HH := Lib.hid hh
              clear hq hh
              go_wp2_with fail
              refine LO.out.mono ?_
              rintro e w11 ⟨rfl, hB11⟩
              have d2 := (hB11.cell (p := ⟨g, k * 2 + 1, none⟩) hgl).trans hc2
              have e2 := (hB11.frozen (p := ⟨g, k * 2 + 1, none⟩) hgl).trans hf2
              have HB11 := Lib.hid hB11
              clear hB11
              go_wp2_with fail
              go_roundw
              case rel =>
                have hO4 := OwnsP.below HO.out HB11.out
                obtain ⟨h1, _⟩ := wantK_store (cap := wc) HQ.out HH.out (by rw [HLow.out]; exact hO4)
                rw [HLow.out] at h1
                exact ⟨k + 1, by go_num, by omega, h1, (hBr.trans (HB11.out.mono hbr)).setCell (p := ⟨g, k * 2 + 1, none⟩) hgb _⟩
              case measure => simp [intOf]; omega
            · have heq : ((strB q.1).toList == ([104, 111, 115, 116] : List UInt8)) = false := by
                rw [ByteArray.toList_eq, strB_list, beq_eq_false_iff_ne]; exact hh
              have HS := Lib.hid (wantK_same hq hh)
              clear hq hh
              go_wp2_with fail
              go_roundw
              case rel => exact ⟨k + 1, by go_num, by omega, by rw [HS.out]; exact HO.out, hBr⟩
              case measure => simp [intOf]; omega
          · rw [wantK_end qs (by rw [HLow.out]; omega)] at hO
            have y2 := (hBr.cell (p := ⟨w8.heap.size, 2, none⟩) hsz9).trans x2
            have A := Lib.hid (are_below (.slice a8 ps.length c8) (.slice wa ps.length wc) (qs.map hostW) (qs.map hostW) wr (OwnsP.below HO9.out hBr).q hO.q (by rw [List.length_map, HLow.out]; omega) (by rw [List.length_map, HLow.out]; omega))
            rw [decide_eq_true rfl] at A
            clear hO
            go_wp2_with fail
            refine A.out.mono ?_
            rintro e w12 ⟨rfl, hB12'⟩
            go_wp2_with fail
            go_ret
            exact ⟨rfl, HB9.out.trans ((hBr.trans (hB12'.mono hbr)).mono HB9.out.size)⟩
      · have hbn := WN.out hc0
        have hbn' : b = [] := hbn
        subst hbn'
        rw [errV_no hc0] at he4
        obtain ⟨a4, c4, rfl⟩ : ∃ a c, v4 = .slice a 0 c := by
          rcases hO4.isSlice with ⟨rfl, _⟩ | ⟨g, cap, rfl, _⟩
          · exact ⟨_, _, rfl⟩
          · exact ⟨_, _, rfl⟩
        subst he4
        clear hbn hc0 WN WB hO4
        go_wp2_with fail
        go_ret
        exact ⟨rfl, hBw⟩
end Go.Proofs.YtgbcpheccaldlaaGreatDoor

/- What every row of layer 5 shares: the program's knob, the start that lays the listed variables, what the walks ask of a world, and the row's last step. -/
namespace Go.Proofs.YtgbcpheccaldlaaGreatDoor
open Go.ChangeShapes Go.WideShapes Go.ChangeAt Go.RowKit

theorem own : ownKnob Tryz.prog.godebug = none := by kernel_rfl
def laidL : List (String × DataW Unit) := [("math/bits.deBruijn32tab", Rows.laid_math_bits_deBruijn32tab), ("math/bits.deBruijn64tab", Rows.laid_math_bits_deBruijn64tab), ("internal/strconv.uint64pow10", Rows.laid_internal_strconv_uint64pow10), ("unicode/utf8.acceptRanges", Rows.laid_unicode_utf8_acceptRanges), ("bytes.ErrTooLarge", Rows.laid_bytes_ErrTooLarge), ("unicode/utf8.first", Rows.laid_unicode_utf8_first)]
theorem laid_plain (w : World) : laidMetH Tryz.prog laidL w = laidMet Tryz.prog laidL w := MakeChecks.laidMetH_plain _ _ _ (by kernel_rfl)
set_option maxRecDepth 100000 in
theorem laid_met (os : Os) (args : Array Value) : laidMetH Tryz.prog laidL ((World.laidAll Tryz.prog os laidL).forCall (fun _ _ => 0) ⟨#[], args, []⟩).memory := by
  rw [laid_plain]; exact laidMet_laidAll _ (by kernel_rfl) (by kernel_rfl)

theorem tTab : (Tryz.prog.globals[(2 : Nat)]?).map (·.type) = some 123 := by kernel_rfl
theorem eTab : (Rows.laid_internal_strconv_uint64pow10 : DataW Unit) = Lib.tabData .u64 Lib.pow10Tab := by rfl
theorem tab_of {W : World} {rest : List (String × DataW Unit)} (h : laidMet Tryz.prog (("internal/strconv.uint64pow10", Rows.laid_internal_strconv_uint64pow10) :: rest) W) : Lib.TabIs Tryz.prog W "internal/strconv.uint64pow10" .u64 Lib.pow10Tab := by
  rw [eTab] at h
  exact Lib.tabIs_of_head gTab tTab Tryz.underlying123 Tryz.underlying109 (by kernel_rfl) (by kernel_rfl) h
theorem max_len {W : World} (h : W.ShapedOpen Tryz.prog) : ∃ m, W.cell? ⟨0, 0, none⟩ = some (.int .i64 m) :=
  cell_of_shapedOpen_int (P := Tryz.prog) (g := 0) (t := 3) (zero := #[.int .i64 0]) h (of_decide_eq_true (by kernel_rfl)) (by kernel_rfl) rfl (by kernel_rfl) (by kernel_rfl) Tryz.underlying3
/-- What the walks ask of a world holds where a row's call begins. -/
theorem has_max {W : World} (hsh : W.ShapedOpen Tryz.prog) : HasMax W := max_len hsh
theorem has_tab {W : World} (hL : laidMetH Tryz.prog laidL W) : HasTab W := by
  rw [laid_plain] at hL
  exact tab_of hL.tail.tail
section
variable {H : Type} {enc : TypeId × Value → H}
/-- The witness of a row at a world of one's own making whose shape is shown by other means. -/
theorem witness_row_shaped {C : Checked} {os : Os} {f : FuncId} {fn : Func} {s : OpenSpec} {conds : List PathCond} {apart : Bool} {laid : List (String × DataW Unit)} (modest : Bool) (w0 : World) (args : Array Value) (hos : w0.os = os)
    (hsh : (w0.forCall (fun _ _ => 0) ⟨#[], args, []⟩).Shaped C.prog)
    (hok : Input.okWideB C.prog (w0.forCall (fun _ _ => 0) ⟨#[], args, []⟩) f ⟨#[], args, []⟩ = true)
    (hrow : s.preRow enc C.prog fn conds apart laid (w0.forCall (fun _ _ => 0) ⟨#[], args, []⟩).memory args) :
    ∃ (w : World) (tape : Tape) (i : Input), w.os = os ∧ (w.forCall tape i).Shaped C.prog ∧ i.vars = [] ∧ Input.okWide C.prog (w.forCall tape i) .any w.heap.size f i ∧
      s.preRow enc C.prog fn conds apart laid (w.forCall tape i).memory i.args ∧ ({ modest := modest } : Assume).holds C.prog (lone (Frame.enter C.prog f i.args .normal) [] (w.forCall tape i)) :=
  ⟨w0, fun _ _ => 0, ⟨#[], args, []⟩, hos, hsh, (Input.okWide_of_okWideB (base := 0) hok).1, (Input.okWide_of_okWideB hok).2, hrow, by
    simp only [Assume.holds]
    exact ⟨by simp, by simp, fun _ => Modest.zero, by simp, by simp⟩⟩
end
section
variable {H : Type} {enc : TypeId × Value → H} {P : Program}
/-- The row's last step from 'Below': what was there when the call began is as it was; new blocks may have come. -/
theorem post_below {f : Func} {s : ChangeSpec} {apart fresh handsOn again : Bool} {W W' : World} {args : Array Value} {v : Value} {ds gs : List (DataW H)} {before pa pv : List MemPlace}
    (hW : DataW.Whole enc P f.params.toList s.vars apart W args.toList ds gs before)
    (hres : ∀ (b : Nat) (sp : Nat → Bool) (hd : Bool), DataW.TrodAll enc P W' b sp hd f.resultTypes.toList (v.resultList f.resultTypes.size) (s.fn H (ds ++ gs)).results [])
    (hargs : ∀ sp : Nat → Bool, (∀ p ∈ before, sp p.block = true) → DataW.TrodAll enc P W' 0 sp true f.params.toList args.toList (s.fn H (ds ++ gs)).args pa)
    (hvars : ∀ sp : Nat → Bool, (∀ p ∈ before, sp p.block = true) → DataW.TrodVars enc P W' sp s.vars (s.fn H (ds ++ gs)).vars pv)
    (hps : before = pa ++ pv) (hb : Below W.heap.size W W')
    (hok : ∀ (j : Nat) (t : TypeId) (r : Value), f.resultTypes[j]? = some t → (v.resultList f.resultTypes.size)[j]? = some r → Value.okWide P W' .any 0 t r) :
    s.post enc P f apart fresh handsOn again W args v W' := by
  have lt : ∀ p ∈ before, p.block < W.heap.size := fun p hp => hW.lt p hp
  have old : ∀ p ∈ before, (fun b => decide (b < W.heap.size)) p.block = true := fun p hp => by simpa using lt p hp
  refine ⟨ds, gs, before, [], pa, pv, hW, hres _ _ _, hargs _ old, hvars _ old, World.keptBut_mono (fun p hp => ⟨hp, ?_⟩) (hb.frame (· ∈ before)), fun _ => ?_⟩
  · rw [hps, List.mem_append] at hp
    exact Or.inr hp
  · obtain ⟨_, _, _, _, _, hz, hn⟩ := hW
    refine ⟨hok, _, _, ([] ++ pa) ++ pv, ⟨[] ++ pa, pv, trodAll_append (hargs _ (fun _ _ => rfl)) (hres _ _ _), hvars _ (fun _ _ => rfl), rfl, ?_, ?_⟩, ?_⟩
    · intro b off hp
      have hin : MemPlace.cell b off ∈ before := by rw [hps]; simpa using hp
      rw [hb.frozen (lt _ hin)]
      exact hz b off hin
    · intro ha
      have := hn ha
      rw [hps] at this
      simpa using this
    · intro p hp _
      rw [hps]
      simpa using hp
end
end Go.Proofs.YtgbcpheccaldlaaGreatDoor

/- A request or a response of the reference among the arguments, opened. -/
namespace Go.Proofs.YtgbcpheccaldlaaGreatDoor
open Go.ChangeShapes Go.WideShapes Go.ChangeAt Go.RowKit
open Go.ChangeMaps (shut_string open_string)

theorem laidOut : laidOutB Tryz.prog = true := by kernel_rfl
theorem weight_in {H : Type} {P : Program} {e : TypeId} {d : DataW H} {n : Nat} : ∀ {l : List (DataW H)}, d ∈ l → n ∈ d.weights P e → n ∈ DataW.weightsAll P e l
  | x :: r, hd, hn => by
    simp only [DataW.weightsAll, List.mem_append]
    rcases List.mem_cons.1 hd with e | e
    · subst e; exact .inl hn
    · exact .inr (weight_in e hn)
set_option maxRecDepth 100000 in
/-- A slice of the reference's fields among the arguments. -/
theorem open_fields {H : Type} {enc : TypeId × Value → H} {w : World} {v : Value} {d : DataW H} {p : List MemPlace} (h : ∃ fuel, DataW.trod enc Tryz.prog w 0 (fun _ => true) true fuel 22 [v] = some (d, p)) (hw : ∀ n ∈ d.weights Tryz.prog 22, n ≤ reachBytes) :
    ∃ ps : List (List UInt8 × List UInt8), ReadsQ w v ps ∧ ps.length ≤ maxLen ∧ (∀ q ∈ ps, q.1.length ≤ 140737488355328 ∧ q.2.length ≤ 140737488355328) := by
  obtain ⟨fuel, hf⟩ := h
  rcases Go.Deep.open_slice_pairs Tryz.underlying22 Tryz.underlying41 (by kernel_rfl) rfl rfl (by kernel_rfl) (by kernel_rfl) hf with ⟨hcs, hx⟩ | ⟨a, len, cap, m, n, V0, V1, D0, D1, P0, P1, hcs, _, hl, hm, hmm, hx, hall⟩
  · simp only [List.cons.injEq, and_true] at hcs
    subst hcs
    exact ⟨[], ⟨none, 0, rfl, fun j l h => by simp at h⟩, by simp, by simp⟩
  · simp only [List.cons.injEq, and_true] at hcs
    subst hcs
    simp only [Prod.mk.injEq] at hx
    obtain ⟨rfl, _⟩ := hx
    simp only [if_true] at hmm
    subst hmm
    have each : ∀ i, i < len → ∃ q : ByteArray × ByteArray, V0 i = .string q.1 ∧ V1 i = .string q.2 ∧ D0 i = .lit (.string q.1.data.toList) ∧ D1 i = .lit (.string q.2.data.toList) := by
      intro i hi
      obtain ⟨_, _, t0, t1⟩ := hall i (by omega)
      obtain ⟨s0, e0, f0, _⟩ := DataW.trod_string Tryz.underlying9 t0
      obtain ⟨s1, e1, f1, _⟩ := DataW.trod_string Tryz.underlying9 t1
      simp only [List.cons.injEq, and_true, Prod.mk.injEq] at e0 e1 f0 f1
      exact ⟨(s0, s1), e0, e1, f0.1, f1.1⟩
    obtain ⟨q, hq⟩ := Go.Deep.choose_lt each
    have hlen : ((List.range len).map fun i => ((q i).1.data.toList, (q i).2.data.toList)).length = len := by simp
    have hwt : ∀ i, i < len → (q i).1.data.toList.length ≤ 140737488355328 ∧ (q i).2.data.toList.length ≤ 140737488355328 := by
      intro i hi
      obtain ⟨_, _, d0, d1⟩ := hq i hi
      have hin : (DataW.agg [D0 i, D1 i]) ∈ (List.range len).map fun i => DataW.agg [D0 i, D1 i] := List.mem_map.mpr ⟨i, List.mem_range.mpr hi, rfl⟩
      have key : ∀ k ∈ (DataW.agg [D0 i, D1 i]).weights Tryz.prog 41, k ≤ reachBytes := by
        intro k hk
        refine hw k ?_
        unfold DataW.weights
        rw [Tryz.underlying22]
        simp only [List.mem_cons, List.mem_append]
        exact .inr (.inl (weight_in hin hk))
      unfold DataW.weights at key
      rw [Tryz.underlying41] at key
      rw [d0, d1] at key
      simp only [DataW.weightsEach, DataW.weights, List.map_cons, List.map_nil, List.mem_append, List.mem_cons, List.not_mem_nil, or_false] at key
      have k0 := key _ (.inl rfl)
      have k1 := key _ (.inr rfl)
      unfold reachBytes at k0 k1
      omega
    refine ⟨(List.range len).map fun i => ((q i).1.data.toList, (q i).2.data.toList), ⟨some a, m, by rw [hlen], fun j l hj => ?_⟩, ?_, ?_⟩
    · have hjl : j < len := by have := (List.getElem?_eq_some_iff.mp hj).1; omega
      have hj' : ((q j).1.data.toList, (q j).2.data.toList) = l := by
        rw [List.getElem?_map, List.getElem?_range hjl] at hj
        exact Option.some.inj hj
      obtain ⟨c0, c1, _, _⟩ := hall j (by omega)
      obtain ⟨v0, v1, _, _⟩ := hq j hjl
      obtain ⟨z0, _, _, _⟩ := hall 0 (by omega)
      obtain ⟨b, off, spot⟩ := a
      have hspot : spot = none := by simpa [Addr.add] using World.cell?_spot z0
      subst hspot
      have hlt : b < w.heap.size := by have := World.block_lt_of_cell? w _ z0; simpa [Addr.add] using this
      rw [v0, Go.WideShapes.add_plain] at c0
      rw [v1, Go.WideShapes.add_plain, ← Nat.add_assoc] at c1
      subst hj'
      exact ⟨b, off, rfl, hlt, by rw [strB_of]; exact c0, by rw [strB_of]; exact c1⟩
    · rw [hlen]; omega
    · intro x hx
      obtain ⟨i, hi, rfl⟩ := List.mem_map.mp hx
      exact hwt i (List.mem_range.mp hi)

section
variable {H : Type} {enc : TypeId × Value → H} {P : Program} {w : World} {base : Nat} {spare : Nat → Bool} {held : Bool}
theorem trod_struct3 {t : TypeId} {f0 f1 f2 : Field} {fuel : Nat} {cs : List Value} {x : DataW H × List MemPlace} (ht : P.underlying t = some (.struct #[f0, f1, f2])) (h : DataW.trod enc P w base spare held fuel t cs = some x) :
    ∃ y0 y1 y2 n, x = (.agg [y0.1, y1.1, y2.1], y0.2 ++ (y1.2 ++ y2.2)) ∧ cs.length = P.cellsOf t ∧ DataW.trod enc P w base spare held n f0.type ((cs.drop f0.offset).take (P.cellsOf f0.type)) = some y0 ∧
      DataW.trod enc P w base spare held n f1.type ((cs.drop f1.offset).take (P.cellsOf f1.type)) = some y1 ∧ DataW.trod enc P w base spare held n f2.type ((cs.drop f2.offset).take (P.cellsOf f2.type)) = some y2 := by
  obtain ⟨xs, n, _, rfl, hl, hlen, hf⟩ := DataW.trod_struct ht h
  match xs, hlen with
  | [y0, y1, y2], _ => exact ⟨y0, y1, y2, n, by simp, hl, by simpa using hf 0 f0 rfl, by simpa using hf 1 f1 rfl, by simpa using hf 2 f2 rfl⟩
end
set_option maxRecDepth 100000 in
theorem open_req {H : Type} {enc : TypeId × Value → H} {w : World} {v : Value} {d : DataW H} {p : List MemPlace} {base : Nat} (hv : Value.okWide Tryz.prog w .any base 24 v)
    (h : DataW.Trod enc Tryz.prog w 0 (fun _ => true) true 24 v d p) (hw : ∀ n ∈ d.weights Tryz.prog 24, n ≤ reachBytes) :
    ∃ (m t : List UInt8) (v' : Value) (ps : List (List UInt8 × List UInt8)), v = .agg #[.string (strB m), .string (strB t), v'] ∧
      m.length ≤ 140737488355328 ∧ t.length ≤ 140737488355328 ∧ ReadsQ w v' ps ∧ ps.length ≤ maxLen ∧ (∀ q ∈ ps, q.1.length ≤ 140737488355328 ∧ q.2.length ≤ 140737488355328) := by
  obtain ⟨cs, rfl, hsz, hall⟩ : ∃ cs, v = .agg cs ∧ cs.size = 3 ∧ True := by
    simp only [Value.okWide, Tryz.underlying24] at hv
    obtain ⟨cs, h1, h2, _⟩ := hv
    exact ⟨cs, h1, h2.trans (by kernel_rfl), trivial⟩
  obtain ⟨c0, c1, c2, rfl⟩ : ∃ c0 c1 c2, cs = #[c0, c1, c2] := by
    obtain ⟨l⟩ := cs
    match l, hsz with
    | [a, b, c], _ => exact ⟨a, b, c, rfl⟩
    | [], hz => simp at hz
    | [_], hz => simp at hz
    | [_, _], hz => simp at hz
    | _ :: _ :: _ :: _ :: _, hz => simp at hz
  obtain ⟨fuel, hf⟩ := h
  have hf' : DataW.trod enc Tryz.prog w 0 (fun _ => true) true fuel 24 [c0, c1, c2] = some (d, p) := by simpa [Value.cells] using hf
  obtain ⟨y0, y1, y2, n, hx, _, g0, g1, g2⟩ := trod_struct3 Tryz.underlying24 hf'
  have hce : Tryz.prog.cellsOf 9 = 1 := by kernel_rfl
  have hcb : Tryz.prog.cellsOf 22 = 1 := by kernel_rfl
  simp only [hce, hcb, List.drop_zero, List.drop_succ_cons, List.take_succ_cons, List.take_zero] at g0 g1 g2
  obtain ⟨s0, e0, f0, _⟩ := DataW.trod_string Tryz.underlying9 g0
  obtain ⟨s1, e1, f1, _⟩ := DataW.trod_string Tryz.underlying9 g1
  simp only [List.cons.injEq, and_true] at e0 e1
  simp only [Prod.mk.injEq] at hx
  rw [hx.1, f0, f1] at hw
  have key := hw
  unfold DataW.weights at key
  rw [Tryz.underlying24] at key
  simp only [DataW.weightsEach, DataW.weights, List.map_cons, List.map_nil, List.mem_append, List.mem_cons, List.not_mem_nil, or_false] at key
  have k0 := key _ (.inl rfl)
  have k1 := key _ (.inr (.inl rfl))
  have k2 : ∀ n ∈ y2.1.weights Tryz.prog 22, n ≤ reachBytes := fun n hn => key n (.inr (.inr hn))
  have k0' : s0.data.toList.length ≤ reachBytes := k0
  have k1' : s1.data.toList.length ≤ reachBytes := k1
  unfold reachBytes at k0' k1'
  obtain ⟨ps, q1, q2, q3⟩ := open_fields ⟨n, g2⟩ k2
  refine ⟨s0.data.toList, s1.data.toList, c2, ps, by rw [e0, e1, strB_of, strB_of], by omega, by omega, q1, q2, q3⟩
end Go.Proofs.YtgbcpheccaldlaaGreatDoor
