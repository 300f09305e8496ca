import Derived.Test.YtacfkljpjjnlfaaGreatDoorPa26
import Derived.Test.YtacfkljpjjnlfaaGreatDoorPa23
import Derived.Test.YtacfkljpjjnlfaaGreatDoorPa21
/- HeadReturns: for every request and text the statement's function returns true: the walk. -/
namespace Go.Proofs.YtacfkljpjjnlfaaGreatDoor
open Go.RowKit

theorem wqP_cases (m t : List UInt8) (fs : Fs) : ((wqP m t fs).1 ≠ 0 ∧ (wqP m t fs).2 = []) ∨ ((wqP m t fs).1 = 0 ∧ (wqP m t fs).2 ≠ []) := by
  unfold wqP writeQ
  simp only
  split
  · exact .inl ⟨by simp, rfl⟩
  split
  · exact .inl ⟨by simp, rfl⟩
  split
  · exact .inl ⟨by simp, rfl⟩
  split
  · exact .inl ⟨by simp, rfl⟩
  split
  · exact .inl ⟨by simp, rfl⟩
  · exact .inr ⟨rfl, by rw [enc_cons]; simp⟩
theorem wqP_none {m t : List UInt8} {fs : Fs} (h : (wqP m t fs).1 ≠ 0) : (wqP m t fs).2 = [] := by
  rcases wqP_cases m t fs with ⟨_, h2⟩ | ⟨h1, _⟩
  · exact h2
  · exact absurd h1 h
/-- A field as the statement's function wants it: its host in lower case. -/
def hostW (p : List UInt8 × List UInt8) : List UInt8 × List UInt8 := if p.1 = hostN then (p.1, lowS p.2) else p
theorem hostW_name (p : List UInt8 × List UInt8) : (hostW p).1 = p.1 := by unfold hostW; split <;> rfl
theorem hostW_low (ps : Fs) : (ps.map low1).map hostW = ps.map fun f => (lowS f.1, (lowH lowS f).2) := by
  rw [List.map_map]
  apply List.map_congr_left
  intro p _
  show hostW (lowS p.1, p.2) = _
  unfold hostW lowH
  by_cases h : lowS p.1 = hostN
  · rw [if_pos h, if_pos h]
  · rw [if_neg h, if_neg h]
/-- The first k fields as they are wanted, the others as they are. -/
def wantK (qs : Fs) (k : Nat) : Fs := (qs.take k).map hostW ++ qs.drop k
theorem wantK_len (qs : Fs) (k : Nat) : (wantK qs k).length = qs.length := by
  unfold wantK; rw [List.length_append, List.length_map, List.length_take, List.length_drop]; omega
theorem wantK_at {qs : Fs} {k : Nat} {q : List UInt8 × List UInt8} (h : qs[k]? = some q) : (wantK qs k)[k]? = some q := by
  have hk : k < qs.length := (List.getElem?_eq_some_iff.mp h).1
  unfold wantK
  rw [List.getElem?_append_right (by simp; omega)]
  simp only [List.length_map, List.length_take]
  rw [Nat.min_eq_left (by omega), Nat.sub_self, List.getElem?_drop, Nat.add_zero]; exact h
theorem wantK_more {qs : Fs} {k : Nat} {q : List UInt8 × List UInt8} (h : qs[k]? = some q) : wantK qs (k + 1) = (wantK qs k).set k (hostW q) := by
  have hk : k < qs.length := (List.getElem?_eq_some_iff.mp h).1
  have hq : qs[k] = q := by rw [List.getElem?_eq_getElem hk] at h; exact Option.some.inj h
  unfold wantK
  have e1 : (List.map hostW (List.take k qs) ++ List.drop k qs).set k (hostW q) = List.map hostW (List.take k qs) ++ hostW q :: List.drop (k + 1) qs := by
    rw [List.drop_eq_getElem_cons hk]
    apply List.ext_getElem?
    intro i
    rw [List.getElem?_set]
    by_cases hi : k = i
    · subst hi
      rw [if_pos rfl, if_pos (by simp; omega), List.getElem?_append_right (by simp; omega)]
      simp only [List.length_map, List.length_take]
      rw [Nat.min_eq_left (by omega), Nat.sub_self]; rfl
    · rw [if_neg hi]
      by_cases hl : i < k
      · rw [List.getElem?_append_left (by simp; omega), List.getElem?_append_left (by simp; omega)]
      · rw [List.getElem?_append_right (by simp; omega), List.getElem?_append_right (by simp; omega)]
        simp only [List.length_map, List.length_take]
        rw [Nat.min_eq_left (by omega), show i - k = (i - k - 1) + 1 by omega, List.getElem?_cons_succ, List.getElem?_cons_succ]
  rw [e1, List.take_add_one, h, List.map_append, List.append_assoc]; rfl
theorem wantK_end (qs : Fs) {k : Nat} (h : qs.length ≤ k) : wantK qs k = qs.map hostW := by
  unfold wantK; rw [List.take_of_length_le h, List.drop_eq_nil_of_le h, List.append_nil]
theorem wantK_same {qs : Fs} {k : Nat} {q : List UInt8 × List UInt8} (h : qs[k]? = some q) (hn : q.1 ≠ hostN) : wantK qs (k + 1) = wantK qs k := by
  rw [wantK_more h]
  have : hostW q = q := by unfold hostW; rw [if_neg hn]
  rw [this]
  have h2 := wantK_at h
  apply List.ext_getElem?
  intro i
  rw [List.getElem?_set]
  split
  · rename_i e
    subst e
    split
    · exact h2.symm
    · rename_i e2; rw [List.getElem?_eq_none (by omega)]
  · rfl
theorem flatP_set : ∀ (l : Fs) (k : Nat) (a : List UInt8 × List UInt8) (b : List UInt8), l[k]? = some a → (flatP l).set (k * 2 + 1) (strV b) = flatP (l.set k (a.1, b)) := by
  intro l
  induction l with
  | nil => intro k a b h; simp at h
  | cons q r ih =>
    intro k a b h
    have e : flatP (q :: r) = strV q.1 :: strV q.2 :: flatP r := rfl
    rw [e]
    cases k with
    | zero =>
      simp only [List.getElem?_cons_zero, Option.some.injEq] at h
      subst h
      rfl
    | succ k =>
      rw [show (k + 1) * 2 + 1 = (k * 2 + 1) + 1 + 1 by omega]
      simp only [List.set_cons_succ]
      rw [ih k a b (by simpa using h)]; rfl
theorem wqP_ne {m t : List UInt8} {fs : Fs} {b : List UInt8} (h : wqP m t fs = (0, b)) : b ≠ [] ∧ b.length ≤ 8192 := by
  constructor
  · rcases wqP_cases m t fs with ⟨h1, _⟩ | ⟨_, h2⟩
    · rw [h] at h1; exact absurd rfl h1
    · rw [h] at h2; exact h2
  · have hr : rdQ (b ++ []) = (0, (m, t, fs.map fun f => (lowS f.1, (lowH lowS f).2)), b.length) := writeQ_read flk h []
    by_cases h0 : (splitG (b ++ [])).1 = 0
    · have hl := rdQ_lines h0
      rw [hr] at hl
      by_cases h1 : (reqL nmO vlO hostO lowS (splitG (b ++ [])).2.1).1 ≠ 0
      · rw [if_pos h1] at hl
        exact absurd (congrArg Prod.fst hl).symm h1
      · rw [if_neg h1] at hl
        have hn := congrArg (fun x => x.2.2) hl
        simp only at hn
        have hs := splitG_some (s := b ++ []) (l := (splitG (b ++ [])).2.1) (n := (splitG (b ++ [])).2.2) (by rw [← h0])
        omega
    · have := rdQ_split (l := b ++ []) rfl h0
      rw [hr] at this
      exact absurd (congrArg Prod.fst this).symm h0
/-- A store of the value of a field into a list of fields of the call's own. -/
theorem wantK_store {B g cap : Nat} {w : World} {qs : Fs} {k : Nat} {q : List UInt8 × List UInt8} (hq : qs[k]? = some q) (hn : q.1 = hostN) (h : OwnsP 49 B w (.slice (some ⟨g, 0, none⟩) qs.length cap) (wantK qs k)) :
    OwnsP 49 B (w.setCell ⟨g, k * 2 + 1, none⟩ (.string (strB (lowS q.2)))) (.slice (some ⟨g, 0, none⟩) qs.length cap) (wantK qs (k + 1)) ∧ w.grownBy (w.setCell ⟨g, k * 2 + 1, none⟩ (.string (strB (lowS q.2)))) (some g) := by
  unfold OwnsP at h ⊢
  rw [wantK_len] at h ⊢
  obtain ⟨h1, h2⟩ := World.ownsRow.stored h (k * 2 + 1) (strV (lowS q.2))
  refine ⟨?_, h2⟩
  rw [wantK_more hq]
  have e : hostW q = (q.1, lowS q.2) := by unfold hostW; rw [if_pos hn]
  rw [e, ← flatP_set (wantK qs k) k q (lowS q.2) (wantK_at hq)]
  exact h1
set_option maxHeartbeats 8000000 in
set_option maxRecDepth 100000 in
theorem returns_walk (m t : List UInt8) (v : Value) (ps : List (List UInt8 × List UInt8)) (r : ByteArray) (w : World) (hM : HasMax w) (hT : HasTab w)
    (hg : m.length ≤ 140737488355328 ∧ t.length ≤ 140737488355328 ∧ ReadsQ w v ps ∧ ps.length ≤ maxLen ∧ (∀ q ∈ ps, q.1.length ≤ 140737488355328 ∧ q.2.length ≤ 140737488355328)) (hrs : r.size ≤ 140737488355328) :
    Calls Tryz.prog 5 #[.agg #[.string (strB m), .string (strB t), v], .string r] w fun e w' => e = .returned (.bool true) ∧ Below w.heap.size w w' := by
  obtain ⟨hm, ht, hr, hpl, hpb⟩ := hg
  have HM := Lib.hid hM
  have HT := Lib.hid hT
  have HR := Lib.hid hr
  have F := Lib.hid (fun W (hr : ReadsQ W v ps) => fits_any v ps W hr (by unfold maxLen at hpl; omega) hpb)
  obtain ⟨ao, cap, rfl, hc⟩ := hr
  have hB0 : Below w.heap.size w (w.alloc (.cells #[.string (strB m), .string (strB t), .slice ao ps.length cap] 34)) := below_new _ _
  have hmz : (strB m).size = m.length := strB_size _
  have htz : (strB t).size = t.length := strB_size _
  clear hM hT hc hpl hpb
  go_enter Tryz.func5, Tryz.ntmps5
  go_wp2_with fail
  refine (awake_any _ (HT.out.below hB0)).mono ?_
  rintro e w1 ⟨rfl, hB1⟩
  obtain ⟨b0, b1, b2, bf0, bf1, bf2, bz⟩ := three_kept w hB1
  have hBx := hB0.trans (hB1.mono hB0.size)
  go_wp2_with fail
  refine (F.out _ (HR.out.below hBx)).mono ?_
  rintro e w2 ⟨rfl, hB2⟩
  have hB12 := hB1.trans (hB2.mono hB1.size)
  have hBy := hB0.trans (hB12.mono hB0.size)
  clear b0 b1 b2 bf0 bf1 bf2 bz hB1 hB2 hBx
  obtain ⟨b0, b1, b2, bf0, bf1, bf2, bz⟩ := three_kept w hB12
  cases hfit : fitsB ps with
  | false =>
    go_wp2_with fail
    refine (awake_any _ (HT.out.below hBy)).mono ?_
    rintro e w3 ⟨rfl, hB3⟩
    go_wp2_with fail
    go_ret
    exact ⟨rfl, hBy.trans (hB3.mono hBy.size)⟩
  | true =>
    by_cases hbig : 20000 < m.length + t.length + r.size
    · go_wp2_with fail
      refine (awake_any _ (HT.out.below hBy)).mono ?_
      rintro e w3 ⟨rfl, hB3⟩
      go_wp2_with fail
      go_ret
      exact ⟨rfl, hBy.trans (hB3.mono hBy.size)⟩
    · obtain ⟨hl80, hq⟩ := fits_yes hfit
      have hb : ∀ p ∈ ps, p.1.length + p.2.length ≤ 1000000 := fun p hp => Nat.le_trans (hq p hp) (by decide)
      have HPB := Lib.hid hb
      have Q := Lib.hid (fun W (hr : ReadsQ W (.slice ao ps.length cap) ps) => request_any m t (.slice ao ps.length cap) ps W hr (by omega) hb)
      have WR := Lib.hid (fun v W (hr : ReadsQ W v ps) hM => writeRequest_any m t v ps W hr hM (by omega) (by omega) (by omega) hb)
      unfold WReqPost at WR
      have WN := Lib.hid (wqP_none (m := m) (t := t) (fs := ps))
      have WB := Lib.hid (fun b (h : wqP m t ps = (0, b)) => writeQ_read flk h r.data.toList)
      have HNE := Lib.hid (fun b (h : wqP m t ps = (0, b)) => wqP_ne h)
      generalize wqP m t ps = q at *
      obtain ⟨c, b⟩ := q
      clear hq hb hfit
      go_wp2_with fail
      refine (Q.out _ (HR.out.below hBy)).mono ?_
      rintro e w3 ⟨a3, n3, c3, rfl, hO3, hB3⟩
      have hB13 := hB12.trans (hB3.mono hB12.size)
      have hBz := hB0.trans (hB13.mono hB0.size)
      clear b0 b1 b2 bf0 bf1 bf2 bz hB12 hB3 hBy
      have WR := WR.out _ _ hO3.q (HM.out.below hBz)
      go_wp2_with fail
      refine WR.mono ?_
      rintro e w4 ⟨v4, he4, hO4, hB4⟩
      have hB14 := hB13.trans (hB4.mono hB13.size)
      have hBw := hB0.trans (hB14.mono hB0.size)
      clear WR hO3 hB13 hB4 hBz
      obtain ⟨b0, b1, b2, bf0, bf1, bf2, bz⟩ := three_kept w hB14
      by_cases hc0 : c = 0
      · subst hc0
        have hrd := WB.out b rfl
        obtain ⟨hbne, hbl⟩ := HNE.out b rfl
        obtain ⟨g4, cp4, rfl, hg4, hc4⟩ : ∃ g4 cp4, v4 = .slice (some ⟨g4, 0, none⟩) b.length cp4 ∧ g4 < w4.heap.size ∧ ∀ i (h : i < b.length), w4.cell? ⟨g4, i, none⟩ = some (.int .u8 ((b[i]'h).toNat : Int)) := by
          rcases hO4.isSlice with ⟨_, e⟩ | ⟨g, cap, rfl, _, _, h2, h3⟩
          · exact absurd e hbne
          · exact ⟨g, cap, rfl, h2, h3⟩
        obtain ⟨i0, hi, hz0, hz1, hz2⟩ := info_parts Tryz.infoU8
        have hcell := cells_at hc4 (.cells #[] 5) hg4
        have hown0 : (w4.alloc (.cells #[] 5)).ownsRow w4.heap.size 5 1 (.slice (some ⟨w4.heap.size, 0, none⟩) 0 0) 0 [] := World.ownsRow_made w4 #[] 0 (Nat.le_refl _) (Nat.zero_le _) (by simp)
        have hlb : (Lib.byteCells b).length = b.length * 1 := by rw [Lib.byteCells_length, Nat.mul_one]
        have HB14 := Lib.hid hB14
        have HC4 := Lib.hid hcell
        have he4' : e = .returned (.tuple #[.slice (some ⟨g4, 0, none⟩) b.length cp4, .nilIface]) := he4
        subst he4'
        clear he4 hc4 hcell hO4
        go_wp2_with (at_builtin; first
          | (refine wpList_append_own _ rfl _ _ 23 rfl w4.heap.size 5 i0 (.int .u8 0) 1 1 Tryz.underlying23 hi hz0 hz1 hz2 rfl (by decide) _ _ _ rfl hown0 ⟨g4, 0, none⟩ b.length cp4 (Lib.byteCells b) rfl hlb HC4.out (one_cells b) (by unfold maxLen; omega) (by omega) (by simp) ?_; intro v6 w6 hown6 hgrow6 _)
          | (refine Lib.wpList_append_own_string _ rfl _ _ 23 9 rfl w4.heap.size 5 i0 Tryz.underlying23 Tryz.underlying9 hi hz0 hz1 hz2 _ _ _ rfl hown6 r rfl (by unfold maxLen; omega) (by omega) (by have := hgrow6.size; simp at this; omega) ?_; intro v7 w7 hown7 hgrow7 _))
        have hsr : r.data.toList.length = r.size := by rw [Array.length_toList]; rfl
        have hB46 : Below w4.heap.size w4 w6 := (below_new w4 (.cells #[] 5)).grown hgrow6 (by simp) (fun q hq => by have := Option.some.inj hq; simp at this; omega)
        have hB47 : Below w4.heap.size w4 w7 := hB46.grown hgrow7 hB46.size (fun q hq => (World.ownsRow.lt hown6 q hq).1)
        have hO7 : OwnsB w4.heap.size w7 v7 (b ++ r.data.toList) := by
          unfold OwnsB
          rw [List.length_append, hsr, ← cellsB_app, ← str_cells]
          simpa using hown7
        obtain ⟨g7, c7, rfl, hR7⟩ := hO7.readsB (by simp [hbne])
        have hBv := hBw.trans (hB47.mono hBw.size)
        have R := readRequest_any _ (b ++ r.data.toList) w7 hR7 (HM.out.below hBv) (by rw [List.length_append]; omega)
        unfold ReqPost at R
        rw [show rdQ (b ++ r.data.toList) = (0, (m, t, ps.map fun f => (lowS f.1, (lowH lowS f).2)), b.length) from hrd] at R
        clear hR7 hO7 hown7 hown6 hown0 hgrow6 hgrow7 hB46 hrd WN WB HNE
        refine R.mono ?_
        rintro e w8 ⟨v8, he8, hO8, hB8⟩
        have hO8' : OwnsP 91 w7.heap.size w8 v8 ((ps.map low1).map hostW) := by rw [hostW_low]; exact hO8
        have hW8 : ((ps.map low1).map hostW).length = ps.length := by simp
        obtain ⟨a8, c8, rfl, _⟩ := hO8'.reads
        rw [hW8] at hO8' he8
        have he8' : e = .returned (.tuple #[.agg #[.string (strB m), .string (strB t), .slice a8 ps.length c8], .int .i64 (b.length : Int), .nilIface]) := he8
        subst he8'
        have hB48 := hB14.trans ((hB47.trans (hB8.mono hB47.size)).mono hB14.size)
        have hBu := hB0.trans (hB48.mono hB0.size)
        clear R hB47 hBv hB8 hB14 b0 b1 b2 bf0 bf1 bf2 bz he8 hO8 HB14 hW8
        obtain ⟨b0, b1, b2, bf0, bf1, bf2, bz⟩ := three_kept w hB48
        have hbn := below_new w8 (.cells #[.string (strB m), .string (strB t), .slice a8 ps.length c8] 27)
        have hx : ∀ j, (w8.alloc (.cells #[.string (strB m), .string (strB t), .slice a8 ps.length c8] 27)).cell? ⟨w8.heap.size, j, none⟩ = (#[.string (strB m), .string (strB t), .slice a8 ps.length c8] : Array Value)[j]? := fun j => by rw [World.cell?_alloc_at _ _ _ _ rfl]
        have qm : ((strB m).toList == (strB m).toList) = true := beq_self_eq_true _
        have qt : ((strB t).toList == (strB t).toList) = true := beq_self_eq_true _
        have k0 := (hbn.cell (p := ⟨w.heap.size, 0, none⟩) bz).trans b0
        have k1 := (hbn.cell (p := ⟨w.heap.size, 1, none⟩) bz).trans b1
        have k2 := (hbn.cell (p := ⟨w.heap.size, 2, none⟩) bz).trans b2
        have x0 := hx 0
        have x1 := hx 1
        have x2 := hx 2
        have HR9 := Lib.hid ((HR.out.below hBu).below hbn)
        have HO9 := Lib.hid (OwnsP.below hO8' hbn)
        have HB9 := Lib.hid (hBu.trans (hbn.mono hBu.size))
        have LW := Lib.hid (lowerF_any (.slice ao ps.length cap) ps _ HR9.out (by omega) HPB.out)
        have hsz9 : w8.heap.size < (w8.alloc (.cells #[.string (strB m), .string (strB t), .slice a8 ps.length c8] 27)).heap.size := by simp
        have hszw : w.heap.size < (w8.alloc (.cells #[.string (strB m), .string (strB t), .slice a8 ps.length c8] 27)).heap.size := by simp; omega
        clear hbn hx b0 b1 b2 bf0 bf1 bf2 bz hO8' hBu hB48
        go_wp2_with fail
        refine LW.out.mono ?_
        generalize w8.alloc (.cells #[.string (strB m), .string (strB t), .slice a8 ps.length c8] 27) = w9 at *
        rintro e w10 ⟨vw, rfl, hOw, hB10⟩
        have hlow : (ps.map low1).length = ps.length := by simp
        obtain ⟨wa, wc, rfl⟩ : ∃ a c, vw = .slice a ps.length c := by
          obtain ⟨ao, cap, rfl, _⟩ := hOw.reads; exact ⟨ao, cap, by rw [hlow]⟩
        have HOw := Lib.hid (show OwnsP 49 w9.heap.size w10 (.slice wa ps.length wc) (wantK (ps.map low1) 0) from hOw)
        have HB10 := Lib.hid hB10
        have hs10 := hB10.size
        have HLow := Lib.hid hlow
        have HQL := Lib.hid (fun q (hq : q ∈ ps.map low1) => show q.2.length ≤ 1000000 by
          obtain ⟨p, hp, rfl⟩ := List.mem_map.1 hq
          have := HPB.out p hp
          show p.2.length ≤ _
          omega)
        generalize ps.map low1 = qs at *
        clear hlow hOw hB10 LW
        go_wp2_with fail
        go_loopw [10] (fun i wr => ∃ k : Nat, i = .int .i64 (k : Int) ∧ k ≤ ps.length ∧ OwnsP 49 w9.heap.size wr (.slice wa ps.length wc) (wantK qs k) ∧ Below w9.heap.size w9 wr) (fun i _ => ps.length - (intOf i).toNat)
        case atStart => exact ⟨0, rfl, Nat.zero_le _, HOw.out, HB10.out⟩
        case round =>
          obtain ⟨k, rfl, hk, hO, hBr⟩ := hrel
          have hbr := hBr.size
          by_cases hlt : k < ps.length
          · obtain ⟨q, hq⟩ : ∃ q, qs[k]? = some q := ⟨qs[k]'(by rw [HLow.out]; exact hlt), List.getElem?_eq_getElem _⟩
            obtain ⟨g, rfl, hgb, hgl⟩ : ∃ g, wa = some ⟨g, 0, none⟩ ∧ w9.heap.size ≤ g ∧ g < wr.heap.size := by
              have hO2 := hO
              rcases hO with ⟨_, ⟨hv, hn⟩ | ⟨g, cap, cur, hv, hb, hg, _⟩⟩
              · rw [wantK_len, HLow.out] at hn; omega
              · simp only [Value.slice.injEq] at hv
                exact ⟨g, hv.1, hb, (Array.getElem?_eq_some_iff.1 hg).1⟩
            have hO3 : wr.ownsRow w9.heap.size 49 2 (.slice (some ⟨g, 0, none⟩) ps.length wc) ps.length (flatP (wantK qs k)) := by
              have := hO; unfold OwnsP at this; rw [wantK_len, HLow.out] at this; exact this
            have hfa := flatP_at _ k q (wantK_at hq)
            have hc1 : wr.cell? ⟨g, k * 2, none⟩ = some (.string (strB q.1)) := by rw [World.ownsRow.cellAt hO3 (k * 2) (by omega), hfa.1]
            have hc2 : wr.cell? ⟨g, k * 2 + 1, none⟩ = some (.string (strB q.2)) := by rw [World.ownsRow.cellAt hO3 (k * 2 + 1) (by omega), hfa.2]
            have hf2 := World.ownsRow.frozenAt hO3 (k * 2 + 1)
            have HQ := Lib.hid hq
            have HO := Lib.hid hO
            clear hO3 hfa hO
            by_cases hh : q.1 = hostN
            · have heq : ((strB q.1).toList == ([104, 111, 115, 116] : List UInt8)) = true := by rw [ByteArray.toList_eq, strB_list, hh]; rfl
              have hql := HQL.out q (List.mem_of_getElem? hq)
              have LO := Lib.hid (refLower_any (strB q.2) wr (by rw [strB_size]; omega))
              rw [strB_list] at LO
              have HH := Lib.hid hh
              clear hq hh
              go_wp2_with fail
              refine LO.out.mono ?_
              rintro e w11 ⟨rfl, hB11⟩
              have d2 := (hB11.cell (p := ⟨g, k * 2 + 1, none⟩) hgl).trans hc2
              have e2 := (hB11.frozen (p := ⟨g, k * 2 + 1, none⟩) hgl).trans hf2
              have HB11 := Lib.hid hB11
              clear hB11
              go_wp2_with fail
              go_roundw
              case rel =>
                have hO4 := OwnsP.below HO.out HB11.out
                obtain ⟨h1, _⟩ := wantK_store (cap := wc) HQ.out HH.out (by rw [HLow.out]; exact hO4)
                rw [HLow.out] at h1
                exact ⟨k + 1, by go_num, by omega, h1, (hBr.trans (HB11.out.mono hbr)).setCell (p := ⟨g, k * 2 + 1, none⟩) hgb _⟩
              case measure => simp [intOf]; omega
            · have heq : ((strB q.1).toList == ([104, 111, 115, 116] : List UInt8)) = false := by
                rw [ByteArray.toList_eq, strB_list, beq_eq_false_iff_ne]; exact hh
              have HS := Lib.hid (wantK_same hq hh)
              clear hq hh
              go_wp2_with fail
              go_roundw
              case rel => exact ⟨k + 1, by go_num, by omega, by rw [HS.out]; exact HO.out, hBr⟩
              case measure => simp [intOf]; omega
          · rw [wantK_end qs (by rw [HLow.out]; omega)] at hO
            have y2 := (hBr.cell (p := ⟨w8.heap.size, 2, none⟩) hsz9).trans x2
            have A := Lib.hid (are_below (.slice a8 ps.length c8) (.slice wa ps.length wc) (qs.map hostW) (qs.map hostW) wr (OwnsP.below HO9.out hBr).q hO.q (by rw [List.length_map, HLow.out]; omega) (by rw [List.length_map, HLow.out]; omega))
            rw [decide_eq_true rfl] at A
            clear hO
            go_wp2_with fail
            refine A.out.mono ?_
            rintro e w12 ⟨rfl, hB12'⟩
            go_wp2_with fail
            go_ret
            exact ⟨rfl, HB9.out.trans ((hBr.trans (hB12'.mono hbr)).mono HB9.out.size)⟩
      · have hbn := WN.out hc0
        have hbn' : b = [] := hbn
        subst hbn'
        rw [errV_no hc0] at he4
        obtain ⟨a4, c4, rfl⟩ : ∃ a c, v4 = .slice a 0 c := by
          rcases hO4.isSlice with ⟨rfl, _⟩ | ⟨g, cap, rfl, _⟩
          · exact ⟨_, _, rfl⟩
          · exact ⟨_, _, rfl⟩
        subst he4
        clear hbn hc0 WN WB hO4
        go_wp2_with fail
        go_ret
        exact ⟨rfl, hBw⟩
end Go.Proofs.YtacfkljpjjnlfaaGreatDoor
