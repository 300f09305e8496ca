/- What the reference's parts, before and Lenient return. -/
import Derived.Test.YtgbcpheccaldlaaDoorJRefEl
import Derived.Test.YtgbcpheccaldlaaDoorJLen
import Derived.Test.YtgbcpheccaldlaaDoorParts
namespace Go.Proofs.YtgbcpheccaldlaaDoor
open Go.RowKit

/-- k bytes are read; the parts so far are out; the next part begins at x. -/
def CutAt (s : ByteArray) (x k : Nat) (out : List (List UInt8)) : Prop :=
  cutL 44 s.data.toList = out ++ cutL 44 (s.data.toList.drop x) ∧ 44 ∉ (s.data.toList.drop x).take (k - x) ∧ x ≤ k ∧ k ≤ s.size ∧ out.length ≤ k
theorem cutAt0 (s : ByteArray) : CutAt s 0 0 [] := by
  refine ⟨?_, ?_, Nat.le_refl _, Nat.zero_le _, Nat.le_refl _⟩
  · rw [List.drop_zero]; rfl
  · rw [Nat.sub_zero, List.take_zero]; simp
theorem segA_snoc (s : ByteArray) (x k : Nat) (hx : x ≤ k) (hk : k < s.size) : (s.data.toList.drop x).take (k + 1 - x) = (s.data.toList.drop x).take (k - x) ++ [s[k]] := by
  rw [show k + 1 - x = (k - x) + 1 by omega, List.take_succ_eq_append_getElem (by rw [List.length_drop, Array.length_toList]; show k - x < s.size - x; omega)]
  rw [List.getElem_drop]
  congr 2
  simp only [show x + (k - x) = k by omega]; rfl
theorem cutAt_other {s : ByteArray} {x k : Nat} {out : List (List UInt8)} (h : CutAt s x k out) (hk : k < s.size) (hc : s[k].toNat ≠ 44) : CutAt s x (k + 1) out := by
  obtain ⟨h1, h2, h3, h4, h5⟩ := h
  refine ⟨h1, ?_, by omega, by omega, by omega⟩
  rw [segA_snoc s x k h3 hk, List.mem_append, not_or]
  exact ⟨h2, by simp; intro e; exact hc (by rw [← e]; rfl)⟩
theorem cutAt_sep {s : ByteArray} {x k : Nat} {out : List (List UInt8)} (h : CutAt s x k out) (hk : k < s.size) (hc : s[k].toNat = 44) : CutAt s (k + 1) (k + 1) (out ++ [(s.data.toList.drop x).take (k - x)]) := by
  obtain ⟨h1, h2, h3, h4, h5⟩ := h
  have e : s[k] = 44 := nat_of_u8 hc
  refine ⟨?_, by simp, Nat.le_refl _, by omega, by simp; omega⟩
  have hd : s.data.toList.drop x = (s.data.toList.drop x).take (k - x) ++ 44 :: s.data.toList.drop (k + 1) := by
    have h6 := List.take_append_drop (k - x) (s.data.toList.drop x)
    rw [List.drop_drop, show x + (k - x) = k by omega] at h6
    have h7 : s.data.toList.drop k = s[k] :: s.data.toList.drop (k + 1) := by
      rw [List.drop_eq_getElem_cons (by simpa using hk)]; rfl
    rw [h7, e] at h6
    exact h6.symm
  rw [h1, hd, cutL_app, cutL_none h2, ← hd]; simp
theorem cutAt_end {s : ByteArray} {x k : Nat} {out : List (List UInt8)} (h : CutAt s x k out) (hk : s.size ≤ k) : cutL 44 s.data.toList = out ++ [(s.data.toList.drop x).take (k - x)] := by
  obtain ⟨h1, h2, h3, h4, h5⟩ := h
  rw [List.take_of_length_le (by rw [List.length_drop, Array.length_toList]; show s.size - x ≤ k - x; omega)] at h2 ⊢
  rw [h1, cutL_none h2]
theorem own_more1 {B : Nat} {w : World} {v : Value} {acc out : List (List UInt8)} {p : List UInt8}
    (h : w.ownsRow B 9 1 v ((acc ++ out.map trimB).length + 1) ((acc ++ out.map trimB).map strV ++ [strV (trimB p)])) : OwnsS B w v (acc ++ (out ++ [p]).map trimB) := by
  have := OwnsS.snoc h
  rw [List.map_append, ← List.append_assoc]; exact this
/-- Within a value: the parts that are out are appended, and the part at hand is what was read since; or all is done. -/
def RpIn (acc : List (List UInt8)) (s : ByteArray) (w : World) (u p i : Value) (wr : World) : Prop :=
  (∃ (x k : Nat) (out : List (List UInt8)), i = .int .i64 k ∧ p = .string (strB ((s.data.toList.drop x).take (k - x))) ∧ CutAt s x k out ∧ OwnsS w.heap.size wr u (acc ++ out.map trimB) ∧ Below w.heap.size w wr) ∨
  (∃ k : Nat, i = .int .i64 k ∧ k = s.size + 1 ∧ OwnsS w.heap.size wr u (acc ++ (cutL 44 s.data.toList).map trimB) ∧ Below w.heap.size w wr)
set_option maxHeartbeats 2000000 in
set_option maxRecDepth 100000 in
theorem refParts_any (n : List UInt8) (fv : Value) (ps : Flds) (w : World) (hr : ReadsQ w fv ps) (hf : Fits ps) (hn : n.length ≤ 100) :
    Calls Tryd.prog 56 #[fv, .string (strB n)] w (fun e w' => ∃ v, e = .returned v ∧ OwnsS w.heap.size w' v (cutsL (allL ps n)) ∧ Below w.heap.size w w') := by
  obtain ⟨i0, hi, hz0, hz1, hz2⟩ := info_parts Tryd.infoS
  have A := refAllN_any n fv ps w hr hf hn
  have HS := Lib.hid (hf.room n)
  have hvn : (allL ps n).length ≤ 50000 := Nat.le_trans (room_len _) (hf.room n)
  generalize allL ps n = vs at *
  clear hr hf
  go_enter Tryd.func56, Tryd.ntmps56
  go_wp2_with fail
  refine A.mono ?_
  rintro e w1 ⟨v1, rfl, hO1, hB1⟩
  have hb1 := hB1.size
  obtain ⟨ao, cap, rfl, hc⟩ := hO1.reads
  have HC := Lib.hid hc
  clear hc hO1 A
  go_wp2_with fail
  go_loopw [5, 7] (fun u i wr => PartRel vs w1 u i wr) (fun _ i _ => vs.length - (intOf i).toNat)
  case atStart => exact ⟨0, rfl, Nat.zero_le _, World.ownsRow_nil _ _ _ _, Below.refl _ _⟩
  case round =>
    obtain ⟨k, rfl, hk, hO, hB⟩ := hrel
    have hbr := hB.size
    have hal : (cutsL (vs.take k)).length ≤ 50000 := by have h1 := cuts_len (vs.take k); have h2 := room_take vs k; have := HS.out; omega
    by_cases hlt : k < vs.length
    · obtain ⟨s, hv⟩ : ∃ s : ByteArray, vs[k]? = some s.data.toList := by
        obtain ⟨l, hl⟩ : ∃ l, vs[k]? = some l := ⟨vs[k], by simp [hlt]⟩
        exact ⟨strB l, by rw [strB_list]; exact hl⟩
      obtain ⟨g, off, rfl, hg, h1⟩ := HC.out k _ hv
      rw [strB_of] at h1
      have hvl : s.size ≤ 50000 := by
        have h2 := room_mem (List.mem_of_getElem? hv); have h3 := HS.out
        rw [Array.length_toList] at h2
        have h4 : s.size < roomL vs := h2
        omega
      have HMORE := Lib.hid (cuts_more hv)
      have hbz : g < wr.heap.size := Nat.lt_of_lt_of_le hg hbr
      have hcell0 : wr.cell? ⟨g, off + k, none⟩ = some (.string s) := (hB.cell (p := ⟨g, off + k, none⟩) hg).trans h1
      generalize hacc : cutsL (vs.take k) = acc at *
      have H1 := Lib.hid h1
      clear hv h1 hacc hcell0
      go_wp2_with fail
      go_loopw [5, 8, 9] (fun u p i wr => RpIn acc s w1 u p i wr) (fun _ _ i _ => s.size + 1 - (intOf i).toNat)
      case atStart => exact .inl ⟨0, 0, [], rfl, rfl, cutAt0 s, by simpa using hO, hB⟩
      case round =>
        rcases hrel with ⟨x, j, out, rfl, rfl, hC, hO2, hB2⟩ | ⟨j, rfl, hj, hO2, hB2⟩
        rotate_left
        · have hcell : wr.cell? ⟨g, off + k, none⟩ = some (.string s) := (hB2.cell (p := ⟨g, off + k, none⟩) hg).trans H1.out
          have hj1 : s.size < j := by omega
          clear hj
          go_wp2_with fail
          go_roundw
          case rel => exact ⟨k + 1, by go_num, by omega, by rw [HMORE.out]; exact hO2, hB2⟩
          case measure => simp [intOf]; omega
        have hb2 := hB2.size
        have HCU := Lib.hid hC
        obtain ⟨_, _, hxj, hjs, hol⟩ := HCU.out
        have hcell : wr.cell? ⟨g, off + k, none⟩ = some (.string s) := (hB2.cell (p := ⟨g, off + k, none⟩) hg).trans H1.out
        have hlj : (acc ++ out.map trimB).length ≤ 100002 := by rw [List.length_append, List.length_map]; omega
        have hpz : (strB ((s.data.toList.drop x).take (j - x))).size ≤ 50000 := by rw [strB_size, List.length_take]; omega
        have hpl : ((s.data.toList.drop x).take (j - x)).length ≤ 50000 := by rw [List.length_take]; omega
        have T := fun W => refTrim_any ((s.data.toList.drop x).take (j - x)) W (by omega)
        clear hC
        by_cases hlt2 : j < s.size
        · by_cases h44 : s[j].toNat = 44
          · have hca : ((s[j].toNat : Int) == 44) = true := by rw [h44]; rfl
            have HN := Lib.hid (cutAt_sep HCU.out hlt2 h44)
            clear h44
            go_wp2_with (first
              | (go_at_call 83; refine (T _).mono ?_; rintro e w2 ⟨rfl, rfl⟩)
              | (at_builtin; refine wpList_append_own _ rfl _ _ 96 rfl w1.heap.size 9 i0 (.string ByteArray.empty) 1 16 Tryd.underlying96 hi hz0 hz1 hz2 rfl (by decide) _ _ _ rfl (World.ownsRow.alloc hO2 _) ⟨wr.heap.size, 0, none⟩ 1 1 [strV (trimB ((s.data.toList.drop x).take (j - x)))] rfl rfl (cell_one_new _ _ _) (fun u hu => by simp at hu; subst hu; rfl) (by unfold maxLen; omega) (by omega) (by simp; omega) ?_; intro v' w3 hown' hgrow _))
            go_roundw
            case rel => exact .inl ⟨j + 1, j + 1, _, by go_num, by simp; rfl, HN.out, own_more1 hown', below_append hB2 hb2 (Below.refl _ _) hO2 hgrow⟩
            case measure => simp [intOf]; omega
          · have hca : ((s[j].toNat : Int) == 44) = false := by rw [beq_eq_false_iff_ne]; omega
            have HN := Lib.hid (cutAt_other HCU.out hlt2 h44)
            have HSG := Lib.hid (segA_snoc s x j hxj hlt2)
            have HON := Lib.hid (one_byte s j hlt2)
            clear h44
            go_wp2_with fail
            go_roundw
            case rel => exact .inl ⟨x, j + 1, out, by go_num, by rw [HSG.out, strB_app, HON.out], HN.out, hO2, hB2⟩
            case measure => simp [intOf]; omega
        · obtain rfl : j = s.size := by omega
          have hja : ((s.size : Int) == (s.size : Int)) = true := beq_self_eq_true _
          have HE := Lib.hid (cutAt_end HCU.out (Nat.le_refl _))
          go_wp2_with (first
            | (go_at_call 83; refine (T _).mono ?_; rintro e w2 ⟨rfl, rfl⟩)
            | (at_builtin; refine wpList_append_own _ rfl _ _ 96 rfl w1.heap.size 9 i0 (.string ByteArray.empty) 1 16 Tryd.underlying96 hi hz0 hz1 hz2 rfl (by decide) _ _ _ rfl (World.ownsRow.alloc hO2 _) ⟨wr.heap.size, 0, none⟩ 1 1 [strV (trimB ((s.data.toList.drop x).take (s.size - x)))] rfl rfl (cell_one_new _ _ _) (fun u hu => by simp at hu; subst hu; rfl) (by unfold maxLen; omega) (by omega) (by simp; omega) ?_; intro v' w3 hown' hgrow _))
          go_roundw
          case rel => exact .inr ⟨s.size + 1, by go_num, rfl, by rw [HE.out]; exact own_more1 hown', below_append hB2 hb2 (Below.refl _ _) hO2 hgrow⟩
          case measure => simp [intOf]
    · have htk : vs.take k = vs := List.take_of_length_le (by omega)
      rw [htk] at hO
      go_wp2_with fail
      go_ret
      exact ⟨_, rfl, OwnsS.mono hb1 hO, hB1.trans (hB.mono hb1)⟩
theorem refPartsCL_any (fv : Value) (ps : Flds) (w : World) (hr : ReadsQ w fv ps) (hf : Fits ps) :
    Calls Tryd.prog 56 #[fv, .string ⟨#[99, 111, 110, 116, 101, 110, 116, 45, 108, 101, 110, 103, 116, 104]⟩] w (fun e w' => ∃ v, e = .returned v ∧ OwnsS w.heap.size w' v (cutsL (lsF ps)) ∧ Below w.heap.size w w') := refParts_any clN fv ps w hr hf (by decide)
theorem refPartsTE_any (fv : Value) (ps : Flds) (w : World) (hr : ReadsQ w fv ps) (hf : Fits ps) :
    Calls Tryd.prog 56 #[fv, .string ⟨#[116, 114, 97, 110, 115, 102, 101, 114, 45, 101, 110, 99, 111, 100, 105, 110, 103]⟩] w (fun e w' => ∃ v, e = .returned v ∧ OwnsS w.heap.size w' v (cutsL (csF ps)) ∧ Below w.heap.size w w') := refParts_any teN fv ps w hr hf (by decide)
theorem befS_hit {l : List UInt8} {k : Nat} (hk : k < l.length) (h1 : 59 ∉ l.take k) (h2 : l[k] = 59) : befS l = trimB (l.take k) := by
  have e : l = l.take k ++ 59 :: l.drop (k + 1) := by
    conv => lhs; rw [← List.take_append_drop k l, List.drop_eq_getElem_cons hk, h2]
  have hm : 59 ∈ l := by rw [← h2]; exact List.getElem_mem _
  unfold befS
  rw [if_pos hm]
  congr 1
  conv => lhs; rw [e]
  rw [List.takeWhile_append_of_pos (by intro a ha; simp; intro e; rw [e] at ha; exact h1 ha)]
  simp
set_option maxHeartbeats 2000000 in
set_option maxRecDepth 100000 in
theorem before_any (s : ByteArray) (w : World) (hs : s.size ≤ 100000) :
    Calls Tryd.prog 59 #[.string s] w (fun e w' => e = .returned (.string (strB (befS s.data.toList))) ∧ w = w') := by
  have T := fun (k : Nat) W => refTrim_seg s 0 k W hs
  go_enter Tryd.func59, Tryd.ntmps59
  go_wp2_with fail
  go_loop [3] (fun i => ∃ k : Nat, k ≤ s.size ∧ i = .int .i64 k ∧ 59 ∉ s.data.toList.take k) (fun i => s.size - (intOf i).toNat)
  case atStart => exact ⟨0, by omega, rfl, by simp⟩
  case round =>
    obtain ⟨k, hk, rfl, hn⟩ := hrel
    have HN := Lib.hid hn
    clear hn
    by_cases hlt : k < s.size
    · by_cases h59 : s[k].toNat = 59
      · have hca : ((s[k].toNat : Int) == 59) = true := by rw [h59]; rfl
        have HB := Lib.hid (befS_hit (l := s.data.toList) (k := k) (by rw [Array.length_toList]; exact hlt) HN.out (by have : s[k] = 59 := nat_of_u8 h59; exact this))
        have T := T k
        rw [List.drop_zero, Nat.sub_zero] at T
        clear h59
        go_wp2_with fail
        refine (T _).mono ?_
        rintro e w' ⟨rfl, rfl⟩
        go_wp2_with fail
        go_ret
        exact ⟨by rw [HB.out]; rfl, rfl⟩
      · have hca : ((s[k].toNat : Int) == 59) = false := by rw [beq_eq_false_iff_ne]; omega
        have HS := Lib.hid (show 59 ∉ s.data.toList.take (k + 1) by
          rw [take_snoc s k hlt, List.mem_append, not_or]
          exact ⟨HN.out, by simp; intro e; exact h59 (by rw [← e]; rfl)⟩)
        clear h59
        go_wp2_with fail
        go_round
        case rel => exact ⟨k + 1, by omega, by go_num, HS.out⟩
        case measure => simp [intOf]; omega
    · have HB := Lib.hid (show befS s.data.toList = s.data.toList by
        unfold befS
        rw [if_neg]
        have := HN.out
        rwa [take_all s k (by omega)] at this)
      go_wp2_with fail
      go_ret
      exact ⟨by rw [HB.out, strB_of]; rfl, rfl⟩
/-- The first number, -1 if there is none. -/
def lenZ (ps : List (List UInt8)) : Int := match firstN ps with
  | some n => (n : Int)
  | none => -1
def optZ : Option Nat → Int
  | some n => (n : Int)
  | none => -1
theorem lenZ_step {ps : List (List UInt8)} {k : Nat} {p : List UInt8} (h : ps[k]? = some p) : lenZ (ps.drop k) = if 0 ≤ numZ p then numZ p else lenZ (ps.drop (k + 1)) := by
  unfold lenZ
  rw [first_skip h]
  unfold numZ
  cases numO p with
  | none => simp
  | some n => simp
theorem lenZ_lt (ps : List (List UInt8)) : lenZ ps < 1000000000000000 := by
  unfold lenZ
  induction ps with
  | nil => simp [firstN]
  | cons p r ih =>
    rw [firstN]
    cases h : numO p with
    | none => simp only; exact ih
    | some n => simp only; have := numO_lt h; omega
theorem numZ_lt (p : List UInt8) : numZ p < 1000000000000000 ∧ -1 ≤ numZ p := by
  unfold numZ
  cases h : numO p with
  | none => simp
  | some n => simp only; have := numO_lt h; omega
set_option maxHeartbeats 4000000 in
set_option maxRecDepth 100000 in
theorem refLenient_any (m t : List UInt8) (fv : Value) (ps : Flds) (f : Bool) (w : World) (hr : ReadsQ w fv ps) (hf : Fits ps) :
    Calls Tryd.prog 23 #[.agg #[.string (strB m), .string (strB t), fv], .bool f] w (fun e w' => e = .returned (frV (lenP ps f).1 (lenP ps f).2) ∧ Below w.heap.size w w') := by
  have HR := Lib.hid hr
  have P1 := Lib.hid (fun W (hr : ReadsQ W fv ps) => refPartsCL_any fv ps W hr hf)
  have P2 := Lib.hid (fun W (hr : ReadsQ W fv ps) => refPartsTE_any fv ps W hr hf)
  have e0 : lenP ps f = lenR (firstN (cutsL (lsF ps))) (isChunked (cutsL (csF ps))) f := rfl
  have HL1 := Lib.hid (fun p hp => Nat.le_trans (cuts_part (lsF ps) p hp) (hf.room clN))
  have HL2 := Lib.hid (fun p hp => Nat.le_trans (cuts_part (csF ps) p hp) (hf.room teN))
  have hz1 : (cutsL (lsF ps)).length ≤ 50000 := Nat.le_trans (cuts_len _) (hf.room clN)
  have hz2 : (cutsL (csF ps)).length ≤ 50000 := Nat.le_trans (cuts_len _) (hf.room teN)
  rw [e0]
  generalize cutsL (lsF ps) = ls at *
  generalize cutsL (csF ps) = cs at *
  obtain ⟨ao, cap, rfl, hc⟩ := hr
  have hB0 : Below w.heap.size w (w.alloc (.cells #[.string (strB m), .string (strB t), .slice ao ps.length cap] 43)) := below_new _ _
  have hB1 := hB0.alloc hB0.size (.cells #[.int .i64 0, .int .i64 0] 48)
  have hx2 : ((w.alloc (.cells #[.string (strB m), .string (strB t), .slice ao ps.length cap] 43)).alloc (.cells #[.int .i64 0, .int .i64 0] 48)).cell? ⟨w.heap.size, 2, none⟩ = some (.slice ao ps.length cap) := by
    have hb2 := below_new (w.alloc (.cells #[.string (strB m), .string (strB t), .slice ao ps.length cap] 43)) (.cells #[.int .i64 0, .int .i64 0] 48)
    rw [hb2.cell (p := ⟨w.heap.size, 2, none⟩) (by simp), World.cell?_alloc_at _ _ _ _ rfl]; rfl
  have hxz : w.heap.size < ((w.alloc (.cells #[.string (strB m), .string (strB t), .slice ao ps.length cap] 43)).alloc (.cells #[.int .i64 0, .int .i64 0] 48)).heap.size := by simp; omega
  have ez : (w.alloc (.cells #[.string (strB m), .string (strB t), .slice ao ps.length cap] 43)).heap.size = w.heap.size + 1 := by simp
  have P1 := P1.out _ (HR.out.below hB1)
  clear hc e0 hf
  go_enter Tryd.func23, Tryd.ntmps23
  go_wp2_with fail
  refine P1.mono ?_
  rintro e w1 ⟨v1, rfl, hO1, hB2⟩
  have hBa := hB1.trans (hB2.mono hB1.size)
  have y2 : w1.cell? ⟨w.heap.size, 2, none⟩ = some (.slice ao ps.length cap) := (hB2.cell (p := ⟨w.heap.size, 2, none⟩) hxz).trans hx2
  obtain ⟨a1, c1, rfl, hc1⟩ := hO1.reads
  have HC1 := Lib.hid hc1
  have P2 := P2.out _ (HR.out.below hBa)
  clear P1 hO1 hc1
  go_wp2_with fail
  go_loop [5, 8] (fun L i => ∃ (k : Nat) (z : Int), i = .int .i64 z ∧ z + 1 = (k : Int) ∧ k ≤ ls.length ∧ L = .int .i64 (lenZ (ls.drop k))) (fun _ i => (intOf i + 1).toNat)
  case atStart => exact ⟨ls.length, (ls.length : Int) - 1, by go_num, by omega, Nat.le_refl _, by rw [List.drop_length]; rfl⟩
  case round =>
    obtain ⟨k, z, rfl, hz, hk, rfl⟩ := hrel
    have hll := lenZ_lt (ls.drop k)
    cases k with
    | zero =>
      obtain rfl : z = -1 := by omega
      have hd : ls.drop 0 = ls := List.drop_zero
      rw [hd] at hll ⊢
      have hzl : -1 ≤ lenZ ls := by unfold lenZ; split <;> omega
      clear hz hd
      obtain ⟨o, ho⟩ : ∃ o, firstN ls = o := ⟨_, rfl⟩
      have HO := Lib.hid ho
      have HZ := Lib.hid (show lenZ ls = optZ o by rw [← ho]; rfl)
      clear ho
      generalize lenZ ls = Z at *
      go_wp2_with fail
      refine P2.mono ?_
      rintro e w2 ⟨v2, rfl, hO2, hB3⟩
      have hB23 := hB2.trans (hB3.mono hB2.size)
      obtain ⟨a2, c2, rfl, hc2⟩ := hO2.reads
      have HC2 := Lib.hid hc2
      clear hO2 hc2 P2 y2 hB2 hB3 hBa
      go_wp2_with fail
      go_loopw [6, 10] (fun c i wr => ∃ k : Nat, i = .int .i64 k ∧ k ≤ cs.length ∧ c = .bool (isChunked (cs.take k)) ∧ Below w2.heap.size w2 wr) (fun _ i _ => cs.length - (intOf i).toNat)
      case atStart => exact ⟨0, rfl, Nat.zero_le _, rfl, Below.refl _ _⟩
      case round =>
        obtain ⟨k, rfl, hk, rfl, hBr⟩ := hrel
        have hbr := hBr.size
        by_cases hlt : k < cs.length
        · obtain ⟨s, hp⟩ : ∃ s : ByteArray, cs[k]? = some s.data.toList := by
            obtain ⟨l, hl⟩ : ∃ l, cs[k]? = some l := ⟨cs[k], by simp [hlt]⟩
            exact ⟨strB l, by rw [strB_list]; exact hl⟩
          obtain ⟨g, off, rfl, hg, h1⟩ := HC2.out k _ hp
          rw [strB_of] at h1
          have h1' := (hBr.cell (p := ⟨g, off + k, none⟩) hg).trans h1
          have hpl := HL2.out _ (List.mem_of_getElem? hp)
          rw [Array.length_toList] at hpl
          have hpl' : s.size ≤ 50000 := hpl
          have HT := Lib.hid (chunk_take hp)
          have hbl : (befS s.data.toList).length ≤ s.size := by
            have hs : s.data.toList.length = s.size := by rw [Array.length_toList]; rfl
            unfold befS
            split
            · have h5 := trimB_le (s.data.toList.takeWhile (· ≠ 59))
              have h6 := (List.takeWhile_sublist (p := fun x => decide (x ≠ 59)) (l := s.data.toList)).length_le
              omega
            · omega
          have BE := fun W => before_any s W (by omega)
          have L := fun W => refLower_any (strB (befS s.data.toList)) W (by rw [strB_size]; omega)
          rw [strB_list] at L
          clear hp h1 hpl
          cases hch : isChunked (cs.take k) with
          | true =>
            have HN := Lib.hid (show isChunked (cs.take (k + 1)) = true by rw [HT.out, hch]; rfl)
            go_wp2_with fail
            go_roundw
            case rel => exact ⟨k + 1, by go_num, by omega, by rw [HN.out], hBr⟩
            case measure => simp [intOf]; omega
          | false =>
            by_cases hl : lowS (befS s.data.toList) = chunkedL
            · have heq := chk_eq hl
              have HN := Lib.hid (show isChunked (cs.take (k + 1)) = true by rw [HT.out, decide_eq_true hl, Bool.or_true])
              clear hl
              go_wp2_with fail
              refine (BE _).mono ?_
              rintro e w' ⟨rfl, rfl⟩
              go_wp2_with fail
              refine (L _).mono ?_
              rintro e w4 ⟨rfl, hB4⟩
              go_wp2_with fail
              go_roundw
              case rel => exact ⟨k + 1, by go_num, by omega, by rw [HN.out], hBr.trans (hB4.mono hbr)⟩
              case measure => simp [intOf]; omega
            · have heq := chk_ne hl
              have HN := Lib.hid (show isChunked (cs.take (k + 1)) = false by rw [HT.out, hch, decide_eq_false hl]; rfl)
              clear hl
              go_wp2_with fail
              refine (BE _).mono ?_
              rintro e w' ⟨rfl, rfl⟩
              go_wp2_with fail
              refine (L _).mono ?_
              rintro e w4 ⟨rfl, hB4⟩
              go_wp2_with fail
              go_roundw
              case rel => exact ⟨k + 1, by go_num, by omega, by rw [HN.out], hBr.trans (hB4.mono hbr)⟩
              case measure => simp [intOf]; omega
        · have htk : cs.take k = cs := List.take_of_length_le (by omega)
          rw [htk]
          have hB25 := hB23.trans (hBr.mono hB23.size)
          have hBd := hB1.trans (hB25.mono hB1.size)
          obtain ⟨b0, b1, f0, f1, bz⟩ := frame_kept hB25
          rw [ez] at b0 b1 f0 f1 bz
          have HBS := Lib.hid (fun (x y : Value) => (hBd.setCell (p := ⟨w.heap.size + 1, 0, none⟩) (Nat.le_succ _) x).setCell (p := ⟨w.heap.size + 1, 1, none⟩) (Nat.le_succ _) y)
          clear hB23 hBr hB25 hBd htk
          obtain ⟨b, hbb⟩ : ∃ b, isChunked cs = b := ⟨_, rfl⟩
          rw [hbb]
          have HBB := Lib.hid hbb
          clear hbb
          cases o with
          | none =>
            obtain rfl : Z = -1 := HZ.out
            cases b with
            | true =>
              have HE := Lib.hid (show lenR (firstN ls) (isChunked cs) f = (3, 0) by rw [HO.out, HBB.out]; cases f <;> rfl)
              cases f
              all_goals
                go_wp2_with fail
                exact bodyPost_ret (v := .agg #[.int .i64 3, .int .i64 0]) (by simp [results, Tryd.results23, go_sem, b0, b1]) rfl ⟨by rw [HE.out]; rfl, HBS.out _ _⟩
            | false =>
              have HE := Lib.hid (show lenR (firstN ls) (isChunked cs) f = (1, 0) by rw [HO.out, HBB.out]; cases f <;> rfl)
              go_wp2_with fail
              exact bodyPost_ret (v := .agg #[.int .i64 1, .int .i64 0]) (by simp [results, Tryd.results23, go_sem, b0, b1]) rfl ⟨by rw [HE.out]; rfl, HBS.out _ _⟩
          | some n =>
            obtain rfl : Z = (n : Int) := HZ.out
            have hn0 : (0 : Int) ≤ (n : Int) := by omega
            clear hll hzl
            cases b with
            | true =>
              cases f with
              | true =>
                have HE := Lib.hid (show lenR (firstN ls) (isChunked cs) true = (2, n) by rw [HO.out, HBB.out]; unfold lenR; rw [if_neg (by simp)])
                go_wp2_with fail
                exact bodyPost_ret (v := .agg #[.int .i64 2, .int .i64 n]) (by simp [results, Tryd.results23, go_sem, b0, b1]) rfl ⟨by rw [HE.out]; rfl, HBS.out _ _⟩
              | false =>
                have HE := Lib.hid (show lenR (firstN ls) (isChunked cs) false = (3, 0) by rw [HO.out, HBB.out]; unfold lenR; rw [if_pos (by simp)])
                go_wp2_with fail
                exact bodyPost_ret (v := .agg #[.int .i64 3, .int .i64 0]) (by simp [results, Tryd.results23, go_sem, b0, b1]) rfl ⟨by rw [HE.out]; rfl, HBS.out _ _⟩
            | false =>
              have HE := Lib.hid (show lenR (firstN ls) (isChunked cs) f = (2, n) by rw [HO.out, HBB.out]; unfold lenR; rw [if_neg (by simp)])
              go_wp2_with fail
              exact bodyPost_ret (v := .agg #[.int .i64 2, .int .i64 n]) (by simp [results, Tryd.results23, go_sem, b0, b1]) rfl ⟨by rw [HE.out]; rfl, HBS.out _ _⟩
    | succ j =>
      obtain rfl : z = (j : Int) := by omega
      obtain ⟨p, hp⟩ : ∃ p, ls[j]? = some p := ⟨ls[j], by simp⟩
      obtain ⟨g, off, rfl, hg, h1⟩ := HC1.out j p hp
      have hpl := HL1.out p (List.mem_of_getElem? hp)
      have N := fun W => refNumber_any (strB p) W (by rw [strB_size]; omega)
      rw [strB_list] at N
      have HS := Lib.hid (lenZ_step hp)
      obtain ⟨hn1, hn2⟩ := numZ_lt p
      clear hp hz
      by_cases hn : 0 ≤ numZ p
      · have HE := Lib.hid (show lenZ (ls.drop j) = numZ p by rw [HS.out, if_pos hn])
        go_wp2_with fail
        refine (N _).mono ?_
        rintro e w2 ⟨rfl, rfl⟩
        go_wp2_with fail
        go_round
        case rel => exact ⟨j, (j : Int) - 1, by go_num, by omega, by omega, by rw [HE.out]⟩
        case measure => simp [intOf]
      · have HE := Lib.hid (show lenZ (ls.drop j) = lenZ (ls.drop (j + 1)) by rw [HS.out, if_neg hn])
        go_wp2_with fail
        refine (N _).mono ?_
        rintro e w2 ⟨rfl, rfl⟩
        go_wp2_with fail
        go_round
        case rel => exact ⟨j, (j : Int) - 1, by go_num, by omega, by omega, by rw [HE.out]⟩
        case measure => simp [intOf]
end Go.Proofs.YtgbcpheccaldlaaDoor
