/- What the program's parts, lenientLength and lenientChunked return. -/
import Derived.Test.YthjkneifffdglaaDoorJNum
import Derived.Test.YthjkneifffdglaaDoorJFrame
import Derived.Test.YthjkneifffdglaaDoorAMax
import Derived.Test.YthjkneifffdglaaDoorJApp
import Derived.Test.YthjkneifffdglaaDoorTrimA
namespace Go.Proofs.YthjkneifffdglaaDoor
open Go.RowKit

theorem cuts_more {vs : List (List UInt8)} {k : Nat} {v : List UInt8} (h : vs[k]? = some v) : cutsL (vs.take (k + 1)) = cutsL (vs.take k) ++ (cutL 44 v).map trimB := by
  unfold cutsL; rw [take_more h, List.flatMap_append, List.map_append]; simp
theorem cuts_len (vs : List (List UInt8)) : (cutsL vs).length ≤ roomL vs := by
  unfold cutsL
  rw [List.length_map]
  induction vs with
  | nil => simp
  | cons v r ih => rw [List.flatMap_cons, List.length_append, roomL]; have := cutL_len 44 v; omega
theorem cuts_part (vs : List (List UInt8)) : ∀ p ∈ cutsL vs, p.length ≤ roomL vs := by
  intro p hp
  unfold cutsL at hp
  obtain ⟨q, hq, rfl⟩ := List.mem_map.1 hp
  obtain ⟨v, hv, hqv⟩ := List.mem_flatMap.1 hq
  have h1 := cutL_part_le 44 v q hqv
  have h2 := room_mem hv
  have h3 := trimB_le q
  omega
theorem cuts_trim (vs : List (List UInt8)) : ∀ p ∈ cutsL vs, trimB p = p := by
  intro p hp
  unfold cutsL at hp
  obtain ⟨q, _, rfl⟩ := List.mem_map.1 hp
  exact trimB_id q
def PartRel (vs : List (List UInt8)) (w : World) (u i : Value) (wr : World) : Prop :=
  ∃ k : Nat, i = .int .i64 k ∧ k ≤ vs.length ∧ OwnsS w.heap.size wr u (cutsL (vs.take k)) ∧ Below w.heap.size w wr
/-- Within a value: j of its parts are appended; the parts lie as they were. -/
def PartIn (acc ps : List (List UInt8)) (G : Nat) (w w1 : World) (u i : Value) (wr : World) : Prop :=
  ∃ j : Nat, i = .int .i64 j ∧ j ≤ ps.length ∧ OwnsS w.heap.size wr u (acc ++ (ps.take j).map trimB) ∧ Below w.heap.size w wr ∧ w1.heap.size ≤ wr.heap.size ∧
    (∀ j l, ps[j]? = some l → wr.cell? ⟨G, j, none⟩ = some (.string (strB l))) ∧ u.ownBlock ≠ some G
theorem own_moreS {B : Nat} {w : World} {v : Value} {acc ps : List (List UInt8)} {j : Nat} {l : List UInt8} (hj : ps[j]? = some l)
    (h : w.ownsRow B 9 1 v ((acc ++ (ps.take j).map trimB).length + 1) ((acc ++ (ps.take j).map trimB).map strV ++ [strV (trimB l)])) : OwnsS B w v (acc ++ (ps.take (j + 1)).map trimB) := by
  have := OwnsS.snoc h
  rw [take_more hj, List.map_append, ← List.append_assoc]; exact this
set_option maxHeartbeats 8000000 in
set_option maxRecDepth 100000 in
theorem partsP_any (vv : Value) (vs : List (List UInt8)) (w : World) (hr : ReadsS w vv vs) (hs : roomL vs ≤ 50000) (hM : HasMax w) :
    Calls Tryd.prog 39 #[vv] w (fun e w' => ∃ v, e = .returned v ∧ OwnsS w.heap.size w' v (cutsL vs) ∧ Below w.heap.size w w') := by
  obtain ⟨i0, hi, hz0, hz1, hz2⟩ := info_parts Tryd.infoS
  obtain ⟨ao, cap, rfl, hc⟩ := hr
  have hvn : vs.length ≤ 50000 := Nat.le_trans (room_len vs) hs
  have HC := Lib.hid hc
  have HS := Lib.hid hs
  have HM := Lib.hid hM
  clear hc hs hM
  go_enter Tryd.func39, Tryd.ntmps39
  go_wp2_with fail
  go_loopw [3, 10] (fun u i wr => PartRel vs w u i wr) (fun _ i _ => vs.length - (intOf i).toNat)
  case atStart => exact ⟨0, rfl, Nat.zero_le _, World.ownsRow_nil _ _ _ _, Below.refl _ _⟩
  case round =>
    obtain ⟨k, rfl, hk, hO, hB⟩ := hrel
    have hbr := hB.size
    have hal : (cutsL (vs.take k)).length + 1 ≤ 50001 := by have h1 := cuts_len (vs.take k); have h2 := room_take vs k; have := HS.out; omega
    by_cases hlt : k < vs.length
    · obtain ⟨v, hv⟩ : ∃ v, vs[k]? = some v := ⟨vs[k], by simp [hlt]⟩
      obtain ⟨g, off, rfl, hg, h1⟩ := HC.out k v hv
      have hcell : wr.cell? ⟨g, off + k, none⟩ = some (.string (strB v)) := (hB.cell (p := ⟨g, off + k, none⟩) hg).trans h1
      have hvl : v.length ≤ 50000 := by have := room_mem (List.mem_of_getElem? hv); have := HS.out; omega
      have SP := splitM_any 44 (strB v) wr (HM.out.below hB) (by rw [strB_size]; omega)
      rw [strB_list] at SP
      have hps : (cutL 44 v).length ≤ 50001 := by have := cutL_len 44 v; omega
      have HPL := Lib.hid (fun l hl => Nat.le_trans (cutL_part_le 44 v l hl) hvl)
      have HMORE := Lib.hid (cuts_more hv)
      generalize cutL 44 v = ps at *
      generalize hacc : cutsL (vs.take k) = acc at *
      clear hv h1 hacc
      go_wp2_with fail
      refine SP.mono ?_
      rintro e w1 ⟨v1, rfl, hO1, hB1⟩
      have hO0 := OwnsS.below hO hB1
      have hB01 := hB.trans (hB1.mono hbr)
      have hz1' := hB1.size
      rcases hO1.open' with ⟨rfl, hnil⟩ | ⟨G, cp1, rfl, hGl, hG, hcells⟩
      · -- no parts: nothing is appended
        subst hnil
        go_wp2_with fail
        go_loopw [3, 17] (fun u i wr => i = .int .i64 0 ∧ OwnsS w.heap.size wr u acc ∧ Below w.heap.size w wr) (fun _ i _ => 0 - (intOf i).toNat)
        case atStart => exact ⟨rfl, hO0, hB01⟩
        case round =>
          obtain ⟨rfl, hO2, hB2⟩ := hrel
          go_wp2_with fail
          go_roundw
          case rel => exact ⟨k + 1, by go_num, by omega, by rw [HMORE.out]; simpa using hO2, hB2⟩
          case measure => simp [intOf]; omega
      · have hGn : u3.ownBlock ≠ some G := fun h => by have := (World.ownsRow.lt hO G h).2; omega
        go_wp2_with fail
        go_loopw [3, 17] (fun u i wr => PartIn acc ps G w w1 u i wr) (fun _ i _ => ps.length - (intOf i).toNat)
        case atStart => exact ⟨0, rfl, Nat.zero_le _, by simpa using hO0, hB01, Nat.le_refl _, hcells, hGn⟩
        case round =>
          obtain ⟨j, rfl, hj, hO2, hB2, hs2, hcs, hGu⟩ := hrel
          have HCS := Lib.hid hcs
          have HGU := Lib.hid hGu
          have hb2 := hB2.size
          have hlj : (acc ++ (ps.take j).map trimB).length ≤ 100002 := by rw [List.length_append, List.length_map]; have := List.length_take_le j ps; omega
          clear hcs hGu
          by_cases hlj2 : j < ps.length
          · obtain ⟨l, hl⟩ : ∃ l, ps[j]? = some l := ⟨ps[j], by simp [hlj2]⟩
            have hcj := HCS.out j l hl
            have T := fun W => trimA_any (strB l) W (by rw [strB_size]; have := HPL.out l (List.mem_of_getElem? hl); omega)
            rw [strB_list] at T
            have HL := Lib.hid hl
            clear hl
            go_wp2_with (first
              | (go_at_call 44; refine (T _).mono ?_; rintro e w2 ⟨rfl, hb1⟩; have hs3 := hb1.size)
              | (at_builtin; refine wpList_append_own_at _ rfl _ _ 73 rfl w.heap.size 9 i0 (.string ByteArray.empty) 1 16 Tryd.underlying73 hi hz0 hz1 hz2 rfl (by decide) _ _ _ rfl ((OwnsS.below hO2 hb1).alloc _) ⟨w2.heap.size, 0, none⟩ 1 1 [strV (trimB l)] rfl rfl (cell_one_new _ _ _) (fun u hu => by simp at hu; subst hu; rfl) (by unfold maxLen; omega) (by omega) (by simp; omega) ?_; intro v' w3 hown' hgrow _ hat))
            go_roundw
            case rel =>
              refine ⟨j + 1, by go_num, by omega, own_moreS HL.out hown', below_append hB2 hb2 hb1 hO2 hgrow, ?_, ?_, ?_⟩
              · have := hgrow.size; simp at this; omega
              · intro i x hx
                exact hgrow.cell (((below_new w2 _).cell (p := ⟨G, i, none⟩) (by show G < w2.heap.size; omega)).trans ((hb1.cell (p := ⟨G, i, none⟩) (by show G < _; omega)).trans (HCS.out i x hx))) (fun e => HGU.out e.symm)
              · rcases hat with h | h
                · rw [h]; exact HGU.out
                · rw [h]; simp; omega
            case measure => simp [intOf]; omega
          · go_wp2_with fail
            go_roundw
            case rel => exact ⟨k + 1, by go_num, by omega, by rw [HMORE.out]; rw [List.take_of_length_le (by omega)] at hO2; exact hO2, hB2⟩
            case measure => simp [intOf]; omega
    · have htk : vs.take k = vs := List.take_of_length_le (by omega)
      rw [htk] at hO
      go_wp2_with fail
      go_ret
      exact ⟨_, rfl, hO, hB⟩
/-- The first number, and whether there is one. -/
def lenV2 (o : Option Nat) : Value := .tuple #[.int .i64 ((o.getD 0 : Nat) : Int), .bool o.isSome]
theorem first_skip : ∀ {ps : List (List UInt8)} {k : Nat} {p : List UInt8}, ps[k]? = some p → firstN (ps.drop k) = (match numO p with | some n => some n | none => firstN (ps.drop (k + 1))) := by
  intro ps k p h
  have hk := (List.getElem?_eq_some_iff.mp h).1
  have e : ps.drop k = p :: ps.drop (k + 1) := by
    rw [List.drop_eq_getElem_cons hk]; congr 1; exact (List.getElem?_eq_some_iff.mp h).2
  rw [e, firstN]
  cases numO p <;> rfl
set_option maxHeartbeats 4000000 in
set_option maxRecDepth 100000 in
theorem lenientLength_any (vv : Value) (vs : List (List UInt8)) (w : World) (hr : ReadsS w vv vs) (hs : roomL vs ≤ 50000) (hM : HasMax w) :
    Calls Tryd.prog 30 #[vv] w (fun e w' => e = .returned (lenV2 (firstN (cutsL vs))) ∧ Below w.heap.size w w') := by
  have P := partsP_any vv vs w hr hs hM
  have HPL := Lib.hid (cuts_part vs)
  have hpl : (cutsL vs).length ≤ 50000 := Nat.le_trans (cuts_len vs) hs
  generalize cutsL vs = ps at *
  clear hr hM
  go_enter Tryd.func30, Tryd.ntmps30
  go_wp2_with fail
  refine P.mono ?_
  rintro e w1 ⟨v1, rfl, hO, hB⟩
  obtain ⟨ao, cap, rfl, hc⟩ := hO.reads
  have HC := Lib.hid hc
  clear hc hO P
  go_wp2_with fail
  go_loop [11] (fun i => ∃ k : Nat, k ≤ ps.length ∧ i = .int .i64 k ∧ firstN (ps.drop k) = firstN ps) (fun i => ps.length - (intOf i).toNat)
  case atStart => exact ⟨0, by omega, rfl, by simp⟩
  case round =>
    obtain ⟨k, hk, rfl, hf⟩ := hrel
    have HF := Lib.hid hf
    clear hf
    by_cases hlt : k < ps.length
    · obtain ⟨p, hp⟩ : ∃ p, ps[k]? = some p := ⟨ps[k], by simp [hlt]⟩
      obtain ⟨g, off, rfl, hg, h1⟩ := HC.out k p hp
      have hp2 := HPL.out p (List.mem_of_getElem? hp)
      have N := fun W => number_num p W (by omega)
      unfold NumPost at N
      have HK := Lib.hid (first_skip hp)
      clear hp
      cases hn : numO p with
      | none =>
        rw [hn] at N
        have HN := Lib.hid (show firstN (ps.drop (k + 1)) = firstN ps by rw [← HF.out, HK.out, hn])
        clear hn
        go_wp2_with fail
        refine (N _).mono ?_
        rintro e w2 ⟨rfl, c, rfl⟩
        go_wp2_with fail
        go_round
        case rel => exact ⟨k + 1, by omega, by go_num, HN.out⟩
        case measure => simp [intOf]; omega
      | some n =>
        rw [hn] at N
        have HN := Lib.hid (show firstN ps = some n by rw [← HF.out, HK.out, hn])
        clear hn
        go_wp2_with fail
        refine (N _).mono ?_
        rintro e w2 ⟨rfl, rfl⟩
        go_wp2_with fail
        go_ret2
        exact ⟨by rw [HN.out]; rfl, hB⟩
    · have HN := Lib.hid (show firstN ps = none by rw [← HF.out, List.drop_of_length_le (by omega)]; rfl)
      go_wp2_with fail
      go_ret2
      exact ⟨by rw [HN.out]; rfl, hB⟩
theorem cutC_none {c : UInt8} : ∀ {l : List UInt8}, c ∉ l → (cutC c l).1 = l := by
  intro l
  induction l with
  | nil => intro _; rfl
  | cons x t ih =>
    intro h
    simp only [List.mem_cons, not_or] at h
    rw [cutC, if_neg (fun e => h.1 e.symm)]
    show x :: (cutC c t).1 = _
    rw [ih h.2]
theorem cutC_take {c : UInt8} : ∀ (l : List UInt8), (cutC c l).1 = l.takeWhile (· ≠ c) := by
  intro l
  induction l with
  | nil => rfl
  | cons x t ih =>
    rw [cutC]
    by_cases h : x = c
    · rw [if_pos h, List.takeWhile_cons]; simp [h]
    · rw [if_neg h, List.takeWhile_cons]
      show x :: (cutC c t).1 = _
      rw [ih]; simp [h]
/-- What stands before the first semicolon of a trimmed text, trimmed: as the program finds it. -/
theorem befS_cut {s : List UInt8} (ht : trimB s = s) : trimB (cutC 59 s).1 = befS s := by
  unfold befS
  split
  · rw [cutC_take]
  · rename_i h; rw [cutC_none h, ht]
theorem cutC_le (c : UInt8) (l : List UInt8) : (cutC c l).1.length ≤ l.length := by
  rw [cutC_take]; exact (List.takeWhile_sublist _).length_le
theorem chunk_take {ps : List (List UInt8)} {k : Nat} {p : List UInt8} (h : ps[k]? = some p) : isChunked (ps.take (k + 1)) = (isChunked (ps.take k) || decide (lowS (befS p) = chunkedL)) := by
  unfold isChunked; rw [take_more h, List.any_append]; simp
theorem chunk_yes {ps : List (List UInt8)} {p : List UInt8} (h : p ∈ ps) (hc : lowS (befS p) = chunkedL) : isChunked ps = true := by
  unfold isChunked; rw [List.any_eq_true]; exact ⟨p, h, decide_eq_true hc⟩
theorem chk_eq {l : List UInt8} (h : l = chunkedL) : ((strB l).toList == [99, 104, 117, 110, 107, 101, 100]) = true := by subst h; rw [ByteArray.toList_eq]; decide
theorem chk_ne {l : List UInt8} (h : l ≠ chunkedL) : ((strB l).toList == [99, 104, 117, 110, 107, 101, 100]) = false := by rw [ByteArray.toList_eq, strB_list]; simpa [chunkedL] using h
set_option maxHeartbeats 4000000 in
set_option maxRecDepth 100000 in
theorem lenientChunked_any (vv : Value) (vs : List (List UInt8)) (w : World) (hr : ReadsS w vv vs) (hs : roomL vs ≤ 50000) (hM : HasMax w) :
    Calls Tryd.prog 32 #[vv] w (fun e w' => e = .returned (.bool (isChunked (cutsL vs))) ∧ Below w.heap.size w w') := by
  have P := partsP_any vv vs w hr hs hM
  have HPL := Lib.hid (cuts_part vs)
  have HPT := Lib.hid (cuts_trim vs)
  have hpl : (cutsL vs).length ≤ 50000 := Nat.le_trans (cuts_len vs) hs
  have HM := Lib.hid hM
  generalize cutsL vs = ps at *
  clear hr hM
  go_enter Tryd.func32, Tryd.ntmps32
  go_wp2_with fail
  refine P.mono ?_
  rintro e w1 ⟨v1, rfl, hO, hB⟩
  obtain ⟨ao, cap, rfl, hc⟩ := hO.reads
  have HC := Lib.hid hc
  clear hc hO P
  go_wp2_with fail
  go_loopw [11] (fun i wr => ∃ k : Nat, k ≤ ps.length ∧ i = .int .i64 k ∧ isChunked (ps.take k) = false ∧ Below w1.heap.size w1 wr) (fun i _ => ps.length - (intOf i).toNat)
  case atStart => exact ⟨0, by omega, rfl, by simp [isChunked], Below.refl _ _⟩
  case round =>
    obtain ⟨k, hk, rfl, hf, hBr⟩ := hrel
    have HF := Lib.hid hf
    have hBx := hB.trans (hBr.mono hB.size)
    have hBxs := hBx.size
    clear hf
    by_cases hlt : k < ps.length
    · obtain ⟨p, hp⟩ : ∃ p, ps[k]? = some p := ⟨ps[k], by simp [hlt]⟩
      obtain ⟨g, off, rfl, hg, h1⟩ := HC.out k p hp
      have h1' := (hBr.cell (p := ⟨g, off + k, none⟩) hg).trans h1
      have hp2 := HPL.out p (List.mem_of_getElem? hp)
      have CU := cutM_any 59 (strB p) wr (HM.out.below hBx) (by rw [strB_size]; omega)
      rw [strB_list] at CU
      have hcl := cutC_le 59 p
      have T := fun W => trimA_any (strB (cutC 59 p).1) W (by rw [strB_size]; omega)
      rw [strB_list] at T
      have HBE := Lib.hid (befS_cut (HPT.out p (List.mem_of_getElem? hp)))
      have L := fun W => lower_any (strB (trimB (cutC 59 p).1)) W (by rw [strB_size]; have := trimB_le (cutC 59 p).1; omega)
      rw [strB_list] at L
      rw [HBE.out] at T L
      generalize cutC 59 p = cp at *
      obtain ⟨q1, q2, q3⟩ := cp
      have HP := Lib.hid hp
      clear hp h1
      by_cases hch : lowS (befS p) = chunkedL
      · have heq := chk_eq hch
        have HY := Lib.hid (chunk_yes (List.mem_of_getElem? HP.out) hch)
        clear hch
        go_wp2_with fail
        refine CU.mono ?_
        rintro e w2 ⟨rfl, n2, rfl⟩
        go_wp2_with fail
        refine (T _).mono ?_
        rintro e w3 ⟨rfl, hB3⟩
        go_wp2_with fail
        refine (L _).mono ?_
        rintro e w4 ⟨rfl, hB4⟩
        go_wp2_with fail
        go_ret
        exact ⟨by rw [HY.out]; rfl, (below_drewN hBx n2).trans ((hB3.trans (hB4.mono hB3.size)).mono hBxs)⟩
      · have heq := chk_ne hch
        have HN := Lib.hid (show isChunked (ps.take (k + 1)) = false by rw [chunk_take HP.out, HF.out, decide_eq_false hch]; rfl)
        clear hch
        go_wp2_with fail
        refine CU.mono ?_
        rintro e w2 ⟨rfl, n2, rfl⟩
        go_wp2_with fail
        refine (T _).mono ?_
        rintro e w3 ⟨rfl, hB3⟩
        go_wp2_with fail
        refine (L _).mono ?_
        rintro e w4 ⟨rfl, hB4⟩
        go_wp2_with fail
        go_roundw
        case rel => exact ⟨k + 1, by omega, by go_num, HN.out, (below_drewN hBr n2).trans ((hB3.trans (hB4.mono hB3.size)).mono hBr.size)⟩
        case measure => simp [intOf]; omega
    · have HN := Lib.hid (show isChunked ps = false by have := HF.out; rwa [List.take_of_length_le (by omega)] at this)
      go_wp2_with fail
      go_ret
      exact ⟨by rw [HN.out]; rfl, hBx⟩
end Go.Proofs.YthjkneifffdglaaDoor
