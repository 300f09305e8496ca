import Derived.Test.YtkfmfjlapkpeaaaGreatDoorPa5
import Derived.Test.YtkfmfjlapkpeaaaGreatDoorPa9
import Derived.OneCell
import Derived.Test.YtkfmfjlapkpeaaaGreatDoorPa10
import Derived.Test.YtkfmfjlapkpeaaaGreatDoorPa8
import Derived.Test.YtkfmfjlapkpeaaaGreatDoorPa7
import Derived.Test.YtkfmfjlapkpeaaaGreatDoorPa4
/- The reference's lines and split. -/
namespace Go.Proofs.YtkfmfjlapkpeaaaGreatDoor
open Go.RowKit

/-- i bytes are looked at; the lines so far are out; the next one begins at x. -/
def LinesTo (l : List UInt8) (x i : Nat) (out : List (List UInt8)) : Prop :=
  out.length ≤ i ∧ ((x ≤ i ∧ linesF [] l = out ++ linesF ((l.drop x).take (i - x)) (l.drop i)) ∨ (x = i + 1 ∧ l[i]? = some 10 ∧ linesF [] l = out ++ linesF [] (l.drop (i + 1))))
theorem linesTo0 (l : List UInt8) : LinesTo l 0 0 [] := ⟨Nat.le_refl _, .inl ⟨Nat.le_refl _, by simp⟩⟩
theorem drop_consG {l : List UInt8} {i : Nat} (h : i < l.length) : l.drop i = (l[i]'h) :: l.drop (i + 1) := by rw [List.drop_eq_getElem_cons h]
theorem take_snoc' {l : List UInt8} {x i : Nat} (hx : x ≤ i) (hi : i < l.length) : (l.drop x).take (i + 1 - x) = (l.drop x).take (i - x) ++ [l[i]'hi] := by
  rw [show i + 1 - x = (i - x) + 1 by omega, List.take_succ_eq_append_getElem (by rw [List.length_drop]; omega), List.getElem_drop]
  congr 2
  simp only [show x + (i - x) = i by omega]
theorem linesTo_hit {l : List UInt8} {x i : Nat} {out : List (List UInt8)} (h : LinesTo l x i out) (hi : i + 2 ≤ l.length) (hm : (l.drop i).take 2 = crlf) : x ≤ i ∧ LinesTo l (i + 2) (i + 1) (out ++ [(l.drop x).take (i - x)]) := by
  have h1 := drop_consG (show i < l.length by omega)
  have h2 := drop_consG (show i + 1 < l.length by omega)
  rw [h1, h2] at hm
  unfold crlf at hm
  simp only [List.take_succ_cons, List.take_zero, List.cons.injEq, and_true] at hm
  obtain ⟨c1, c2⟩ := hm
  rcases h with ⟨ho, ⟨hx, h⟩ | ⟨_, h3, _⟩⟩
  · refine ⟨hx, by simp; omega, .inr ⟨rfl, ?_, ?_⟩⟩
    · rw [List.getElem?_eq_getElem (by omega), c2]
    · rw [h, h1, c1, linesF, h2, if_pos ⟨rfl, by rw [c2]; rfl⟩]; simp
  · rw [List.getElem?_eq_getElem (by omega), c1] at h3; exact absurd h3 (by decide)
theorem linesTo_step {l : List UInt8} {x i : Nat} {out : List (List UInt8)} (h : LinesTo l x i out) (hi : i + 2 ≤ l.length) (hm : (l.drop i).take 2 ≠ crlf) : LinesTo l x (i + 1) out := by
  have h1 := drop_consG (show i < l.length by omega)
  have h2 := drop_consG (show i + 1 < l.length by omega)
  rcases h with ⟨ho, ⟨hx, h⟩ | ⟨rfl, h3, h⟩⟩
  · refine ⟨by omega, .inl ⟨by omega, ?_⟩⟩
    rw [h, h1, linesF, if_neg, take_snoc' hx (by omega)]
    rintro ⟨a, b⟩
    apply hm
    rw [h2] at b
    rw [h1, h2, List.take_succ_cons, List.take_succ_cons, a, Option.some.inj b]; rfl
  · exact ⟨by omega, .inl ⟨Nat.le_refl _, by rw [h]; simp⟩⟩
theorem linesTo_end {l : List UInt8} {x i : Nat} {out : List (List UInt8)} (h : LinesTo l x i out) (hi : ¬ i + 2 ≤ l.length) : linesF [] l = out := by
  rcases h with ⟨_, ⟨hx, h⟩ | ⟨rfl, h3, h⟩⟩
  · rw [h]
    cases e : l.drop i with
    | nil => rw [linesF]; simp
    | cons c r =>
      have : r = [] := by
        have := congrArg List.length e
        rw [List.length_drop] at this
        exact List.eq_nil_of_length_eq_zero (by simp at this; omega)
      subst this
      rw [linesF, if_neg (by rintro ⟨_, b⟩; cases b), linesF]; simp
  · rw [h, List.drop_of_length_le (by omega), linesF]; simp
theorem crlf_yes {s : ByteArray} {k : Nat} (h : (s.data.toList.drop k).take 2 = crlf) : ((s.extract k (k + 2)).toList == ([13, 10] : List UInt8)) = true := by rw [ext_list, show k + 2 - k = 2 by omega, h]; rfl
theorem crlf_no {s : ByteArray} {k : Nat} (h : (s.data.toList.drop k).take 2 ≠ crlf) : ((s.extract k (k + 2)).toList == ([13, 10] : List UInt8)) = false := by
  rw [ext_list, show k + 2 - k = 2 by omega]
  have : ¬ (s.data.toList.drop k).take 2 = [13, 10] := h
  simpa using this
theorem seg_strV (s : ByteArray) (x k : Nat) : Value.string (s.extract x k) = strV ((s.data.toList.drop x).take (k - x)) := by
  show _ = Value.string (strB _); rw [← seg_list, strB_of]
theorem one_new (W : World) (v : Value) (T : TypeId) : ∀ (j : Nat) (u : Value), [v][j]? = some u → (W.alloc (.cells #[v] T)).cell? ((⟨W.heap.size, 0, none⟩ : Addr).add j) = some u := by
  intro j u h
  rw [Addr.add_lit, Nat.zero_add, World.cell?_alloc_at _ _ _ _ rfl]
  match j, h with
  | 0, h => simpa using h
  | j + 1, h => simp at h
set_option maxHeartbeats 4000000 in
set_option maxRecDepth 100000 in
theorem refLines_any (s : ByteArray) (w : World) (hs : s.size ≤ 10000000) :
    Calls Tryz.prog 60 #[.string s] w fun e w' => ∃ v, e = .returned v ∧ OwnsS w.heap.size w' v (linesF [] s.data.toList) ∧ Below w.heap.size w w' := by
  obtain ⟨i0, hi, hz0, hz1, hz2⟩ := info_parts Tryz.infoS
  have hsz : s.data.toList.length = s.size := by rw [Array.length_toList]; rfl
  have HSZ := Lib.hid hsz
  clear hsz
  go_enter Tryz.func60, Tryz.ntmps60
  go_wp2
  go_loopw [3, 4, 5] (fun u f i wr => ∃ (x k : Nat) (out : List (List UInt8)), f = .int .i64 x ∧ i = .int .i64 k ∧ k ≤ s.size ∧ x ≤ k + 1 ∧ LinesTo s.data.toList x k out ∧ OwnsS w.heap.size wr u out ∧ Below w.heap.size w wr) (fun _ _ i _ => s.size - (intOf i).toNat)
  case atStart => exact ⟨0, 0, [], rfl, rfl, Nat.zero_le _, by omega, linesTo0 _, World.ownsRow_nil _ _ _ _, Below.refl _ _⟩
  case round =>
    obtain ⟨x, k, out, rfl, rfl, hk, hxk, hn, hu, hB⟩ := hrel
    have hz := hB.size
    have hol := hn.1
    have HN := Lib.hid hn
    clear hn
    by_cases hlt : k + 2 ≤ s.size
    · by_cases hm : (s.data.toList.drop k).take 2 = crlf
      · have q := crlf_yes hm
        have hhit := linesTo_hit HN.out (by rw [HSZ.out]; exact hlt) hm
        have hxk2 := hhit.1
        have HE := Lib.hid hhit.2
        have hseg := seg_strV s x k
        have HS := Lib.hid hseg
        clear hm hhit hseg
        go_wp2_with (at_builtin; refine wpList_append_own _ rfl _ _ 71 rfl w.heap.size 9 i0 (.string ByteArray.empty) 1 16 Tryz.underlying71 hi hz0 hz1 hz2 rfl (by decide) _ _ _ rfl (World.ownsRow.alloc hu _) ⟨wr.heap.size, 0, none⟩ 1 1 [.string (s.extract x k)] rfl rfl (one_new _ _ _) (fun u hu => by simp at hu; subst hu; rfl) (by unfold maxLen; omega) (by omega) (by simp; omega) ?_; intro v' w2 hown' hgrow _)
        go_roundw
        case rel => exact ⟨k + 2, k + 1, _, by go_num, by go_num, by omega, by omega, HE.out, by rw [HS.out] at hown'; exact OwnsS.snoc hown', below_append hB hz (Below.refl _ _) hu hgrow⟩
        case measure => simp [intOf]; omega
      · have q := crlf_no hm
        have HE := Lib.hid (linesTo_step HN.out (by rw [HSZ.out]; exact hlt) hm)
        clear hm
        go_wp2
        go_roundw
        case rel => exact ⟨x, k + 1, out, rfl, by go_num, by omega, by omega, HE.out, hu, hB⟩
        case measure => simp [intOf]; omega
    · have HE := Lib.hid (linesTo_end HN.out (by rw [HSZ.out]; exact hlt))
      go_wp2
      go_ret
      exact ⟨_, rfl, by rw [HE.out]; exact hu, hB⟩
theorem linesF_len : ∀ (k : Nat) (l cur : List UInt8), l.length ≤ k → (linesF cur l).length ≤ l.length := by
  intro k
  induction k with
  | zero =>
    intro l cur h
    obtain rfl : l = [] := List.eq_nil_of_length_eq_zero (by omega)
    rw [linesF]; simp
  | succ k ih =>
    intro l cur h
    cases l with
    | nil => rw [linesF]; simp
    | cons c r =>
      rw [linesF]
      split
      · have h2 := List.length_tail (l := r)
        have := ih r.tail [] (by simp at h; omega)
        simp only [List.length_cons]; omega
      · have := ih r (cur ++ [c]) (by simp at h; omega)
        simp only [List.length_cons]; omega
/-- The value v is empty and nil, or a slice with room for one more that lies at the head of a block and holds these strings. -/
def RowG (w : World) (v : Value) (ls : List (List UInt8)) : Prop :=
  (ls = [] ∧ v = .slice none 0 0) ∨ ∃ g cap, v = .slice (some ⟨g, 0, none⟩) ls.length cap ∧ ls.length + 1 ≤ cap ∧ g < w.heap.size ∧ ∀ j l, ls[j]? = some l → w.cell? ⟨g, j, none⟩ = some (.string (strB l))
def RefSplitPost (l : List UInt8) (w : World) (e : Ending) (w' : World) : Prop :=
  ∃ v, e = .returned (.tuple #[v, .int .i64 ((splitG l).2.2 : Int), .int .i64 ((splitG l).1 : Int)]) ∧ RowG w' v (splitG l).2.1 ∧ Below w.heap.size w w'
theorem refSplit_err {l : List UInt8} {w w' : World} {c : Nat} (h : splitG l = (c, [], 0)) (hB : Below w.heap.size w w') : RefSplitPost l w (.returned (.tuple #[.slice none 0 0, .int .i64 0, .int .i64 (c : Int)])) w' :=
  ⟨.slice none 0 0, by rw [h]; rfl, .inl ⟨by rw [h], rfl⟩, hB⟩
theorem endO_some {l : List UInt8} {n : Nat} (h : endO l = some n) : 2 ≤ n ∧ n ≤ l.length := by
  unfold endO at h
  by_cases h2 : l.take 2 = [13, 10]
  · rw [if_pos h2] at h
    have := congrArg List.length h2
    rw [List.length_take] at this
    simp at this
    have := Option.some.inj h
    omega
  · rw [if_neg h2] at h
    have := end4_some h; omega
theorem split_none {l : List UInt8} (h : endO l = none) : splitG l = (if l.length < 8192 then 21 else 5, [], 0) := by unfold splitG; rw [h]
theorem split_large {l : List UInt8} {n : Nat} (h : endO l = some n) (h1 : 8192 < n ∨ 66 < (linesF [] (l.take n)).length) : splitG l = (5, [], 0) := by unfold splitG; rw [h]; simp only; rw [if_pos h1]
theorem split_line {l : List UInt8} {n : Nat} (h : endO l = some n) (h1 : ¬ (8192 < n ∨ 66 < (linesF [] (l.take n)).length)) (h2 : n = 2 ∨ bareF 0 (l.take n) = true) : splitG l = (22, [], 0) := by
  unfold splitG; rw [h]; simp only; rw [if_neg h1, if_pos h2]
theorem split_good {l : List UInt8} {n : Nat} (h : endO l = some n) (h1 : ¬ (8192 < n ∨ 66 < (linesF [] (l.take n)).length)) (h2 : ¬ (n = 2 ∨ bareF 0 (l.take n) = true)) : splitG l = (0, (linesF [] (l.take n)).dropLast, n) := by
  unfold splitG; rw [h]; simp only; rw [if_neg h1, if_neg h2]
theorem OwnsS.rowG {B : Nat} {w : World} {v : Value} {ls : List (List UInt8)} (hO : OwnsS B w v ls) (hne : ls ≠ []) :
    ∃ g cap, v = .slice (some ⟨g, 0, none⟩) ls.length cap ∧ ls.length ≤ cap ∧ g < w.heap.size ∧ (∀ j l, ls[j]? = some l → w.cell? ⟨g, j, none⟩ = some (.string (strB l))) := by
  rcases hO.open' with ⟨_, h⟩ | ⟨g, cap, hv, hb, hg, hc⟩
  · exact absurd h hne
  · refine ⟨g, cap, hv, ?_, hg, hc⟩
    rcases hO with ⟨hl, ⟨hv', hn⟩ | ⟨g', cap', cur, hv', hb', hg', hn, _⟩⟩
    · rw [hv'] at hv; cases hv
    · rw [hv'] at hv
      simp only [Value.slice.injEq, Option.some.injEq, Addr.mk.injEq, and_true, true_and] at hv
      obtain ⟨_, rfl⟩ := hv
      exact hn
theorem drop_last_at {ls : List (List UInt8)} {j : Nat} {l : List UInt8} (h : ls.dropLast[j]? = some l) : ls[j]? = some l := by
  have hj := (List.getElem?_eq_some_iff.1 h).1
  rw [List.length_dropLast] at hj
  rw [List.dropLast_eq_take, List.getElem?_take_of_lt hj] at h
  exact h
set_option maxHeartbeats 8000000 in
set_option maxRecDepth 100000 in
theorem refSplit_any (s : ByteArray) (w : World) (hs : s.size ≤ 1000000) :
    Calls Tryz.prog 33 #[.string s] w (RefSplitPost s.data.toList w) := by
  have hsz : s.data.toList.length = s.size := by rw [Array.length_toList]; rfl
  have E := fun w => refEnd_any s w (by omega)
  unfold endN at E
  cases he : endO s.data.toList with
  | none =>
    rw [he] at E
    have HE := Lib.hid (split_none he)
    clear he
    by_cases h8 : s.size < 8192
    · have HE2 := Lib.hid (show splitG s.data.toList = (21, [], 0) by rw [HE.out, hsz, if_pos h8])
      clear hsz
      go_enter Tryz.func33, Tryz.ntmps33
      go_wp2_with (go_at_call 59; refine (E _).mono ?_; rintro e w' ⟨rfl, rfl⟩)
      refine bodyPost_ret (v := .tuple #[.slice none 0 0, .int .i64 0, .int .i64 21]) (by simp [results, Tryz.results33, go_sem]) rfl ?_
      exact refSplit_err HE2.out (Below.refl _ _)
    · have HE2 := Lib.hid (show splitG s.data.toList = (5, [], 0) by rw [HE.out, hsz, if_neg h8])
      clear hsz
      go_enter Tryz.func33, Tryz.ntmps33
      go_wp2_with (go_at_call 59; refine (E _).mono ?_; rintro e w' ⟨rfl, rfl⟩)
      refine bodyPost_ret (v := .tuple #[.slice none 0 0, .int .i64 0, .int .i64 5]) (by simp [results, Tryz.results33, go_sem]) rfl ?_
      exact refSplit_err HE2.out (Below.refl _ _)
  | some n =>
    rw [he] at E
    obtain ⟨hn2, hnl⟩ := endO_some he
    rw [hsz] at hnl
    have hex : (s.extract 0 n).data.toList = s.data.toList.take n := by rw [seg_list]; simp
    have hexs : (s.extract 0 n).size ≤ 1000000 := by simp; omega
    have HL := Lib.hid (fun w => refLines_any (s.extract 0 n) w (by omega))
    have HBr := Lib.hid (fun w => refBare_any (s.extract 0 n) w (by omega))
    rw [hex] at HL HBr
    have hn0 : ((n : Int) == 0) = false := by simp; omega
    have H1 := Lib.hid (split_large he)
    have H2 := Lib.hid (split_line he)
    have H3 := Lib.hid (split_good he)
    have H4 := Lib.hid (fun (h : splitG s.data.toList = (0, (linesF [] (s.data.toList.take n)).dropLast, n)) => (splitG_some h).1)
    have hll : (linesF [] (s.data.toList.take n)).length ≤ n := by
      have := linesF_len _ (s.data.toList.take n) [] (Nat.le_refl _)
      rw [List.length_take, hsz] at this; omega
    clear he hex hsz
    generalize linesF [] (s.data.toList.take n) = ls at *
    generalize bareF 0 (s.data.toList.take n) = bb at *
    go_enter Tryz.func33, Tryz.ntmps33
    go_wp2_with (go_at_call 59; refine (E _).mono ?_; rintro e w' ⟨rfl, rfl⟩)
    refine (HL.out _).mono ?_
    rintro e w1 ⟨v, rfl, hO, hB⟩
    by_cases h1 : 8192 < n
    · have HE := Lib.hid (H1.out (.inl h1))
      rcases hO.open' with ⟨rfl, rfl⟩ | ⟨g, cp, rfl, _, _, _⟩
      all_goals
        go_wp2_with fail
        refine bodyPost_ret (v := .tuple #[.slice none 0 0, .int .i64 0, .int .i64 5]) (by simp [results, Tryz.results33, go_sem]) rfl ?_
        exact refSplit_err HE.out hB
    · by_cases h66 : 66 < ls.length
      · have HE := Lib.hid (H1.out (.inr h66))
        obtain ⟨g, cp, rfl, _, _, _⟩ := hO.rowG (by rintro rfl; simp at h66)
        go_wp2_with fail
        refine bodyPost_ret (v := .tuple #[.slice none 0 0, .int .i64 0, .int .i64 5]) (by simp [results, Tryz.results33, go_sem]) rfl ?_
        exact refSplit_err HE.out hB
      · have HN1 := Lib.hid (show ¬ (8192 < n ∨ 66 < ls.length) by omega)
        by_cases h2 : n = 2
        · have HE := Lib.hid (H2.out HN1.out (.inl h2))
          have q2 : ((n : Int) == 2) = true := by rw [h2]; rfl
          clear h2
          rcases hO.open' with ⟨rfl, rfl⟩ | ⟨g, cp, rfl, _, _, _⟩
          all_goals
            go_wp2_with fail
            refine bodyPost_ret (v := .tuple #[.slice none 0 0, .int .i64 0, .int .i64 22]) (by simp [results, Tryz.results33, go_sem]) rfl ?_
            exact refSplit_err HE.out hB
        · have q2 : ((n : Int) == 2) = false := by simp; omega
          cases bb with
          | true =>
            have HE := Lib.hid (H2.out HN1.out (.inr rfl))
            rcases hO.open' with ⟨rfl, rfl⟩ | ⟨g, cp, rfl, _, _, _⟩
            all_goals
              go_wp2_with fail
              refine (HBr.out _).mono ?_
              rintro e w' ⟨rfl, rfl⟩
              go_wp2_with fail
              refine bodyPost_ret (v := .tuple #[.slice none 0 0, .int .i64 0, .int .i64 22]) (by simp [results, Tryz.results33, go_sem]) rfl ?_
              exact refSplit_err HE.out hB
          | false =>
            have HE := Lib.hid (H3.out HN1.out (by simp [h2]))
            have hne := H4.out HE.out
            have hl2 : 2 ≤ ls.length := by
              have : ls.dropLast.length ≠ 0 := fun e => hne (List.eq_nil_of_length_eq_zero e)
              rw [List.length_dropLast] at this; omega
            obtain ⟨g, cp, rfl, hcp, hg, hc⟩ := hO.rowG (by rintro rfl; simp at hl2)
            have HC := Lib.hid hc
            clear hne hc hO
            go_wp2_with fail
            refine (HBr.out _).mono ?_
            rintro e w' ⟨rfl, rfl⟩
            go_wp2_with fail
            refine bodyPost_ret (v := .tuple #[.slice (some ⟨g, 0, none⟩) (ls.length - 1) cp, .int .i64 (n : Int), .int .i64 0]) (by simp [results, Tryz.results33, go_sem]) rfl ?_
            exact ⟨_, by rw [HE.out]; rfl, by rw [HE.out]; exact .inr ⟨g, cp, by rw [List.length_dropLast], by rw [List.length_dropLast]; omega, hg, fun j l hj => HC.out j l (drop_last_at hj)⟩, hB⟩
end Go.Proofs.YtkfmfjlapkpeaaaGreatDoor

/- What the reference's ReadRequest returns. -/
namespace Go.Proofs.YtkfmfjlapkpeaaaGreatDoor
open Go.RowKit

theorem start26 {x : List UInt8} (h : methodB (cutG 32 x).1 = false) : startC x = 26 := by
  have e : reqC (cutG 32 x).1 (cutG 32 (cutG 32 x).2).1 = 26 := by unfold reqC; rw [if_pos h]
  unfold startC; rw [e, if_pos (by decide)]
theorem start27 {x : List UInt8} (h : methodB (cutG 32 x).1 = true) (h2 : targetB (cutG 32 x).1 (cutG 32 (cutG 32 x).2).1 = false) : startC x = 27 := by
  have e : reqC (cutG 32 x).1 (cutG 32 (cutG 32 x).2).1 = 27 := by unfold reqC; rw [if_neg (by rw [h]; simp), if_pos h2]
  unfold startC; rw [e, if_pos (by decide)]
theorem reqC_good {m t : List UInt8} (h : methodB m = true) (h2 : targetB m t = true) : reqC m t = 0 := by
  unfold reqC; rw [if_neg (by rw [h]; simp), if_neg (by rw [h2]; simp)]
theorem start28 {x : List UInt8} (h : methodB (cutG 32 x).1 = true) (h2 : targetB (cutG 32 x).1 (cutG 32 (cutG 32 x).2).1 = true) (h3 : (cutG 32 (cutG 32 x).2).2 ≠ verL) : startC x = 28 := by
  unfold startC; rw [reqC_good h h2, if_neg (by simp), if_pos h3]
theorem start0 {x : List UInt8} (h : methodB (cutG 32 x).1 = true) (h2 : targetB (cutG 32 x).1 (cutG 32 (cutG 32 x).2).1 = true) (h3 : (cutG 32 (cutG 32 x).2).2 = verL) : startC x = 0 := by
  unfold startC; rw [reqC_good h h2, if_neg (by simp), if_neg (by simp [h3])]
theorem rdQ_start {l x : List UInt8} {t : List (List UInt8)} {c : Nat} (h : (splitG l).1 = 0) (hx : (splitG l).2.1 = x :: t) (h1 : startC x = c) (hc : c ≠ 0) : rdQ l = (c, ([], [], []), 0) := by
  rw [rdQ_lines h, hx, reqL_start (by rw [h1]; exact hc), h1, if_pos hc]
theorem rdQ_hR {l x : List UInt8} {t : List (List UInt8)} (h : (splitG l).1 = 0) (hx : (splitG l).2.1 = x :: t) (h1 : startC x = 0) (h2 : (readFs nmO vlO t).1 = 0) (hh : hosted hostO lowS (readFs nmO vlO t).2 = none) : rdQ l = (29, ([], [], []), 0) :=
  rdQ_h h hx h1 h2 (by rw [← hosted_with (readFs_lower t)]; exact hh)
theorem rdQ_gR {l x : List UInt8} {t : List (List UInt8)} {fs : Fs} (h : (splitG l).1 = 0) (hx : (splitG l).2.1 = x :: t) (h1 : startC x = 0) (h2 : (readFs nmO vlO t).1 = 0) (hh : hosted hostO lowS (readFs nmO vlO t).2 = some fs) : rdQ l = (0, ((cutG 32 x).1, (cutG 32 (cutG 32 x).2).1, fs), (splitG l).2.2) :=
  rdQ_g h hx h1 h2 (by rw [← hosted_with (readFs_lower t)]; exact hh)
/-- What the reference's ReadRequest leaves. -/
def RefReqPost (l : List UInt8) (w : World) (e : Ending) (w' : World) : Prop :=
  ∃ v, e = .returned (.tuple #[.agg #[.string (strB (rdQ l).2.1.1), .string (strB (rdQ l).2.1.2.1), v], .int .i64 ((rdQ l).2.2 : Int), .int .i64 ((rdQ l).1 : Int)]) ∧ OwnsP 58 w.heap.size w' v (rdQ l).2.1.2.2 ∧ Below w.heap.size w w'
theorem refReq_err {l : List UInt8} {w w' : World} {c : Nat} (h : rdQ l = (c, ([], [], []), 0)) (hB : Below w.heap.size w w') :
    RefReqPost l w (.returned (.tuple #[.agg #[.string ⟨#[]⟩, .string ⟨#[]⟩, .slice none 0 0], .int .i64 0, .int .i64 (c : Int)])) w' :=
  ⟨.slice none 0 0, by rw [h]; rfl, by rw [h]; exact OwnsP.nil _ _ _, hB⟩
theorem refCut32_any (l : List UInt8) (w : World) (hs : l.length ≤ 1000000) :
    Calls Tryz.prog 34 #[.string (strB l), .int .u8 32] w fun e w' => ∃ b, e = .returned (.tuple #[.string (strB (cutG 32 l).1), .string (strB (cutG 32 l).2), .bool b]) ∧ Below w.heap.size w w' := by
  have := refCutG_any 32 (strB l) w (by rw [strB_size]; omega)
  rw [strB_list] at this
  refine this.mono ?_
  rintro e w' ⟨rfl, hB⟩
  rw [(cutG_C 32 l).2]
  exact ⟨_, rfl, hB⟩
set_option maxHeartbeats 8000000 in
set_option maxRecDepth 100000 in
theorem refRequest_any (s : ByteArray) (w : World) (hs : s.size ≤ 100000) :
    Calls Tryz.prog 12 #[.string s] w (RefReqPost s.data.toList w) := by
  have hB0 : Below w.heap.size w (w.alloc (.cells #[.string ⟨#[]⟩, .string ⟨#[]⟩, .slice none 0 0] 34)) := below_new _ _
  have hsz : s.data.toList.length = s.size := by rw [Array.length_toList]; rfl
  have D := fun w => refSplit_any s w (by omega)
  generalize s.data.toList = l at *
  have hll : l.length ≤ 100000 := by omega
  clear hsz
  go_enter Tryz.func12, Tryz.ntmps12
  go_wp2_with fail
  refine (D _).mono ?_
  rintro e w1 ⟨v1, he, hR, hB⟩
  clear D
  by_cases hs0 : (splitG l).1 = 0
  · obtain ⟨x, t, hx, ht, hpl⟩ := split_lines hs0
    rw [hs0] at he
    rw [hx] at hR
    have HS := Lib.hid hs0
    have HX := Lib.hid hx
    have HPL := Lib.hid hpl
    have hxl := hpl x (by simp)
    have hl1 := cutG_len 32 x
    have hl2 := cutG_len 32 (cutG 32 x).2
    have C1 := Lib.hid (fun w => refCut32_any x w (by omega))
    have C2 := Lib.hid (fun w => refCut32_any (cutG 32 x).2 w (by omega))
    have M := Lib.hid (fun w => refMethod_any (strB (cutG 32 x).1) w (by rw [strB_size]; omega))
    have T := Lib.hid (fun w => refTarget_any (cutG 32 x).1 (cutG 32 (cutG 32 x).2).1 w (by omega))
    rw [strB_list] at M
    have F := Lib.hid (fun ao cp W (hr : ReadsS W (.slice ao t.length cp) t) => refFields_any (.slice ao t.length cp) t W hr (by omega) (fun y hy => by have := hpl y (by simp [hy]); omega))
    subst he
    rcases hR with ⟨hn, _⟩ | ⟨g, cap, rfl, hcap, hg, hc⟩
    · cases hn
    simp only [List.length_cons] at hcap
    rw [show (x :: t).length = t.length + 1 from rfl]
    have hc0 := hc 0 x rfl
    have HC := Lib.hid hc
    clear hs0 hx hpl hc hl1 hl2 hxl
    go_wp2_with fail
    refine (C1.out _).mono ?_
    rintro e w2 ⟨b1, rfl, hB2⟩
    have hBx := hB.trans (hB2.mono hB.size)
    have hBr := hB2
    clear hB2
    go_wp2_with fail
    refine (C2.out _).mono ?_
    rintro e w3 ⟨b2, rfl, hB2⟩
    have hBx := hBx.trans (hB2.mono hBx.size)
    have hBr := hBr.trans (hB2.mono hBr.size)
    clear hB2
    obtain ⟨c0, c1, c2, f0, f1, f2, hz⟩ := three_kept w hBx
    cases h1 : methodB (cutG 32 x).1 with
    | false =>
      have HE := Lib.hid (rdQ_start HS.out HX.out (start26 h1) (by decide))
      rw [h1] at M
      clear h1
      go_wp2_with fail
      refine (M.out _).mono ?_
      rintro e w' ⟨rfl, rfl⟩
      go_wp2_with fail
      refine bodyPost_ret (v := .tuple #[.agg #[.string ⟨#[]⟩, .string ⟨#[]⟩, .slice none 0 0], .int .i64 0, .int .i64 (26)]) (by simp [results, Tryz.results12, go_sem, c0, c1, c2]) rfl ?_
      exact refReq_err HE.out (below_three (hB0.trans (hBx.mono hB0.size)) _ _ _)
    | true =>
      rw [h1] at M
      cases h2 : targetB (cutG 32 x).1 (cutG 32 (cutG 32 x).2).1 with
      | false =>
        have HE := Lib.hid (rdQ_start HS.out HX.out (start27 h1 h2) (by decide))
        rw [h2] at T
        clear h1 h2
        go_wp2_with fail
        refine (M.out _).mono ?_
        rintro e w' ⟨rfl, rfl⟩
        go_wp2_with fail
        refine (T.out _).mono ?_
        rintro e w' ⟨rfl, rfl⟩
        go_wp2_with fail
        refine bodyPost_ret (v := .tuple #[.agg #[.string ⟨#[]⟩, .string ⟨#[]⟩, .slice none 0 0], .int .i64 0, .int .i64 (27)]) (by simp [results, Tryz.results12, go_sem, c0, c1, c2]) rfl ?_
        exact refReq_err HE.out (below_three (hB0.trans (hBx.mono hB0.size)) _ _ _)
      | true =>
        rw [h2] at T
        by_cases h3 : (cutG 32 (cutG 32 x).2).2 = verL
        · have q := list_yes h3
          unfold verL at q
          have H1 := Lib.hid (start0 h1 h2 h3)
          clear h1 h2 h3
          have hg2 : g < w3.heap.size := Nat.lt_of_lt_of_le hg hBr.size
          have HT := Lib.hid (tail_reads (some ⟨g, 1, none⟩) (cap - 1) hg2 (fun j y (hj : (x :: t)[j]? = some y) => (hBr.cell (p := ⟨g, j, none⟩) hg).trans (HC.out j y hj)) (fun _ => rfl))
          clear hBr
          go_wp2_with fail
          refine (M.out _).mono ?_
          rintro e w' ⟨rfl, rfl⟩
          go_wp2_with fail
          refine (T.out _).mono ?_
          rintro e w' ⟨rfl, rfl⟩
          go_wp2_with fail
          refine (F.out _ _ _ HT.out).mono ?_
          rintro e w4 ⟨v4, he4, hO4, hB4⟩
          have hBy := hBx.trans (hB4.mono hBx.size)
          clear hB4 c0 c1 c2 f0 f1 f2 hz
          obtain ⟨c0, c1, c2, f0, f1, f2, hz⟩ := three_kept w hBy
          by_cases h2 : (readFs nmO vlO t).1 = 0
          · rw [h2] at he4
            have H2 := Lib.hid h2
            have hlen := readFs_len (nm := nmO) (vl := vlO) t
            have H := refHosted_any v4 (readFs nmO vlO t).2 w4 hO4.q (by omega) (fun f hf => by
              obtain ⟨y, hy, rfl, _⟩ := readFs_mem f hf
              have h5 := rdF_len y
              have h6 := HPL.out y (by simp [hy])
              show (rdF y).2.1.length + (rdF y).2.2.length ≤ _
              omega)
            subst he4
            clear h2 hO4 hlen hBx c0 c1 c2 f0 f1 f2 hz
            go_wp2_with fail
            refine H.mono ?_
            rintro e w5 ⟨v5, he5, ⟨ao5, n5, cp5, rfl⟩, hO5, hB5⟩
            have hBz := hBy.trans (hB5.mono hBy.size)
            have hz4 := hBy.size
            clear H hB5 hBy
            obtain ⟨c0, c1, c2, f0, f1, f2, hz⟩ := three_kept w hBz
            cases hh : hosted hostO lowS (readFs nmO vlO t).2 with
            | none =>
              rw [hh] at he5
              have HE := Lib.hid (rdQ_hR HS.out HX.out H1.out H2.out hh)
              subst he5
              clear hh hO5
              go_wp2_with fail
              refine bodyPost_ret (v := .tuple #[.agg #[.string ⟨#[]⟩, .string ⟨#[]⟩, .slice none 0 0], .int .i64 0, .int .i64 (29)]) (by simp [results, Tryz.results12, go_sem, c0, c1, c2]) rfl ?_
              exact refReq_err HE.out (below_three (hB0.trans (hBz.mono hB0.size)) _ _ _)
            | some fs2 =>
              rw [hh] at he5
              have HE := Lib.hid (rdQ_gR HS.out HX.out H1.out H2.out hh)
              have hO6 := ownsP_three w (OwnsP.mono (show w.heap.size + 1 ≤ w4.heap.size by simp at hz4; omega) (hO5 fs2 hh))
              subst he5
              clear hh hO5
              go_wp2_with fail
              refine bodyPost_ret (v := .tuple #[.agg #[.string (strB (cutG 32 x).1), .string (strB (cutG 32 (cutG 32 x).2).1), .slice ao5 n5 cp5], .int .i64 ((splitG l).2.2 : Int), .int .i64 0]) (by simp [results, Tryz.results12, go_sem, c0, c1, c2]) rfl ?_
              exact ⟨_, by rw [HE.out]; rfl, by rw [HE.out]; exact hO6 _ _ _, below_three (hB0.trans (hBz.mono hB0.size)) _ _ _⟩
          · have HE := Lib.hid (rdQ_f HS.out HX.out H1.out h2)
            have q4 : (((readFs nmO vlO t).1 : Int) != 0) = true := by simp; omega
            subst he4
            clear h2
            go_wp2_with fail
            refine bodyPost_ret (v := .tuple #[.agg #[.string ⟨#[]⟩, .string ⟨#[]⟩, .slice none 0 0], .int .i64 0, .int .i64 (((readFs nmO vlO t).1 : Int))]) (by simp [results, Tryz.results12, go_sem, c0, c1, c2]) rfl ?_
            exact refReq_err HE.out (below_three (hB0.trans (hBy.mono hB0.size)) _ _ _)
        · have q := list_no h3
          unfold verL at q
          have HE := Lib.hid (rdQ_start HS.out HX.out (start28 h1 h2 h3) (by decide))
          clear h1 h2 h3
          go_wp2_with fail
          refine (M.out _).mono ?_
          rintro e w' ⟨rfl, rfl⟩
          go_wp2_with fail
          refine (T.out _).mono ?_
          rintro e w' ⟨rfl, rfl⟩
          go_wp2_with fail
          refine bodyPost_ret (v := .tuple #[.agg #[.string ⟨#[]⟩, .string ⟨#[]⟩, .slice none 0 0], .int .i64 0, .int .i64 (28)]) (by simp [results, Tryz.results12, go_sem, c0, c1, c2]) rfl ?_
          exact refReq_err HE.out (below_three (hB0.trans (hBx.mono hB0.size)) _ _ _)
  · have HE := Lib.hid (rdQ_split rfl hs0)
    have q : (((splitG l).1 : Int) != 0) = true := by simp; omega
    subst he
    clear hs0
    obtain ⟨c0, c1, c2, f0, f1, f2, hz⟩ := three_kept w hB
    rcases hR with ⟨_, rfl⟩ | ⟨g, cap, rfl, _, _, _⟩
    all_goals
      go_wp2_with fail
      refine bodyPost_ret (v := .tuple #[.agg #[.string ⟨#[]⟩, .string ⟨#[]⟩, .slice none 0 0], .int .i64 0, .int .i64 (((splitG l).1 : Int))]) (by simp [results, Tryz.results12, go_sem, c0, c1, c2]) rfl ?_
      exact refReq_err HE.out (below_three (hB0.trans (hB.mono hB0.size)) _ _ _)
end Go.Proofs.YtkfmfjlapkpeaaaGreatDoor

/- What the code's Size returns, for every list of fields. -/
namespace Go.Proofs.YtkfmfjlapkpeaaaGreatDoor
open Go.RowKit

set_option maxHeartbeats 1000000 in
set_option maxRecDepth 100000 in
theorem size_any (fv : Value) (ps : Flds) (w : World) (hr : ReadsQ w fv ps) (hl : ps.length ≤ 1000) (hb : ∀ p ∈ ps, p.1.length + p.2.length ≤ 1000000) :
    Calls Tryz.prog 70 #[fv] w fun e w' => e = .returned (.int .i64 (sizL ps)) ∧ Below w.heap.size w w' := by
  obtain ⟨ao, cap, rfl, hc⟩ := hr
  have hs : ∀ k, sizL (ps.take k) ≤ k * 1000004 := by
    intro k
    induction k with
    | zero => simp [sizL]
    | succ k ih =>
      cases hp : ps[k]? with
      | none =>
        have e : ps.take (k + 1) = ps.take k := by rw [List.take_add_one, hp]; simp
        rw [e]; exact Nat.le_trans ih (Nat.mul_le_mul_right _ (Nat.le_succ k))
      | some p =>
        rw [siz_more hp]
        have := hb p (List.mem_of_getElem? hp)
        omega
  have HC := Lib.hid hc
  have HBig := Lib.hid hb
  have HS := Lib.hid hs
  clear hc hb hs
  go_enter Tryz.func70, Tryz.ntmps70
  go_wp2_with fail
  go_loopw [3, 8] (fun v i wr => ∃ k : Nat, i = .int .i64 k ∧ k ≤ ps.length ∧ v = .int .i64 (sizL (ps.take k)) ∧ Below w.heap.size w wr) (fun _ i _ => ps.length - (intOf i).toNat)
  case atStart => exact ⟨0, rfl, Nat.zero_le _, rfl, Below.refl _ _⟩
  case round =>
    obtain ⟨k, rfl, hk, rfl, hBr⟩ := hrel
    have hbr := hBr.size
    have hsk := HS.out k
    by_cases hlt : k < ps.length
    · obtain ⟨p, hp⟩ : ∃ p, ps[k]? = some p := ⟨ps[k], by simp [hlt]⟩
      obtain ⟨g, off, rfl, hg1, h1, h2⟩ := HC.out k p hp
      have hc1 : wr.cell? ⟨g, off + k * 2, none⟩ = some (.string (strB p.1)) := (hBr.cell (p := ⟨g, off + k * 2, none⟩) hg1).trans h1
      have hc2 : wr.cell? ⟨g, off + k * 2 + 1, none⟩ = some (.string (strB p.2)) := (hBr.cell (p := ⟨g, off + k * 2 + 1, none⟩) hg1).trans h2
      have hpl := HBig.out p (List.mem_of_getElem? hp)
      have e1 : (strB p.1).size = p.1.length := strB_size _
      have e2 : (strB p.2).size = p.2.length := strB_size _
      have hm := siz_more hp
      have HM := Lib.hid hm
      clear hp h1 h2 hm
      go_wp2
      go_roundw
      case rel => exact ⟨k + 1, by go_num, by omega, by rw [HM.out]; congr 1, hBr.alloc hbr _⟩
      case measure => simp [intOf]; omega
    · have htk : ps.take k = ps := List.take_of_length_le (by omega)
      rw [htk]
      go_wp2_with fail
      go_ret
      exact ⟨rfl, hBr⟩

end Go.Proofs.YtkfmfjlapkpeaaaGreatDoor

/- What the program's Reason, isStatus, checkSize and canonicalFields return. -/
namespace Go.Proofs.YtkfmfjlapkpeaaaGreatDoor
open Go.RowKit

def phZ (l : List (Nat × List UInt8)) (z : Int) : List UInt8 := ((l.find? fun p => decide ((p.1 : Int) = z)).map (·.2)).getD []
theorem phZ_nat (l : List (Nat × List UInt8)) (n : Nat) : phZ l (n : Int) = ((l.find? fun p => decide (p.1 = n)).map (·.2)).getD [] := by
  unfold phZ
  have : (fun p : Nat × List UInt8 => decide ((p.1 : Int) = (n : Int))) = fun p => decide (p.1 = n) := by
    funext p; rw [decide_eq_decide]; omega
  rw [this]
theorem phZ_skip {k : Nat} {t : List UInt8} {l : List (Nat × List UInt8)} {z : Int} (h : ¬ z = (k : Int)) : phZ ((k, t) :: l) z = phZ l z := by
  unfold phZ; rw [List.find?_cons_of_neg (by simp; omega)]
theorem phZ_hit {k : Nat} {t : List UInt8} {l : List (Nat × List UInt8)} {z : Int} (h : z = (k : Int)) : phZ ((k, t) :: l) z = t := by
  unfold phZ; rw [List.find?_cons_of_pos (by simp; omega)]; rfl
def reasonZ (z : Int) : List UInt8 := phZ phrases z
theorem reasonZ_nat (n : Nat) : reasonZ (n : Int) = reasonL n := by unfold reasonZ; rw [phZ_nat]; rfl
theorem reasonZ_neg {z : Int} (h : z < 100 ∨ 599 < z) : reasonZ z = [] := by
  unfold reasonZ phZ
  have : phrases.find? (fun p => decide ((p.1 : Int) = z)) = none := by
    rw [List.find?_eq_none]
    intro p hp
    have hb : (phrases.all fun p => decide (100 ≤ p.1) && decide (p.1 ≤ 599)) = true := by decide +kernel
    have := List.all_eq_true.1 hb p hp
    simp at this
    simp; omega
  rw [this]; rfl
theorem reason_len_tab : (phrases.all fun p => decide (p.2.length ≤ 31)) = true := by decide +kernel
theorem reasonZ_len (z : Int) : (reasonZ z).length ≤ 31 := by
  unfold reasonZ phZ
  cases h : phrases.find? fun p => decide ((p.1 : Int) = z) with
  | none => simp
  | some p =>
    have := List.all_eq_true.1 reason_len_tab p (List.mem_of_find?_eq_some h)
    simpa using this
theorem str_lit {l : List UInt8} (s : ByteArray) (h : s = strB l) : Ending.returned (.string s) = .returned (.string (strB l)) := by rw [h]
set_option maxHeartbeats 8000000 in
set_option maxRecDepth 100000 in
theorem errorReason_any (z : Int) (w : World) :
    Calls Tryz.prog 77 #[.int .i64 z] w fun e w' => e = .returned (.string (strB (phZ (phrases.drop 15) z))) ∧ w = w' := by
  go_enter Tryz.func77, Tryz.ntmps77
  go_wp2
  all_goals
    go_ret
    refine ⟨str_lit _ ?_, rfl⟩
    unfold phrases
    simp only [List.drop_succ_cons, List.drop_zero]
    simp only [beq_iff_eq, beq_eq_false_iff_ne, ne_eq] at *
    repeat (first | (rw [phZ_hit (by omega)]; rfl) | rw [phZ_skip (by omega)])
    try rfl
set_option maxHeartbeats 8000000 in
set_option maxRecDepth 100000 in
theorem reason_any (z : Int) (w : World) :
    Calls Tryz.prog 47 #[.int .i64 z] w fun e w' => e = .returned (.string (strB (reasonZ z))) ∧ w = w' := by
  go_enter Tryz.func47, Tryz.ntmps47
  go_wp2_with (go_at_call 77; refine (errorReason_any _ _).mono ?_; rintro e w' ⟨rfl, rfl⟩)
  all_goals
    go_ret
    refine ⟨str_lit _ ?_, rfl⟩
    simp only [beq_iff_eq, beq_eq_false_iff_ne, ne_eq] at *
    unfold reasonZ
    first
    | (unfold phrases
       repeat (first | (rw [phZ_hit (by omega)]; rfl) | rw [phZ_skip (by omega)])
       done)
    | (congr 1
       unfold phrases
       simp only [List.drop_succ_cons, List.drop_zero]
       symm
       iterate 15 (rw [phZ_skip (by omega)]))
def stB (z : Int) : Bool := decide (100 ≤ z) && decide (z ≤ 599)
set_option maxHeartbeats 400000 in
theorem isStatus_any (z : Int) (w : World) :
    Calls Tryz.prog 48 #[.int .i64 z] w fun e w' => e = .returned (.bool (stB z)) ∧ w = w' := by
  go_enter Tryz.func48, Tryz.ntmps48
  by_cases h : 100 ≤ z
  all_goals
    go_wp2
    go_ret
    refine ⟨ret_bool ?_, rfl⟩
    rw [Bool.eq_iff_iff]
    simp [stB]
    try omega
/-- The number of the error of a head's size. -/
def sizeC (n : Nat) (fs : Fs) : Nat := if 64 < fs.length ∨ 8192 < n + 4 + sizL fs then 5 else 0
theorem sizL_le {fs : Fs} {M : Nat} (hb : ∀ p ∈ fs, p.1.length + p.2.length ≤ M) : sizL fs ≤ fs.length * (M + 4) := by
  induction fs with
  | nil => simp [sizL]
  | cons p r ih =>
    have h1 := hb p (by simp)
    have h2 := ih fun q hq => hb q (by simp [hq])
    have e : sizL (p :: r) = p.1.length + p.2.length + 4 + sizL r := rfl
    rw [e, List.length_cons, Nat.succ_mul]; omega
set_option maxHeartbeats 1000000 in
set_option maxRecDepth 100000 in
theorem checkSize_any (n : Nat) (fv : Value) (fs : Fs) (w : World) (hr : ReadsQ w fv fs) (hn : n ≤ 1000000000) (hl : fs.length ≤ 1000) (hb : ∀ p ∈ fs, p.1.length + p.2.length ≤ 1000000) :
    Calls Tryz.prog 41 #[.int .i64 (n : Int), fv] w fun e w' => e = .returned (errV (sizeC n fs)) ∧ Below w.heap.size w w' := by
  have S := size_any fv fs w hr hl hb
  have hsl : sizL fs ≤ 2000000000 := by
    have := sizL_le hb
    have h2 : fs.length * (1000000 + 4) ≤ 1000 * (1000000 + 4) := Nat.mul_le_mul_right _ hl
    omega
  have HB := Lib.hid hb
  obtain ⟨ao, cap, rfl, hc⟩ := hr
  clear hc hb
  by_cases h1 : 64 < fs.length
  · have HE := Lib.hid (show sizeC n fs = 5 by unfold sizeC; rw [if_pos (.inl h1)])
    go_enter Tryz.func41, Tryz.ntmps41
    go_wp2_with fail
    go_ret
    exact ⟨by rw [HE.out]; rfl, Below.refl _ _⟩
  · have h1' : fs.length ≤ 64 := by omega
    by_cases h2 : 8192 < n + 4 + sizL fs
    · have HE := Lib.hid (show sizeC n fs = 5 by unfold sizeC; rw [if_pos (.inr h2)])
      generalize sizL fs = z at *
      go_enter Tryz.func41, Tryz.ntmps41
      go_wp2_with fail
      refine S.mono ?_
      rintro e w1 ⟨rfl, hB⟩
      go_wp2_with fail
      all_goals first | omega | (go_ret; exact ⟨by rw [HE.out]; rfl, hB⟩)
    · have HE := Lib.hid (show sizeC n fs = 0 by unfold sizeC; rw [if_neg (by omega)])
      generalize sizL fs = z at *
      go_enter Tryz.func41, Tryz.ntmps41
      go_wp2_with fail
      refine S.mono ?_
      rintro e w1 ⟨rfl, hB⟩
      go_wp2_with fail
      all_goals first | omega | (go_ret; exact ⟨by rw [HE.out]; rfl, hB⟩)
end Go.Proofs.YtkfmfjlapkpeaaaGreatDoor
