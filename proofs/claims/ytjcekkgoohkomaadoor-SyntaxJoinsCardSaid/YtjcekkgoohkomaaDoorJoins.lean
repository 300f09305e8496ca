/- SyntaxJoins: for every value and list the statement's function returns true: the walk. -/
import Derived.Test.YtjcekkgoohkomaaDoorRefJoin
import Derived.Deep.RegionHeld3
import Derived.Deep.DeepCutAuto
import Derived.Test.YtjcekkgoohkomaaDoorRefLower
namespace Go.Proofs.YtjcekkgoohkomaaDoor.joins
open Go.RowKit

theorem small_more {ps : List (List UInt8 × List UInt8)} {k : Nat} {p : List UInt8 × List UInt8} (hp : ps[k]? = some p) (h : ∀ q ∈ ps.take k, q.1.length + q.2.length ≤ 400) (h1 : p.1.length + p.2.length ≤ 400) :
    ∀ q ∈ ps.take (k + 1), q.1.length + q.2.length ≤ 400 := by
  intro q hq
  rw [List.take_add_one, hp] at hq
  rcases List.mem_append.mp hq with e | e
  · exact h q e
  · simp at e; subst e; exact h1
theorem own_more {T : TypeId} {B : Nat} {w : World} {v : Value} {ps : List (List UInt8 × List UInt8)} {k : Nat} {p : List UInt8 × List UInt8} (hp : ps[k]? = some p)
    (h : w.ownsRow B T 2 v ((ps.take k).length + 1) (flatP (ps.take k) ++ [strV p.1, strV p.2])) : OwnsP T B w v (ps.take (k + 1)) := by
  have := OwnsP.snoc h
  rw [List.take_add_one, hp]; exact this
theorem new_two' (W : World) (a b : List UInt8) (T T' : TypeId) : ∀ (j : Nat) (u : Value), [strV a, strV b][j]? = some u →
    ((W.alloc (.cells #[.string (strB a), .string (strB b)] T)).alloc (.cells #[.string (strB a), .string (strB b)] T')).cell? ((⟨W.heap.size + 1, 0, none⟩ : Addr).add j) = some u := by
  intro j u h
  rw [Addr.add_lit, Nat.zero_add, World.cell?_alloc_at _ _ _ _ (by simp)]
  match j, h with
  | 0, h => simpa using h
  | 1, h => simpa using h
  | j + 2, h => simp at h
theorem text_ne {v : List UInt8} {s : ByteArray} (h : v ≠ s.data.toList) : ((strB v).toList == s.toList) = false := by
  rw [beq_eq_false_iff_ne]
  intro e
  rw [ByteArray.toList_eq, ByteArray.toList_eq, strB_list] at e
  exact h e
theorem size_list (s : ByteArray) : s.data.toList.length = s.size := Array.length_toList
def InRel (ps : List (List UInt8 × List UInt8)) (w : World) (v i : Value) (wr : World) : Prop :=
  ∃ k : Nat, i = .int .i64 k ∧ k ≤ ps.length ∧ OwnsP 51 w.heap.size wr v (ps.take k) ∧ (∀ q ∈ ps.take k, q.1.length + q.2.length ≤ 400) ∧ Below w.heap.size w wr

def Four (w0 : World) (g off g2 j : Nat) (p : List UInt8 × List UInt8) (w' : World) : Prop :=
  w'.cell? ⟨g, off + j * 2, none⟩ = some (.string (strB p.1)) ∧ w'.cell? ⟨g, off + j * 2 + 1, none⟩ = some (.string (strB p.2)) ∧ w'.cell? ⟨g2, j * 2, none⟩ = some (.string (strB (lowS p.1))) ∧ w'.cell? ⟨g2, j * 2 + 1, none⟩ = some (.string (strB p.2)) ∧ Below w0.heap.size w0 w'
theorem Four.drew {w0 : World} {g off g2 j : Nat} {p : List UInt8 × List UInt8} {w : World} (h : Four w0 g off g2 j p w) : Four w0 g off g2 j p w.drew :=
  ⟨h.1, h.2.1, h.2.2.1, h.2.2.2.1, below_drewN h.2.2.2.2 1⟩
theorem refLower_four {w0 : World} {g off g2 j : Nat} {p : List UInt8 × List UInt8} {w : World} (h : Four w0 g off g2 j p w) (hs : (strB p.1).size ≤ 1000000000) :
    Calls Tryd.prog 36 #[.string (strB p.1)] w fun e w' => e = .returned (.string (strB (lowS p.1))) ∧ Four w0 g off g2 j p w' := by
  refine (refLower_any (strB p.1) w hs).mono ?_
  rintro e w' ⟨he, hb⟩
  rw [strB_list] at he
  refine ⟨he, ?_, ?_, ?_, ?_, h.2.2.2.2.trans (hb.mono h.2.2.2.2.size)⟩
  · exact (hb.cell (World.block_lt_of_cell? w _ h.1)).trans h.1
  · exact (hb.cell (World.block_lt_of_cell? w _ h.2.1)).trans h.2.1
  · exact (hb.cell (World.block_lt_of_cell? w _ h.2.2.1)).trans h.2.2.1
  · exact (hb.cell (World.block_lt_of_cell? w _ h.2.2.2.1)).trans h.2.2.2.1

set_option maxHeartbeats 4000000 in
set_option maxRecDepth 100000 in
theorem walk_big (s : ByteArray) (lv : Value) (ps : List (List UInt8 × List UInt8)) (w : World) (hr : ReadsQ w lv ps) (hb : 400 < s.size ∨ 8 < ps.length) (hz : s.size ≤ 9223372036854775807) (hn : ps.length ≤ 9223372036854775807) :
    Calls Tryd.prog 9 #[.string s, lv] w fun e w' => e = .returned (.bool true) ∧ Below w.heap.size w w' := by
  obtain ⟨ao, cap, rfl, hc⟩ := hr
  clear hc
  by_cases h4 : 400 < s.size
  · go_enter Tryd.func9, Tryd.ntmps9
    go_wp2_with fail
    refine (awake_any _).mono ?_
    rintro e w1 ⟨rfl, hB⟩
    go_wp2_with fail
    refine (awake_any _).mono ?_
    rintro e w2 ⟨rfl, hB2⟩
    go_wp2_with fail
    go_ret
    exact ⟨rfl, hB.trans (hB2.mono hB.size)⟩
  · have h8 : 8 < ps.length := by omega
    go_enter Tryd.func9, Tryd.ntmps9
    go_wp2_with fail
    refine (awake_any _).mono ?_
    rintro e w1 ⟨rfl, hB⟩
    go_wp2_with fail
    refine (awake_any _).mono ?_
    rintro e w2 ⟨rfl, hB2⟩
    go_wp2_with fail
    go_ret
    exact ⟨rfl, hB.trans (hB2.mono hB.size)⟩

set_option maxHeartbeats 8000000 in
set_option maxRecDepth 100000 in
theorem walk (s : ByteArray) (lv : Value) (ps : List (List UInt8 × List UInt8)) (m : Int) (w : World) (hm : w.cell? ⟨0, 0, none⟩ = some (.int .i64 m)) (hr : ReadsQ w lv ps)
    (h400 : s.size ≤ 400) (hn : ps.length ≤ 8) (hbig : ∀ p ∈ ps, p.1.length ≤ 140737488355328 ∧ p.2.length ≤ 140737488355328) :
    Calls Tryd.prog 9 #[.string s, lv] w fun e w' => e = .returned (.bool true) ∧ Below w.heap.size w w' := by
  obtain ⟨i0, hi, hz0, hz1, hz2⟩ := info_parts Tryd.infoP
  have hg0 : (0 : Nat) < w.heap.size := World.block_lt_of_cell? w _ hm
  have HM := Lib.hid hm
  have HR := Lib.hid hr
  obtain ⟨ao, cap, rfl, hc⟩ := hr
  have HC := Lib.hid hc
  have HBig := Lib.hid hbig
  clear hm hc hbig
  go_enter Tryd.func9, Tryd.ntmps9
  go_wp2_with fail
  refine (awake_any _).mono ?_
  rintro e w1 ⟨rfl, hB⟩
  have hz1' := hB.size
  go_wp2_with fail
  go_loopw [5, 31] (fun v i wr => InRel ps w1 v i wr) (fun _ i _ => ps.length - (intOf i).toNat)
  case atStart => exact ⟨0, rfl, Nat.zero_le _, OwnsP.nil _ _ _, by simp, Below.refl _ _⟩
  case round =>
    obtain ⟨k, rfl, hk, hO, hsm, hBr⟩ := hrel
    have hbr := hBr.size
    have HS := Lib.hid hsm
    clear hsm
    by_cases hlt : k < ps.length
    · obtain ⟨p, hp⟩ : ∃ p, ps[k]? = some p := ⟨ps[k], by simp [hlt]⟩
      obtain ⟨g, off, rfl, hg1, h1, h2⟩ := HC.out k p hp
      have hc1 : wr.cell? ⟨g, off + k * 2, none⟩ = some (.string (strB p.1)) := (hBr.cell (p := ⟨g, off + k * 2, none⟩) (by show g < _; omega)).trans ((hB.cell (p := ⟨g, off + k * 2, none⟩) hg1).trans h1)
      have hc2 : wr.cell? ⟨g, off + k * 2 + 1, none⟩ = some (.string (strB p.2)) := (hBr.cell (p := ⟨g, off + k * 2 + 1, none⟩) (by show g < _; omega)).trans ((hB.cell (p := ⟨g, off + k * 2 + 1, none⟩) hg1).trans h2)
      have hpl := HBig.out p (List.mem_of_getElem? hp)
      have hs1 : (strB p.1).size ≤ 140737488355328 := by rw [strB_size]; exact hpl.1
      have hs2 : (strB p.2).size ≤ 140737488355328 := by rw [strB_size]; exact hpl.2
      have HP := Lib.hid hp
      clear hp h1 h2 hpl
      have hlen : (ps.take k).length = k := by simp; omega
      have HLen := Lib.hid hlen
      clear hlen
      by_cases hsum : (strB p.1).size + (strB p.2).size ≤ 400
      · go_wp2_with (at_builtin; refine wpList_append_own _ rfl _ _ 42 rfl w1.heap.size 51 i0 (.agg #[.string ByteArray.empty, .string ByteArray.empty]) 2 32 Tryd.underlying42 hi hz0 hz1 hz2 rfl (by decide) _ _ _ rfl ((World.ownsRow.alloc hO _).alloc _) ⟨wr.heap.size + 1, 0, none⟩ 1 1 [strV p.1, strV p.2] rfl rfl (new_two' wr p.1 p.2 _ _) (fun u hu => by simp at hu; rcases hu with rfl | rfl <;> rfl) (by rw [HLen.out]; unfold maxLen; omega) (by rw [HLen.out]; omega) (by simp; omega) ?_; intro v' w4 hown' hgrow _)
        go_roundw
        case rel => exact ⟨k + 1, by go_num, by omega, own_more HP.out hown', small_more HP.out HS.out (by rw [strB_size, strB_size] at hsum; exact hsum), below_appendP hBr hbr (below_new wr _) hO hgrow⟩
        case measure => simp [intOf]; omega
      · go_wp2
        go_ret
        exact ⟨rfl, (hB.trans (hBr.mono hz1')).alloc (by omega) _⟩
    · have htk : ps.take k = ps := List.take_of_length_le (by omega)
      rw [htk] at hO
      have hps : ∀ q ∈ ps, q.1.length + q.2.length ≤ 400 := by have := HS.out; rwa [htk] at this
      have HPs := Lib.hid hps
      have hBw := hB.trans (hBr.mono hz1')
      clear htk hps
      have hsz := size_list s
      have J := join_any s.data.toList _ ps wr hO.reads (by omega) HPs.out (by omega)
      rw [strB_of] at J
      go_wp2_with fail
      refine J.mono ?_
      rintro e w2 ⟨hB2, he⟩
      have hBv := hBw.trans (hB2.mono hBw.size)
      have RJ := refJoin_any s.data.toList _ ps w2 (HR.out.below hBv) (by omega) HPs.out (by omega)
      rw [strB_of] at RJ
      clear J
      cases hj : joinO s.data.toList ps with
      | none =>
        rw [hj] at he
        subst he
        go_wp2_with fail
        refine RJ.mono ?_
        rintro e w3 ⟨hB3, he⟩
        rw [hj] at he
        subst he
        go_wp2_with fail
        refine (is_errno 2 (by decide) _).mono ?_
        rintro e w' ⟨rfl, rfl⟩
        go_wp2_with fail
        go_ret
        exact ⟨rfl, hBv.trans (hB3.mono hBv.size)⟩
      | some t =>
        rw [hj] at he
        subst he
        go_wp2_with fail
        refine RJ.mono ?_
        rintro e w3 ⟨hB3, he⟩
        rw [hj] at he
        subst he
        clear RJ
        have hB3' := hBv.trans (hB3.mono hBv.size)
        have hm3 := (hB3'.cell (p := ⟨0, 0, none⟩) hg0).trans HM.out
        have q1 : ((strB t).toList == (strB t).toList) = true := beq_self_eq_true _
        go_wp2_with fail
        refine (split_any s m w3 (by omega) hm3).mono ?_
        rintro e w4 ⟨hB4, he⟩
        have hB4' := hB3'.trans (hB4.mono hB3'.size)
        cases hsv : splitO s.data.toList with
        | none =>
          rw [hsv] at he
          subst he
          go_wp2_with fail
          go_ret
          exact ⟨rfl, hB4'⟩
        | some q =>
          obtain ⟨v', ps'⟩ := q
          rw [hsv] at he
          obtain ⟨u1, rfl, hu1, hle⟩ := he
          have hu1r := hu1.reads
          by_cases hv : v' = s.data.toList
          · subst hv
            have q2 : ((strB s.data.toList).toList == s.toList) = true := by rw [strB_of]; exact beq_self_eq_true _
            cases ps' with
            | cons p1 r1 =>
              obtain ⟨ao1, cap1, rfl, hc1⟩ := hu1r
              have hne : ((p1 :: r1).length : Int) ≠ 0 := by simp; omega
              go_wp2_with fail
              go_ret
              exact ⟨rfl, hB4'⟩
            | nil =>
              obtain ⟨ao1, cap1, rfl, hc1⟩ := hu1r
              have ht : t = joinL s.data.toList ps ∧ ps.all goodB = true := by
                unfold joinO at hj
                by_cases hg : ps.all goodB = true
                · rw [if_pos hg] at hj; exact ⟨(Option.some.inj hj).symm, hg⟩
                · rw [if_neg hg] at hj; cases hj
              have hsj := split_join hsv ht.2
              rw [← ht.1] at hsj
              have htl := join_len s.data.toList ps HPs.out
              rw [← ht.1] at htl
              have hm4 := (hB4'.cell (p := ⟨0, 0, none⟩) hg0).trans HM.out
              have HS := Lib.hid hsj
              have htl' : (strB t).size ≤ 100000 := by rw [strB_size]; omega
              clear ht hsj htl hsv hj hc1
              go_wp2_with fail
              refine (split_any (strB t) m w4 htl' hm4).mono ?_
              rintro e w5 ⟨hB5, he⟩
              have hB5' := hB4'.trans (hB5.mono hB4'.size)
              rw [strB_list, HS.out] at he
              obtain ⟨u2, rfl, hu2, hle2⟩ := he
              obtain ⟨ao2, cap2, he2, hc2⟩ := hu2.reads
              rw [List.length_map] at he2
              subst he2
              have HC2 := Lib.hid hc2
              clear hc2 hu2 HS hu1 hle htl'
              go_wp2_with fail
              have hz5 := hB5'.size
              go_loopw [119] (fun i wr => ∃ j : Nat, i = .int .i64 j ∧ j ≤ ps.length ∧ Below w5.heap.size w5 wr) (fun i _ => ps.length - (intOf i).toNat)
              case atStart => exact ⟨0, rfl, Nat.zero_le _, Below.refl _ _⟩
              case round =>
                obtain ⟨j, rfl, hj, hBx⟩ := hrel
                have hzx := hBx.size
                by_cases hlj : j < ps.length
                · obtain ⟨p, hp⟩ : ∃ p, ps[j]? = some p := ⟨ps[j], by simp [hlj]⟩
                  obtain ⟨g, off, rfl, hg1, h1, h2⟩ := HC.out j p hp
                  obtain ⟨g2, hao2, hg2, h3, h4⟩ := HC2.out j (lowS p.1, p.2) (by rw [List.getElem?_map, hp]; rfl)
                  subst hao2
                  have hF : Four w5 g off g2 j p wr := ⟨(hBx.cell (p := ⟨g, off + j * 2, none⟩) (by show g < _; omega)).trans ((hB5'.cell (p := ⟨g, off + j * 2, none⟩) hg1).trans h1),
                    (hBx.cell (p := ⟨g, off + j * 2 + 1, none⟩) (by show g < _; omega)).trans ((hB5'.cell (p := ⟨g, off + j * 2 + 1, none⟩) hg1).trans h2),
                    (hBx.cell (p := ⟨g2, j * 2, none⟩) hg2).trans h3, (hBx.cell (p := ⟨g2, j * 2 + 1, none⟩) hg2).trans h4, hBx⟩
                  have hps1 : (strB p.1).size ≤ 1000000000 := by have := HPs.out p (List.mem_of_getElem? hp); rw [strB_size]; omega
                  have q3 : ((strB (lowS p.1)).toList == (strB (lowS p.1)).toList) = true := beq_self_eq_true _
                  have q4 : ((strB p.2).toList == (strB p.2).toList) = true := beq_self_eq_true _
                  clear hp h1 h2 h3 h4 q1 q2
                  go_wp2
                  go_region_held3 (fun w' => w'.cell? ⟨g, off + j * 2, none⟩ = some (.string (strB p.1)) ∧ w'.cell? ⟨g, off + j * 2 + 1, none⟩ = some (.string (strB p.2)) ∧ w'.cell? ⟨g2, j * 2, none⟩ = some (.string (strB (lowS p.1))) ∧ w'.cell? ⟨g2, j * 2 + 1, none⟩ = some (.string (strB p.2)) ∧ Below w5.heap.size w5 w')
                    (first | exact hF.drew | exact h5)
                    (first | (go_at_call 36; refine (refLower_four (by assumption) hps1).mono ?_; rintro e w' ⟨rfl, h5⟩))
                  go_wp2
                  go_roundw
                  case rel => exact ⟨j + 1, by go_num, by omega, h5.2.2.2.2⟩
                  case measure => simp [intOf]; omega
                · go_wp2_with fail
                  go_ret
                  exact ⟨rfl, hB5'.trans (hBx.mono hz5)⟩
          · have q2 : ((strB v').toList == s.toList) = false := text_ne hv
            go_wp2_with fail
            go_ret
            exact ⟨rfl, hB4'⟩
end Go.Proofs.YtjcekkgoohkomaaDoor.joins
