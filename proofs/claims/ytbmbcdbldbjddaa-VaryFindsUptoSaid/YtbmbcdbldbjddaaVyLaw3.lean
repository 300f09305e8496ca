/- VaryFinds: the walk. -/
import Derived.Test.YtbmbcdbldbjddaaVyLaw1
namespace Go.Proofs.Ytbmbcdbldbjddaa
open Go.RowKit

/-- What large says of two lists, in a slice that the call makes. -/
theorem largeTwo_any (u v : Value) (ps qs : Flds) (w : World) (hr : ReadsQ w u ps) (hq : ReadsQ w v qs) (hb : (2 * ps.length + totL ps) + (2 * qs.length + totL qs) ≤ 90000000) :
    Calls Try.prog 10 #[.slice (some ⟨w.heap.size, 0, none⟩) 2 2] (w.alloc (.cells #[u, v] 23)) fun e w' => e = .returned (.bool (lgV [(u, ps), (v, qs)])) ∧ Below w.heap.size w w' := by
  refine (large16_any _ [(u, ps), (v, qs)] _ (readsW_two 23 hr hq) (by simp) (by show 0 + (2 * ps.length + totL ps) + (2 * qs.length + totL qs) ≤ _; omega)).mono ?_
  rintro e w' ⟨rfl, hB⟩
  exact ⟨rfl, (below_new w _).trans (hB.mono (by simp))⟩
theorem lg_fit2 {u v : Value} {p q : Flds} (h : lgV [(u, p), (v, q)] = false) : 2 * p.length + totL p ≤ 3000 ∧ 2 * q.length + totL q ≤ 3000 := by
  have h1 := of_decide_eq_false h
  have e : sumW [(u, p), (v, q)] = 0 + (2 * p.length + totL p) + (2 * q.length + totL q) := rfl
  omega
/-- Whether the first k names have the same values in both. -/
def smB (ns : List (List UInt8)) (f g : Flds) : Bool := decide (∀ n ∈ ns, valV f n = valV g n)
theorem sm_no {ns : List (List UInt8)} {f g : Flds} {k : Nat} {p : List UInt8} (hp : ns[k]? = some p) (h : smB (ns.take k) f g = false) : smB (ns.take (k + 1)) f g = false := by
  refine decide_eq_false fun e => of_decide_eq_false h fun n hn => e n ?_
  rw [take_more hp]; exact List.mem_append_left _ hn
theorem sm_step {ns : List (List UInt8)} {f g : Flds} {k : Nat} {p : List UInt8} (hp : ns[k]? = some p) (h : smB (ns.take k) f g = true) : smB (ns.take (k + 1)) f g = decide (valV f p = valV g p) := by
  have h1 := of_decide_eq_true h
  unfold smB
  rw [take_more hp]
  by_cases hv : valV f p = valV g p
  · rw [decide_eq_true hv]
    refine decide_eq_true fun n hn => ?_
    rcases List.mem_append.mp hn with x | x
    · exact h1 n x
    · rw [List.mem_singleton] at x; rw [x]; exact hv
  · rw [decide_eq_false hv]
    exact decide_eq_false fun e => hv (e p (by simp))
theorem val_same {f g : Flds} {p : List UInt8} {b : Bool} (h1 : decide (0 < (allL f p).length) = b) (h2 : decide (0 < (allL g p).length) = b) : decide (valV f p = valV g p) = decide (joinV ((allL f p).map normV) = joinV ((allL g p).map normV)) := by
  have e : ∀ l : List (List UInt8), decide (0 < l.length) = false → l = [] := fun l h => by
    have := of_decide_eq_false h
    exact List.eq_nil_of_length_eq_zero (by omega)
  have e2 : ∀ l : List (List UInt8), decide (0 < l.length) = true → l ≠ [] := fun l h hl => by
    have := of_decide_eq_true h
    rw [hl] at this
    simp at this
  unfold valV
  cases b with
  | false => rw [e _ h1, e _ h2]; rfl
  | true =>
    rw [if_neg (e2 _ h1), if_neg (e2 _ h2)]
    by_cases hj : joinV ((allL f p).map normV) = joinV ((allL g p).map normV)
    · rw [hj]; simp
    · rw [decide_eq_false hj]
      exact decide_eq_false fun e => hj (Option.some.inj e)
theorem val_other {f g : Flds} {p : List UInt8} {b c : Bool} (h1 : decide (0 < (allL f p).length) = b) (h2 : decide (0 < (allL g p).length) = c) (hbc : b ≠ c) : decide (valV f p = valV g p) = false := by
  refine decide_eq_false fun e => hbc ?_
  rw [← h1, ← h2]
  unfold valV at e
  by_cases h3 : allL f p = []
  · by_cases h4 : allL g p = []
    · rw [h3, h4]
    · rw [if_pos h3, if_neg h4] at e; cases e
  · by_cases h4 : allL g p = []
    · rw [if_neg h3, if_pos h4] at e; cases e
    · rw [decide_eq_true (List.length_pos_iff.mpr h3), decide_eq_true (List.length_pos_iff.mpr h4)]
theorem sm_find (ns : List (List UInt8)) (f g : Flds) : findV (putV [] ns (keyL ns f) 5) g = if smB ns f g = true then [5] else [] := by
  rw [find_one]
  unfold smB
  by_cases h : keyL ns g = keyL ns f
  · rw [if_pos h, if_pos (decide_eq_true (fun n hn => ((key_inj ns g f).mp h n hn).symm))]
  · rw [if_neg h, if_neg]
    intro e
    exact h ((key_inj ns g f).mpr fun n hn => (of_decide_eq_true e n hn).symm)
set_option maxHeartbeats 16000000 in
set_option maxRecDepth 100000 in
theorem vy_finds_walk (na : Option Addr) (nc : Nat) (ns : List (List UInt8)) (fa : Option Addr) (fc : Nat) (ps : Flds) (ga : Option Addr) (gc : Nat) (qs : Flds) (w : World) (hn : ReadsS w (.slice na ns.length nc) ns) (hr : ReadsQ w (.slice fa ps.length fc) ps) (hq : ReadsQ w (.slice ga qs.length gc) qs) (bn : ns.length + sumL ns ≤ 90000000) (bf : 2 * ps.length + totL ps ≤ 3000000) (bg : 2 * qs.length + totL qs ≤ 3000000) :
    Calls Try.prog 6 #[.slice na ns.length nc, .slice fa ps.length fc, .slice ga qs.length gc] w fun e w' => e = .returned (.bool true) ∧ Below w.heap.size w w' := by
  have HL := Lib.hid (fun (W : World) (hB : Below w.heap.size w W) => long16_any _ ns W (hn.below hB) bn)
  have HG := Lib.hid (fun (W : World) (hB : Below w.heap.size w W) => largeTwo_any _ _ ps qs W (hr.below hB) (hq.below hB) (by omega))
  have HA := Lib.hid (fun (W : World) => awake16_any W)
  have HN := Lib.hid hn
  have HR := Lib.hid hr
  have HQ := Lib.hid hq
  obtain ⟨_, _, _, hnc⟩ := id hn
  clear hn hr hq bn bf bg
  cases h1 : lonB ns with
  | true =>
    rw [h1] at HL
    clear h1
    go_enter Try.func6, Try.ntmps6
    go_wp2_with fail
    refine (HL.out _ (Below.refl _ _)).mono ?_
    rintro e w1 ⟨rfl, rfl⟩
    go_wp2_with fail
    refine (HL.out _ (Below.refl _ _)).mono ?_
    rintro e w2 ⟨rfl, rfl⟩
    go_wp2_with fail
    go_ret
    exact ⟨rfl, Below.refl _ _⟩
  | false =>
    rw [h1] at HL
    have hfn := lon_fit h1
    clear h1
    cases h2 : lgV [(Value.slice fa ps.length fc, ps), (Value.slice ga qs.length gc, qs)] with
    | true =>
      rw [h2] at HG
      clear h2
      go_enter Try.func6, Try.ntmps6
      go_wp2_with fail
      refine (HL.out _ (Below.refl _ _)).mono ?_
      rintro e w1 ⟨rfl, rfl⟩
      go_wp2_with fail
      refine (HG.out _ (Below.refl _ _)).mono ?_
      rintro e w2 ⟨rfl, hB2⟩
      go_wp2_with fail
      refine (HL.out _ hB2).mono ?_
      rintro e w3 ⟨rfl, rfl⟩
      go_wp2_with fail
      refine (HG.out _ hB2).mono ?_
      rintro e w4 ⟨rfl, hB4⟩
      go_wp2_with fail
      go_ret
      exact ⟨rfl, hB2.trans (hB4.mono hB2.size)⟩
    | false =>
      rw [h2] at HG
      obtain ⟨hb3, hb4⟩ := lg_fit2 h2
      have HFk := Lib.hid (fitK_of hb3)
      have HGk := Lib.hid (fitK_of hb4)
      have HFn := Lib.hid hfn
      have HF := Lib.hid (fun (W : World) (hB : Below w.heap.size w W) => fieldsK_any fa fc ps W (HR.out.below hB) hb3)
      have HF2 := Lib.hid (fun (W : World) (hB : Below w.heap.size w W) => fieldsK_any ga gc qs W (HQ.out.below hB) hb4)
      have hnl := hfn.len
      clear h2 hb3 hb4 hfn
      go_enter Try.func6, Try.ntmps6
      go_wp2_with fail
      refine (HL.out _ (Below.refl _ _)).mono ?_
      rintro e w1 ⟨rfl, rfl⟩
      go_wp2_with fail
      refine (HG.out _ (Below.refl _ _)).mono ?_
      rintro e w2 ⟨rfl, hB2⟩
      go_wp2_with fail
      refine (HA.out _).mono ?_
      rintro e w3 ⟨rfl, hB3⟩
      have HB3 := Lib.hid (hB2.trans (hB3.mono hB2.size))
      clear hB2 hB3
      go_wp2_with fail
      refine (setNew_any w3).mono ?_
      rintro e w4 ⟨rfl, hS4, hB4⟩
      have HB4 := Lib.hid (HB3.out.trans (hB4.mono HB3.out.size))
      have HS4 := Lib.hid hS4
      have hs34 : w3.heap.size < w4.heap.size := hS4.lt _ rfl
      have hs03 := HB3.out.size
      clear hB4 hS4
      go_wp2_with fail
      refine (HF.out _ HB4.out).mono ?_
      rintro e w5 ⟨a5, c5, rfl, hR5, _, hB5⟩
      have HB5 := Lib.hid (HB4.out.trans (hB5.mono HB4.out.size))
      have HP := Lib.hid (setPut_any w3.heap.size [] _ ns _ ps 5 _ w5 (HS4.out.below hB5) inv_nil fitV_nil (HN.out.below HB5.out) hR5 HFn.out HFk.out)
      clear hB5 hR5
      go_wp2_with fail
      refine HP.out.mono ?_
      rintro e w6 ⟨v6, rfl, F', _, hS6, hO6, _⟩
      have HS6 := Lib.hid hS6
      have HB6 := Lib.hid (HB5.out.trans (hO6.to (fun k hk => by omega) HB5.out.size))
      clear hS6 hO6 HP
      go_wp2_with fail
      go_loopw [8, 44] (fun s i wr => ∃ k : Nat, i = .int .i64 k ∧ k ≤ ns.length ∧ s = .bool (smB (ns.take k) ps qs) ∧ Below w6.heap.size w6 wr) (fun _ i _ => ns.length - (intOf i).toNat)
      case atStart => exact ⟨0, rfl, Nat.zero_le _, by first | rfl | simp [smB], Below.refl _ _⟩
      case round =>
        obtain ⟨k, rfl, hk, rfl, hBr⟩ := hrel
        have hbr := hBr.size
        have HBr := Lib.hid (HB6.out.trans (hBr.mono HB6.out.size))
        have HB := Lib.hid hBr
        clear hBr
        by_cases hlt : k < ns.length
        · obtain ⟨p, hp⟩ : ∃ p, ns[k]? = some p := ⟨ns[k], by simp [hlt]⟩
          obtain ⟨_, _, e0, hcx⟩ := HN.out
          simp only [Value.slice.injEq, true_and] at e0
          obtain ⟨rfl, rfl⟩ := e0
          obtain ⟨g, off, rfl, hg, h1⟩ := hcx k p hp
          have hc1 : wr.cell? ⟨g, off + k, none⟩ = some (.string (strB p)) := (HBr.out.cell (p := ⟨g, off + k, none⟩) hg).trans h1
          have hpl := HFn.out.each p (List.mem_of_getElem? hp)
          have HV1 := Lib.hid (refValue_any _ ps p wr (HR.out.below HBr.out) HFk.out (by omega))
          have HV2 := Lib.hid (fun (W : World) (hB : Below w1.heap.size w1 W) => refValue_any _ qs p W (HQ.out.below hB) HGk.out (by omega))
          have HP := Lib.hid hp
          clear hp h1 hcx hnc
          obtain ⟨b1, hb1⟩ : ∃ b, decide (0 < (allL ps p).length) = b := ⟨_, rfl⟩
          obtain ⟨b2, hb2⟩ : ∃ b, decide (0 < (allL qs p).length) = b := ⟨_, rfl⟩
          rw [hb1] at HV1
          rw [hb2] at HV2
          have HB1 := Lib.hid hb1
          have HB2 := Lib.hid hb2
          clear hb1 hb2
          obtain ⟨x1, hx1⟩ : ∃ x, joinV ((allL ps p).map normV) = x := ⟨_, rfl⟩
          obtain ⟨x2, hx2⟩ : ∃ x, joinV ((allL qs p).map normV) = x := ⟨_, rfl⟩
          rw [hx1] at HV1
          rw [hx2] at HV2
          have HX1 := Lib.hid hx1
          have HX2 := Lib.hid hx2
          clear hx1 hx2
          cases hs : smB (ns.take k) ps qs with
          | false =>
            have HR1 := Lib.hid (sm_no HP.out hs)
            clear hs
            go_wp2_with fail
            refine HV1.out.mono ?_
            rintro e w7 ⟨rfl, hB7⟩
            have HB7 := Lib.hid (HBr.out.trans (hB7.mono HBr.out.size))
            have HC7 := Lib.hid (HB.out.trans (hB7.mono hbr))
            clear hB7
            go_wp2_with fail
            refine (HV2.out _ HB7.out).mono ?_
            rintro e w8 ⟨rfl, hB8⟩
            have HC8 := Lib.hid (HC7.out.trans (hB8.mono HC7.out.size))
            clear hB8
            go_wp2_with fail
            go_roundw
            case rel => exact ⟨k + 1, by go_num, by omega, by rw [HR1.out], HC8.out⟩
            case measure => simp [intOf]; omega
          | true =>
            by_cases hbb : b1 = b2
            · subst hbb
              have HD := Lib.hid ((sm_step HP.out hs).trans (val_same HB1.out HB2.out))
              rw [HX1.out, HX2.out] at HD
              have hbq : (b1 == b1) = true := by simp
              clear hs
              by_cases hxx : x1 = x2
              · have HR1 := Lib.hid (HD.out.trans (decide_eq_true hxx))
                have hxq := toList_same hxx
                clear hxx
                go_wp2_with fail
                refine HV1.out.mono ?_
                rintro e w7 ⟨rfl, hB7⟩
                have HB7 := Lib.hid (HBr.out.trans (hB7.mono HBr.out.size))
                have HC7 := Lib.hid (HB.out.trans (hB7.mono hbr))
                clear hB7
                go_wp2_with fail
                refine (HV2.out _ HB7.out).mono ?_
                rintro e w8 ⟨rfl, hB8⟩
                have HC8 := Lib.hid (HC7.out.trans (hB8.mono HC7.out.size))
                clear hB8
                go_wp2_with fail
                go_roundw
                case rel => exact ⟨k + 1, by go_num, by omega, by rw [HR1.out], HC8.out⟩
                case measure => simp [intOf]; omega
              · have HR1 := Lib.hid (HD.out.trans (decide_eq_false hxx))
                have hxq := toList_other hxx
                clear hxx
                go_wp2_with fail
                refine HV1.out.mono ?_
                rintro e w7 ⟨rfl, hB7⟩
                have HB7 := Lib.hid (HBr.out.trans (hB7.mono HBr.out.size))
                have HC7 := Lib.hid (HB.out.trans (hB7.mono hbr))
                clear hB7
                go_wp2_with fail
                refine (HV2.out _ HB7.out).mono ?_
                rintro e w8 ⟨rfl, hB8⟩
                have HC8 := Lib.hid (HC7.out.trans (hB8.mono HC7.out.size))
                clear hB8
                go_wp2_with fail
                go_roundw
                case rel => exact ⟨k + 1, by go_num, by omega, by rw [HR1.out], HC8.out⟩
                case measure => simp [intOf]; omega
            · have HR1 := Lib.hid ((sm_step HP.out hs).trans (val_other HB1.out HB2.out hbb))
              have hbq : (b1 == b2) = false := by simpa using hbb
              clear hs hbb
              go_wp2_with fail
              refine HV1.out.mono ?_
              rintro e w7 ⟨rfl, hB7⟩
              have HB7 := Lib.hid (HBr.out.trans (hB7.mono HBr.out.size))
              have HC7 := Lib.hid (HB.out.trans (hB7.mono hbr))
              clear hB7
              go_wp2_with fail
              refine (HV2.out _ HB7.out).mono ?_
              rintro e w8 ⟨rfl, hB8⟩
              have HC8 := Lib.hid (HC7.out.trans (hB8.mono HC7.out.size))
              clear hB8
              go_wp2_with fail
              go_roundw
              case rel => exact ⟨k + 1, by go_num, by omega, by rw [HR1.out], HC8.out⟩
              case measure => simp [intOf]; omega
        · have htk : ns.take k = ns := List.take_of_length_le (by omega)
          rw [htk]
          have HS7 := Lib.hid (HS6.out.below HB.out)
          clear hnc
          cases hs : smB ns ps qs with
          | true =>
            have HE := Lib.hid ((sm_find ns ps qs).trans (if_pos hs))
            clear hs
            go_wp2_with fail
            refine (HF2.out _ HBr.out).mono ?_
            rintro e w8 ⟨a8, c8, rfl, hR8, _, hB8⟩
            have HB8 := Lib.hid (HBr.out.trans (hB8.mono HBr.out.size))
            have HX := Lib.hid (setFind_any w3.heap.size _ _ qs _ w8 (HS7.out.below hB8) (fitV_put fitV_nil HFn.out) hR8 HGk.out)
            rw [HE.out] at HX
            clear hB8 hR8
            go_wp2_with fail
            refine HX.out.mono ?_
            rintro e w9 ⟨v9, rfl, hO9, hB9⟩
            have HB9 := Lib.hid (HB8.out.trans (hB9.mono HB8.out.size))
            have HI := Lib.hid (ints_any v9 _ [5] [5] _ (hO9.reads.below (below_new w9 (.cells #[.int .i64 5] 3))) (readsZ_newT w9 5) (by decide))
            clear hO9 hB9
            go_wp2_with fail
            refine HI.out.mono ?_
            rintro e w10 ⟨rfl, n, rfl⟩
            go_wp2_with fail
            go_ret
            exact ⟨rfl, below_drewN (HB9.out.trans ((below_new w9 _).mono HB9.out.size)) n⟩
          | false =>
            have HE := Lib.hid ((sm_find ns ps qs).trans (if_neg (by simp [hs])))
            clear hs
            go_wp2_with fail
            refine (HF2.out _ HBr.out).mono ?_
            rintro e w8 ⟨a8, c8, rfl, hR8, _, hB8⟩
            have HB8 := Lib.hid (HBr.out.trans (hB8.mono HBr.out.size))
            have HX := Lib.hid (setFind_any w3.heap.size _ _ qs _ w8 (HS7.out.below hB8) (fitV_put fitV_nil HFn.out) hR8 HGk.out)
            rw [HE.out] at HX
            clear hB8 hR8
            go_wp2_with fail
            refine HX.out.mono ?_
            rintro e w9 ⟨v9, rfl, hO9, hB9⟩
            have HB9 := Lib.hid (HB8.out.trans (hB9.mono HB8.out.size))
            obtain ⟨va, vc, rfl, _⟩ := id hO9.reads
            clear hO9 hB9
            go_wp2_with fail
            go_ret
            exact ⟨rfl, HB9.out⟩
end Go.Proofs.Ytbmbcdbldbjddaa
