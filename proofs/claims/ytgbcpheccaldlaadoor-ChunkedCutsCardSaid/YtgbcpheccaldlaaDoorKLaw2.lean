/- ChunkedCuts: for all parts the statement's function returns true: the walk. -/
import Derived.Test.YtgbcpheccaldlaaDoorKDone
import Derived.Test.YtgbcpheccaldlaaDoorKRef0
import Derived.Test.YtgbcpheccaldlaaDoorFAreOnly
namespace Go.Proofs.YtgbcpheccaldlaaDoor
open Go.RowKit

/-- All parts, one after the other. -/
def flatK (ls : List (List UInt8)) : List UInt8 := ls.flatten
theorem flatK_len (ls : List (List UInt8)) : (flatK ls).length = sumL ls := sumL_flat ls
theorem flatK_more {ls : List (List UInt8)} {k : Nat} {l : List UInt8} (h : ls[k]? = some l) : flatK (ls.take (k + 1)) = flatK (ls.take k) ++ l := by
  unfold flatK; rw [moreK_at h, List.flatten_append, List.flatten_singleton]
/-- What a decoder makes of the first k parts. -/
def cutD (ls : List (List UInt8)) (k : Nat) : Dc × List UInt8 × Nat := wrD Dc.new (flatK (ls.take k))
theorem cutD_more {ls : List (List UInt8)} {k : Nat} {l : List UInt8} (h : ls[k]? = some l) :
    cutD ls (k + 1) = ((wrD (cutD ls k).1 l).1, (cutD ls k).2.1 ++ (wrD (cutD ls k).1 l).2.1, (cutD ls k).2.2 + (wrD (cutD ls k).1 l).2.2) := by
  unfold cutD
  rw [flatK_more h, wrD_app]
theorem cutD_le {ls : List (List UInt8)} (k : Nat) (h : sumL ls ≤ 12000) : (cutD ls k).2.2 ≤ 12000 ∧ (cutD ls k).2.1.length ≤ 12000 := by
  have h1 := wrD_len (flatK (ls.take k)) Dc.new
  have h2 := flatK_len (ls.take k)
  have h3 := sumL_take_le ls k
  unfold cutD; omega
theorem cutD_ok (ls : List (List UInt8)) (k : Nat) : (cutD ls k).1.Ok := wrD_ok _ ok_new
theorem num_errK (c : Nat) (w : World) : Calls Tryd.prog 17 #[errV c] w fun e w' => e = .returned (.int .i64 c) ∧ w = w' := by
  unfold errV
  by_cases h : c = 0
  · rw [if_pos h]; subst h; exact num_nil w
  · rw [if_neg h]; exact num_errno c w
theorem MaxB.mono {B C : Nat} {w : World} (h : MaxB B w) (hC : B ≤ C) : MaxB C w := ⟨h.1, Nat.lt_of_lt_of_le h.2 hC⟩
def CutRel (ls : List (List UInt8)) (P : Nat) (w4 : World) (v t c i : Value) (wr : World) : Prop :=
  ∃ (k : Nat) (X : Nat → Prop), i = .int .i64 (k : Int) ∧ k ≤ ls.length ∧ Dec P P X (cutD ls k).1 wr ∧ (∀ j, X j → j = P ∨ w4.heap.size ≤ j) ∧ OwnB w4.heap.size wr v (cutD ls k).2.1 ∧ (∀ j, v.ownBlock = some j → ¬ X j) ∧ t = .int .i64 ((cutD ls k).2.2 : Int) ∧ c = .int .i64 ((cutD ls k).1.er : Int) ∧ Only (fun j => j = P) w4 wr
/-- A round of the second loop: what the relation needs behind the append. -/
theorem cut_more {ls : List (List UInt8)} {P k : Nat} {l : List UInt8} {w4 wr w5 w6 : World} {X X3 : Nat → Prop} {v v' : Value} (hl : ls[k]? = some l) (hk : k < ls.length) (hX : ∀ j, X j → j = P ∨ w4.heap.size ≤ j) (ho : OwnB w4.heap.size wr v (cutD ls k).2.1) (hv : ∀ j, v.ownBlock = some j → ¬ X j) (hOn : Only (fun j => j = P) w4 wr)
    (hD3 : Dec P P X3 (wrD (cutD ls k).1 l).1 w5) (hX3 : ∀ j, X3 j → X j ∨ wr.heap.size ≤ j) (hO3 : Only X wr w5) (hO6 : OwnB w4.heap.size w6 v' ((cutD ls k).2.1 ++ (wrD (cutD ls k).1 l).2.1)) (hg : w5.grownBy w6 v.ownBlock) (hat : v'.ownBlock = v.ownBlock ∨ v'.ownBlock = some w5.heap.size) :
    CutRel ls P w4 v' (.int .i64 (((cutD ls k).2.2 : Int) + ((wrD (cutD ls k).1 l).2.2 : Int))) (.int .i64 ((wrD (cutD ls k).1 l).1.er : Int)) (.int .i64 ((k : Int) + 1)) w6 := by
  have hm := cutD_more hl
  have hs4 := hOn.size
  have hlt : ∀ j, v.ownBlock = some j → w4.heap.size ≤ j ∧ j < wr.heap.size := fun j hj => World.ownsRow.lt ho j hj
  have hgr : Only (fun j => v.ownBlock = some j) w5 w6 := Only.grown hg fun j hj => .inl hj
  refine ⟨k + 1, X3, by go_num, by omega, ?_, ?_, ?_, ?_, ?_, ?_, ?_⟩
  · rw [hm]
    refine hD3.only hgr fun j h1 h2 => ?_
    rcases hX3 j h1 with h | h
    · exact hv j h2 h
    · have := (hlt j h2).2; omega
  · intro j hj
    rcases hX3 j hj with h | h
    · exact hX j h
    · exact .inr (by omega)
  · rw [hm]; exact hO6
  · intro j h1 h2
    rcases hat with e | e
    · rcases hX3 j h2 with h | h
      · exact hv j (e ▸ h1) h
      · have := (hlt j (e ▸ h1)).2; omega
    · rw [e] at h1
      have := Option.some.inj h1
      have := (hD3.lt.2.2 j h2).2
      omega
  · rw [hm]; go_num
  · rw [hm]
  · exact (hOn.trans hO3 hX).trans hgr fun j hj => .inr (hlt j hj).1
set_option maxHeartbeats 4000000 in
set_option maxRecDepth 100000 in
theorem ck_cuts_walk (v : Value) (ls : List (List UInt8)) (w : World) (hM : HasMax w) (hr : ReadsL w v ls) (hl : ls.length ≤ maxLen) (hb : ∀ l ∈ ls, l.length ≤ 140737488355328) :
    Calls Tryd.prog 6 #[v] w fun e w' => e = .returned (.bool true) ∧ Below w.heap.size w w' := by
  unfold maxLen at hl
  have HM := Lib.hid hM
  have HR := Lib.hid hr
  have F := Lib.hid (fun W hr => fits7_any v ls W hr (by omega) hb)
  obtain ⟨ao, cap, rfl, hc⟩ := hr
  clear hc hb hM
  go_enter Tryd.func6, Tryd.ntmps6
  go_wp2_with fail
  refine (awake7_any _ HM.out).mono ?_
  rintro e w1 ⟨rfl, hB1⟩
  go_wp2_with fail
  refine (F.out _ (HR.out.below hB1)).mono ?_
  rintro e w' ⟨rfl, rfl⟩
  cases hfit : fits7B ls with
  | false =>
    go_wp2_with fail
    refine (awake7_any _ (HM.out.below hB1)).mono ?_
    rintro e w2 ⟨rfl, hB2⟩
    go_wp2_with fail
    go_ret
    exact ⟨rfl, hB1.trans (hB2.mono hB1.size)⟩
  | true =>
    obtain ⟨hf1, hf2⟩ := of_decide_eq_true hfit
    clear hfit
    have HR1 := Lib.hid (HR.out.below hB1)
    have HB1 := Lib.hid hB1
    have hs1 := hB1.size
    clear hB1
    go_wp2_with fail
    go_loopw [3, 5] (fun u i wr => ∃ k : Nat, i = .int .i64 (k : Int) ∧ k ≤ ls.length ∧ OwnB w1.heap.size wr u (flatK (ls.take k)) ∧ Below w1.heap.size w1 wr) (fun _ i _ => ls.length - (intOf i).toNat)
    case atStart => exact ⟨0, rfl, Nat.zero_le _, OwnB.nil _ _, Below.refl _ _⟩
    case round =>
      obtain ⟨k, rfl, hk, hO, hBr⟩ := hrel
      have hbr := hBr.size
      by_cases hlt : k < ls.length
      · obtain ⟨l, hl'⟩ : ∃ l, ls[k]? = some l := ⟨ls[k], by simp [hlt]⟩
        obtain ⟨ao', cap', hv', hc'⟩ := (HR1.out.below hBr)
        obtain ⟨g, off, x, hao, hg, hcell, hx⟩ := hc' k l hl'
        simp only [Value.slice.injEq] at hv'
        obtain ⟨rfl, _, rfl⟩ := hv'
        subst hao
        have hsl := sumL_mem (List.mem_of_getElem? hl')
        have hsf : (flatK (ls.take k)).length ≤ 12000 := by rw [flatK_len]; exact Nat.le_trans (sumL_take_le ls k) hf2
        have HM1 := Lib.hid (flatK_more hl')
        have HX := Lib.hid hx
        obtain ⟨xa, xc, rfl, _⟩ := hx
        obtain ⟨ua, uc, rfl⟩ := hO.isSlice
        have HO := Lib.hid hO
        clear hl' hc' hO
        go_wp2_with (at_builtin; refine wpList_appendA (by rfl) _ _ (by rfl) _ _ (by rfl) (by rfl) HO.out HX.out (by omega) (by omega) ?_; intro v' w2 hO2 hgrow hat)
        go_roundw
        case rel => exact ⟨k + 1, by go_num, by omega, by rw [HM1.out]; exact hO2, hBr.grown hgrow hbr (fun q hq => (World.ownsRow.lt HO.out q hq).1)⟩
        case measure => simp [intOf]; omega
      · have htk : ls.take k = ls := List.take_of_length_le (by omega)
        rw [htk] at hO
        obtain ⟨ua, uc, rfl⟩ := hO.isSlice
        rename World => wq
        have HO := Lib.hid hO
        have HBr := Lib.hid hBr
        clear htk hO hBr
        go_wp2_with fail
        refine (new_any wq).mono ?_
        rintro e wa ⟨rfl, hDa, hBa, hsa⟩
        have HDa := Lib.hid hDa
        have HBa := Lib.hid hBa
        have HMa := Lib.hid (MaxB.of (HM.out.below (HB1.out.trans (HBr.out.mono hs1))))
        have HSa := Lib.hid hsa
        clear hDa hBa hsa
        go_wp2_with fail
        refine (new_any wa).mono ?_
        rintro e wb ⟨rfl, hDb, hBb, hsb⟩
        have HDb := Lib.hid hDb
        have HS2 := Lib.hid (show wb.heap.size = wq.heap.size + 2 by have := HSa.out; omega)
        have HBw := Lib.hid (show Below w1.heap.size w1 wb from HBr.out.trans ((HBa.out.trans (hBb.mono HBa.out.size)).mono HBr.out.size))
        have HDa2 := Lib.hid (HDa.out.below hBb)
        have HMa2 := Lib.hid (HMa.out.to (HBa.out.trans (hBb.mono HBa.out.size)))
        have HOb := Lib.hid ((HO.out.below HBa.out).below hBb)
        have hfl : (flatK ls).length ≤ 12000 := by rw [flatK_len]; exact hf2
        have W1 := Lib.hid (write_any _ (flatK ls) wb HDa2.out HMa2.out ok_new (OwnB.reads HOb.out) (fun _ j h1 h2 => by have := (World.ownsRow.lt HO.out j h1).2; omega) (by omega))
        have hsr := HBr.out.size
        clear hDb hBb hsb
        go_wp2_with fail
        refine W1.out.mono ?_
        rintro e w4 ⟨vw, X1, rfl, hD1, hX1, hO1, ho1, hv1⟩
        have HD1 := Lib.hid hD1
        have HX1 := Lib.hid hX1
        have HO1 := Lib.hid hO1
        have HOW := Lib.hid ho1
        have hs14 := hO1.size
        have HDb4 := Lib.hid (HDb.out.only hO1 (fun j h1 h2 => by have := HSa.out; omega))
        have HB14 := Lib.hid (HBw.out.trans (hO1.to (B := w1.heap.size) (fun j hj => by omega) (by have := HBw.out.size; omega)))
        have HMb4 := Lib.hid (MaxB.mono (C := wa.heap.size) (HMa2.out.to (hO1.to (B := wq.heap.size) (fun j hj => by omega) (by have := HS2.out; omega))) HBa.out.size)
        obtain ⟨vwa, vwc, rfl⟩ := ho1.isSlice
        clear hD1 hX1 hO1 ho1
        go_wp2_with fail
        go_loopw [4, 11, 12, 13] (fun u t c i wr => CutRel ls wa.heap.size w4 u t c i wr) (fun _ _ _ i _ => ls.length - (intOf i).toNat)
        case atStart => exact ⟨0, fun j => j = wa.heap.size, rfl, Nat.zero_le _, HDb4.out, fun _ h => .inl h, OwnB.nil _ _, fun j hj => (by cases hj), rfl, rfl, Only.refl _ _⟩
        case round =>
          obtain ⟨k, X, rfl, hk, hD, hX, ho, hv, rfl, rfl, hOn⟩ := hrel
          have hB4x := hOn.to (B := w1.heap.size) (fun j hj => by have := HBa.out.size; omega) (by have := HB14.out.size; omega)
          have hBx := HB14.out.trans hB4x
          have hcl := cutD_le k hf2
          by_cases hlt : k < ls.length
          · obtain ⟨l, hl'⟩ : ∃ l, ls[k]? = some l := ⟨ls[k], by simp [hlt]⟩
            obtain ⟨ao', cap', hv', hc'⟩ := HR1.out
            obtain ⟨g, off, x, hao, hg, hcell, hx⟩ := hc' k l hl'
            simp only [Value.slice.injEq] at hv'
            obtain ⟨rfl, _, rfl⟩ := hv'
            subst hao
            have hcx := (hBx.cell (p := ⟨g, off + k, none⟩) hg).trans hcell
            have hsl := sumL_mem (List.mem_of_getElem? hl')
            have hxlt := readsB_lt hx
            have hwl := wrD_len l (cutD ls k).1
            have hfull := wrD_full (l := l) (s := (cutD ls k).1)
            have hstop := fun h => wrD_stop (s := (cutD ls k).1) (.inl h) l
            have W := Lib.hid (write_any x l wr hD (HMb4.out.to (hOn.to (B := wa.heap.size) (fun j hj => by omega) (by have := HSa.out; have := HS2.out; omega))) (cutD_ok ls k) (hx.below hBx) (fun hne j h1 h2 => by
              have h3 := hxlt hne j h1
              have := HBa.out.size
              have := HS2.out
              rcases hX j h2 with h | h <;> omega) (by omega))
            have HL := Lib.hid hl'
            have HX := Lib.hid hX
            have HGot := Lib.hid ho
            have HV := Lib.hid hv
            have HOn := Lib.hid hOn
            have hgx : g < wr.heap.size := by have := hBx.size; omega
            have hgX : ¬ X g := fun h2 => by
              have := HBa.out.size
              have := HBr.out.size
              have := HS2.out
              rcases hX g h2 with h | h <;> omega
            obtain ⟨xa, xc, rfl, _⟩ := id hx
            obtain ⟨ga, gc, rfl⟩ := ho.isSlice
            clear hl' hc' hcell hx hxlt hX ho hv hOn hD hg hB4x hBx
            go_wp2_with fail
            refine W.out.mono ?_
            rintro e w5 ⟨vb, X3, rfl, hD3, hX3, hO3, ho3, hv3⟩
            have HD3 := Lib.hid hD3
            have HX3 := Lib.hid hX3
            have HO3 := Lib.hid hO3
            have HG5 := Lib.hid (HGot.out.only hO3 HV.out)
            have HBody := Lib.hid ho3.reads
            have hcx5 := (hO3.cell (p := ⟨g, off + k, none⟩) hgx hgX).trans hcx
            have hs45 : w4.heap.size ≤ w5.heap.size := Nat.le_trans HOn.out.size hO3.size
            obtain ⟨ba, bc, rfl⟩ := ho3.isSlice
            have DN := Lib.hid (done_any w5 hD3)
            have NUM := fun W => num_errK (wrD (cutD ls k).1 l).1.er W
            clear hD3 hX3 hO3 ho3 hv3
            by_cases her : (wrD (cutD ls k).1 l).1.er = 0
            · have HER := Lib.hid her
              have hck : (cutD ls k).1.er = 0 := by
                by_cases h : (cutD ls k).1.er = 0
                · exact h
                · rw [hstop h] at her; exact absurd her h
              have hq : (((cutD ls k).1.er : Int) != 0) = false := by simp [hck]
              rw [her, show errV 0 = .nilIface from rfl] at NUM
              rw [her, show errV 0 = .nilIface from rfl]
              by_cases hfl2 : (wrD (cutD ls k).1 l).2.2 < l.length
              · have h8 : (wrD (cutD ls k).1 l).1.pl = 8 := by
                  by_cases h : (wrD (cutD ls k).1 l).1.pl = 8
                  · exact h
                  · have := hfull her h; omega
                rw [decide_eq_true h8] at DN
                clear hfull hstop hck h8
                go_wp2_with fail
                refine DN.out.mono ?_
                rintro e w' ⟨rfl, rfl⟩
                go_wp2_with (at_builtin; refine wpList_appendA (by rfl) _ _ (by rfl) _ _ (by rfl) (by rfl) HG5.out HBody.out (by omega) (by omega) ?_; intro v6 w6 hO6 hgrow hat)
                go_wp2_with fail
                refine (NUM _).mono ?_
                rintro e w' ⟨rfl, rfl⟩
                go_wp2_with fail
                go_roundw
                case rel => exact (by have h := cut_more HL.out hlt HX.out HGot.out HV.out HOn.out HD3.out HX3.out HO3.out hO6 hgrow hat; rw [HER.out] at h; exact h)
                case measure => simp [intOf]; omega
              · clear hfull hstop hck
                go_wp2_with (at_builtin; refine wpList_appendA (by rfl) _ _ (by rfl) _ _ (by rfl) (by rfl) HG5.out HBody.out (by omega) (by omega) ?_; intro v6 w6 hO6 hgrow hat)
                go_wp2_with fail
                refine (NUM _).mono ?_
                rintro e w' ⟨rfl, rfl⟩
                go_wp2_with fail
                go_roundw
                case rel => exact (by have h := cut_more HL.out hlt HX.out HGot.out HV.out HOn.out HD3.out HX3.out HO3.out hO6 hgrow hat; rw [HER.out] at h; exact h)
                case measure => simp [intOf]; omega
            · rw [errV_yes her] at NUM
              rw [errV_yes her]
              by_cases hck : (cutD ls k).1.er = 0
              · have hq : (((cutD ls k).1.er : Int) != 0) = false := by simp [hck]
                clear hfull hstop hck her
                go_wp2_with (at_builtin; refine wpList_appendA (by rfl) _ _ (by rfl) _ _ (by rfl) (by rfl) HG5.out HBody.out (by omega) (by omega) ?_; intro v6 w6 hO6 hgrow hat)
                go_wp2_with fail
                refine (NUM _).mono ?_
                rintro e w' ⟨rfl, rfl⟩
                go_wp2_with fail
                go_roundw
                case rel => exact cut_more HL.out hlt HX.out HGot.out HV.out HOn.out HD3.out HX3.out HO3.out hO6 hgrow hat
                case measure => simp [intOf]; omega
              · have hq : (((cutD ls k).1.er : Int) != 0) = true := by simp; omega
                have hst := hstop hck
                have hqe : (((wrD (cutD ls k).1 l).1.er : Int) != ((cutD ls k).1.er : Int)) = false := by rw [hst]; simp
                have hz2 : (wrD (cutD ls k).1 l).2.2 = 0 := by rw [hst]
                have HZ := Lib.hid hz2
                have hz1 : (wrD (cutD ls k).1 l).2.1 = [] := by rw [hst]
                have hg1 : ¬ (0 : Int) < ((wrD (cutD ls k).1 l).2.2 : Int) := by omega
                have hg2 : ¬ (0 : Int) < ((wrD (cutD ls k).1 l).2.1.length : Int) := by rw [hz1]; simp
                clear hfull hstop her hst hz1 hz2 hck
                go_wp2_with fail
                refine (NUM _).mono ?_
                rintro e w' ⟨rfl, rfl⟩
                go_wp2_with (at_builtin; refine wpList_appendA (by rfl) _ _ (by rfl) _ _ (by rfl) (by rfl) HG5.out HBody.out (by omega) (by omega) ?_; intro v6 w6 hO6 hgrow hat)
                go_wp2_with fail
                refine (NUM _).mono ?_
                rintro e w' ⟨rfl, rfl⟩
                go_wp2_with fail
                go_roundw
                case rel => exact (by have h := cut_more HL.out hlt HX.out HGot.out HV.out HOn.out HD3.out HX3.out HO3.out hO6 hgrow hat; rw [HZ.out] at h; simpa using h)
                case measure => simp [intOf]; omega
          · have hcd : cutD ls k = wrD Dc.new (flatK ls) := by unfold cutD; rw [List.take_of_length_le (by omega)]
            rw [hcd] at hD ho
            rw [hcd]
            have hwok := wrD_ok (flatK ls) ok_new
            have hso : (wrD Dc.new (flatK ls)).1.out.length ≤ 64 := by
              have := hwok.b8
              unfold Dc.out; split
              · exact this
              · simp
            have hb8 := hwok.b8
            generalize wrD Dc.new (flatK ls) = R at *
            have HWx := Lib.hid (HOW.out.only hOn (fun j h1 h2 => by
              have h3 := (World.ownsRow.lt HOW.out j h1).1
              have := HSa.out
              have := HS2.out
              omega))
            have HDx := Lib.hid (HD1.out.only hOn (fun j h1 h2 => by
              have := HSa.out
              have := HS2.out
              rcases HX1.out j h1 with h | h <;> omega))
            have BY := Lib.hid (bytes7_any _ _ _ _ wr ho.reads HWx.out.reads)
            rw [decide_eq_true rfl] at BY
            have DA := Lib.hid (done_any wr HDx.out)
            have DB := Lib.hid (done_any wr hD)
            have TA := Lib.hid (trailers_any wr HDx.out hb8)
            have TB := Lib.hid (fun w7 (hb : Below wr.heap.size wr w7) => trailers_any w7 (hD.below hb) hb8)
            have hB4x' := Lib.hid (HB14.out.trans hB4x)
            have NUMe := fun W => num_errK R.1.er W
            obtain ⟨ga, gc, rfl⟩ := ho.isSlice
            generalize R.1.out = O at *
            generalize decide (R.1.pl = 8) = bb at *
            have hbb : (bb == bb) = true := beq_self_eq_true bb
            clear hD ho hcd hwok hb8 hv hOn hX hB4x hBx
            go_wp2_with fail
            refine BY.out.mono ?_
            rintro e w' ⟨rfl, rfl⟩
            by_cases hz : ls.length = 0
            · have hq : ((ls.length : Int) == 0) = true := by simp [hz]
              clear hz
              go_wp2_with fail
              refine DA.out.mono ?_
              rintro e w' ⟨rfl, rfl⟩
              go_wp2_with fail
              refine DB.out.mono ?_
              rintro e w' ⟨rfl, rfl⟩
              go_wp2_with fail
              refine TA.out.mono ?_
              rintro e w7 ⟨ta, rfl, hOa, hB7⟩
              have HB7 := Lib.hid hB7
              have HOa := Lib.hid hOa
              clear hOa hB7
              go_wp2_with fail
              refine (TB.out _ HB7.out).mono ?_
              rintro e w8 ⟨tb, rfl, hOb, hB8⟩
              have HB8 := Lib.hid hB8
              have HRf := Lib.hid (ref_any tb O w8 (OwnsP.q hOb) (by omega))
              clear hOb hB8
              go_wp2_with fail
              refine HRf.out.mono ?_
              rintro e w9 ⟨tr, rfl, hOr, hB9⟩
              have HA := Lib.hid (are_same ta tr O w9 (OwnsP.q ((HOa.out.below HB8.out).below hB9)) (OwnsP.q hOr) (by omega))
              have HB9 := Lib.hid (HB7.out.trans ((HB8.out.trans (hB9.mono HB8.out.size)).mono HB7.out.size))
              clear hOr hB9
              go_wp2_with fail
              refine HA.out.mono ?_
              rintro e w10 ⟨rfl, hB10⟩
              go_wp2_with fail
              go_ret
              have h9 := HB9.out.trans (hB10.mono HB9.out.size)
              exact ⟨rfl, HB1.out.trans ((hB4x'.out.trans (h9.mono hB4x'.out.size)).mono hs1)⟩
            · have hq : ((ls.length : Int) == 0) = false := by rw [beq_eq_false_iff_ne]; omega
              clear hz
              go_wp2_with fail
              refine (NUMe _).mono ?_
              rintro e w' ⟨rfl, rfl⟩
              go_wp2_with fail
              refine DA.out.mono ?_
              rintro e w' ⟨rfl, rfl⟩
              go_wp2_with fail
              refine DB.out.mono ?_
              rintro e w' ⟨rfl, rfl⟩
              go_wp2_with fail
              refine TA.out.mono ?_
              rintro e w7 ⟨ta, rfl, hOa, hB7⟩
              have HB7 := Lib.hid hB7
              have HOa := Lib.hid hOa
              clear hOa hB7
              go_wp2_with fail
              refine (TB.out _ HB7.out).mono ?_
              rintro e w8 ⟨tb, rfl, hOb, hB8⟩
              have HB8 := Lib.hid hB8
              have HRf := Lib.hid (ref_any tb O w8 (OwnsP.q hOb) (by omega))
              clear hOb hB8
              go_wp2_with fail
              refine HRf.out.mono ?_
              rintro e w9 ⟨tr, rfl, hOr, hB9⟩
              have HA := Lib.hid (are_same ta tr O w9 (OwnsP.q ((HOa.out.below HB8.out).below hB9)) (OwnsP.q hOr) (by omega))
              have HB9 := Lib.hid (HB7.out.trans ((HB8.out.trans (hB9.mono HB8.out.size)).mono HB7.out.size))
              clear hOr hB9
              go_wp2_with fail
              refine HA.out.mono ?_
              rintro e w10 ⟨rfl, hB10⟩
              go_wp2_with fail
              go_ret
              have h9 := HB9.out.trans (hB10.mono HB9.out.size)
              exact ⟨rfl, HB1.out.trans ((hB4x'.out.trans (h9.mono hB4x'.out.size)).mono hs1)⟩
end Go.Proofs.YtgbcpheccaldlaaDoor
