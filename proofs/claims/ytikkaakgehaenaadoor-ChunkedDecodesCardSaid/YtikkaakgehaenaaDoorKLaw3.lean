/- ChunkedDecodes: for all parts the statement's function returns true: the walk. -/
import Derived.Test.YtikkaakgehaenaaDoorKLaw2
import Derived.Test.YtikkaakgehaenaaDoorKRefX
namespace Go.Proofs.YtikkaakgehaenaaDoor
open Go.RowKit

/-- The bytes of a row, whatever they are. -/
def InB (g n : Nat) (w : World) : Prop := ∀ j, j < n → (∃ c : Int, w.cell? ⟨g, j, none⟩ = some (.int .u8 c)) ∧ w.frozen? ⟨g, j, none⟩ = false
theorem inB_own {B g cap : Nat} {w : World} {l : List UInt8} (h : OwnB B w (.slice (some ⟨g, 0, none⟩) l.length cap) l) : InB g l.length w := by
  intro j hj
  obtain ⟨c, hc⟩ : ∃ c, l[j]? = some c := ⟨l[j], by simp [hj]⟩
  obtain ⟨ao, cp, hv, _, _, _, hcc⟩ := h.reads
  obtain ⟨g', off, ha, _, h1⟩ := hcc j c hc
  simp only [Value.slice.injEq] at hv
  obtain ⟨hv1, _, _⟩ := hv
  rw [← hv1] at ha
  obtain ⟨rfl, rfl⟩ : g = g' ∧ 0 = off := by simpa using ha
  rw [Nat.zero_add] at h1
  refine ⟨⟨_, h1⟩, ?_⟩
  obtain ⟨_, hh | ⟨g2, cap2, cur, hv2, _, hg2, _⟩⟩ := h
  · simp at hh
  · have : g = g2 := by simpa [Value.ownBlock] using congrArg Value.ownBlock hv2
    subst this
    exact Lib.frozen_of_heap hg2 j
theorem inB_set {g n m : Nat} {w : World} (h : InB g n w) (hm : m < n) (z : Int) : InB g n (w.setCell ⟨g, m, none⟩ (.int .u8 z)) := by
  intro j hj
  obtain ⟨⟨c, hc⟩, hf⟩ := h j hj
  obtain ⟨⟨d, hd⟩, _⟩ := h m hm
  refine ⟨?_, by simpa using hf⟩
  by_cases e : j = m
  · subst e; exact ⟨z, by rw [World.cell?_setCell_same (h := hd)]⟩
  · exact ⟨c, by rw [World.cell?_setCell_other (h := fun h => e (by simpa using congrArg Addr.off h.symm))]; exact hc⟩
theorem own_form {B cap : Nat} {va : Option Addr} {w : World} {l : List UInt8} (h : OwnB B w (.slice va l.length cap) l) (hne : l ≠ []) : ∃ g, va = some ⟨g, 0, none⟩ := by
  obtain ⟨_, ⟨_, hh⟩ | ⟨g2, cap2, cur, hv2, _⟩⟩ := h
  · exact absurd (List.eq_nil_of_length_eq_zero hh) hne
  · simp only [Value.slice.injEq] at hv2
    exact ⟨g2, hv2.1⟩
theorem inB_of {B cap g : Nat} {va : Option Addr} {w : World} {l : List UInt8} (h : OwnB B w (.slice va l.length cap) l) (hg : (Value.slice va l.length cap).ownBlock = some g) : InB g l.length w := by
  by_cases hne : l = []
  · subst hne; intro j hj; simp at hj
  · obtain ⟨g2, rfl⟩ := own_form h hne
    obtain rfl : g2 = g := by simpa [Value.ownBlock] using hg
    exact inB_own h
/-- What region 14 leaves. -/
def DcMeet (fv : Value) (q : Rs) (out : List UInt8) (N : Nat) (ga : Option Addr) (gn gc : Nat) (ov : Value) (w6 wx : World) : Prop :=
  (∀ j, (Value.slice ga gn gc).ownBlock = some j → j < wx.heap.size ∧ (fv.ownBlock = some j ∨ w6.heap.size ≤ j)) ∧ w6.heap.size ≤ N ∧ StAt N q (.slice ga gn gc) wx ∧ ReadsQ wx (.slice ga gn gc) q.fs ∧ Sane (.slice ga gn gc) ∧ OwnB w6.heap.size wx ov out ∧ Below w6.heap.size w6 wx
theorem dcMeet_one {fv : Value} {q : Rs} {out : List UInt8} {w6 wS W : World} {ga : Option Addr} {gn gc : Nat} {ov : Value} (hR : ReadsQ wS (.slice ga gn gc) q.fs) (hS : Sane (.slice ga gn gc)) (hO : OwnB W.heap.size wS ov out) (hb : Below w6.heap.size w6 wS) (hW : w6.heap.size ≤ W.heap.size) (hsep : ∀ j, (Value.slice ga gn gc).ownBlock = some j → j < wS.heap.size ∧ (fv.ownBlock = some j ∨ W.heap.size ≤ j)) :
    DcMeet fv q out wS.heap.size ga gn gc ov w6 (wS.alloc (.cells (stC q (.slice ga gn gc)) 47)) :=
  ⟨fun j hj => ⟨by have := (hsep j hj).1; simp; omega, (hsep j hj).2.imp (fun h => h) (fun h => Nat.le_trans hW h)⟩, hb.size, heap_alloc_new wS _, hR.below (below_new _ _), hS, OwnB.mono hW (hO.below (below_new _ _)), hb.alloc hb.size _⟩
theorem dcMeet_two {fv : Value} {q : Rs} {out : List UInt8} {w6 wS W wF : World} {ga : Option Addr} {gn gc : Nat} {ov : Value} (hR : ReadsQ wS (.slice ga gn gc) q.fs) (hS : Sane (.slice ga gn gc)) (hO : OwnB W.heap.size wS ov out) (hb : Below w6.heap.size w6 wS) (hst : StAt w6.heap.size rs0 (.slice none 0 0) wS) (hF : Only (fun k => k = w6.heap.size) wS wF) (hT : StAt w6.heap.size q (.slice ga gn gc) wF) (hW : w6.heap.size < W.heap.size) (hsep : ∀ j, (Value.slice ga gn gc).ownBlock = some j → j < wS.heap.size ∧ (fv.ownBlock = some j ∨ W.heap.size ≤ j)) :
    DcMeet fv q out w6.heap.size ga gn gc ov w6 wF := by
  have hh : wS.heap[w6.heap.size]? = some (.cells (stC rs0 (.slice none 0 0)) 47 (0, 0)) := hst
  exact ⟨fun j hj => ⟨Nat.lt_of_lt_of_le (hsep j hj).1 hF.size, (hsep j hj).2.imp (fun h => h) (fun h => by omega)⟩, Nat.le_refl _, hT, reads_not_box hh hR hF, hS, OwnB.mono (Nat.le_of_lt hW) (hO.only hF (fun j h1 h2 => by have := (World.ownsRow.lt hO j h1).1; omega)), hb.trans (hF.to (fun k hk => by omega) hb.size)⟩
def DecRel (ls : List (List UInt8)) (P S : Nat) (w4 : World) (i : Value) (wr : World) : Prop :=
  ∃ k X r fa fn fc, i = .int .i64 ((k : Nat) : Int) ∧ k ≤ ls.length ∧ Dec P P X (cutD ls k).1 wr ∧ (∀ j, X j → j = P ∨ w4.heap.size ≤ j) ∧ StAt S r (.slice fa fn fc) wr ∧ RelS (cutD ls k).1 r ∧ (r.bad = 0 → RsOk r) ∧ ReadsQ wr (.slice fa fn fc) r.fs ∧ Sane (.slice fa fn fc) ∧ (∀ j, (Value.slice fa fn fc).ownBlock = some j → j < wr.heap.size ∧ ¬ X j) ∧ Only (fun j => j = P ∨ j = S) w4 wr
/-- What stands behind region 15. -/
structure DcNext (D : Dc) (l : List UInt8) (q : Rs) (P S : Nat) (X3 : Nat → Prop) (ga : Option Addr) (gn gc : Nat) (vb ov : Value) (wx wy : World) : Prop where
  st : StAt S q (.slice ga gn gc) wy
  dec : Dec P P X3 (wrD D l).1 wy
  rd : ReadsQ wy (.slice ga gn gc) q.fs
  b1 : ReadsD wy vb (wrD D l).2.1
  b2 : ReadsD wy ov (wrD D l).2.1
  on : Only (fun j => j = S) wx wy
theorem dcNext {D : Dc} {l : List UInt8} {r q : Rs} {P S C C2 : Nat} {X3 : Nat → Prop} {ga fa : Option Addr} {gn gc fn fc : Nat} {vb ov : Value} {wx wy : World} (hst : StAt S r (.slice fa fn fc) wx) (hD : Dec P P X3 (wrD D l).1 wx) (hR : ReadsQ wx (.slice ga gn gc) q.fs) (h1 : OwnB C wx vb (wrD D l).2.1) (h2 : OwnB C2 wx ov (wrD D l).2.1) (hC : S < C) (hC2 : S < C2) (_hP : P ≤ S) (hX : ∀ j, X3 j → ¬ j = S)
    (hF : Only (fun j => j = S) wx wy) (hT : StAt S q (.slice ga gn gc) wy) : DcNext D l q P S X3 ga gn gc vb ov wx wy := by
  have hh : wx.heap[S]? = some (.cells (stC r (.slice fa fn fc)) 47 (0, 0)) := hst
  exact ⟨hT, hD.only hF hX, reads_not_box hh hR hF, (h1.only hF (fun j hj e => by have := (World.ownsRow.lt h1 j hj).1; omega)).reads, (h2.only hF (fun j hj e => by have := (World.ownsRow.lt h2 j hj).1; omega)).reads, hF⟩
/-- A round of the loop. -/
theorem dec_round {ls : List (List UInt8)} {k : Nat} {l : List UInt8} {X X3 : Nat → Prop} {q : Rs} {fa ga : Option Addr} {fn fc gn gc P S : Nat} {vb ov : Value} {w4 wr w2 w5 w6 wx wy wF : World}
    (hm : cutD ls (k + 1) = ((wrD (cutD ls k).1 l).1, (cutD ls k).2.1 ++ (wrD (cutD ls k).1 l).2.1, (cutD ls k).2.2 + (wrD (cutD ls k).1 l).2.2)) (hlt : k < ls.length) (hX : ∀ j, X j → j = P ∨ w4.heap.size ≤ j) (hX3 : ∀ j, X3 j → X j ∨ w2.heap.size ≤ j) (hD : Dec P P X (cutD ls k).1 wr) (hD3 : Dec P P X3 (wrD (cutD ls k).1 l).1 w5)
    (hsp : ∀ j, (Value.slice fa fn fc).ownBlock = some j → j < wr.heap.size ∧ ¬ X j) (hsep : ∀ j, (Value.slice ga gn gc).ownBlock = some j → j < wx.heap.size ∧ ((Value.slice fa fn fc).ownBlock = some j ∨ w6.heap.size ≤ j)) (hOn : Only (fun j => j = P ∨ j = S) w4 wr) (hY : Only (fun j => X j ∨ wr.heap.size ≤ j) wr w6) (hBN : Below w6.heap.size w6 wx)
    (hN : DcNext (cutD ls k).1 l q P S X3 ga gn gc vb ov wx wy) (hrel : RelS (wrD (cutD ls k).1 l).1 q) (hok : q.bad = 0 → RsOk q) (hS : Sane (.slice ga gn gc)) (_hPS : P < w4.heap.size) (h2 : wr.heap.size ≤ w2.heap.size) (h5 : w5.heap.size ≤ w6.heap.size) (hF : Below wy.heap.size wy wF) :
    DecRel ls P S w4 (.int .i64 ((k : Int) + 1)) wF := by
  have hs4 := hOn.size
  have hsx := hN.on.size
  have hsF := hF.size
  refine ⟨k + 1, X3, q, ga, gn, gc, by go_num, hlt, ?_, ?_, hN.st.below hF, ?_, hok, hN.rd.below hF, hS, ?_, ?_⟩
  · rw [hm]; exact hN.dec.below hF
  · intro j hj
    rcases hX3 j hj with h | h
    · exact hX j h
    · exact .inr (by omega)
  · rw [hm]; exact hrel
  · intro j hj
    obtain ⟨h1, h3⟩ := hsep j hj
    refine ⟨by omega, fun hx => ?_⟩
    rcases h3 with h3 | h3
    · have h4 := hsp j h3
      rcases hX3 j hx with h | h
      · exact h4.2 h
      · have := h4.1; omega
    · have := (hD3.lt.2.2 j hx).2; omega
  · refine (((hOn.trans hY (fun j hj => ?_)).trans' (Only.below hBN)).trans hN.on (fun j hj => .inl (.inr hj))).trans' (Only.below hF)
    rcases hj with h | h
    · exact (hX j h).imp (fun h => .inl h) (fun h => h)
    · exact .inr (by omega)
set_option maxHeartbeats 8000000 in
set_option maxRecDepth 100000 in
theorem ck_decodes_walk (v : Value) (ls : List (List UInt8)) (w : World) (hM : HasMax w) (hr : ReadsL w v ls) (hl : ls.length ≤ maxLen) (hb : ∀ l ∈ ls, l.length ≤ 140737488355328) :
    Calls Tryd.prog 4 #[v] w fun e w' => e = .returned (.bool true) ∧ Below w.heap.size w w' := by
  unfold maxLen at hl
  have HM := Lib.hid hM
  have HR := Lib.hid hr
  have F := Lib.hid (fun W hr => fits7_any v ls W hr (by omega) hb)
  obtain ⟨ao, cap, rfl, hc⟩ := hr
  clear hc hb hM
  go_enter Tryd.func4, Tryd.ntmps4
  go_wp2_with fail
  refine (awake7_any _ HM.out).mono ?_
  rintro e w1 ⟨rfl, hB1⟩
  go_wp2_with fail
  refine (F.out _ (HR.out.below hB1)).mono ?_
  rintro e w' ⟨rfl, rfl⟩
  cases hfit : fits7B ls with
  | false =>
    go_wp2_with fail
    refine (awake7_any _ (HM.out.below hB1)).mono ?_
    rintro e w2 ⟨rfl, hB2⟩
    go_wp2_with fail
    go_ret
    exact ⟨rfl, hB1.trans (hB2.mono hB1.size)⟩
  | true =>
    obtain ⟨hf1, hf2⟩ := of_decide_eq_true hfit
    clear hfit
    have HR1 := Lib.hid (HR.out.below hB1)
    have HB1 := Lib.hid hB1
    have hs1 := hB1.size
    have HM1 := Lib.hid (MaxB.of (HM.out.below hB1))
    clear hB1
    go_wp2_with fail
    refine (new_any w1).mono ?_
    rintro e wa ⟨rfl, hDa, hBa, hsa⟩
    have HDa := Lib.hid hDa
    have HBa := Lib.hid hBa
    have HSa := Lib.hid hsa
    have hb4 := HBa.out.alloc HBa.out.size (.cells #[.int .i64 0, .int .i64 0, .int .i64 0, .int .i64 0, .int .i64 0, .int .i64 0, .int .i64 0, .string ⟨#[]⟩, .slice none 0 0, .int .i64 0] 47)
    have HB4 := Lib.hid hb4
    have HD4 := Lib.hid (hDa.alloc (.cells #[.int .i64 0, .int .i64 0, .int .i64 0, .int .i64 0, .int .i64 0, .int .i64 0, .int .i64 0, .string ⟨#[]⟩, .slice none 0 0, .int .i64 0] 47))
    have HS4 : Hid (StAt wa.heap.size rs0 (.slice none 0 0) (wa.alloc (.cells #[.int .i64 0, .int .i64 0, .int .i64 0, .int .i64 0, .int .i64 0, .int .i64 0, .int .i64 0, .string ⟨#[]⟩, .slice none 0 0, .int .i64 0] 47))) := Lib.hid (heap_alloc_new wa _)
    have hsz4 : (wa.alloc (.cells #[.int .i64 0, .int .i64 0, .int .i64 0, .int .i64 0, .int .i64 0, .int .i64 0, .int .i64 0, .string ⟨#[]⟩, .slice none 0 0, .int .i64 0] 47)).heap.size = w1.heap.size + 2 := by simp; omega
    have HZ4 := Lib.hid hsz4
    clear hDa hBa hsa hb4 hsz4
    go_wp2_with fail
    generalize hw4 : wa.alloc (.cells #[.int .i64 0, .int .i64 0, .int .i64 0, .int .i64 0, .int .i64 0, .int .i64 0, .int .i64 0, .string ⟨#[]⟩, .slice none 0 0, .int .i64 0] 47) = w4 at *
    go_loopw [5] (fun i wr => DecRel ls w1.heap.size wa.heap.size w4 i wr) (fun i _ => ls.length - (intOf i).toNat)
    case atStart => exact ⟨0, fun j => j = w1.heap.size, rs0, none, 0, 0, rfl, Nat.zero_le _, HD4.out, fun _ h => .inl h, HS4.out, rel_new, fun _ => rsok_new, ⟨none, 0, rfl, fun j p h => by simp [rs0] at h⟩, fun a n c e => by cases e; exact ⟨Nat.le_refl _, fun _ => rfl⟩, fun j h => (by cases h), Only.refl _ _⟩
    case round =>
      obtain ⟨k, X, r, fa, fn, fc, rfl, hk, hD, hX, hst, hrel, hok, hRq, hSn, hsp, hOn⟩ := hrel
      have hS1 : wa.heap.size = w1.heap.size + 1 := HSa.out
      have HS1 := Lib.hid hS1
      clear hS1
      have hB4x : Below w1.heap.size w4 wr := hOn.to (fun j hj => by have := HS1.out; omega) (by have := HZ4.out; omega)
      have HBx := Lib.hid (HB4.out.trans hB4x)
      have hcl := cutD_le k hf2
      by_cases hlt : k < ls.length
      · obtain ⟨l, hl'⟩ : ∃ l, ls[k]? = some l := ⟨ls[k], by simp [hlt]⟩
        obtain ⟨ao', cap', hv', hc'⟩ := HR1.out
        obtain ⟨g, off, x, hao, hg, hcell, hx⟩ := hc' k l hl'
        simp only [Value.slice.injEq] at hv'
        obtain ⟨rfl, _, rfl⟩ := hv'
        subst hao
        have hcx := (HBx.out.cell (p := ⟨g, off + k, none⟩) hg).trans hcell
        have hsl := sumL_mem (List.mem_of_getElem? hl')
        have hxr := hx.below HBx.out
        have hm := cutD_more hl'
        have hrl := wr_rel l hrel (cutD_ok ls k)
        have hwl := wrD_len l (cutD ls k).1
        have HX := Lib.hid hX
        have HXR := Lib.hid hxr
        have HSP := Lib.hid hsp
        have HST := Lib.hid hst
        have HRq := Lib.hid hRq
        have HSn := Lib.hid hSn
        have HOK := Lib.hid hok
        have HRL := Lib.hid hrl
        have HMo := Lib.hid hm
        have HOn := Lib.hid hOn
        have HD := Lib.hid hD
        have hgx : g < w1.heap.size := hg
        have HCE := Lib.hid hcell
        have HXR1 := Lib.hid hx
        have hw14 : w1.heap.size + 2 ≤ wr.heap.size := by have := hOn.size; have := HZ4.out; omega
        have hown0 : OwnB wr.heap.size (wr.alloc (.cells #[] 5)) (.slice (some ⟨wr.heap.size, 0, none⟩) 0 0) [] := World.ownsRow_made wr #[] 0 (Nat.le_refl _) (Nat.zero_le _) (by simp)
        have HOwn0 := Lib.hid hown0
        have HXR2 := Lib.hid (hxr.below (below_new wr (.cells #[] 5)))
        have hll : l.length ≤ 12000 := by omega
        have hcx2 := ((below_new wr (.cells #[] 5)).cell (p := ⟨g, off + k, none⟩) (by show g < wr.heap.size; omega)).trans hcx
        clear hl' hc' hcell hx hX hsp hst hRq hSn hok hrl hm hOn hD hxr hown0 hrel hcl hg
        obtain ⟨xa, xc, rfl, _⟩ := id HXR.out
        go_wp2_with (at_builtin; refine wpList_appendA (by rfl) _ _ (by rfl) _ _ (by rfl) (by rfl) HOwn0.out HXR2.out (by simp; omega) (by simp) ?_; intro v' w2 hO2 hgrow hat)
        have hg2 : Only (fun j => j = wr.heap.size) wr w2 := (Only.alloc _ wr _).trans' (Only.grown hgrow (fun j hj => .inl (Option.some.inj hj).symm))
        have hsz2 := hg2.size
        have HG2 := Lib.hid hg2
        have HD2 := Lib.hid (HD.out.only hg2 (fun j hj e => by have := (HD.out.lt.2.2 j hj).2; omega))
        have HO2 := Lib.hid hO2
        have HBx2 := Lib.hid (HBx.out.trans (hg2.to (B := w1.heap.size) (fun j hj => by omega) (by omega)))
        have hvown : ∀ j, v'.ownBlock = some j → wr.heap.size ≤ j := fun j hj => (World.ownsRow.lt hO2 j hj).1
        have HVO := Lib.hid hvown
        have W := Lib.hid (decWrite_any v' l w2 HD2.out (MaxB.to HM1.out HBx2.out) (cutD_ok ls k) hO2.reads (fun _ j h1 h2 => by have := hvown j h1; have := (HD.out.lt.2.2 j h2).2; omega) (by omega))
        obtain ⟨va, vc, rfl⟩ := hO2.isSlice
        clear hO2 hgrow hat hg2 hvown hcx2 hcx
        go_wp2_with fail
        refine W.out.mono ?_
        rintro e w5 ⟨vb, X3, rfl, hD3, hX3, hO3, ho3, hv3⟩
        have HD3 := Lib.hid hD3
        have HX3 := Lib.hid hX3
        have HO3 := Lib.hid hO3
        have HV3 := Lib.hid ho3
        have HNX3 := Lib.hid hv3
        have HIn := Lib.hid (HO2.out.only hO3 (fun j h1 h2 => by have := HVO.out j h1; have := (HD.out.lt.2.2 j h2).2; omega))
        have hs25 := hO3.size
        obtain ⟨ba, bc, rfl⟩ := ho3.isSlice
        clear hD3 hX3 hO3 ho3 hv3
        go_wp2_with fail
        go_loopw [10] (fun i wq => ∃ m : Nat, i = .int .i64 (m : Int) ∧ m ≤ l.length ∧ (l ≠ [] → ∀ g', (Value.slice va l.length vc).ownBlock = some g' → InB g' l.length wq) ∧ Only (fun j => (Value.slice va l.length vc).ownBlock = some j) w5 wq) (fun i _ => l.length - (intOf i).toNat)
        case atStart => exact ⟨0, rfl, Nat.zero_le _, fun hne g' hg' => inB_of HIn.out hg', Only.refl _ _⟩
        case round =>
          obtain ⟨m, rfl, hm, hIn, hOq⟩ := hrel
          by_cases hlm : m < l.length
          · have hne : l ≠ [] := by rintro rfl; simp at hlm
            obtain ⟨g2, rfl⟩ : ∃ g2, va = some ⟨g2, 0, none⟩ := own_form HIn.out hne
            have hI := hIn hne g2 rfl
            obtain ⟨⟨cz, hcz⟩, hfz⟩ := hI m hlm
            have HI := Lib.hid hI
            have HOq := Lib.hid hOq
            clear hIn hI hOq
            go_wp2_with fail
            go_roundw
            case rel => exact ⟨m + 1, by go_num, by omega, fun _ g' hg' => by cases hg'; exact inB_set HI.out hlm _, HOq.out.trans' (Only.set (X := fun j => (Value.slice (some ⟨g2, 0, none⟩) l.length vc).ownBlock = some j) (b := g2) rfl _ _ _)⟩
            case measure => simp [intOf]; omega
          · rename World => w6
            have hY : Only (fun j => X j ∨ wr.heap.size ≤ j) wr w6 := ((HG2.out.mono (fun j hj => Or.inr (by omega))).trans' (HO3.out.mono (fun j hj => Or.inl hj))).trans' (hOq.mono (fun j hj => Or.inr (HVO.out j hj)))
            have hXP : ∀ j, X j → j = w1.heap.size ∨ w1.heap.size + 2 ≤ j := fun j hj => (HX.out j hj).imp (fun h => h) (fun h => by have := HZ4.out; omega)
            have hS1 := HS1.out
            have hS6 : ¬ (X wa.heap.size ∨ wr.heap.size ≤ wa.heap.size) := by
              rintro (h | h)
              · rcases hXP _ h with e | e <;> omega
              · omega
            have hst6 : StAt wa.heap.size r (.slice fa fn fc) w6 := (hY.block _ (by omega) hS6).trans HST.out
            have hR6 : ReadsQ w6 (.slice fa fn fc) r.fs := reads_only HRq.out (fun j hj => by rintro (h | h); exact (HSP.out j hj).2 h; have := (HSP.out j hj).1; omega) hY
            have hB6 : Below w1.heap.size w1 w6 := HBx.out.trans (hY.to (fun j hj => by rcases hj with h | h; rcases hXP j h with e | e <;> omega; omega) (by omega))
            have hx6 : ReadsD w6 (.slice xa l.length xc) l := HXR1.out.below hB6
            have hc6 : w6.cell? ⟨g, off + k, none⟩ = some (.slice xa l.length xc) := (hB6.cell (p := ⟨g, off + k, none⟩) hgx).trans HCE.out
            have hD6 := HD3.out.only hOq (fun j h1 h2 => by
              have h3 := (World.ownsRow.lt HO2.out j h2)
              rcases HX3.out j h1 with h | h
              · have := (HD.out.lt.2.2 j h).2; omega
              · omega)
            have hV6 := HV3.out.only hOq (fun j h1 h2 => by have h3 := (World.ownsRow.lt HO2.out j h2); have := (World.ownsRow.lt HV3.out j h1).1; omega)
            have hs6 := hY.size
            have hsl6 : ∀ j, (Value.slice fa fn fc).ownBlock = some j → j < w6.heap.size := fun j hj => Nat.lt_of_lt_of_le (HSP.out j hj).1 hs6
            have WP := Lib.hid (fun W (hb : Below w6.heap.size w6 W) => refWrite_any (.slice fa fn fc) r fa fn fc (.slice xa l.length xc) l W HOK.out (hR6.below hb) HSn.out (fun j hj => Nat.lt_of_lt_of_le (hsl6 j hj) hb.size) (hx6.below hb) (by omega) (fun j hj => hj))
            have WPA : Hid (Calls Tryd.prog 21 #[stV r (.slice fa fn fc), .slice xa l.length xc] (w6.alloc (.cells #[.int .i64 0, .int .i64 0, .int .i64 0, .int .i64 0, .int .i64 0, .int .i64 0, .int .i64 0, .string ⟨#[]⟩, .slice none 0 0, .int .i64 0] 47)).drew fun e w' => WrPost (.slice fa fn fc) r l (w6.alloc (.cells #[.int .i64 0, .int .i64 0, .int .i64 0, .int .i64 0, .int .i64 0, .int .i64 0, .int .i64 0, .string ⟨#[]⟩, .slice none 0 0, .int .i64 0] 47)).drew e w' ∧ StAt w6.heap.size rs0 (.slice none 0 0) w' ∧ TenZ w6.heap.size w') :=
              Lib.hid ((WP.out _ (below_new w6 _).drew).mono fun e w' ⟨ga, gn, gc, ov, h0, he, h1, h2, h4, h3⟩ => ⟨⟨ga, gn, gc, ov, h0, he, h1, h2, h4, h3⟩, StAt.below (heap_alloc_new w6 _) (((Below.refl _ _).drew).trans h3), ten_atE (W := w6) (((Below.refl _ _).drew).trans h3) rfl⟩)
            obtain ⟨d0, d1, d2, d3, d4, d5, d6, d7, d8, d9, _⟩ := hst6.cells
            have hAw : wa.heap.size < w6.heap.size := hst6.lt
            have hgw : g < w6.heap.size := World.block_lt_of_cell? _ _ hc6
            have HST6 := Lib.hid hst6
            have HD6 := Lib.hid hD6
            have HV6 := Lib.hid hV6
            have HB6 := Lib.hid hB6
            have HY := Lib.hid hY
            have HR6 := Lib.hid hR6
            have HXP := Lib.hid hXP
            have HOq := Lib.hid hOq
            have hk0 : (0 : Int) ≤ (k : Int) := by omega
            have hkl : (k : Int) < (ls.length : Int) := by omega
            have HK : Hid (∀ W, Below w6.heap.size w6 W → (Below w6.heap.size w6 W ∧ W.cell? ⟨wa.heap.size, 0, none⟩ = some (.int .i64 (r.p : Int)) ∧ W.cell? ⟨wa.heap.size, 1, none⟩ = some (.int .i64 (r.d : Int)) ∧ W.cell? ⟨wa.heap.size, 2, none⟩ = some (.int .i64 (r.n : Int)) ∧ W.cell? ⟨wa.heap.size, 3, none⟩ = some (.int .i64 (r.ln : Int)) ∧ W.cell? ⟨wa.heap.size, 4, none⟩ = some (.int .i64 (r.tt : Int)) ∧ W.cell? ⟨wa.heap.size, 5, none⟩ = some (.int .i64 (r.lf : Int)) ∧ W.cell? ⟨wa.heap.size, 6, none⟩ = some (.int .i64 (r.se : Int)) ∧ W.cell? ⟨wa.heap.size, 7, none⟩ = some (.string (strB r.tx)) ∧ W.cell? ⟨wa.heap.size, 8, none⟩ = some ((.slice fa fn fc)) ∧ W.cell? ⟨wa.heap.size, 9, none⟩ = some (.int .i64 (r.bad : Int)) ∧ W.cell? ⟨g, off + k, none⟩ = some (.slice xa l.length xc))) :=
              Lib.hid fun W hb => ⟨hb, (hb.cell (p := ⟨wa.heap.size, 0, none⟩) hAw).trans d0, (hb.cell (p := ⟨wa.heap.size, 1, none⟩) hAw).trans d1, (hb.cell (p := ⟨wa.heap.size, 2, none⟩) hAw).trans d2, (hb.cell (p := ⟨wa.heap.size, 3, none⟩) hAw).trans d3, (hb.cell (p := ⟨wa.heap.size, 4, none⟩) hAw).trans d4, (hb.cell (p := ⟨wa.heap.size, 5, none⟩) hAw).trans d5, (hb.cell (p := ⟨wa.heap.size, 6, none⟩) hAw).trans d6, (hb.cell (p := ⟨wa.heap.size, 7, none⟩) hAw).trans d7, (hb.cell (p := ⟨wa.heap.size, 8, none⟩) hAw).trans d8, (hb.cell (p := ⟨wa.heap.size, 9, none⟩) hAw).trans d9, (hb.cell (p := ⟨g, off + k, none⟩) hgw).trans hc6⟩
            clear hY hS1 hS6 hst6 hR6 hB6 hx6 hD6 hV6 hXP hIn hOq hsl6
            go_wp2_with fail
            go_cut [11, 12, 13] (fun u11 u12 u13 wx => ∃ N ga gn gc ov, u11 = .pointer (some ⟨N, 0, none⟩) ∧ u12 = ov ∧ u13 = .int .i64 ((wrR r l).2.2 : Int) ∧ DcMeet (.slice fa fn fc) (wrR r l).1 (wrR r l).2.1 N ga gn gc ov w6 wx)
            case first =>
              go_region_held3 (fun W => Below w6.heap.size w6 W ∧ W.cell? ⟨wa.heap.size, 0, none⟩ = some (.int .i64 (r.p : Int)) ∧ W.cell? ⟨wa.heap.size, 1, none⟩ = some (.int .i64 (r.d : Int)) ∧ W.cell? ⟨wa.heap.size, 2, none⟩ = some (.int .i64 (r.n : Int)) ∧ W.cell? ⟨wa.heap.size, 3, none⟩ = some (.int .i64 (r.ln : Int)) ∧ W.cell? ⟨wa.heap.size, 4, none⟩ = some (.int .i64 (r.tt : Int)) ∧ W.cell? ⟨wa.heap.size, 5, none⟩ = some (.int .i64 (r.lf : Int)) ∧ W.cell? ⟨wa.heap.size, 6, none⟩ = some (.int .i64 (r.se : Int)) ∧ W.cell? ⟨wa.heap.size, 7, none⟩ = some (.string (strB r.tx)) ∧ W.cell? ⟨wa.heap.size, 8, none⟩ = some ((.slice fa fn fc)) ∧ W.cell? ⟨wa.heap.size, 9, none⟩ = some (.int .i64 (r.bad : Int)) ∧ W.cell? ⟨g, off + k, none⟩ = some (.slice xa l.length xc))
                ((refine HK.out _ ?_; (repeat' (first | (with_reducible assumption) | (with_reducible exact Below.refl _ _) | (with_reducible apply bel_allocE) | (with_reducible apply Below.drew) | (with_reducible apply bel_ten) | omega))))
                (first
                  | (go_at_call 21; (with_reducible refine WPA.out.mono ?_); rintro e wS ⟨⟨ga, gn, gc, ov, hsep, rfl, hRS, hSS, hOS, hBS⟩, hSTz, y0, x0, y1, x1, y2, x2, y3, x3, y4, x4, y5, x5, y6, x6, y7, x7, y8, x8, y9, x9⟩; have hBSS : Below w6.heap.size w6 wS := Below.trans (And.left ‹_›) (hBS.mono (Below.size (And.left ‹_›))))
                  | (go_at_call 21; (with_reducible refine (WP.out _ (And.left ‹_›)).mono ?_); rintro e wS ⟨ga, gn, gc, ov, hsep, rfl, hRS, hSS, hOS, hBS⟩; have hBSS : Below w6.heap.size w6 wS := Below.trans (And.left ‹_›) (hBS.mono (Below.size (And.left ‹_›)))))
              all_goals (try go_wp2_with fail)
              all_goals go_meet
              · exact ⟨_, ga, gn, gc, ov, rfl, rfl, rfl, dcMeet_one hRS hSS hOS hBSS (by simp) hsep⟩
              · exact ⟨_, ga, gn, gc, ov, rfl, rfl, rfl, dcMeet_two hRS hSS hOS hBSS hSTz (only_ten _ _ _ _ _ _ _ _ _ _ _ _) (stAt_ten hSTz) (by simp) hsep⟩
            case rest =>
              rename World => wx
              obtain ⟨N, ga, gn, gc, ov, rfl, hov, rfl, hmeet⟩ := hcut
              subst hov
              obtain ⟨hsep, hN, hstN, hRN, hSN, hON, hBN⟩ := hmeet
              have hrel2 := HRL.out.1
              have heq := HRL.out.2
              have hq1 : (wrR r l).2.1 = (wrD (cutD ls k).1 l).2.1 := by rw [heq]
              have hq2 : (wrR r l).2.2 = (wrD (cutD ls k).1 l).2.2 := by rw [heq]
              have hokq : (wrR r l).1.bad = 0 → RsOk (wrR r l).1 := fun h0 => by
                by_cases hb : r.bad = 0
                · exact wrR_ok l (HOK.out hb) h0
                · rw [wrR_stop (.inl hb)] at h0; exact absurd h0 hb
              have hstx : StAt wa.heap.size r (.slice fa fn fc) wx := HST6.out.below hBN
              have hDx := HD6.out.below hBN
              have hVx := HV6.out.below hBN
              have hBx1 := HB6.out.trans (hBN.mono HB6.out.size)
              obtain ⟨n0, n1, n2, n3, n4, n5, n6, n7, n8, n9, _⟩ := hstN.cells
              obtain ⟨m0, m1, m2, m3, m4, m5, m6, m7, m8, m9, bf⟩ := hstx.cells
              have y0 := bf 0
              have y1 := bf 1
              have y2 := bf 2
              have y3 := bf 3
              have y4 := bf 4
              have y5 := bf 5
              have y6 := bf 6
              have y7 := bf 7
              have y8 := bf 8
              have y9 := bf 9
              have HQ2 := Lib.hid hq2
              rw [hq1] at hON
              have htk : (((wrD (cutD ls k).1 l).2.2 : Int) != ((wrR r l).2.2 : Int)) = false := by rw [hq2]; simp
              generalize hqq : (wrR r l).1 = q at *
              have HREL := Lib.hid hrel2
              have HOKQ := Lib.hid hokq
              have HSEP := Lib.hid hsep
              have HSTX := Lib.hid hstx
              have HDX := Lib.hid hDx
              have HVX := Lib.hid hVx
              have HBX1 := Lib.hid hBx1
              have HRN := Lib.hid hRN
              have HSNN := Lib.hid hSN
              have HON := Lib.hid hON
              have HBN := Lib.hid hBN
              have hszx := hBN.size
              clear bf hq1 hq2 hrel2 heq hokq hsep hstx hDx hVx hBx1 hRN hSN hON hBN hstN d0 d1 d2 d3 d4 d5 d6 d7 d8 d9 HK WP WPA hc6
              have hS1 := HS1.out
              have HO10 : Hid (∀ wy, Only (fun j => j = wa.heap.size) wx wy → StAt wa.heap.size q (.slice ga gn gc) wy → DcNext (cutD ls k).1 l q w1.heap.size wa.heap.size X3 ga gn gc (.slice ba (wrD (cutD ls k).1 l).2.1.length bc) u12 wx wy) := Lib.hid (fun wy hF hT =>
                dcNext HSTX.out HDX.out HRN.out HVX.out HON.out (by omega) (by omega) (by omega) (fun j hj e => by
                  rcases HX3.out j hj with h | h
                  · rcases HXP.out j h with e2 | e2 <;> omega
                  · omega) hF hT)
              clear hS1
              go_upto_region 16 with (fail)
              generalize hwy : ((((((((((wx.setCell ⟨wa.heap.size, 0, none⟩ (.int .i64 (q.p : Int))).setCell ⟨wa.heap.size, 1, none⟩ (.int .i64 (q.d : Int))).setCell ⟨wa.heap.size, 2, none⟩ (.int .i64 (q.n : Int))).setCell ⟨wa.heap.size, 3, none⟩ (.int .i64 (q.ln : Int))).setCell ⟨wa.heap.size, 4, none⟩ (.int .i64 (q.tt : Int))).setCell ⟨wa.heap.size, 5, none⟩ (.int .i64 (q.lf : Int))).setCell ⟨wa.heap.size, 6, none⟩ (.int .i64 (q.se : Int))).setCell ⟨wa.heap.size, 7, none⟩ (.string (strB q.tx))).setCell ⟨wa.heap.size, 8, none⟩ (.slice ga gn gc)).setCell ⟨wa.heap.size, 9, none⟩ (.int .i64 (q.bad : Int))) = wy
              have HN := Lib.hid (HO10.out wy (hwy ▸ only_ten _ _ _ _ _ _ _ _ _ _ _ _) (hwy ▸ stAt_ten HSTX.out))
              clear hwy n0 n1 n2 n3 n4 n5 n6 n7 n8 n9 m0 m1 m2 m3 m4 m5 m6 m7 m8 m9 y0 y1 y2 y3 y4 y5 y6 y7 y8 y9
              obtain ⟨d0, d1, d2, d3, d4, d5, d6, d7, d8, d9, _⟩ := HN.out.st.cells
              have hAy : wa.heap.size < wy.heap.size := HN.out.st.lt
              have HK : Hid (∀ W, Below wy.heap.size wy W → (Below wy.heap.size wy W ∧ W.cell? ⟨wa.heap.size, 0, none⟩ = some (.int .i64 (q.p : Int)) ∧ W.cell? ⟨wa.heap.size, 1, none⟩ = some (.int .i64 (q.d : Int)) ∧ W.cell? ⟨wa.heap.size, 2, none⟩ = some (.int .i64 (q.n : Int)) ∧ W.cell? ⟨wa.heap.size, 3, none⟩ = some (.int .i64 (q.ln : Int)) ∧ W.cell? ⟨wa.heap.size, 4, none⟩ = some (.int .i64 (q.tt : Int)) ∧ W.cell? ⟨wa.heap.size, 5, none⟩ = some (.int .i64 (q.lf : Int)) ∧ W.cell? ⟨wa.heap.size, 6, none⟩ = some (.int .i64 (q.se : Int)) ∧ W.cell? ⟨wa.heap.size, 7, none⟩ = some (.string (strB q.tx)) ∧ W.cell? ⟨wa.heap.size, 8, none⟩ = some (.slice ga gn gc) ∧ W.cell? ⟨wa.heap.size, 9, none⟩ = some (.int .i64 (q.bad : Int)))) :=
                Lib.hid fun W hb => ⟨hb, (hb.cell (p := ⟨wa.heap.size, 0, none⟩) hAy).trans d0, (hb.cell (p := ⟨wa.heap.size, 1, none⟩) hAy).trans d1, (hb.cell (p := ⟨wa.heap.size, 2, none⟩) hAy).trans d2, (hb.cell (p := ⟨wa.heap.size, 3, none⟩) hAy).trans d3, (hb.cell (p := ⟨wa.heap.size, 4, none⟩) hAy).trans d4, (hb.cell (p := ⟨wa.heap.size, 5, none⟩) hAy).trans d5, (hb.cell (p := ⟨wa.heap.size, 6, none⟩) hAy).trans d6, (hb.cell (p := ⟨wa.heap.size, 7, none⟩) hAy).trans d7, (hb.cell (p := ⟨wa.heap.size, 8, none⟩) hAy).trans d8, (hb.cell (p := ⟨wa.heap.size, 9, none⟩) hAy).trans d9⟩
              have BY : Hid (∀ W, Below wy.heap.size wy W → Calls Tryd.prog 22 #[.slice ba (wrD (cutD ls k).1 l).2.1.length bc, u12] W fun e w' => e = .returned (.bool true) ∧ W = w') := Lib.hid fun W hb => by
                have := bytes7_any _ _ _ _ W (HN.out.b1.below hb) (HN.out.b2.below hb)
                rwa [decide_eq_true rfl] at this
              have DNq : Hid (∀ W, Below wy.heap.size wy W → Calls Tryd.prog 23 #[.pointer (some ⟨w1.heap.size, 0, none⟩)] W fun e w' => e = .returned (.bool (decide ((wrD (cutD ls k).1 l).1.pl = 8))) ∧ W = w') := Lib.hid fun W hb => done_any W (HN.out.dec.below hb)
              have hbq : q.bad = (wrD (cutD ls k).1 l).1.er := HREL.out.hb
              have hpq : q.p = (wrD (cutD ls k).1 l).1.pl := HREL.out.hp
              have NM : Hid (∀ W, Calls Tryd.prog 14 #[errV (wrD (cutD ls k).1 l).1.er] W fun e w' => e = .returned (.int .i64 (q.bad : Int)) ∧ W = w') := Lib.hid fun W => by rw [hbq]; exact num_errK _ W
              have RD : Hid (∀ W, Calls Tryd.prog 24 #[stV q (.slice ga gn gc)] W fun e w' => e = .returned (.bool (decide ((wrD (cutD ls k).1 l).1.pl = 8))) ∧ Below W.heap.size W w') := Lib.hid fun W => by
                have := refDone_any q ga gn gc W
                rwa [hpq] at this
              have hbb : ((q.bad : Int) != (q.bad : Int)) = false := by simp
              clear hbq hpq
              have TR : Hid (∀ W, Below wy.heap.size wy W → Calls Tryd.prog 26 #[.pointer (some ⟨w1.heap.size, 0, none⟩)] W (TrPost (wrD (cutD ls k).1 l).1.out W)) := Lib.hid fun W hb => trailers_any W (HN.out.dec.below hb) (wrD_ok l (cutD_ok ls k)).b8
              have hout : (wrD (cutD ls k).1 l).1.out = if (wrD (cutD ls k).1 l).1.pl = 8 then q.fs else [] := by unfold Dc.out; rw [HREL.out.hf]
              have htl : q.fs.length ≤ 64 := by rw [HREL.out.hf]; exact (wrD_ok l (cutD_ok ls k)).b8
              have hszz : wr.heap.size ≤ w2.heap.size := hsz2
              have hszq : w5.heap.size ≤ w6.heap.size := HOq.out.size
              by_cases h8 : (wrD (cutD ls k).1 l).1.pl = 8
              · rw [decide_eq_true h8] at DNq RD
                rw [if_pos h8] at hout
                rw [hout] at TR
                clear h8 hout
                go_cut [88] (fun u88 wz => u88 = .bool false ∧ Below wy.heap.size wy wz)
                case first =>
                  go_region_held3 (fun W => Below wy.heap.size wy W ∧ W.cell? ⟨wa.heap.size, 0, none⟩ = some (.int .i64 (q.p : Int)) ∧ W.cell? ⟨wa.heap.size, 1, none⟩ = some (.int .i64 (q.d : Int)) ∧ W.cell? ⟨wa.heap.size, 2, none⟩ = some (.int .i64 (q.n : Int)) ∧ W.cell? ⟨wa.heap.size, 3, none⟩ = some (.int .i64 (q.ln : Int)) ∧ W.cell? ⟨wa.heap.size, 4, none⟩ = some (.int .i64 (q.tt : Int)) ∧ W.cell? ⟨wa.heap.size, 5, none⟩ = some (.int .i64 (q.lf : Int)) ∧ W.cell? ⟨wa.heap.size, 6, none⟩ = some (.int .i64 (q.se : Int)) ∧ W.cell? ⟨wa.heap.size, 7, none⟩ = some (.string (strB q.tx)) ∧ W.cell? ⟨wa.heap.size, 8, none⟩ = some (.slice ga gn gc) ∧ W.cell? ⟨wa.heap.size, 9, none⟩ = some (.int .i64 (q.bad : Int)))
                    ((refine HK.out _ ?_; (repeat' (first | (with_reducible assumption) | (with_reducible exact Below.refl _ _) | (with_reducible apply bel_allocE) | (with_reducible apply Below.drew)))))
                    (first
                      | (go_at_call 22; (with_reducible refine (BY.out _ (And.left ‹_›)).mono ?_); rintro e w' ⟨rfl, rfl⟩)
                      | (go_at_call 14; (with_reducible refine (NM.out _).mono ?_); rintro e w' ⟨rfl, rfl⟩)
                      | (go_at_call 23; (with_reducible refine (DNq.out _ (And.left ‹_›)).mono ?_); rintro e w' ⟨rfl, rfl⟩)
                      | (go_at_call 24; (with_reducible refine (RD.out _).mono ?_); rintro e wD ⟨rfl, hBD⟩; have hBDD : Below wy.heap.size wy wD := Below.trans (And.left ‹_›) (hBD.mono (Below.size (And.left ‹_›)))))
                  all_goals (try go_wp2_with fail)
                  all_goals go_meet
                  all_goals exact ⟨rfl, hBDD⟩
                case rest =>
                  rename World => wz
                  obtain ⟨rfl, hBz⟩ := hcut
                  obtain ⟨e0, e1, e2, e3, e4, e5, e6, e7, e8, e9, _⟩ := (HN.out.st.below hBz).cells
                  have HBz := Lib.hid hBz
                  clear hBz HK BY DNq NM d0 d1 d2 d3 d4 d5 d6 d7 d8 d9
                  go_wp2_with fail
                  refine (RD.out _).mono ?_
                  rintro e wD ⟨rfl, hBD⟩
                  have HyD := Lib.hid (HBz.out.trans (hBD.mono HBz.out.size))
                  clear hBD
                  go_wp2_with fail
                  refine (TR.out _ HyD.out).mono ?_
                  rintro e wT ⟨tv, rfl, hOT, hBT⟩
                  have HyT := Lib.hid (HyD.out.trans (hBT.mono HyD.out.size))
                  have AR := are_any tv (.slice ga gn gc) q.fs q.fs wT (OwnsP.q hOT) (HN.out.rd.below HyT.out) (by first | omega | simp) (by first | omega | simp)
                  rw [decide_eq_true rfl] at AR
                  have HAR := Lib.hid AR
                  clear hOT hBT AR
                  go_wp2_with fail
                  refine HAR.out.mono ?_
                  rintro e wA ⟨rfl, nn, rfl⟩
                  have HyF := Lib.hid (below_drewN HyT.out nn)
                  go_wp2_with fail
                  go_roundw
                  case rel => exact dec_round (ls := ls) HMo.out hlt HX.out HX3.out HD.out HD3.out HSP.out HSEP.out HOn.out HY.out HBN.out HN.out HREL.out HOKQ.out HSNN.out (by have := HZ4.out; have := HS1.out; omega) hszz hszq HyF.out
                  case measure => simp [intOf]; omega
              · rw [decide_eq_false h8] at DNq RD
                rw [if_neg h8] at hout
                rw [hout] at TR
                clear h8 hout
                go_cut [88] (fun u88 wz => u88 = .bool false ∧ Below wy.heap.size wy wz)
                case first =>
                  go_region_held3 (fun W => Below wy.heap.size wy W ∧ W.cell? ⟨wa.heap.size, 0, none⟩ = some (.int .i64 (q.p : Int)) ∧ W.cell? ⟨wa.heap.size, 1, none⟩ = some (.int .i64 (q.d : Int)) ∧ W.cell? ⟨wa.heap.size, 2, none⟩ = some (.int .i64 (q.n : Int)) ∧ W.cell? ⟨wa.heap.size, 3, none⟩ = some (.int .i64 (q.ln : Int)) ∧ W.cell? ⟨wa.heap.size, 4, none⟩ = some (.int .i64 (q.tt : Int)) ∧ W.cell? ⟨wa.heap.size, 5, none⟩ = some (.int .i64 (q.lf : Int)) ∧ W.cell? ⟨wa.heap.size, 6, none⟩ = some (.int .i64 (q.se : Int)) ∧ W.cell? ⟨wa.heap.size, 7, none⟩ = some (.string (strB q.tx)) ∧ W.cell? ⟨wa.heap.size, 8, none⟩ = some (.slice ga gn gc) ∧ W.cell? ⟨wa.heap.size, 9, none⟩ = some (.int .i64 (q.bad : Int)))
                    ((refine HK.out _ ?_; (repeat' (first | (with_reducible assumption) | (with_reducible exact Below.refl _ _) | (with_reducible apply bel_allocE) | (with_reducible apply Below.drew)))))
                    (first
                      | (go_at_call 22; (with_reducible refine (BY.out _ (And.left ‹_›)).mono ?_); rintro e w' ⟨rfl, rfl⟩)
                      | (go_at_call 14; (with_reducible refine (NM.out _).mono ?_); rintro e w' ⟨rfl, rfl⟩)
                      | (go_at_call 23; (with_reducible refine (DNq.out _ (And.left ‹_›)).mono ?_); rintro e w' ⟨rfl, rfl⟩)
                      | (go_at_call 24; (with_reducible refine (RD.out _).mono ?_); rintro e wD ⟨rfl, hBD⟩; have hBDD : Below wy.heap.size wy wD := Below.trans (And.left ‹_›) (hBD.mono (Below.size (And.left ‹_›)))))
                  all_goals (try go_wp2_with fail)
                  all_goals go_meet
                  all_goals exact ⟨rfl, hBDD⟩
                case rest =>
                  rename World => wz
                  obtain ⟨rfl, hBz⟩ := hcut
                  obtain ⟨e0, e1, e2, e3, e4, e5, e6, e7, e8, e9, _⟩ := (HN.out.st.below hBz).cells
                  have HBz := Lib.hid hBz
                  clear hBz HK BY DNq NM d0 d1 d2 d3 d4 d5 d6 d7 d8 d9
                  go_wp2_with fail
                  refine (RD.out _).mono ?_
                  rintro e wD ⟨rfl, hBD⟩
                  have HyD := Lib.hid (HBz.out.trans (hBD.mono HBz.out.size))
                  clear hBD
                  go_wp2_with fail
                  refine (TR.out _ HyD.out).mono ?_
                  rintro e wT ⟨tv, rfl, hOT, hBT⟩
                  have HyT := Lib.hid (HyD.out.trans (hBT.mono HyD.out.size))
                  have AR := are_any tv (.slice none 0 0) [] [] wT (OwnsP.q hOT) ⟨none, 0, rfl, fun j p h => by simp at h⟩ (by first | omega | simp) (by first | omega | simp)
                  rw [decide_eq_true rfl] at AR
                  have HAR := Lib.hid AR
                  clear hOT hBT AR
                  go_wp2_with fail
                  refine HAR.out.mono ?_
                  rintro e wA ⟨rfl, nn, rfl⟩
                  have HyF := Lib.hid (below_drewN HyT.out nn)
                  go_wp2_with fail
                  go_roundw
                  case rel => exact dec_round (ls := ls) HMo.out hlt HX.out HX3.out HD.out HD3.out HSP.out HSEP.out HOn.out HY.out HBN.out HN.out HREL.out HOKQ.out HSNN.out (by have := HZ4.out; have := HS1.out; omega) hszz hszq HyF.out
                  case measure => simp [intOf]; omega
      · go_wp2_with fail
        go_ret
        exact ⟨rfl, HB1.out.trans (HBx.out.mono hs1)⟩
end Go.Proofs.YtikkaakgehaenaaDoor
