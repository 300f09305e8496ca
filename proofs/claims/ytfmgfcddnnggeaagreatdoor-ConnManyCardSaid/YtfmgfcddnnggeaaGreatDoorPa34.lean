import Derived.Test.YtfmgfcddnnggeaaGreatDoorPa33
import Derived.Test.YtfmgfcddnnggeaaGreatDoorPa17
/- The list of events that Write or Close has made, read. -/
namespace Go.Proofs.YtfmgfcddnnggeaaGreatDoor
open Go.RowKit

theorem flat_at {n : Nat} : ∀ {xs : List (List Value)}, (∀ x ∈ xs, x.length = n) → ∀ {i j : Nat} {x : List Value}, xs[i]? = some x → j < n → xs.flatten[i * n + j]? = x[j]? := by
  intro xs
  induction xs with
  | nil => intro _ i j x h; simp at h
  | cons y t ih =>
    intro hl i j x h hj
    have hy : y.length = n := hl y (by simp)
    cases i with
    | zero =>
      simp at h; subst h
      rw [List.flatten_cons, Nat.zero_mul, Nat.zero_add, List.getElem?_append_left (by omega)]
    | succ i =>
      rw [List.getElem?_cons_succ] at h
      rw [List.flatten_cons, List.getElem?_append_right (by rw [hy, Nat.succ_mul]; omega), hy, show (i + 1) * n + j - n = i * n + j by rw [Nat.succ_mul]; omega]
      exact ih (fun x hx => hl x (by simp [hx])) h hj
/-- The events of a list, in the cells of its block. -/
theorem OwnsE.at {B : Nat} {Y : Nat → Prop} {w : World} {v : Value} {es : List Ev} (h : OwnsE B Y w v es) (hne : es ≠ []) :
    ∃ g cap, v = .slice (some ⟨g, 0, none⟩) es.length cap ∧ B ≤ g ∧ g < w.heap.size ∧ ∀ i e, es[i]? = some e → ∃ q p d t, (∀ j u, (evC e q p d t)[j]? = some u → w.cell? ⟨g, i * 8 + j, none⟩ = some u) ∧ ReadsQ w q e.q.2.2 ∧ ReadsQ w p e.p.2 ∧ ReadsD w d e.d ∧ ReadsQ w t e.t := by
  obtain ⟨xs, h1, h2, h3, _, _⟩ := h
  have h10 := h1
  rcases h1 with ⟨hl, ⟨hv, hn⟩ | ⟨g, cap, cur, hv, hb, hg, hn, hm, hs, ht⟩⟩
  · exact absurd (List.eq_nil_of_length_eq_zero hn) hne
  · have hlt := World.ownsRow.lt h10 g (by rw [hv]; rfl)
    refine ⟨g, cap, hv, hlt.1, hlt.2, fun i e he => ?_⟩
    have hi := (List.getElem?_eq_some_iff.1 he).1
    obtain ⟨x, hx⟩ : ∃ x, xs[i]? = some x := ⟨xs[i], by simp [h2, hi]⟩
    obtain ⟨q, p, d, t, rfl, r1, r2, r3, r4, _⟩ := h3 i x e hx he
    have h8 : ∀ x ∈ xs, x.length = 8 := by
      intro y hy
      obtain ⟨k, hk⟩ := List.mem_iff_getElem?.1 hy
      have hk' := (List.getElem?_eq_some_iff.1 hk).1
      obtain ⟨f, hf⟩ : ∃ f, es[k]? = some f := ⟨es[k], by simp [show k < es.length by omega]⟩
      obtain ⟨_, _, _, _, rfl, _⟩ := h3 k y f hk hf
      rfl
    refine ⟨q, p, d, t, fun j u hu => ?_, r1, r2, r3, r4⟩
    subst hv
    have hj : j < 8 := (List.getElem?_eq_some_iff.1 hu).1
    rw [World.ownsRow.cellAt h10 (i * 8 + j) (by omega), flat_at h8 hx hj, hu]
theorem LsE.at {B : Nat} {X : Nat → Prop} {w : World} {v : Value} {es : List Ev} (h : LsE B X v es w) (hne : es ≠ []) :
    ∃ g cap, v = .slice (some ⟨g, 0, none⟩) es.length cap ∧ g < w.heap.size ∧ ∀ i e, es[i]? = some e → ∃ q p d t, (∀ j u, (evC e q p d t)[j]? = some u → w.cell? ⟨g, i * 8 + j, none⟩ = some u) ∧ ReadsQ w q e.q.2.2 ∧ ReadsQ w p e.p.2 ∧ ReadsD w d e.d ∧ ReadsQ w t e.t := by
  obtain ⟨Y, h1, _⟩ := h
  obtain ⟨g, cap, hv, _, hg, hc⟩ := h1.at hne
  exact ⟨g, cap, hv, hg, hc⟩
theorem LsE.isSlice {B : Nat} {X : Nat → Prop} {w : World} {v : Value} {es : List Ev} (h : LsE B X v es w) : ∃ a c, v = .slice a es.length c := by
  obtain ⟨Y, h1, _⟩ := h; exact h1.isSlice
theorem WrPost.of {B P : Nat} {X : Nat → Prop} {s s' : Cn} {l : List UInt8} {es os : List Ev} {w w' : World} {e : Ending} (h : WrPost B P X s l w e w') (hr : runC s l = (s', es)) (hj : joinE es = os) {ev : Value} (he : errV s'.er = ev) :
    ∃ v X', e = .returned (.tuple #[v, ev]) ∧ (∀ i, X' i → X i ∨ w.heap.size ≤ i) ∧ Con B P X' s' w' ∧ LsE w.heap.size X' v os w' ∧ Only X w w' := by
  obtain ⟨v, X', h1, h2, h3, h4, h5⟩ := h
  rw [hr] at h1 h3 h4
  rw [hj] at h4
  exact ⟨v, X', by rw [h1, ← he], h2, h3, h4, h5⟩
end Go.Proofs.YtfmgfcddnnggeaaGreatDoor

/- What the connection's Write returns: the machine of bytes, its adjacent data joined. -/
namespace Go.Proofs.YtfmgfcddnnggeaaGreatDoor
open Go.RowKit

def lenSl : Value → Nat
  | .slice _ n _ => n
  | _ => 0
/-- The blocks of an event's slices. -/
theorem ev_blocks {wr W1 : World} {q p d : Value} {fq fp : Flds} {l : List UInt8} {X2 : Nat → Prop} (hq : OwnsP 71 wr.heap.size W1 q fq) (hp : OwnsP 71 wr.heap.size W1 p fp) (hd : OwnB wr.heap.size W1 d l) (hn : ∀ k, q.ownBlock = some k ∨ p.ownBlock = some k ∨ d.ownBlock = some k → ¬ X2 k) :
    ∀ i, q.ownBlock = some i ∨ p.ownBlock = some i ∨ d.ownBlock = some i → wr.heap.size ≤ i ∧ i < W1.heap.size ∧ ¬ X2 i := by
  intro i hi
  refine ⟨?_, ?_, hn i hi⟩
  · rcases hi with a | a | a
    · exact (World.ownsRow.lt hq i a).1
    · exact (World.ownsRow.lt hp i a).1
    · exact (World.ownsRow.lt hd i a).1
  · rcases hi with a | a | a
    · exact (World.ownsRow.lt hq i a).2
    · exact (World.ownsRow.lt hp i a).2
    · exact (World.ownsRow.lt hd i a).2
theorem tk_open {B P : Nat} {X : Nat → Prop} {t : Cn} {ev : Ev} {tn er : Nat} {w w' : World} {e : Ending} (h : TkPost B P X (t, ev, tn, er) w e w') :
    ∃ qa qc pa pc da dc X2, e = .returned (.tuple #[evV ev (.slice qa ev.q.2.2.length qc) (.slice pa ev.p.2.length pc) (.slice da ev.d.length dc) noV, .int .i64 (tn : Int), errV er]) ∧ (∀ k, X2 k → X k ∨ w.heap.size ≤ k) ∧ Con B P X2 t w' ∧ Only X w w' ∧
      OwnsP 71 w.heap.size w' (.slice qa ev.q.2.2.length qc) ev.q.2.2 ∧ OwnsP 71 w.heap.size w' (.slice pa ev.p.2.length pc) ev.p.2 ∧ OwnB w.heap.size w' (.slice da ev.d.length dc) ev.d ∧
      (∀ k, (Value.slice qa ev.q.2.2.length qc).ownBlock = some k ∨ (Value.slice pa ev.p.2.length pc).ownBlock = some k ∨ (Value.slice da ev.d.length dc).ownBlock = some k → ¬ X2 k) := by
  obtain ⟨q, p, d, X2, he, hX2, hC1, hO1, hq, hp, hd, hn⟩ := h
  obtain ⟨qa, qc, rfl⟩ := own_slice' hq
  obtain ⟨pa, pc, rfl⟩ := own_slice' hp
  obtain ⟨da, dc, rfl⟩ := hd.isSlice
  exact ⟨qa, qc, pa, pc, da, dc, X2, he, hX2, hC1, hO1, hq, hp, hd, hn⟩
theorem wr_end {B P : Nat} {X : Nat → Prop} {s : Cn} {l : List UInt8} {bv0 : Value} {w : World} {s' : Cn} {k : Nat} {o : List Ev} {X' : Nat → Prop} {bv ov : Value} {wr w' : World} (M : WrM B P X s l bv0 w s' k o X' bv ov wr) (hd : s'.er ≠ 0 ∨ l.drop k = []) (hb : Below wr.heap.size wr w') {e : Value} (he : e = errV s'.er) :
    WrPost B P X s l w (.returned (.tuple #[ov, e])) w' := by
  obtain ⟨h1, h2, _⟩ := wrI_end M.i hd
  subst he
  exact ⟨ov, X', by rw [h1], M.x, by rw [h1]; exact M.c.below hb, by rw [h2]; exact M.ls.below hb, M.on.trans' (Only.below hb)⟩
set_option maxHeartbeats 16000000 in
set_option maxRecDepth 100000 in
theorem write_any {B P : Nat} {X : Nat → Prop} {s : Cn} (bv : Value) (l : List UInt8) (w : World) (h : Con B P X s w) (hok : s.Ok) (hb : ReadsD w bv l) (hbX : l ≠ [] → ∀ k, bv.ownBlock = some k → ¬ X k) (hM : MaxB B w) (hl : l.length ≤ 400000000) :
    Calls Tryz.prog 8 #[.pointer (some ⟨P, 0, none⟩), bv] w (WrPost B P X s l w) := by
  have HHl := Lib.hid h.lt
  have HB0 := Lib.hid hb
  have HBX := Lib.hid hbX
  have HM := Lib.hid hM
  have M0 : WrM B P X s l bv w s 0 [] X bv (.slice none 0 0) w := ⟨wrI_start l hok, h, fun _ a => .inl a, Only.refl _ _, LsE.nil _ _ _, by rw [List.drop_zero]; exact hb, fun _ h => h⟩
  have HM0 := Lib.hid M0
  obtain ⟨ba, bc, hbv⟩ : ∃ a c, bv = .slice a l.length c := by obtain ⟨a, c, h, _⟩ := hb; exact ⟨a, c, h⟩
  have HBV := Lib.hid hbv
  clear h hok hb hbX hM M0 hbv
  go_enter Tryz.func8, Tryz.ntmps8
  go_wp2_with fail
  go_loopw [1, 6] (fun x1 x6 wr => ∃ s' k o X', Hid (WrM B P X s l bv w s' k o X' x1 x6 wr)) (fun x1 _ wr => 2 * lenSl x1 + goesC P wr)
  case atStart => exact ⟨s, 0, [], X, HM0⟩
  case round =>
    obtain ⟨s', k, o, X', M⟩ := hrel
    obtain ⟨m, hm⟩ : ∃ m, l.drop k = m := ⟨_, rfl⟩
    have HMM := Lib.hid hm
    have hrb := M.out.b
    have hml : m.length ≤ l.length := by rw [← hm, List.length_drop]; omega
    rw [hm] at hrb
    clear hm
    obtain ⟨ca, cc, rfl⟩ : ∃ a c, u1 = .slice a m.length c := by obtain ⟨a, c, h, _⟩ := hrb; exact ⟨a, c, h⟩
    obtain ⟨va, vc, rfl⟩ : ∃ a c, u6 = .slice a o.length c := by obtain ⟨_, h, _⟩ := M.out.ls; exact h.isSlice
    have HRW := Lib.hid hrb
    obtain ⟨mv, sv, dv, XM, XD, hp⟩ := M.out.c
    have c8 := hp.cells.c8
    have hlk := M.out.i.2.1
    have hol := M.out.i.2.2.2.2.1
    clear hp hrb
    by_cases he : s'.er = 0
    · rw [he, show errV 0 = .nilIface from rfl] at c8
      by_cases hm : m = []
      · have W := Lib.hid (fun w' hb => wr_end (w' := w') M.out (.inr (HMM.out.trans hm)) hb (e := .nilIface) (by rw [he]; rfl))
        have hm0 : m.length = 0 := by rw [hm]; rfl
        rw [hm0]
        clear hm hm0 he
        go_wp2_with fail
        go_quiet (fail)
        go_wp2_with fail
        (try simp only [Exit.inBlock, Exit.then])
        refine bodyPost_ret (v := .tuple #[.slice va o.length vc, .nilIface]) (by simp [results, Tryz.results8, go_sem]) rfl ?_
        exact W.out _ (below_drewN (Below.refl _ _) _)
      · have hmp : 0 < m.length := List.length_pos_iff.2 hm
        have hne : l.drop k ≠ [] := by rw [HMM.out]; exact hm
        have hI := wrI_next M.out.i he hne
        have hEK := take_endOk (l := l.drop k) M.out.i.1
        rw [HMM.out] at hI hEK
        have HEK := Lib.hid hEK
        have HI := Lib.hid hI.1
        have htn := hI.2.1
        have HPos := Lib.hid hI.2.2
        have hbx := M.out.bx HB0.out HBX.out (fun e => hne (by rw [e]; exact List.drop_nil))
        have hbx0 : ∀ i, (Value.slice ca m.length cc).ownBlock = some i → ¬ X i := fun i hi => HBX.out (fun e => hne (by rw [e]; exact List.drop_nil)) i (M.out.bo i hi)
        have HRB0 := Lib.hid (HRW.out.only M.out.on hbx0)
        have HMB := Lib.hid (HM.out.to (M.out.on.to (fun i hi => (HHl.out.2.2 i hi).1) (by have := HHl.out.2.2 P HHl.out.2.1; omega)))
        have TK := Lib.hid (take7_any (.slice ca m.length cc) m wr M.out.c M.out.i.1 he HRB0.out (fun _ => hbx) hm HMB.out (by omega))
        have HBO := Lib.hid M.out.bo
        have hgo := goesC_yes c8
        have hwr : w.heap.size ≤ wr.heap.size := M.out.on.size
        obtain ⟨_, hoE00, _⟩ := M.out.ls
        have HLW := Lib.hid (fun i hi => (hoE00.lt.1 i hi).2)
        have hob : o.length ≤ 900000000 := by omega
        clear hoE00 hbx hbx0 he hm hol hne hI hEK hml hlk
        have htt := take_t s' m
        generalize hr : takeC s' m = r at *
        obtain ⟨t, ev, tn, er⟩ := r
        simp only at HI htn HPos HEK TK htt
        clear hr
        go_wp2_with fail
        refine TK.out.mono ?_
        intro en w1 hT
        obtain ⟨qa, qc, pa, pc, da, dc, X2, rfl, hX2, hC1, hO1, hq, hp, hd, hn⟩ := tk_open hT
        clear hT TK
        have hbw1 := below_new w1 (.cells #[.int .i64 (ev.k : Int), .string (strB ev.q.1), .string (strB ev.q.2.1), (.slice qa ev.q.2.2.length qc), .int .i64 (ev.p.1 : Int), (.slice pa ev.p.2.length pc), (.slice da ev.d.length dc), noV] 42)
        have K1 := eight_at (heap_alloc_new w1 (.cells #[.int .i64 (ev.k : Int), .string (strB ev.q.1), .string (strB ev.q.2.1), (.slice qa ev.q.2.2.length qc), .int .i64 (ev.p.1 : Int), (.slice pa ev.p.2.length pc), (.slice da ev.d.length dc), noV] 42))
        have hw1s : wr.heap.size ≤ w1.heap.size := hO1.size
        have HC1 := Lib.hid (hC1.below hbw1)
        have HL1 := Lib.hid ((M.out.ls.take hO1 hX2).below hbw1)
        have HO1 := Lib.hid ((M.out.on.trans hO1 (fun i hi => M.out.x i hi)).trans' (Only.below hbw1))
        have HXX := Lib.hid (show ∀ i, X2 i → X i ∨ w.heap.size ≤ i from fun i hi => (hX2 i hi).elim (fun a => M.out.x i a) (fun a => .inr (by omega)))
        have HQ := Lib.hid (hq.below hbw1)
        have HP := Lib.hid (hp.below hbw1)
        have HDt := Lib.hid (hd.below hbw1)
        have HN := Lib.hid hn
        have HX2 := Lib.hid (show ∀ i, X2 i → X i ∨ w.heap.size ≤ i from HXX.out)
        have b0 : (w1.alloc (.cells #[.int .i64 (ev.k : Int), .string (strB ev.q.1), .string (strB ev.q.2.1), (.slice qa ev.q.2.2.length qc), .int .i64 (ev.p.1 : Int), (.slice pa ev.p.2.length pc), (.slice da ev.d.length dc), noV] 42)).cell? ⟨w1.heap.size, 0, none⟩ = some (.int .i64 (ev.k : Int)) := (K1 0).1
        have b1 : (w1.alloc (.cells #[.int .i64 (ev.k : Int), .string (strB ev.q.1), .string (strB ev.q.2.1), (.slice qa ev.q.2.2.length qc), .int .i64 (ev.p.1 : Int), (.slice pa ev.p.2.length pc), (.slice da ev.d.length dc), noV] 42)).cell? ⟨w1.heap.size, 1, none⟩ = some (.string (strB ev.q.1)) := (K1 1).1
        have b2 : (w1.alloc (.cells #[.int .i64 (ev.k : Int), .string (strB ev.q.1), .string (strB ev.q.2.1), (.slice qa ev.q.2.2.length qc), .int .i64 (ev.p.1 : Int), (.slice pa ev.p.2.length pc), (.slice da ev.d.length dc), noV] 42)).cell? ⟨w1.heap.size, 2, none⟩ = some (.string (strB ev.q.2.1)) := (K1 2).1
        have b3 : (w1.alloc (.cells #[.int .i64 (ev.k : Int), .string (strB ev.q.1), .string (strB ev.q.2.1), (.slice qa ev.q.2.2.length qc), .int .i64 (ev.p.1 : Int), (.slice pa ev.p.2.length pc), (.slice da ev.d.length dc), noV] 42)).cell? ⟨w1.heap.size, 3, none⟩ = some (.slice qa ev.q.2.2.length qc) := (K1 3).1
        have b4 : (w1.alloc (.cells #[.int .i64 (ev.k : Int), .string (strB ev.q.1), .string (strB ev.q.2.1), (.slice qa ev.q.2.2.length qc), .int .i64 (ev.p.1 : Int), (.slice pa ev.p.2.length pc), (.slice da ev.d.length dc), noV] 42)).cell? ⟨w1.heap.size, 4, none⟩ = some (.int .i64 (ev.p.1 : Int)) := (K1 4).1
        have b5 : (w1.alloc (.cells #[.int .i64 (ev.k : Int), .string (strB ev.q.1), .string (strB ev.q.2.1), (.slice qa ev.q.2.2.length qc), .int .i64 (ev.p.1 : Int), (.slice pa ev.p.2.length pc), (.slice da ev.d.length dc), noV] 42)).cell? ⟨w1.heap.size, 5, none⟩ = some (.slice pa ev.p.2.length pc) := (K1 5).1
        have b6 : (w1.alloc (.cells #[.int .i64 (ev.k : Int), .string (strB ev.q.1), .string (strB ev.q.2.1), (.slice qa ev.q.2.2.length qc), .int .i64 (ev.p.1 : Int), (.slice pa ev.p.2.length pc), (.slice da ev.d.length dc), noV] 42)).cell? ⟨w1.heap.size, 6, none⟩ = some (.slice da ev.d.length dc) := (K1 6).1
        have b7 : (w1.alloc (.cells #[.int .i64 (ev.k : Int), .string (strB ev.q.1), .string (strB ev.q.2.1), (.slice qa ev.q.2.2.length qc), .int .i64 (ev.p.1 : Int), (.slice pa ev.p.2.length pc), (.slice da ev.d.length dc), noV] 42)).cell? ⟨w1.heap.size, 7, none⟩ = some noV := (K1 7).1
        clear K1 hC1 hO1 hq hp hd hn hX2 hbw1
        go_upto_region 6 with fail
        generalize hW1 : w1.alloc (.cells #[.int .i64 (ev.k : Int), .string (strB ev.q.1), .string (strB ev.q.2.1), (.slice qa ev.q.2.2.length qc), .int .i64 (ev.p.1 : Int), (.slice pa ev.p.2.length pc), (.slice da ev.d.length dc), noV] 42) = W1 at *
        clear hW1
        generalize w1.heap.size = N1 at *
        by_cases hk : ev.k = 0
        · cases hc : complB t with
          | false =>
            have hk0 : ((ev.k : Int) == 0) = true := by rw [hk]; rfl
            have HEV := Lib.hid (show evsC (t, ev, tn, er) = (offC t []).2 by unfold evsC; rw [if_pos hk]; rfl)
            obtain ⟨mv1, sv1, dv1, XM1, XD1, hp1⟩ := HC1.out
            have IC := Lib.hid (isComplete_any hp1)
            clear hp1 hk
            go_wp2_with fail
            refine IC.out.mono ?_
            rintro e w' ⟨rfl, rfl⟩
            clear IC
            have HNX := Lib.hid (show nextC (t, ev, tn, er) = { t with er := er } by unfold nextC offC; rw [hc]; rfl)
            have HEV2 := Lib.hid (show o ++ evsC (t, ev, tn, er) = o by rw [HEV.out]; unfold offC; rw [hc]; simp)
            rw [HNX.out, HEV2.out] at HI
            rw [hc]
            clear hc HNX HEV HEV2
            have hpc := HC1.out
            obtain ⟨mv2, sv2, dv2, XM2, XD2, hp2⟩ := hpc
            obtain ⟨_, _, _, _, _, _, _, _, c8', f'⟩ := hp2.cells
            have f8 := f' 8
            have HQ2 := Lib.hid hp2
            have HLs := HL1
            have HOs := HO1
            clear hp2 f'
            obtain ⟨sa, sc, hsl, hrd, hown⟩ := tail_D HRW.out tn htn
            have HRD := Lib.hid (show ReadsD w (.slice sa (m.length - tn) sc) (l.drop (k + tn)) by rw [← List.drop_drop, HMM.out]; exact hrd)
            have HOWN := Lib.hid hown
            clear hrd hown
            rcases er_two er with ⟨ez, eqv⟩ | ⟨ez, eqv⟩
            · have EQ := Lib.hid eqv
              have EZ := Lib.hid ez
              rw [eqv]
              clear eqv ez
              go_wp2_with fail
              have HP2 := Lib.hid (HQ2.out.er (n := er) (v := .nilIface) EQ.out.symm)
              go_roundw
              case rel =>
                exact ⟨_, k + tn, _, X2, Lib.hid ⟨HI.out, ⟨_, _, _, _, _, HP2.out⟩, HXX.out, HOs.out.trans' (Only.set HHl.out.2.1 W1 8 .nilIface), HLs.out.only (Only.set HQ2.out.p W1 8 .nilIface), HRD.out, fun i hi => HBO.out i (HOWN.out i hi)⟩⟩
              case measure =>
                have hg2 := goes_er HP2.out
                have hgz : er ≠ 0 → goesC P (W1.setCell ⟨P, 8, none⟩ .nilIface) = 0 := hg2.2
                have hpz := HPos.out
                have hez := EZ.out
                simp only [lenSl]
                have hg1 := hg2.1
                omega
            · have EQ := Lib.hid eqv
              have EZ := Lib.hid ez
              rw [eqv]
              clear eqv ez
              go_wp2_with fail
              have HP2 := Lib.hid (HQ2.out.er (n := er) (v := (.iface 32 (.int .i64 (er : Int)))) EQ.out.symm)
              go_roundw
              case rel =>
                exact ⟨_, k + tn, _, X2, Lib.hid ⟨HI.out, ⟨_, _, _, _, _, HP2.out⟩, HXX.out, HOs.out.trans' (Only.set HHl.out.2.1 W1 8 (.iface 32 (.int .i64 (er : Int)))), HLs.out.only (Only.set HQ2.out.p W1 8 (.iface 32 (.int .i64 (er : Int)))), HRD.out, fun i hi => HBO.out i (HOWN.out i hi)⟩⟩
              case measure =>
                have hg2 := goes_er HP2.out
                have hgz : er ≠ 0 → goesC P (W1.setCell ⟨P, 8, none⟩ (.iface 32 (.int .i64 (er : Int)))) = 0 := hg2.2
                have hpz := HPos.out
                have hez := EZ.out
                simp only [lenSl]
                have hg1 := hg2.1
                omega
          | true =>
            have hk0 : ((ev.k : Int) == 0) = true := by rw [hk]; rfl
            have HEV := Lib.hid (show evsC (t, ev, tn, er) = (offC t []).2 by unfold evsC; rw [if_pos hk]; rfl)
            obtain ⟨mv1, sv1, dv1, XM1, XD1, hp1⟩ := HC1.out
            have IC := Lib.hid (isComplete_any hp1)
            clear hp1 hk
            go_wp2_with fail
            refine IC.out.mono ?_
            rintro e w' ⟨rfl, rfl⟩
            clear IC
            have HNX := Lib.hid (show nextC (t, ev, tn, er) = { endC t with er := er } by unfold nextC offC; rw [hc]; rfl)
            have HEV2 := Lib.hid (show o ++ evsC (t, ev, tn, er) = o ++ [endE t] by rw [HEV.out]; unfold offC; rw [hc]; simp)
            rw [HNX.out, HEV2.out] at HI
            have EN := Lib.hid (end_any W1 HC1.out (HEK.out hc))
            rw [hc]
            clear hc HNX HEV HEV2
            go_wp2_with fail
            refine EN.out.mono ?_
            rintro en W3 ⟨tv, rfl, hT3, hC3, hO3⟩
            obtain ⟨ta, tc, rfl⟩ := own_slice' hT3
            have hLsE3 := HL1.out.only hO3
            obtain ⟨Y3, hoE3, hY3, hv3⟩ := hLsE3
            have hb3 := below_new W3 (.cells #[.int .i64 ((endE t).k : Int), .string (strB (endE t).q.1), .string (strB (endE t).q.2.1), noV, .int .i64 ((endE t).p.1 : Int), noV, noV, (.slice ta (trsO t.dc).length tc)] 42)
            have HC83 := Lib.hid (ev_new W3 (endE t) noV noV noV (.slice ta (trsO t.dc).length tc))
            have HT3 := Lib.hid hT3
            have HE83 : Hid (EvR (fun i => (Value.slice ta (trsO t.dc).length tc).ownBlock = some i) (W3.alloc (.cells #[.int .i64 ((endE t).k : Int), .string (strB (endE t).q.1), .string (strB (endE t).q.2.1), noV, .int .i64 ((endE t).p.1 : Int), noV, noV, (.slice ta (trsO t.dc).length tc)] 42)) (endE t) (evC (endE t) noV noV noV (.slice ta (trsO t.dc).length tc))) := Lib.hid ⟨noV, noV, noV, _, rfl, (OwnsP.nil 71 0 _).q, (OwnsP.nil 71 0 _).q, readsB_nil _, (OwnsP.below hT3 hb3).q, fun i hi => by
              rcases hi with a | a | a | a
              · cases a
              · cases a
              · cases a
              · exact a⟩
            have HLT3 := Lib.hid (fun i hi => World.ownsRow.lt hT3 i hi)
            have hlt3 := hoE3.lt
            have hoE4 := hoE3.only (Only.below (X := fun _ => False) hb3) (fun _ _ h => h) (fun _ _ h => h)
            have HoE4 := Lib.hid hoE4
            have hs3 := hb3.size
            have hsO := hO3.size
            have hsW := HO1.out.size
            obtain ⟨_, hoE0, _⟩ := HL1.out
            have HLT0 := Lib.hid hoE0.lt.1
            have HC3 := Lib.hid hC3
            have HO3 := Lib.hid (HO1.out.trans hO3 HX2.out)
            have HX3 := Lib.hid (fun i hi => (HC1.out.lt.2.2 i hi).2)
            clear hoE0 hoE3 hoE4 hT3 hC3 hO3 EN
            obtain ⟨sa, sc, hsl, hrd, hown⟩ := tail_D HRW.out tn htn
            have HRD := Lib.hid (show ReadsD w (.slice sa (m.length - tn) sc) (l.drop (k + tn)) by rw [← List.drop_drop, HMM.out]; exact hrd)
            have HOWN := Lib.hid hown
            clear hrd hown
            rcases er_two er with ⟨ez, eqv⟩ | ⟨ez, eqv⟩
            · have EQ := Lib.hid eqv
              have EZ := Lib.hid ez
              rw [eqv]
              clear eqv ez
              go_upto_region 9 with (at_builtin; refine wpList_appendE (by rfl) _ _ (by rfl) _ (by rfl) HoE4.out W3.heap.size (by rfl) (e := endE t) (q := noV) (p := noV) (d := noV) (t := .slice ta (trsO t.dc).length tc) (Z := fun i => (Value.slice ta (trsO t.dc).length tc).ownBlock = some i) HC83.out (fun u hu => by simp at hu; rcases hu with rfl | rfl | rfl | rfl | rfl | rfl | rfl | rfl <;> rfl) HE83.out (fun i hi => ⟨Nat.lt_of_lt_of_le (HLT3.out i hi).2 hs3, fun e => by have := (HLT0.out i e).2; have := (HLT3.out i hi).1; omega⟩) (by first | omega | (simp; omega)) (by omega) ?_; intro v4 W4 hO4 hg4 hat4; have HL4 := Lib.hid (LsE.snoc hY3 hv3 (fun i hi => ⟨Nat.le_trans hsW (HLT3.out i hi).1, fun hx => by have := HX3.out i hx; have := (HLT3.out i hi).1; omega⟩) (fun i hi => Nat.lt_of_lt_of_le (HC3.out.lt.2.2 i hi).2 hs3) hO4 hat4); have HC4 := Lib.hid (con_grown (HC3.out.below hb3) hg4 hv3); have HO4 := Lib.hid (only_grown (HO3.out.trans' (Only.below hb3)) (Nat.le_refl _) hg4 (fun i hi => (hlt3.1 i hi).1)); obtain ⟨mv2, sv2, dv2, XM2, XD2, hp2⟩ := HC4.out; obtain ⟨_, _, _, _, _, _, _, _, c8', f'⟩ := hp2.cells; have f8 := f' 8; have HQ2 := Lib.hid hp2; clear hp2 f' hO4 hg4 hat4)
              have HLs := HL4
              have HOs := HO4
              try go_wp2_with fail
              have HP2 := Lib.hid (HQ2.out.er (n := er) (v := .nilIface) EQ.out.symm)
              go_roundw
              case rel =>
                exact ⟨_, k + tn, _, X2, Lib.hid ⟨HI.out, ⟨_, _, _, _, _, HP2.out⟩, HXX.out, HOs.out.trans' (Only.set HHl.out.2.1 W4 8 .nilIface), HLs.out.only (Only.set HQ2.out.p W4 8 .nilIface), HRD.out, fun i hi => HBO.out i (HOWN.out i hi)⟩⟩
              case measure =>
                have hg2 := goes_er HP2.out
                have hgz : er ≠ 0 → goesC P (W4.setCell ⟨P, 8, none⟩ .nilIface) = 0 := hg2.2
                have hpz := HPos.out
                have hez := EZ.out
                simp only [lenSl]
                have hg1 := hg2.1
                omega
            · have EQ := Lib.hid eqv
              have EZ := Lib.hid ez
              rw [eqv]
              clear eqv ez
              go_upto_region 9 with (at_builtin; refine wpList_appendE (by rfl) _ _ (by rfl) _ (by rfl) HoE4.out W3.heap.size (by rfl) (e := endE t) (q := noV) (p := noV) (d := noV) (t := .slice ta (trsO t.dc).length tc) (Z := fun i => (Value.slice ta (trsO t.dc).length tc).ownBlock = some i) HC83.out (fun u hu => by simp at hu; rcases hu with rfl | rfl | rfl | rfl | rfl | rfl | rfl | rfl <;> rfl) HE83.out (fun i hi => ⟨Nat.lt_of_lt_of_le (HLT3.out i hi).2 hs3, fun e => by have := (HLT0.out i e).2; have := (HLT3.out i hi).1; omega⟩) (by first | omega | (simp; omega)) (by omega) ?_; intro v4 W4 hO4 hg4 hat4; have HL4 := Lib.hid (LsE.snoc hY3 hv3 (fun i hi => ⟨Nat.le_trans hsW (HLT3.out i hi).1, fun hx => by have := HX3.out i hx; have := (HLT3.out i hi).1; omega⟩) (fun i hi => Nat.lt_of_lt_of_le (HC3.out.lt.2.2 i hi).2 hs3) hO4 hat4); have HC4 := Lib.hid (con_grown (HC3.out.below hb3) hg4 hv3); have HO4 := Lib.hid (only_grown (HO3.out.trans' (Only.below hb3)) (Nat.le_refl _) hg4 (fun i hi => (hlt3.1 i hi).1)); obtain ⟨mv2, sv2, dv2, XM2, XD2, hp2⟩ := HC4.out; obtain ⟨_, _, _, _, _, _, _, _, c8', f'⟩ := hp2.cells; have f8 := f' 8; have HQ2 := Lib.hid hp2; clear hp2 f' hO4 hg4 hat4)
              have HLs := HL4
              have HOs := HO4
              try go_wp2_with fail
              have HP2 := Lib.hid (HQ2.out.er (n := er) (v := (.iface 32 (.int .i64 (er : Int)))) EQ.out.symm)
              go_roundw
              case rel =>
                exact ⟨_, k + tn, _, X2, Lib.hid ⟨HI.out, ⟨_, _, _, _, _, HP2.out⟩, HXX.out, HOs.out.trans' (Only.set HHl.out.2.1 W4 8 (.iface 32 (.int .i64 (er : Int)))), HLs.out.only (Only.set HQ2.out.p W4 8 (.iface 32 (.int .i64 (er : Int)))), HRD.out, fun i hi => HBO.out i (HOWN.out i hi)⟩⟩
              case measure =>
                have hg2 := goes_er HP2.out
                have hgz : er ≠ 0 → goesC P (W4.setCell ⟨P, 8, none⟩ (.iface 32 (.int .i64 (er : Int)))) = 0 := hg2.2
                have hpz := HPos.out
                have hez := EZ.out
                simp only [lenSl]
                have hg1 := hg2.1
                omega
        · cases hc : complB t with
          | false =>
            have hk0 : ((ev.k : Int) == 0) = false := by simpa using hk
            have HEV := Lib.hid (show evsC (t, ev, tn, er) = [ev] ++ (offC t []).2 by unfold evsC; rw [if_neg hk])
            obtain ⟨Y1, hoE, hY1, hv1⟩ := HL1.out
            have hbB := below_new W1 (.cells #[.int .i64 (ev.k : Int), .string (strB ev.q.1), .string (strB ev.q.2.1), (.slice qa ev.q.2.2.length qc), .int .i64 (ev.p.1 : Int), (.slice pa ev.p.2.length pc), (.slice da ev.d.length dc), noV] 42)
            have HC8 := Lib.hid (ev_new W1 ev (.slice qa ev.q.2.2.length qc) (.slice pa ev.p.2.length pc) (.slice da ev.d.length dc) noV)
            have HE8 : Hid (EvR (fun i => (Value.slice qa ev.q.2.2.length qc).ownBlock = some i ∨ (Value.slice pa ev.p.2.length pc).ownBlock = some i ∨ (Value.slice da ev.d.length dc).ownBlock = some i) (W1.alloc (.cells #[.int .i64 (ev.k : Int), .string (strB ev.q.1), .string (strB ev.q.2.1), (.slice qa ev.q.2.2.length qc), .int .i64 (ev.p.1 : Int), (.slice pa ev.p.2.length pc), (.slice da ev.d.length dc), noV] 42)) ev (evC ev (.slice qa ev.q.2.2.length qc) (.slice pa ev.p.2.length pc) (.slice da ev.d.length dc) noV)) := Lib.hid ⟨_, _, _, _, rfl, (OwnsP.below HQ.out hbB).q, (OwnsP.below HP.out hbB).q, (HDt.out.below hbB).reads, (by rw [htt]; exact (OwnsP.nil 71 0 _).q), fun i hi => by
              rcases hi with a | a | a | a
              · exact .inl a
              · exact .inr (.inl a)
              · exact .inr (.inr a)
              · cases a⟩
            have hW1 := HO1.out.size
            have hlt1 := hoE.lt
            have HZ := Lib.hid (ev_blocks HQ.out HP.out HDt.out HN.out)
            have hoE2 := hoE.only (Only.below (X := fun _ => False) hbB) (fun _ _ h => h) (fun _ _ h => h)
            have HoE2 := Lib.hid hoE2
            have hs8 := hbB.size
            have HWR := Lib.hid hwr
            clear hoE hoE2 hk
            go_upto_region 8 with (at_builtin; refine wpList_appendE (by rfl) _ _ (by rfl) _ (by rfl) HoE2.out W1.heap.size (by rfl) (e := ev) (q := (.slice qa ev.q.2.2.length qc)) (p := (.slice pa ev.p.2.length pc)) (d := (.slice da ev.d.length dc)) (t := noV) (Z := fun i => (Value.slice qa ev.q.2.2.length qc).ownBlock = some i ∨ (Value.slice pa ev.p.2.length pc).ownBlock = some i ∨ (Value.slice da ev.d.length dc).ownBlock = some i) HC8.out (fun u hu => by simp at hu; rcases hu with rfl | rfl | rfl | rfl | rfl | rfl | rfl | rfl <;> rfl) HE8.out (fun i hi => ⟨Nat.lt_of_lt_of_le (HZ.out i hi).2.1 hs8, fun e => by have := (hlt1.1 i e).2; have := (HZ.out i hi).1; have := HLW.out i e; omega⟩) (by omega) (by omega) ?_; intro v2 W2 hO2 hg2 hat2; have hs9 : w.heap.size ≤ wr.heap.size := HWR.out; have HL2 := Lib.hid (LsE.snoc hY1 hv1 (fun i hi => ⟨Nat.le_trans hs9 (HZ.out i hi).1, (HZ.out i hi).2.2⟩) (fun i hi => Nat.lt_of_lt_of_le (HC1.out.lt.2.2 i hi).2 hs8) hO2 hat2); have HC2 := Lib.hid (con_grown (HC1.out.below hbB) hg2 hv1); have HO2 := Lib.hid (only_grown (HO1.out.trans' (Only.below hbB)) (Nat.le_refl _) hg2 (fun i hi => (hlt1.1 i hi).1)); obtain ⟨va2, vc2, rfl⟩ : ∃ a c, v2 = .slice a (o.length + 1) c := by (obtain ⟨_, h, _⟩ := HL2.out; obtain ⟨a, c, h⟩ := h.isSlice; exact ⟨a, c, by rw [h, List.length_append]; rfl⟩))
            obtain ⟨mv1, sv1, dv1, XM1, XD1, hp1⟩ := HC2.out
            have IC := Lib.hid (isComplete_any hp1)
            clear hp1
            go_wp2_with fail
            refine IC.out.mono ?_
            rintro e w' ⟨rfl, rfl⟩
            clear IC
            have HNX := Lib.hid (show nextC (t, ev, tn, er) = { t with er := er } by unfold nextC offC; rw [hc]; rfl)
            have HEV2 := Lib.hid (show o ++ evsC (t, ev, tn, er) = (o ++ [ev]) by rw [HEV.out]; unfold offC; rw [hc]; simp)
            rw [HNX.out, HEV2.out] at HI
            rw [hc]
            clear hc HNX HEV HEV2
            have hpc := HC2.out
            obtain ⟨mv2, sv2, dv2, XM2, XD2, hp2⟩ := hpc
            obtain ⟨_, _, _, _, _, _, _, _, c8', f'⟩ := hp2.cells
            have f8 := f' 8
            have HQ2 := Lib.hid hp2
            have HLs := HL2
            have HOs := HO2
            clear hp2 f'
            obtain ⟨sa, sc, hsl, hrd, hown⟩ := tail_D HRW.out tn htn
            have HRD := Lib.hid (show ReadsD w (.slice sa (m.length - tn) sc) (l.drop (k + tn)) by rw [← List.drop_drop, HMM.out]; exact hrd)
            have HOWN := Lib.hid hown
            clear hrd hown
            rcases er_two er with ⟨ez, eqv⟩ | ⟨ez, eqv⟩
            · have EQ := Lib.hid eqv
              have EZ := Lib.hid ez
              rw [eqv]
              clear eqv ez
              go_wp2_with fail
              have HP2 := Lib.hid (HQ2.out.er (n := er) (v := .nilIface) EQ.out.symm)
              go_roundw
              case rel =>
                exact ⟨_, k + tn, _, X2, Lib.hid ⟨HI.out, ⟨_, _, _, _, _, HP2.out⟩, HXX.out, HOs.out.trans' (Only.set HHl.out.2.1 W2 8 .nilIface), HLs.out.only (Only.set HQ2.out.p W2 8 .nilIface), HRD.out, fun i hi => HBO.out i (HOWN.out i hi)⟩⟩
              case measure =>
                have hg2 := goes_er HP2.out
                have hgz : er ≠ 0 → goesC P (W2.setCell ⟨P, 8, none⟩ .nilIface) = 0 := hg2.2
                have hpz := HPos.out
                have hez := EZ.out
                simp only [lenSl]
                have hg1 := hg2.1
                omega
            · have EQ := Lib.hid eqv
              have EZ := Lib.hid ez
              rw [eqv]
              clear eqv ez
              go_wp2_with fail
              have HP2 := Lib.hid (HQ2.out.er (n := er) (v := (.iface 32 (.int .i64 (er : Int)))) EQ.out.symm)
              go_roundw
              case rel =>
                exact ⟨_, k + tn, _, X2, Lib.hid ⟨HI.out, ⟨_, _, _, _, _, HP2.out⟩, HXX.out, HOs.out.trans' (Only.set HHl.out.2.1 W2 8 (.iface 32 (.int .i64 (er : Int)))), HLs.out.only (Only.set HQ2.out.p W2 8 (.iface 32 (.int .i64 (er : Int)))), HRD.out, fun i hi => HBO.out i (HOWN.out i hi)⟩⟩
              case measure =>
                have hg2 := goes_er HP2.out
                have hgz : er ≠ 0 → goesC P (W2.setCell ⟨P, 8, none⟩ (.iface 32 (.int .i64 (er : Int)))) = 0 := hg2.2
                have hpz := HPos.out
                have hez := EZ.out
                simp only [lenSl]
                have hg1 := hg2.1
                omega
          | true =>
            have hk0 : ((ev.k : Int) == 0) = false := by simpa using hk
            have HEV := Lib.hid (show evsC (t, ev, tn, er) = [ev] ++ (offC t []).2 by unfold evsC; rw [if_neg hk])
            obtain ⟨Y1, hoE, hY1, hv1⟩ := HL1.out
            have hbB := below_new W1 (.cells #[.int .i64 (ev.k : Int), .string (strB ev.q.1), .string (strB ev.q.2.1), (.slice qa ev.q.2.2.length qc), .int .i64 (ev.p.1 : Int), (.slice pa ev.p.2.length pc), (.slice da ev.d.length dc), noV] 42)
            have HC8 := Lib.hid (ev_new W1 ev (.slice qa ev.q.2.2.length qc) (.slice pa ev.p.2.length pc) (.slice da ev.d.length dc) noV)
            have HE8 : Hid (EvR (fun i => (Value.slice qa ev.q.2.2.length qc).ownBlock = some i ∨ (Value.slice pa ev.p.2.length pc).ownBlock = some i ∨ (Value.slice da ev.d.length dc).ownBlock = some i) (W1.alloc (.cells #[.int .i64 (ev.k : Int), .string (strB ev.q.1), .string (strB ev.q.2.1), (.slice qa ev.q.2.2.length qc), .int .i64 (ev.p.1 : Int), (.slice pa ev.p.2.length pc), (.slice da ev.d.length dc), noV] 42)) ev (evC ev (.slice qa ev.q.2.2.length qc) (.slice pa ev.p.2.length pc) (.slice da ev.d.length dc) noV)) := Lib.hid ⟨_, _, _, _, rfl, (OwnsP.below HQ.out hbB).q, (OwnsP.below HP.out hbB).q, (HDt.out.below hbB).reads, (by rw [htt]; exact (OwnsP.nil 71 0 _).q), fun i hi => by
              rcases hi with a | a | a | a
              · exact .inl a
              · exact .inr (.inl a)
              · exact .inr (.inr a)
              · cases a⟩
            have hW1 := HO1.out.size
            have hlt1 := hoE.lt
            have HZ := Lib.hid (ev_blocks HQ.out HP.out HDt.out HN.out)
            have hoE2 := hoE.only (Only.below (X := fun _ => False) hbB) (fun _ _ h => h) (fun _ _ h => h)
            have HoE2 := Lib.hid hoE2
            have hs8 := hbB.size
            have HWR := Lib.hid hwr
            clear hoE hoE2 hk
            go_upto_region 8 with (at_builtin; refine wpList_appendE (by rfl) _ _ (by rfl) _ (by rfl) HoE2.out W1.heap.size (by rfl) (e := ev) (q := (.slice qa ev.q.2.2.length qc)) (p := (.slice pa ev.p.2.length pc)) (d := (.slice da ev.d.length dc)) (t := noV) (Z := fun i => (Value.slice qa ev.q.2.2.length qc).ownBlock = some i ∨ (Value.slice pa ev.p.2.length pc).ownBlock = some i ∨ (Value.slice da ev.d.length dc).ownBlock = some i) HC8.out (fun u hu => by simp at hu; rcases hu with rfl | rfl | rfl | rfl | rfl | rfl | rfl | rfl <;> rfl) HE8.out (fun i hi => ⟨Nat.lt_of_lt_of_le (HZ.out i hi).2.1 hs8, fun e => by have := (hlt1.1 i e).2; have := (HZ.out i hi).1; have := HLW.out i e; omega⟩) (by omega) (by omega) ?_; intro v2 W2 hO2 hg2 hat2; have hs9 : w.heap.size ≤ wr.heap.size := HWR.out; have HL2 := Lib.hid (LsE.snoc hY1 hv1 (fun i hi => ⟨Nat.le_trans hs9 (HZ.out i hi).1, (HZ.out i hi).2.2⟩) (fun i hi => Nat.lt_of_lt_of_le (HC1.out.lt.2.2 i hi).2 hs8) hO2 hat2); have HC2 := Lib.hid (con_grown (HC1.out.below hbB) hg2 hv1); have HO2 := Lib.hid (only_grown (HO1.out.trans' (Only.below hbB)) (Nat.le_refl _) hg2 (fun i hi => (hlt1.1 i hi).1)); obtain ⟨va2, vc2, rfl⟩ : ∃ a c, v2 = .slice a (o.length + 1) c := by (obtain ⟨_, h, _⟩ := HL2.out; obtain ⟨a, c, h⟩ := h.isSlice; exact ⟨a, c, by rw [h, List.length_append]; rfl⟩))
            obtain ⟨mv1, sv1, dv1, XM1, XD1, hp1⟩ := HC2.out
            have IC := Lib.hid (isComplete_any hp1)
            clear hp1
            go_wp2_with fail
            refine IC.out.mono ?_
            rintro e w' ⟨rfl, rfl⟩
            clear IC
            have HNX := Lib.hid (show nextC (t, ev, tn, er) = { endC t with er := er } by unfold nextC offC; rw [hc]; rfl)
            have HEV2 := Lib.hid (show o ++ evsC (t, ev, tn, er) = (o ++ [ev]) ++ [endE t] by rw [HEV.out]; unfold offC; rw [hc]; simp)
            rw [HNX.out, HEV2.out] at HI
            have EN := Lib.hid (end_any W2 HC2.out (HEK.out hc))
            rw [hc]
            clear hc HNX HEV HEV2
            go_wp2_with fail
            refine EN.out.mono ?_
            rintro en W3 ⟨tv, rfl, hT3, hC3, hO3⟩
            obtain ⟨ta, tc, rfl⟩ := own_slice' hT3
            have hLsE3 := HL2.out.only hO3
            obtain ⟨Y3, hoE3, hY3, hv3⟩ := hLsE3
            have hb3 := below_new W3 (.cells #[.int .i64 ((endE t).k : Int), .string (strB (endE t).q.1), .string (strB (endE t).q.2.1), noV, .int .i64 ((endE t).p.1 : Int), noV, noV, (.slice ta (trsO t.dc).length tc)] 42)
            have HC83 := Lib.hid (ev_new W3 (endE t) noV noV noV (.slice ta (trsO t.dc).length tc))
            have HT3 := Lib.hid hT3
            have HE83 : Hid (EvR (fun i => (Value.slice ta (trsO t.dc).length tc).ownBlock = some i) (W3.alloc (.cells #[.int .i64 ((endE t).k : Int), .string (strB (endE t).q.1), .string (strB (endE t).q.2.1), noV, .int .i64 ((endE t).p.1 : Int), noV, noV, (.slice ta (trsO t.dc).length tc)] 42)) (endE t) (evC (endE t) noV noV noV (.slice ta (trsO t.dc).length tc))) := Lib.hid ⟨noV, noV, noV, _, rfl, (OwnsP.nil 71 0 _).q, (OwnsP.nil 71 0 _).q, readsB_nil _, (OwnsP.below hT3 hb3).q, fun i hi => by
              rcases hi with a | a | a | a
              · cases a
              · cases a
              · cases a
              · exact a⟩
            have HLT3 := Lib.hid (fun i hi => World.ownsRow.lt hT3 i hi)
            have hlt3 := hoE3.lt
            have hoE4 := hoE3.only (Only.below (X := fun _ => False) hb3) (fun _ _ h => h) (fun _ _ h => h)
            have HoE4 := Lib.hid hoE4
            have hs3 := hb3.size
            have hsO := hO3.size
            have hsW := HO2.out.size
            obtain ⟨_, hoE0, _⟩ := HL2.out
            have HLT0 := Lib.hid hoE0.lt.1
            have HC3 := Lib.hid hC3
            have HO3 := Lib.hid (HO2.out.trans hO3 HX2.out)
            have HX3 := Lib.hid (fun i hi => (HC2.out.lt.2.2 i hi).2)
            clear hoE0 hoE3 hoE4 hT3 hC3 hO3 EN
            obtain ⟨sa, sc, hsl, hrd, hown⟩ := tail_D HRW.out tn htn
            have HRD := Lib.hid (show ReadsD w (.slice sa (m.length - tn) sc) (l.drop (k + tn)) by rw [← List.drop_drop, HMM.out]; exact hrd)
            have HOWN := Lib.hid hown
            clear hrd hown
            rcases er_two er with ⟨ez, eqv⟩ | ⟨ez, eqv⟩
            · have EQ := Lib.hid eqv
              have EZ := Lib.hid ez
              rw [eqv]
              clear eqv ez
              go_upto_region 9 with (at_builtin; refine wpList_appendE (by rfl) _ _ (by rfl) _ (by rfl) HoE4.out W3.heap.size (by rfl) (e := endE t) (q := noV) (p := noV) (d := noV) (t := .slice ta (trsO t.dc).length tc) (Z := fun i => (Value.slice ta (trsO t.dc).length tc).ownBlock = some i) HC83.out (fun u hu => by simp at hu; rcases hu with rfl | rfl | rfl | rfl | rfl | rfl | rfl | rfl <;> rfl) HE83.out (fun i hi => ⟨Nat.lt_of_lt_of_le (HLT3.out i hi).2 hs3, fun e => by have := (HLT0.out i e).2; have := (HLT3.out i hi).1; omega⟩) (by first | omega | (simp; omega)) (by omega) ?_; intro v4 W4 hO4 hg4 hat4; have HL4 := Lib.hid (LsE.snoc hY3 hv3 (fun i hi => ⟨Nat.le_trans hsW (HLT3.out i hi).1, fun hx => by have := HX3.out i hx; have := (HLT3.out i hi).1; omega⟩) (fun i hi => Nat.lt_of_lt_of_le (HC3.out.lt.2.2 i hi).2 hs3) hO4 hat4); have HC4 := Lib.hid (con_grown (HC3.out.below hb3) hg4 hv3); have HO4 := Lib.hid (only_grown (HO3.out.trans' (Only.below hb3)) (Nat.le_refl _) hg4 (fun i hi => (hlt3.1 i hi).1)); obtain ⟨mv2, sv2, dv2, XM2, XD2, hp2⟩ := HC4.out; obtain ⟨_, _, _, _, _, _, _, _, c8', f'⟩ := hp2.cells; have f8 := f' 8; have HQ2 := Lib.hid hp2; clear hp2 f' hO4 hg4 hat4)
              have HLs := HL4
              have HOs := HO4
              try go_wp2_with fail
              have HP2 := Lib.hid (HQ2.out.er (n := er) (v := .nilIface) EQ.out.symm)
              go_roundw
              case rel =>
                exact ⟨_, k + tn, _, X2, Lib.hid ⟨HI.out, ⟨_, _, _, _, _, HP2.out⟩, HXX.out, HOs.out.trans' (Only.set HHl.out.2.1 W4 8 .nilIface), HLs.out.only (Only.set HQ2.out.p W4 8 .nilIface), HRD.out, fun i hi => HBO.out i (HOWN.out i hi)⟩⟩
              case measure =>
                have hg2 := goes_er HP2.out
                have hgz : er ≠ 0 → goesC P (W4.setCell ⟨P, 8, none⟩ .nilIface) = 0 := hg2.2
                have hpz := HPos.out
                have hez := EZ.out
                simp only [lenSl]
                have hg1 := hg2.1
                omega
            · have EQ := Lib.hid eqv
              have EZ := Lib.hid ez
              rw [eqv]
              clear eqv ez
              go_upto_region 9 with (at_builtin; refine wpList_appendE (by rfl) _ _ (by rfl) _ (by rfl) HoE4.out W3.heap.size (by rfl) (e := endE t) (q := noV) (p := noV) (d := noV) (t := .slice ta (trsO t.dc).length tc) (Z := fun i => (Value.slice ta (trsO t.dc).length tc).ownBlock = some i) HC83.out (fun u hu => by simp at hu; rcases hu with rfl | rfl | rfl | rfl | rfl | rfl | rfl | rfl <;> rfl) HE83.out (fun i hi => ⟨Nat.lt_of_lt_of_le (HLT3.out i hi).2 hs3, fun e => by have := (HLT0.out i e).2; have := (HLT3.out i hi).1; omega⟩) (by first | omega | (simp; omega)) (by omega) ?_; intro v4 W4 hO4 hg4 hat4; have HL4 := Lib.hid (LsE.snoc hY3 hv3 (fun i hi => ⟨Nat.le_trans hsW (HLT3.out i hi).1, fun hx => by have := HX3.out i hx; have := (HLT3.out i hi).1; omega⟩) (fun i hi => Nat.lt_of_lt_of_le (HC3.out.lt.2.2 i hi).2 hs3) hO4 hat4); have HC4 := Lib.hid (con_grown (HC3.out.below hb3) hg4 hv3); have HO4 := Lib.hid (only_grown (HO3.out.trans' (Only.below hb3)) (Nat.le_refl _) hg4 (fun i hi => (hlt3.1 i hi).1)); obtain ⟨mv2, sv2, dv2, XM2, XD2, hp2⟩ := HC4.out; obtain ⟨_, _, _, _, _, _, _, _, c8', f'⟩ := hp2.cells; have f8 := f' 8; have HQ2 := Lib.hid hp2; clear hp2 f' hO4 hg4 hat4)
              have HLs := HL4
              have HOs := HO4
              try go_wp2_with fail
              have HP2 := Lib.hid (HQ2.out.er (n := er) (v := (.iface 32 (.int .i64 (er : Int)))) EQ.out.symm)
              go_roundw
              case rel =>
                exact ⟨_, k + tn, _, X2, Lib.hid ⟨HI.out, ⟨_, _, _, _, _, HP2.out⟩, HXX.out, HOs.out.trans' (Only.set HHl.out.2.1 W4 8 (.iface 32 (.int .i64 (er : Int)))), HLs.out.only (Only.set HQ2.out.p W4 8 (.iface 32 (.int .i64 (er : Int)))), HRD.out, fun i hi => HBO.out i (HOWN.out i hi)⟩⟩
              case measure =>
                have hg2 := goes_er HP2.out
                have hgz : er ≠ 0 → goesC P (W4.setCell ⟨P, 8, none⟩ (.iface 32 (.int .i64 (er : Int)))) = 0 := hg2.2
                have hpz := HPos.out
                have hez := EZ.out
                simp only [lenSl]
                have hg1 := hg2.1
                omega
    · have W := Lib.hid (fun w' hb => wr_end (w' := w') M.out (.inl he) hb (e := .iface 32 (.int .i64 (s'.er : Int))) (errV_yes he).symm)
      rw [errV_yes he] at c8
      clear he
      go_wp2_with fail
      go_quiet (fail)
      go_wp2_with fail
      (try simp only [Exit.inBlock, Exit.then])
      refine bodyPost_ret (v := .tuple #[.slice va o.length vc, .iface 32 (.int .i64 (s'.er : Int))]) (by simp [results, Tryz.results8, go_sem]) rfl ?_
      exact W.out _ (below_drewN (Below.refl _ _) _)
end Go.Proofs.YtfmgfcddnnggeaaGreatDoor

/- What Requests returns. -/
namespace Go.Proofs.YtfmgfcddnnggeaaGreatDoor
open Go.RowKit

theorem con_new (w : World) : Con w.heap.size w.heap.size (fun k => k = w.heap.size) Cn.reqs (w.alloc (.cells #[.bool false, .slice none 0 0, .int .i64 0, .slice none 0 0, .int .i64 0, .int .i64 0, .pointer none, .bool false, .nilIface] 51)) :=
  ⟨.slice none 0 0, .slice none 0 0, .pointer none, fun _ => False, fun _ => False, heap_alloc_new w _, msM_nil _ _, OwnB.nil _ _, rfl, rfl, fun _ h => False.elim h, fun k hk => (by cases hk), fun _ h => False.elim h, fun k hk => ⟨Nat.le_of_eq hk.symm, by simp [hk]⟩⟩
set_option maxHeartbeats 1000000 in
set_option maxRecDepth 100000 in
theorem requests_any (w : World) : Calls Tryz.prog 7 #[] w fun e w' => e = .returned (.pointer (some ⟨w.heap.size, 0, none⟩)) ∧ Con w.heap.size w.heap.size (fun k => k = w.heap.size) Cn.reqs w' ∧ Below w.heap.size w w' := by
  have HD := Lib.hid (con_new w)
  go_enter Tryz.func7, Tryz.ntmps7
  go_wp2_with fail
  go_ret
  exact ⟨rfl, HD.out, below_new _ _⟩
end Go.Proofs.YtfmgfcddnnggeaaGreatDoor
