import Derived.Test.YtfmgfcddnnggeaaGreatDoorPa32
import Derived.Deep.QuietTactic
import Derived.BigQuiet
import Derived.Test.YtfmgfcddnnggeaaGreatDoorPa31
import Derived.Test.YtfmgfcddnnggeaaGreatDoorPa20
/- What the connection's Close returns. -/
namespace Go.Proofs.YtfmgfcddnnggeaaGreatDoor
open Go.RowKit

def ClPost (B P : Nat) (X : Nat → Prop) (r : Cn × List Ev) (w : World) (e : Ending) (w' : World) : Prop :=
  ∃ v Y, e = .returned (.tuple #[v, errV r.1.er]) ∧ OwnsE w.heap.size Y w' v r.2 ∧ (∀ k, Y k → w.heap.size ≤ k ∧ ¬ X k) ∧ Con B P X r.1 w' ∧ Only X w w'
set_option maxHeartbeats 4000000 in
set_option maxRecDepth 100000 in
theorem close_stop {B P : Nat} {X : Nat → Prop} {s : Cn} (w : World) (h : Con B P X s w) (he : s.er ≠ 0) :
    Calls Tryz.prog 11 #[.pointer (some ⟨P, 0, none⟩)] w (ClPost B P X (closeC s) w) := by
  have H := Lib.hid h
  obtain ⟨mv, sv, dv, XM, XD, hp⟩ := h
  obtain ⟨_, _, _, _, _, _, _, _, c8, _⟩ := hp.cells
  have HE : Hid (closeC s = (s, [])) := Lib.hid (closeC_stop he)
  have HR : Hid (errV s.er = .iface 32 (.int .i64 (s.er : Int))) := Lib.hid (if_neg he)
  rw [HR.out] at c8
  clear he hp
  go_enter Tryz.func11, Tryz.ntmps11
  go_wp2_with fail
  go_quiet (fail)
  go_wp2_with fail
  (try simp only [Exit.inBlock, Exit.then])
  refine bodyPost_ret (v := .tuple #[.slice none 0 0, errV s.er]) (by rw [HR.out]; simp [results, Tryz.results11, go_sem]) rfl ?_
  rw [HE.out]
  exact ⟨_, fun _ => False, rfl, OwnsE.nil _ _, fun _ h => False.elim h, H.out.below (below_drewN (Below.refl _ _) _), Only.below (below_drewN (Below.refl _ _) _)⟩
set_option maxHeartbeats 4000000 in
set_option maxRecDepth 100000 in
theorem close_plain {B P : Nat} {X : Nat → Prop} {s : Cn} (w : World) (h : Con B P X s w) (he : s.er = 0) (h4 : s.fk ≠ 4) :
    Calls Tryz.prog 11 #[.pointer (some ⟨P, 0, none⟩)] w (ClPost B P X (closeC s) w) := by
  obtain ⟨mv, sv, dv, XM, XD, hp⟩ := h
  obtain ⟨c0, _, _, c3, c4, _, _, c7, c8, f⟩ := hp.cells
  have f7 := f 7
  have f8 := f 8
  have HP := Lib.hid hp
  have IB := Lib.hid (inBody_any hp.cells)
  obtain ⟨sa, sc, rfl⟩ := hp.t.isSlice
  have hz4 : ((s.fk : Int) == 4) = false := by simp; omega
  have he2 : closeC s = ({ s with er := if s.fk = 0 ∧ s.st = [] then 0 else 21, cl := true }, []) := by unfold closeC; rw [if_neg (by simp [he]), if_neg h4]
  rw [he, show errV 0 = .nilIface from rfl] at c8
  have HE0 := Lib.hid he
  clear hp f h4
  by_cases h0 : s.fk = 0
  · rw [decide_eq_false (by simp [h0])] at IB
    by_cases hs : s.st = []
    · have HE : Hid (closeC s = ({ s with cl := true }, [])) := Lib.hid (by rw [he2, if_pos ⟨h0, hs⟩, ← he])
      have hl : s.st.length = 0 := by rw [hs]; rfl
      rw [hl] at c3
      clear he2 h0
      have HP9 := Lib.hid (HP.out.cl true)
      have HO9 := Lib.hid (Only.set (X := X) HP.out.p w 7 (.bool true))
      obtain ⟨_, _, _, _, _, _, _, _, d8, _⟩ := HP9.out.cells
      go_enter Tryz.func11, Tryz.ntmps11
      go_wp2_with fail
      refine IB.out.mono ?_
      rintro en wi ⟨rfl, rfl⟩
      go_wp2_with fail
      generalize hW : w.setCell ⟨P, 7, none⟩ (.bool true) = W1 at *
      clear hW c0 c3 c4 c7 c8 f7 f8
      go_quiet (fail)
      go_wp2_with fail
      (try simp only [Exit.inBlock, Exit.then])
      refine bodyPost_ret (v := .tuple #[.slice none 0 0, errV 0]) (by simp [results, Tryz.results11, go_sem, errV]) rfl ?_
      rw [HE.out]
      exact ⟨.slice none 0 0, fun _ => False, by show Ending.returned (.tuple #[.slice none 0 0, errV 0]) = Ending.returned (.tuple #[.slice none 0 0, errV s.er]); rw [HE0.out], OwnsE.nil _ _, fun _ h => False.elim h, ⟨_, _, _, _, _, HP9.out.below (below_drewN (Below.refl _ _) _)⟩, HO9.out.trans' (Only.below (below_drewN (Below.refl _ _) _))⟩
    · have HE : Hid (closeC s = ({ s with er := 21, cl := true }, [])) := Lib.hid (by rw [he2, if_neg (fun a => hs a.2)])
      have hl : 0 < s.st.length := List.length_pos_iff.2 hs
      clear he2 h0 hs
      have HP9 := Lib.hid ((HP.out.er (n := 21) (v := .iface 32 (.int .i64 21)) rfl).cl true)
      have HO9 := Lib.hid ((Only.set (X := X) HP.out.p w 8 (.iface 32 (.int .i64 21))).trans' (Only.set HP.out.p _ 7 (.bool true)))
      obtain ⟨_, _, _, _, _, _, _, _, d8, _⟩ := HP9.out.cells
      go_enter Tryz.func11, Tryz.ntmps11
      go_wp2_with fail
      refine IB.out.mono ?_
      rintro en wi ⟨rfl, rfl⟩
      go_wp2_with fail
      generalize hW : (w.setCell ⟨P, 8, none⟩ (.iface 32 (.int .i64 21))).setCell ⟨P, 7, none⟩ (.bool true) = W1 at *
      clear hW c0 c3 c4 c7 c8 f7 f8
      go_quiet (fail)
      go_wp2_with fail
      (try simp only [Exit.inBlock, Exit.then])
      refine bodyPost_ret (v := .tuple #[.slice none 0 0, errV 21]) (by simp [results, Tryz.results11, go_sem, errV]) rfl ?_
      rw [HE.out]
      exact ⟨_, fun _ => False, rfl, OwnsE.nil _ _, fun _ h => False.elim h, ⟨_, _, _, _, _, HP9.out.below (below_drewN (Below.refl _ _) _)⟩, HO9.out.trans' (Only.below (below_drewN (Below.refl _ _) _))⟩
  · rw [decide_eq_true h0] at IB
    have HE : Hid (closeC s = ({ s with er := 21, cl := true }, [])) := Lib.hid (by rw [he2, if_neg (fun a => h0 a.1)])
    clear he2 h0
    have HP9 := Lib.hid ((HP.out.er (n := 21) (v := .iface 32 (.int .i64 21)) rfl).cl true)
    have HO9 := Lib.hid ((Only.set (X := X) HP.out.p w 8 (.iface 32 (.int .i64 21))).trans' (Only.set HP.out.p _ 7 (.bool true)))
    obtain ⟨_, _, _, _, _, _, _, _, d8, _⟩ := HP9.out.cells
    go_enter Tryz.func11, Tryz.ntmps11
    go_wp2_with fail
    refine IB.out.mono ?_
    rintro en wi ⟨rfl, rfl⟩
    go_wp2_with fail
    generalize hW : (w.setCell ⟨P, 8, none⟩ (.iface 32 (.int .i64 21))).setCell ⟨P, 7, none⟩ (.bool true) = W1 at *
    clear hW c0 c3 c4 c7 c8 f7 f8
    go_quiet (fail)
    go_wp2_with fail
    (try simp only [Exit.inBlock, Exit.then])
    refine bodyPost_ret (v := .tuple #[.slice none 0 0, errV 21]) (by simp [results, Tryz.results11, go_sem, errV]) rfl ?_
    rw [HE.out]
    exact ⟨_, fun _ => False, rfl, OwnsE.nil _ _, fun _ h => False.elim h, ⟨_, _, _, _, _, HP9.out.below (below_drewN (Below.refl _ _) _)⟩, HO9.out.trans' (Only.below (below_drewN (Below.refl _ _) _))⟩
theorem ev_new (w : World) (e : Ev) (q p d t : Value) : ∀ j u, (evC e q p d t)[j]? = some u → (w.alloc (.cells #[.int .i64 (e.k : Int), .string (strB e.q.1), .string (strB e.q.2.1), q, .int .i64 (e.p.1 : Int), p, d, t] 42)).cell? ((⟨w.heap.size, 0, none⟩ : Addr).add j) = some u := by
  intro j u h
  rw [Addr.add_lit, Nat.zero_add, World.cell?_alloc_at _ _ _ _ rfl]
  simpa using h
set_option maxHeartbeats 4000000 in
set_option maxRecDepth 100000 in
theorem close_four {B P : Nat} {X : Nat → Prop} {s : Cn} (w : World) (h : Con B P X s w) (hok : s.Ok) (he : s.er = 0) (h4 : s.fk = 4) :
    Calls Tryz.prog 11 #[.pointer (some ⟨P, 0, none⟩)] w (ClPost B P X (closeC s) w) := by
  have EN := Lib.hid (end_any w h (hok.endOk (by rw [h4]; decide)))
  have HX := Lib.hid (fun k hk => (h.lt.2.2 k hk).2)
  have HXP := Lib.hid h.lt.2.1
  have hst : s.st = [] := hok.o8 (by rw [h4]; decide)
  have HE : Hid (closeC s = ({ endC s with er := 0, cl := true }, [endE s])) := Lib.hid (by unfold closeC; rw [if_neg (by simp [he]), if_pos h4, if_pos hst])
  have HST : Hid ((endC s).st = []) := Lib.hid hst
  have HER : Hid ((endC s).er = 0) := Lib.hid he
  obtain ⟨mv, sv, dv, XM, XD, hp⟩ := h
  obtain ⟨_, _, _, _, c4, _, _, _, c8, _⟩ := hp.cells
  rw [he, show errV 0 = .nilIface from rfl] at c8
  rw [h4] at c4
  clear hp he h4 hst hok
  go_enter Tryz.func11, Tryz.ntmps11
  go_wp2_with fail
  refine EN.out.mono ?_
  rintro en w1 ⟨tv, rfl, hO, hC1, hOn⟩
  obtain ⟨ta, tc, rfl⟩ := own_slice' hO
  have hb := below_new w1 (.cells #[.int .i64 ((endE s).k : Int), .string (strB (endE s).q.1), .string (strB (endE s).q.2.1), noV, .int .i64 ((endE s).p.1 : Int), noV, noV, .slice ta (trsO s.dc).length tc] 42)
  have HC8 := Lib.hid (ev_new w1 (endE s) noV noV noV (.slice ta (trsO s.dc).length tc))
  have HLT := Lib.hid (fun k hk => World.ownsRow.lt hO k hk)
  have HE8 : Hid (EvR (fun k => (Value.slice ta (trsO s.dc).length tc).ownBlock = some k) (w1.alloc (.cells #[.int .i64 ((endE s).k : Int), .string (strB (endE s).q.1), .string (strB (endE s).q.2.1), noV, .int .i64 ((endE s).p.1 : Int), noV, noV, .slice ta (trsO s.dc).length tc] 42)) (endE s) (evC (endE s) noV noV noV (.slice ta (trsO s.dc).length tc))) :=
    Lib.hid ⟨noV, noV, noV, _, rfl, (OwnsP.nil 71 0 _).q, (OwnsP.nil 71 0 _).q, readsB_nil _, (OwnsP.below hO hb).q, fun k hk => by
      rcases hk with a | a | a | a
      · cases a
      · cases a
      · cases a
      · exact a⟩
  have hs1 := hOn.size
  have hs2 := hb.size
  have HC := Lib.hid (hC1.below hb)
  have HOn := Lib.hid (hOn.trans' (Only.below hb))
  clear hO hC1 hOn hb c4 c8 EN
  go_upto_region 8 with (at_builtin; refine wpList_appendE (by rfl) _ _ (by rfl) _ (by rfl) (OwnsE.nil w.heap.size _) w1.heap.size (by rfl) (e := endE s) (q := noV) (p := noV) (d := noV) (t := .slice ta (trsO s.dc).length tc) (Z := fun k => (Value.slice ta (trsO s.dc).length tc).ownBlock = some k) HC8.out (fun u hu => by simp at hu; rcases hu with rfl | rfl | rfl | rfl | rfl | rfl | rfl | rfl <;> rfl) HE8.out (fun k hk => ⟨Nat.lt_of_lt_of_le (HLT.out k hk).2 hs2, by simp [Value.ownBlock]⟩) (by decide) (by omega) ?_; intro v2 w2 hO2 hg2 hat2)
  have hOg : Only (fun _ => False) _ w2 := Only.grown hg2 (fun k hk => by cases hk)
  have hC2 := HC.out.only hOg (fun _ _ h => h)
  obtain ⟨mv2, sv2, dv2, XM2, XD2, hp2⟩ := hC2
  have HO2 := Lib.hid hO2
  have HOw := Lib.hid (HOn.out.trans hOg (fun _ h => False.elim h))
  have IB := Lib.hid (inBody_any hp2.cells)
  obtain ⟨_, _, _, c3, _, _, _, c7, c8, f⟩ := hp2.cells
  have f7 := f 7
  rw [HER.out, show errV 0 = .nilIface from rfl] at c8
  obtain ⟨sa, sc, rfl⟩ := hp2.t.isSlice
  rw [show (endC s).st.length = 0 by rw [HST.out]; rfl] at c3
  rw [show decide ((endC s).fk ≠ 0) = false from rfl] at IB
  have HP9 := Lib.hid (hp2.cl true)
  have hS9 : Only (fun k => k = P) w2 (w2.setCell ⟨P, 7, none⟩ (.bool true)) := Only.set (X := fun k => k = P) rfl _ _ _
  have HS9 := Lib.hid hS9
  have HO9 := Lib.hid (HOw.out.trans' (Only.set HXP.out w2 7 (.bool true)))
  obtain ⟨_, _, _, _, _, _, _, _, d8, _⟩ := HP9.out.cells
  rw [show ({ endC s with cl := true } : Cn).er = 0 from HER.out, show errV 0 = .nilIface from rfl] at d8
  clear hO2 hg2 hat2 hOg hp2 f hS9
  go_wp2_with fail
  refine IB.out.mono ?_
  rintro en wi ⟨rfl, rfl⟩
  go_wp2_with fail
  generalize hW : w2.setCell ⟨P, 7, none⟩ (.bool true) = W3 at *
  clear hW c3 c7 c8 f7
  go_quiet (fail)
  go_wp2_with fail
  (try simp only [Exit.inBlock, Exit.then])
  refine bodyPost_ret (v := .tuple #[v2, errV 0]) (by simp [results, Tryz.results11, go_sem, errV]) rfl ?_
  rw [HE.out]
  have hbD := fun n => below_drewN (Below.refl W3.heap.size W3) n
  have hPw := HX.out P HXP.out
  refine ⟨v2, _, rfl, ((HO2.out.only HS9.out ?_ ?_).only (Only.below (X := fun _ => False) (hbD _)) (fun _ _ h => h) (fun _ _ h => h)), fun k hk => ?_, ⟨mv2, .slice sa (endC s).st.length sc, dv2, XM2, XD2, ?_⟩, HO9.out.trans' (Only.below (hbD _))⟩
  · intro k hk e
    rcases hk with a | a
    · exact a
    · have := (HLT.out k a).1; omega
  · intro k hk e
    obtain ⟨xs, r1, _⟩ := HO2.out
    have := (World.ownsRow.lt r1 k hk).1
    omega
  · rcases hk with a | a
    · exact False.elim a
    · exact ⟨(HLT.out k a).1, fun b => by have := HX.out k b; have := (HLT.out k a).1; omega⟩
  · have e : ({ endC s with er := 0, cl := true } : Cn) = { endC s with cl := true } := by rw [← HER.out]
    rw [e]; exact HP9.out.below (hbD _)
theorem cnClose_any {B P : Nat} {X : Nat → Prop} {s : Cn} (w : World) (h : Con B P X s w) (hok : s.Ok) :
    Calls Tryz.prog 11 #[.pointer (some ⟨P, 0, none⟩)] w (ClPost B P X (closeC s) w) := by
  by_cases he : s.er = 0
  · by_cases h4 : s.fk = 4
    · exact close_four w h hok he h4
    · exact close_plain w h he h4
  · exact close_stop w h he
end Go.Proofs.YtfmgfcddnnggeaaGreatDoor

/- Pure: what Write leaves and makes: rounds of take, against the machine that takes byte after byte. -/
namespace Go.Proofs.YtfmgfcddnnggeaaGreatDoor

theorem compl_fk {s : Cn} (h : s.fk = 0) : complB s = false := by
  unfold complB; rw [if_neg (by rw [h]; decide), if_neg (by rw [h]; decide), h]; rfl
/-- A body that needs no more bytes can be ended. -/
theorem take_endOk {s : Cn} {l : List UInt8} (hok : s.Ok) (hc : complB (takeC s l).1 = true) : (takeC s l).1.EndOk := by
  by_cases h0 : s.fk = 0
  · by_cases hcl : s.cl = true ∨ (s.rs = true ∧ s.ms = [])
    · have e : takeC s l = (s, ev0, 0, 6) := by unfold takeC; rw [if_neg (by simp [h0]), if_pos hcl]
      rw [e] at hc
      rw [compl_fk h0] at hc; cases hc
    · have e : takeC s l = thC s l := by unfold takeC; rw [if_neg (by simp [h0]), if_neg hcl]
      rw [e] at hc ⊢
      have hdc := hok.o6 (by rw [h0]; decide)
      have hms : s.rs = true → s.ms ≠ [] := fun hr hm => hcl (.inr ⟨hr, hm⟩)
      unfold thC at hc ⊢
      split at hc
      · rw [compl_fk (by exact h0)] at hc; cases hc
      · split at hc
        · rw [compl_fk (by exact h0)] at hc; cases hc
        · split at hc
          · rw [compl_fk (by exact h0)] at hc; cases hc
          · split at hc
            · rw [compl_fk (by exact h0)] at hc; cases hc
            · split at hc
              · rw [compl_fk (by exact h0)] at hc; cases hc
              · next a1 a2 a3 a4 a5 =>
                rw [if_neg a1, if_neg a2, if_neg a3, if_neg a4, if_neg a5]
                refine ⟨fun d hd => ?_, fun hr => hms hr⟩
                simp only [beginC] at hd
                split at hd
                · rw [← Option.some.inj hd]; decide
                · rw [hdc] at hd; cases hd
  · have e : (takeC s l).1 = (tdC s l).1 := by unfold takeC; rw [if_pos h0]
    rw [e]
    have ho := hok.endOk h0
    unfold tdC
    split
    · next h3 =>
      obtain ⟨d, hd, hdo, _⟩ := hok.o5 h3
      rw [hd]
      exact ⟨fun d' hd' => by simp only at hd'; rw [← Option.some.inj hd']; exact (wrD_ok _ hdo).b8, ho.ms⟩
    · split
      · exact ⟨ho.tr, ho.ms⟩
      · exact ho
/-- No event of take bears trailers. -/
theorem take_t (s : Cn) (l : List UInt8) : (takeC s l).2.1.t = [] := by
  have hr : (rdC s l).2.1.t = [] := by unfold rdC hdR; split <;> rfl
  unfold takeC
  split
  · show (evD (tdC s l).2.1).t = []
    unfold evD; split <;> rfl
  · split
    · rfl
    · unfold thC; repeat' split
      all_goals first | rfl | exact hr
/-- What the loop of Write keeps: the connection s' with the first k bytes taken, the events o. -/
def WrI (s : Cn) (l : List UInt8) (s' : Cn) (k : Nat) (o : List Ev) : Prop :=
  s'.Ok ∧ k ≤ l.length ∧ (s'.er ≠ 0 ∨ l.drop k = [] ∨ notDat o) ∧ (s'.er ≠ 0 ∨ o.length ≤ 2 * k) ∧ o.length ≤ 2 * k + 2 ∧
    ∃ x, runC s l = ((runC s' (l.drop k)).1, x ++ (runC s' (l.drop k)).2) ∧ x.foldl snocE [] = o
theorem wrI_start {s : Cn} (l : List UInt8) (hok : s.Ok) : WrI s l s 0 [] :=
  ⟨hok, Nat.zero_le _, .inr (.inr notDat_nil), .inr (Nat.le_refl _), by simp, [], by simp, rfl⟩
theorem evs_len (r : Cn × Ev × Nat × Nat) : (evsC r).length ≤ 2 := by
  unfold evsC offC
  rw [List.length_append]
  have a : (if r.2.1.k = 0 then ([] : List Ev) else [r.2.1]).length ≤ 1 := by split <;> simp
  have b : (if complB r.1 = true then (endC r.1, ([] : List Ev) ++ [endE r.1]) else (r.1, [])).2.length ≤ 1 := by split <;> simp
  omega
theorem wrI_next {s s' : Cn} {l : List UInt8} {k : Nat} {o : List Ev} (h : WrI s l s' k o) (he : s'.er = 0) (hl : l.drop k ≠ []) :
    WrI s l (nextC (takeC s' (l.drop k))) (k + (takeC s' (l.drop k)).2.2.1) (o ++ evsC (takeC s' (l.drop k))) ∧ (takeC s' (l.drop k)).2.2.1 ≤ (l.drop k).length ∧ ((takeC s' (l.drop k)).2.2.2 = 0 → 0 < (takeC s' (l.drop k)).2.2.1) := by
  obtain ⟨hok, hk, h3, h4, h5, x, h6, h7⟩ := h
  have ho : notDat o := by
    rcases h3 with a | a | a
    · exact absurd he a
    · exact absurd a hl
    · exact a
  obtain ⟨g1, y, g2, g3, g4, g5, g6⟩ := take_run hok he hl ho
  have hlen := evs_len (takeC s' (l.drop k))
  have hdl : (l.drop k).length = l.length - k := List.length_drop
  generalize takeC s' (l.drop k) = r at *
  have her : (nextC r).er = r.2.2.2 := rfl
  have h4' : o.length ≤ 2 * k := by
    rcases h4 with a | a
    · exact absurd he a
    · exact a
  have hd : (l.drop k).drop r.2.2.1 = l.drop (k + r.2.2.1) := List.drop_drop
  rw [hd] at g2 g4
  refine ⟨⟨g1, by omega, by rw [her]; exact g4, ?_, by rw [List.length_append]; omega, x ++ y, ?_, ?_⟩, g6, g5⟩
  · rw [her, List.length_append]
    by_cases hz : r.2.2.2 = 0
    · have := g5 hz; exact .inr (by omega)
    · exact .inl hz
  · rw [h6, g2]; simp
  · rw [List.foldl_append, h7, g3]
theorem wrI_end {s s' : Cn} {l : List UInt8} {k : Nat} {o : List Ev} (h : WrI s l s' k o) (hd : s'.er ≠ 0 ∨ l.drop k = []) : (runC s l).1 = s' ∧ joinE (runC s l).2 = o ∧ s'.Ok := by
  obtain ⟨hok, _, _, _, _, x, h6, h7⟩ := h
  have e : runC s' (l.drop k) = (s', []) := by
    rcases hd with a | a
    · exact runC_stop a _
    · rw [a]; rfl
  rw [e] at h6
  rw [h6]
  exact ⟨rfl, by simpa [joinE] using h7, hok⟩
end Go.Proofs.YtfmgfcddnnggeaaGreatDoor

/- The memory of Write: its list of events beside the connection. -/
namespace Go.Proofs.YtfmgfcddnnggeaaGreatDoor
open Go.RowKit

/-- The list of events that Write has made so far: none of its blocks is the connection's. -/
def LsE (B : Nat) (X : Nat → Prop) (v : Value) (es : List Ev) (w : World) : Prop :=
  ∃ Y, OwnsE B Y w v es ∧ (∀ i, Y i → B ≤ i ∧ ¬ X i) ∧ (∀ i, v.ownBlock = some i → ¬ X i)
theorem OwnsE.lt {B : Nat} {Y : Nat → Prop} {w : World} {v : Value} {es : List Ev} (h : OwnsE B Y w v es) : (∀ i, v.ownBlock = some i → B ≤ i ∧ i < w.heap.size) ∧ (∀ i, Y i → i < w.heap.size) := by
  obtain ⟨xs, h1, _, _, _, h5⟩ := h
  exact ⟨fun i hi => World.ownsRow.lt h1 i hi, h5⟩
theorem OwnsE.isSlice {B : Nat} {Y : Nat → Prop} {w : World} {v : Value} {es : List Ev} (h : OwnsE B Y w v es) : ∃ a c, v = .slice a es.length c := by
  obtain ⟨xs, ⟨_, ⟨hv, hn⟩ | ⟨g, cap, cur, hv, _⟩⟩, _⟩ := h
  · exact ⟨none, 0, by rw [hv, hn]⟩
  · exact ⟨_, cap, hv⟩
theorem LsE.nil (B : Nat) (X : Nat → Prop) (w : World) : LsE B X (.slice none 0 0) [] w := ⟨_, OwnsE.nil B w, fun _ h => False.elim h, fun i h => by cases h⟩
theorem LsE.take {B : Nat} {X X2 : Nat → Prop} {v : Value} {es : List Ev} {w w1 : World} (h : LsE B X v es w) (hO : Only X w w1) (hX : ∀ i, X2 i → X i ∨ w.heap.size ≤ i) : LsE B X2 v es w1 := by
  obtain ⟨Y, h1, h2, h3⟩ := h
  have hl := h1.lt
  refine ⟨Y, h1.only hO (fun k hk => (h2 k hk).2) h3, fun i hi => ⟨(h2 i hi).1, fun hx => ?_⟩, fun i hi hx => ?_⟩
  · rcases hX i hx with a | a
    · exact (h2 i hi).2 a
    · have := hl.2 i hi; omega
  · rcases hX i hx with a | a
    · exact h3 i hi a
    · have := (hl.1 i hi).2; omega
theorem LsE.only {B : Nat} {X : Nat → Prop} {v : Value} {es : List Ev} {w w1 : World} (h : LsE B X v es w) (hO : Only X w w1) : LsE B X v es w1 := h.take hO fun _ a => .inl a
theorem LsE.below {B : Nat} {X : Nat → Prop} {v : Value} {es : List Ev} {w w1 : World} (h : LsE B X v es w) (hb : Below w.heap.size w w1) : LsE B X v es w1 := h.only (Only.below hb)
/-- One event more. -/
theorem LsE.snoc {B : Nat} {X Y Z : Nat → Prop} {v v' : Value} {es : List Ev} {e : Ev} {w w1 : World} (h2 : ∀ i, Y i → B ≤ i ∧ ¬ X i) (h3 : ∀ i, v.ownBlock = some i → ¬ X i) (hZ : ∀ i, Z i → B ≤ i ∧ ¬ X i) (hX : ∀ i, X i → i < w.heap.size)
    (hO : OwnsE B (fun k => Y k ∨ Z k) w1 v' (es ++ [e])) (hat : v'.ownBlock = v.ownBlock ∨ v'.ownBlock = some w.heap.size) : LsE B X v' (es ++ [e]) w1 := by
  refine ⟨_, hO, fun i hi => ?_, fun i hi hx => ?_⟩
  · rcases hi with a | a
    · exact h2 i a
    · exact hZ i a
  · rcases hat with a | a
    · exact h3 i (a ▸ hi) hx
    · rw [a] at hi
      have := hX i hx
      have := Option.some.inj hi
      omega
theorem con_grown {B P : Nat} {X : Nat → Prop} {s : Cn} {w w1 : World} {v : Value} (h : Con B P X s w) (hg : w.grownBy w1 v.ownBlock) (h3 : ∀ i, v.ownBlock = some i → ¬ X i) : Con B P X s w1 :=
  h.only (Only.grown (X := fun k => v.ownBlock = some k) hg (fun _ hk => .inl hk)) fun k hk e => h3 k e hk
theorem only_grown {B : Nat} {X : Nat → Prop} {a w w1 : World} {v : Value} (h : Only X a w) (hB : a.heap.size ≤ B) (hg : w.grownBy w1 v.ownBlock) (hl : ∀ i, v.ownBlock = some i → B ≤ i) : Only X a w1 :=
  h.trans (Only.grown (X := fun k => v.ownBlock = some k) hg (fun _ hk => .inl hk)) fun i hi => .inr (Nat.le_trans hB (hl i hi))
theorem ReadsD.lt {w : World} {v : Value} {l : List UInt8} (h : ReadsD w v l) (hl : l ≠ []) : ∀ i, v.ownBlock = some i → i < w.heap.size := by
  intro i hi
  obtain ⟨a, cap, rfl, _, _, _, hc⟩ := h
  obtain ⟨c, t, rfl⟩ := List.exists_cons_of_ne_nil hl
  obtain ⟨g, off, rfl, hg, _⟩ := hc 0 c rfl
  have : g = i := by simpa [Value.ownBlock] using hi
  omega
def WrPost (B P : Nat) (X : Nat → Prop) (s : Cn) (l : List UInt8) (w : World) (e : Ending) (w' : World) : Prop :=
  ∃ v X', e = .returned (.tuple #[v, errV (runC s l).1.er]) ∧ (∀ i, X' i → X i ∨ w.heap.size ≤ i) ∧ Con B P X' (runC s l).1 w' ∧ LsE w.heap.size X' v (joinE (runC s l).2) w' ∧ Only X w w'
/-- Does the connection go on? -/
def goesC (P : Nat) (w : World) : Nat := match w.cell? ⟨P, 8, none⟩ with | some .nilIface => 1 | _ => 0
theorem goesC_yes {P : Nat} {w : World} (h : w.cell? ⟨P, 8, none⟩ = some .nilIface) : goesC P w = 1 := by unfold goesC; rw [h]
theorem goesC_no {P : Nat} {w : World} {t : TypeId} {u : Value} (h : w.cell? ⟨P, 8, none⟩ = some (.iface t u)) : goesC P w = 0 := by unfold goesC; rw [h]
theorem goesC_le (P : Nat) (w : World) : goesC P w ≤ 1 := by unfold goesC; split <;> omega
/-- The loop's relation: the connection in its blocks, the list, and what is left of the argument. -/
structure WrM (B P : Nat) (X : Nat → Prop) (s : Cn) (l : List UInt8) (bv0 : Value) (w : World) (s' : Cn) (k : Nat) (o : List Ev) (X' : Nat → Prop) (bv ov : Value) (wr : World) : Prop where
  i : WrI s l s' k o
  c : Con B P X' s' wr
  x : ∀ i, X' i → X i ∨ w.heap.size ≤ i
  on : Only X w wr
  ls : LsE w.heap.size X' ov o wr
  b : ReadsD w bv (l.drop k)
  bo : ∀ i, bv.ownBlock = some i → bv0.ownBlock = some i
/-- The argument's block is none of the connection's. -/
theorem WrM.bx {B P : Nat} {X : Nat → Prop} {s : Cn} {l : List UInt8} {bv0 : Value} {w : World} {s' : Cn} {k : Nat} {o : List Ev} {X' : Nat → Prop} {bv ov : Value} {wr : World} (h : WrM B P X s l bv0 w s' k o X' bv ov wr) (h0 : ReadsD w bv0 l) (hX : l ≠ [] → ∀ k, bv0.ownBlock = some k → ¬ X k) (hl : l ≠ []) : ∀ i, bv.ownBlock = some i → ¬ X' i := by
  intro i hi hx
  have hi := h.bo i hi
  rcases h.x i hx with a | a
  · exact hX hl i hi a
  · have := h0.lt hl i hi; omega
theorem er_two (er : Nat) : (er = 0 ∧ errV er = .nilIface) ∨ (er ≠ 0 ∧ errV er = .iface 32 (.int .i64 (er : Int))) := by
  by_cases h : er = 0
  · exact .inl ⟨h, by rw [h]; rfl⟩
  · exact .inr ⟨h, errV_yes h⟩
theorem goes_er {B P : Nat} {X XM XD : Nat → Prop} {s : Cn} {mv sv dv : Value} {w : World} (h : ConP B P X XM XD s mv sv dv w) : goesC P w ≤ 1 ∧ (s.er ≠ 0 → goesC P w = 0) :=
  ⟨goesC_le P w, fun he => goesC_no (h.cells.c8.trans (congrArg some (errV_yes he)))⟩
end Go.Proofs.YtfmgfcddnnggeaaGreatDoor
