import Derived.Test.YtfmgfcddnnggeaaGreatDoorPa9
import Derived.Lib.SliceRun
import Derived.Test.YtfmgfcddnnggeaaGreatDoorPa8
import Derived.Lib.SlBytesConst
/- Appends of fields that are read to a slice of fields that the call made; a slice of a slice of fields. -/
namespace Go.Proofs.YtfmgfcddnnggeaaGreatDoor
open Go.RowKit

theorem flatF_get : ∀ (ps : Flds) (j : Nat) (u : Value), (flatP ps)[j]? = some u → ∃ i p, ps[i]? = some p ∧ ((j = i * 2 ∧ u = strV p.1) ∨ (j = i * 2 + 1 ∧ u = strV p.2)) := by
  intro ps
  induction ps with
  | nil => intro j u h; simp [flatP] at h
  | cons q r ih =>
    intro j u h
    have e : flatP (q :: r) = strV q.1 :: strV q.2 :: flatP r := rfl
    rw [e] at h
    match j, h with
    | 0, h => simp at h; exact ⟨0, q, rfl, .inl ⟨rfl, h.symm⟩⟩
    | 1, h => simp at h; exact ⟨0, q, rfl, .inr ⟨rfl, h.symm⟩⟩
    | j + 2, h =>
      obtain ⟨i, p, hi, hc⟩ := ih j u (by simpa using h)
      exact ⟨i + 1, p, by simpa using hi, by rcases hc with ⟨rfl, hu⟩ | ⟨rfl, hu⟩
                                             · exact .inl ⟨by omega, hu⟩
                                             · exact .inr ⟨by omega, hu⟩⟩
theorem flatF_one (ps : Flds) : ∀ u ∈ flatP ps, u.oneCell' = true := by
  intro u hu
  obtain ⟨j, hj⟩ := List.getElem?_of_mem hu
  obtain ⟨i, p, _, h | h⟩ := flatF_get ps j u hj <;> rw [h.2] <;> rfl
theorem readsF_src {w : World} {ad : Addr} {n cap : Nat} {ps : Flds} (h : ReadsQ w (.slice (some ad) n cap) ps) : n = ps.length ∧ ∀ j u, (flatP ps)[j]? = some u → w.cell? (ad.add j) = some u := by
  obtain ⟨ao, c, hv, hc⟩ := h
  simp only [Value.slice.injEq] at hv
  obtain ⟨rfl, rfl, rfl⟩ := hv
  refine ⟨rfl, fun j u hj => ?_⟩
  obtain ⟨i, p, hi, hu⟩ := flatF_get ps j u hj
  obtain ⟨g, off, ha, _, h1, h2⟩ := hc i p hi
  obtain rfl : ad = ⟨g, off, none⟩ := Option.some.inj ha
  rcases hu with ⟨rfl, rfl⟩ | ⟨rfl, rfl⟩
  · rw [Addr.add_lit]; exact h1
  · rw [Addr.add_lit, ← Nat.add_assoc]; exact h2
theorem readsF_none {w : World} {n cap : Nat} {ps : Flds} (h : ReadsQ w (.slice none n cap) ps) : ps = [] ∧ n = 0 := by
  obtain ⟨ao, c, hv, hc⟩ := h
  simp only [Value.slice.injEq] at hv
  obtain ⟨rfl, rfl, rfl⟩ := hv
  cases ps with
  | nil => exact ⟨rfl, rfl⟩
  | cons p r => obtain ⟨g, off, ha, _⟩ := hc 0 p rfl; cases ha
theorem own_appF {T : TypeId} {B : Nat} {w : World} {v : Value} {ps qs : Flds} (h : w.ownsRow B T 2 v (ps.length + qs.length) (flatP ps ++ flatP qs)) : OwnsP T B w v (ps ++ qs) := by
  unfold OwnsP
  have e : flatP (ps ++ qs) = flatP ps ++ flatP qs := by simp [flatP]
  rw [e, List.length_append]; exact h
/-- An append of fields that are read to a slice of fields that the call made. -/
theorem wpList_appendF {B : Nat} {w : World} {ops : Array Oper} {rest : List Oper} {o : Oper} {a : Act} {Q : Exit → Act → World → Prop} (hw : Region.wanted o (yielded ops a.tmps) = true) (s x : Operand)
    (ho : o.op = .call { callee := .builtin .append, args := #[s, x], argTypes := #[36, 36] }) (v v2 : Value) (hs : a.eval s = v) (hx : a.eval x = v2) {ps qs : Flds} (hown : OwnsP 71 B w v ps) (hr : ReadsQ w v2 qs) (hp : Sane v2)
    (hn : ps.length + qs.length ≤ 100000) (hB : B ≤ w.heap.size) (h : ∀ v' w', OwnsP 71 B w' v' (ps ++ qs) → w.grownBy w' v.ownBlock → wpList Tryz.prog ops Q rest (a.put o.dst v') w') :
    wpList Tryz.prog ops Q (o :: rest) a w := by
  obtain ⟨i0, hi, hz0, hz1, hz2⟩ := info_parts Tryz.infoF
  refine BigFrame.wpList_want hw fun K hK => ?_
  obtain ⟨ao, cap, rfl, hc⟩ := id hr
  cases ao with
  | none =>
    obtain ⟨rfl, _⟩ := readsF_none hr
    obtain rfl := (hp _ _ _ rfl).2 rfl
    have hrun := run_append_owned_none (P := Tryz.prog) (w := w) B 36 o.type 71 i0 2 Tryz.underlying36 hi v ps.length (flatP ps) hown
    unfold Oper.wp
    simp [execOp, ho, resolve, invoke, builtin, hs, hx, hrun, Result.andThen]
    exact hK _ _ (h v w (by rw [List.append_nil]; exact hown) ⟨rfl, rfl, rfl, Nat.le_refl _, fun _ _ _ => rfl⟩)
  | some ad =>
    obtain ⟨_, hs'⟩ := readsF_src hr
    exact wp_append_own w s x 36 ho B 71 i0 _ 2 32 Tryz.underlying36 hi hz0 hz1 hz2 rfl (by decide) v ps.length (flatP ps) hs hown ad qs.length cap (flatP qs) hx (flatP_len qs) hs' (flatF_one qs) (by unfold maxLen; omega) (by omega) hB
      fun v' w' h1 h2 _ => hK _ _ (h v' w' (own_appF h1) h2)
theorem below_appendF {T : TypeId} {B : Nat} {a w w2 : World} {v : Value} {ps : Flds} (hB : Below B a w) (hBs : B ≤ w.heap.size) (hown : OwnsP T B w v ps) (hgrow : w.grownBy w2 v.ownBlock) : Below B a w2 :=
  hB.grown hgrow hBs (fun q hq => (World.ownsRow.lt hown q hq).1)
/-- What stands before a place in a slice that is read, and what stands from it on. -/
theorem reads_pre {w : World} {g cap : Nat} {ps : Flds} (k : Nat) (hk : k ≤ ps.length) (h : ReadsQ w (.slice (some ⟨g, 0, none⟩) ps.length cap) ps) : ReadsQ w (.slice (some ⟨g, 0, none⟩) k cap) (ps.take k) := by
  obtain ⟨ao, c, hv, hc⟩ := h
  simp only [Value.slice.injEq] at hv
  obtain ⟨rfl, _, rfl⟩ := hv
  refine ⟨_, cap, by rw [List.length_take, Nat.min_eq_left hk], fun j p hj => ?_⟩
  have hjk : j < k := by have := (List.getElem?_eq_some_iff.mp hj).1; rw [List.length_take] at this; omega
  rw [List.getElem?_take_of_lt hjk] at hj
  exact hc j p hj
theorem reads_post {w : World} {g cap c2 : Nat} {ps : Flds} (k : Nat) (_hk : k ≤ ps.length) (h : ReadsQ w (.slice (some ⟨g, 0, none⟩) ps.length cap) ps) : ReadsQ w (.slice (some ⟨g, k * 2, none⟩) (ps.length - k) c2) (ps.drop k) := by
  obtain ⟨ao, c, hv, hc⟩ := h
  simp only [Value.slice.injEq] at hv
  obtain ⟨rfl, _, rfl⟩ := hv
  refine ⟨_, c2, by rw [List.length_drop], fun j p hj => ?_⟩
  rw [List.getElem?_drop] at hj
  obtain ⟨g', off, ha, h1, h2, h3⟩ := hc (k + j) p hj
  simp only [Option.some.injEq, Addr.mk.injEq, and_true] at ha
  obtain ⟨rfl, rfl⟩ := ha
  refine ⟨g, k * 2, rfl, h1, ?_, ?_⟩
  · rw [← h2]; congr 2; omega
  · rw [← h3]; congr 2; omega
end Go.Proofs.YtfmgfcddnnggeaaGreatDoor

/- What slices.Clone returns of a list of fields. -/
namespace Go.Proofs.YtfmgfcddnnggeaaGreatDoor
open Go.RowKit

theorem own_madeC (w : World) : (w.alloc (.cells #[] 71)).ownsRow w.heap.size 71 2 (.slice (some ⟨w.heap.size, 0, none⟩) 0 0) 0 [] :=
  World.ownsRow_made w #[] 0 (Nat.le_refl _) (Nat.zero_le _) (by simp)
set_option maxHeartbeats 1000000 in
set_option maxRecDepth 100000 in
theorem clone_any (fv : Value) (ps : Flds) (w : World) (hr : ReadsQ w fv ps) (hp : Sane fv) (hl : ps.length ≤ 1000) :
    Calls Tryz.prog 28 #[fv] w fun e w' => ∃ v, e = .returned v ∧ OwnsP 71 w.heap.size w' v ps ∧ Below w.heap.size w w' := by
  obtain ⟨i0, hi, hz0, hz1, hz2⟩ := info_parts Tryz.infoF
  have q22 : ∀ (w : World) (a : Option Addr) (n c n' c' : Nat), (binOp .eql 36 (.slice a n c) (.slice none n' c')).run Tryz.prog w = .ok (.bool a.isNone) w := fun w a n c n' c' => Lib.run_eql_slice_nil w _ _ a n c n' c' Tryz.underlying36
  obtain ⟨ao, cap, rfl, hc⟩ := id hr
  clear hc
  cases ao with
  | none =>
    obtain ⟨rfl, _⟩ := readsF_none hr
    obtain rfl := (hp _ _ _ rfl).2 rfl
    clear hr
    go_enter Tryz.func28, Tryz.ntmps28
    go_wp2
    go_ret
    exact ⟨_, rfl, OwnsP.nil _ _ _, Below.refl _ _⟩
  | some ad =>
    have hs := (readsF_src hr).2
    have HS := Lib.hid hs
    clear hr hs
    go_enter Tryz.func28, Tryz.ntmps28
    go_wp2_with (at_builtin; refine wpList_append_own _ rfl _ _ 36 rfl w.heap.size 71 i0 (.agg #[.string ByteArray.empty, .string ByteArray.empty]) 2 32 Tryz.underlying36 hi hz0 hz1 hz2 rfl (by decide) _ _ _ rfl (own_madeC w) ad ps.length cap (flatP ps) rfl (flatP_len ps) (fun j u hj => Lib.cell?_alloc_some _ (HS.out j u hj)) (flatF_one ps) (by unfold maxLen; simp; omega) (by simp; omega) (by simp) ?_; intro v' w1 hown hgrow _)
    go_wp2
    go_ret
    refine ⟨v', rfl, ?_, ?_⟩
    · have h : w1.ownsRow w.heap.size 71 2 v' (([] : Flds).length + ps.length) (flatP [] ++ flatP ps) := by simpa [flatP] using hown
      have := own_appF (ps := []) h
      simpa using this
    · exact ((Below.refl _ w).alloc (Nat.le_refl _) _).grown hgrow (by simp) (fun k hk => (World.ownsRow.lt (own_madeC w) k hk).1)
end Go.Proofs.YtfmgfcddnnggeaaGreatDoor

/- New, Done, Trailers, and the nil decoder; the statements' fixed example. -/
namespace Go.Proofs.YtfmgfcddnnggeaaGreatDoor
open Go.RowKit

/-- What New leaves: a decoder at the beginning, in a block of its own. -/
def NewPost (w : World) (e : Ending) (w' : World) : Prop := e = .returned (.pointer (some ⟨w.heap.size, 0, none⟩)) ∧ Dec w.heap.size w.heap.size (fun k => k = w.heap.size) Dc.new w' ∧ Below w.heap.size w w' ∧ w'.heap.size = w.heap.size + 1
theorem dec_new (w : World) : Dec w.heap.size w.heap.size (fun k => k = w.heap.size) Dc.new (w.alloc (.cells #[.int .i64 0, .nilIface, .int .i64 0, .int .i64 0, .int .i64 0, .slice none 0 0, .slice none 0 0] 68)) :=
  ⟨.slice none 0 0, .slice none 0 0, heap_alloc_new w _, World.ownsRow_nil _ _ _ _, OwnsP.nil _ _ _, rfl, fun k hk => (by cases hk), fun k hk => (by cases hk), fun k hk => ⟨by omega, by simp; omega⟩⟩
set_option maxHeartbeats 1000000 in
set_option maxRecDepth 100000 in
theorem new_any (w : World) : Calls Tryz.prog 36 #[] w (NewPost w) := by
  have HD := Lib.hid (dec_new w)
  go_enter Tryz.func36, Tryz.ntmps36
  go_wp2_with fail
  go_ret
  exact ⟨rfl, HD.out, below_new _ _, by simp⟩
set_option maxHeartbeats 1000000 in
set_option maxRecDepth 100000 in
theorem done_any {B P : Nat} {X : Nat → Prop} {s : Dc} (w : World) (h : Dec B P X s w) :
    Calls Tryz.prog 20 #[.pointer (some ⟨P, 0, none⟩)] w fun e w' => e = .returned (.bool (decide (s.pl = 8))) ∧ w = w' := by
  obtain ⟨hx, HD, lv, tv, c0, _⟩ := dec_open h
  clear h
  by_cases h8 : s.pl = 8
  · rw [decide_eq_true h8]
    rw [h8] at c0
    clear h8
    go_enter Tryz.func20, Tryz.ntmps20
    go_wp2_with fail
    go_ret
    exact ⟨rfl, rfl⟩
  · rw [decide_eq_false h8]
    have hq : ((s.pl : Int) == 8) = false := by simp; omega
    clear h8
    go_enter Tryz.func20, Tryz.ntmps20
    go_wp2_with fail
    go_ret
    exact ⟨rfl, rfl⟩
set_option maxHeartbeats 1000000 in
set_option maxRecDepth 100000 in
theorem done_nil (w : World) :
    Calls Tryz.prog 20 #[.pointer none] w fun e w' => e = .returned (.bool false) ∧ w = w' := by
  go_enter Tryz.func20, Tryz.ntmps20
  go_wp2_with fail
  go_ret
  exact ⟨rfl, rfl⟩
/-- The trailers of a body that has ended. -/
def Dc.out (s : Dc) : List (List UInt8 × List UInt8) := if s.pl = 8 then s.trs else []
def TrPost (ps : List (List UInt8 × List UInt8)) (w : World) (e : Ending) (w' : World) : Prop := ∃ v, e = .returned v ∧ OwnsP 71 w.heap.size w' v ps ∧ Below w.heap.size w w'
set_option maxHeartbeats 1000000 in
set_option maxRecDepth 100000 in
theorem trailers_any {B P : Nat} {X : Nat → Prop} {s : Dc} (w : World) (h : Dec B P X s w) (ht : s.trs.length ≤ 64) :
    Calls Tryz.prog 21 #[.pointer (some ⟨P, 0, none⟩)] w (TrPost s.out w) := by
  have D := Lib.hid (done_any w h)
  obtain ⟨lv, tv, hp⟩ := h.parts
  obtain ⟨_, _, _, _, _, _, c6, _⟩ := dec_cells hp.1
  have hO := hp.2.2.1
  obtain ⟨ta, tc, rfl⟩ := len_trs hO
  have C := Lib.hid (clone_any _ s.trs w (OwnsP.q hO) (OwnsP.sane hO) (by omega))
  clear h hp hO
  by_cases h8 : s.pl = 8
  · have e1 : s.out = s.trs := by unfold Dc.out; rw [if_pos h8]
    rw [e1]
    rw [decide_eq_true h8] at D
    clear h8 e1
    go_enter Tryz.func21, Tryz.ntmps21
    go_wp2_with fail
    refine D.out.mono ?_
    rintro e w' ⟨rfl, rfl⟩
    go_wp2_with fail
    refine C.out.mono ?_
    rintro e w1 ⟨v, rfl, hO, hB⟩
    obtain ⟨va, vc, rfl⟩ := len_trs hO
    go_wp2_with fail
    go_ret
    exact ⟨_, rfl, hO, hB⟩
  · have e1 : s.out = [] := by unfold Dc.out; rw [if_neg h8]
    rw [e1]
    rw [decide_eq_false h8] at D
    clear h8 e1
    go_enter Tryz.func21, Tryz.ntmps21
    go_wp2_with fail
    refine D.out.mono ?_
    rintro e w' ⟨rfl, rfl⟩
    go_wp2_with fail
    go_ret
    exact ⟨_, rfl, OwnsP.nil _ _ _, Below.refl _ _⟩
set_option maxHeartbeats 1000000 in
set_option maxRecDepth 100000 in
theorem trailers_nil (w : World) :
    Calls Tryz.prog 21 #[.pointer none] w fun e w' => e = .returned (.slice none 0 0) ∧ w = w' := by
  go_enter Tryz.func21, Tryz.ntmps21
  go_wp2_with fail
  refine (done_nil w).mono ?_
  rintro e w' ⟨rfl, rfl⟩
  go_wp2_with fail
  go_ret
  exact ⟨rfl, rfl⟩
set_option maxHeartbeats 1000000 in
set_option maxRecDepth 100000 in
theorem write_nil (bv : Value) (w : World) :
    Calls Tryz.prog 29 #[.pointer none, bv] w fun e w' => e = .returned (.tuple #[.slice none 0 0, .int .i64 0, .iface 32 (.int .i64 3)]) ∧ w = w' := by
  go_enter Tryz.func29, Tryz.ntmps29
  go_wp2_with fail
  refine bodyPost_ret (v := .tuple #[.slice none 0 0, .int .i64 0, .iface 32 (.int .i64 3)]) (by simp [results, Tryz.results29, go_sem]) rfl ?_
  exact ⟨rfl, rfl⟩
def exK : List UInt8 := [51, 13, 10, 97, 98, 99, 13, 10, 48, 13, 10, 13, 10, 120]
theorem exK_run : (wrD Dc.new exK).1.er = 0 ∧ (wrD Dc.new exK).1.pl = 8 ∧ (wrD Dc.new exK).2.1 = [97, 98, 99] ∧ (wrD Dc.new exK).2.2 = 13 := by decide +kernel
theorem exW {B P : Nat} {X : Nat → Prop} {w w' : World} {e : Ending} (h : WritePost B P X Dc.new exK w e w') : ∃ v X' s', e = .returned (.tuple #[v, .int .i64 13, .nilIface]) ∧ Dec B P X' s' w' ∧ s'.pl = 8 ∧ Only X w w' ∧ OwnB w.heap.size w' v [97, 98, 99] := by
  obtain ⟨x0, x8, xb, xn⟩ := exK_run
  obtain ⟨v, X', he, hD, _, hO, ho, _⟩ := h
  rw [x0, xn] at he
  rw [xb] at ho
  exact ⟨v, X', _, he, hD, x8, hO, ho⟩
theorem readsB_lit (w : World) (l : List UInt8) (fr : Nat × Nat) (hl : l.length ≤ 1000) : ReadsD (w.alloc (.cells (Lib.byteCells l).toArray 5 fr)) (.slice (some ⟨w.heap.size, 0, none⟩) l.length l.length) l := by
  refine ⟨_, _, rfl, Nat.le_refl _, by unfold maxLen; omega, fun h => (by cases h), fun j c hj => ⟨w.heap.size, 0, rfl, by simp, ?_⟩⟩
  rw [Nat.zero_add, World.cell?_alloc_mark]
  simpa using cellB_get hj
end Go.Proofs.YtfmgfcddnnggeaaGreatDoor
