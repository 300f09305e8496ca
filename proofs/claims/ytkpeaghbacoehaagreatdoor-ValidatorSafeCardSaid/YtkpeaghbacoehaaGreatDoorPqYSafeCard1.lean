import Derived.Test.YtkpeaghbacoehaaGreatDoorPqYSafeCard0
import Derived.Test.YtkpeaghbacoehaaGreatDoorHParse
import Derived.Test.YtkpeaghbacoehaaGreatDoorFGet
import Derived.Deep.RegionHeld3
import Derived.Test.YtkpeaghbacoehaaGreatDoorFSmall
/- What matches, known, getDate, isOther, isUnmodified return. -/
namespace Go.Proofs.YtkpeaghbacoehaaGreatDoor
open Go.RowKit

def mtQ (l : List UInt8) (s : StV) (sg : Bool) : Bool := if starL l = true then s.ex else s.ht && (tagsL l).any fun t => sameT sg t s.tag
def knownS (s : StV) : StV := if s.ex = true then s else ⟨false, false, false, (false, []), 0⟩
theorem mtQ_known (l : List UInt8) (s : StV) (sg : Bool) : mtQ l (knownS s) sg = mtL l s sg := by
  unfold mtQ mtL knownS
  cases h : s.ex <;> cases starL l <;> simp [h]
abbrev stC (s : StV) : Array Value := #[.bool s.ex, .bool s.ht, .bool s.hm, .bool s.tag.1, .string (strB s.tag.2), .int .i64 s.md]
abbrev stV (s : StV) : Value := .agg #[.bool s.ex, .bool s.ht, .bool s.hm, .bool s.tag.1, .string (strB s.tag.2), .int .i64 s.md]
/-- A block of a state's six cells. -/
structure StB (N : Nat) (w : World) (s : StV) : Prop where
  c0 : w.cell? ⟨N, 0, none⟩ = some (.bool s.ex)
  c1 : w.cell? ⟨N, 1, none⟩ = some (.bool s.ht)
  c2 : w.cell? ⟨N, 2, none⟩ = some (.bool s.hm)
  c3 : w.cell? ⟨N, 3, none⟩ = some (.bool s.tag.1)
  c4 : w.cell? ⟨N, 4, none⟩ = some (.string (strB s.tag.2))
  c5 : w.cell? ⟨N, 5, none⟩ = some (.int .i64 s.md)
  fr : ∀ j, w.frozen? ⟨N, j, none⟩ = false
  lt : N < w.heap.size
theorem StB.below {N : Nat} {w w' : World} {s : StV} (h : StB N w s) (hb : Below w.heap.size w w') : StB N w' s :=
  ⟨(hb.cell (p := ⟨N, 0, none⟩) h.lt).trans h.c0, (hb.cell (p := ⟨N, 1, none⟩) h.lt).trans h.c1, (hb.cell (p := ⟨N, 2, none⟩) h.lt).trans h.c2, (hb.cell (p := ⟨N, 3, none⟩) h.lt).trans h.c3, (hb.cell (p := ⟨N, 4, none⟩) h.lt).trans h.c4, (hb.cell (p := ⟨N, 5, none⟩) h.lt).trans h.c5,
    fun j => (hb.frozen (p := ⟨N, j, none⟩) h.lt).trans (h.fr j), Nat.lt_of_lt_of_le h.lt hb.size⟩
theorem stB_new (w : World) (s : StV) (T : TypeId) : StB w.heap.size (w.alloc (.cells (stC s) T)) s :=
  ⟨by rw [World.cell?_alloc_at _ _ _ _ rfl]; rfl, by rw [World.cell?_alloc_at _ _ _ _ rfl]; rfl, by rw [World.cell?_alloc_at _ _ _ _ rfl]; rfl, by rw [World.cell?_alloc_at _ _ _ _ rfl]; rfl, by rw [World.cell?_alloc_at _ _ _ _ rfl]; rfl, by rw [World.cell?_alloc_at _ _ _ _ rfl]; rfl,
    fun j => World.frozen?_alloc_new _ _ _ _, by simp⟩
theorem below_six {B N : Nat} {w w1 : World} (h : Below B w w1) (hN : B ≤ N) (a b c d e f : Value) : Below B w ((((((w1.setCell ⟨N, 0, none⟩ a).setCell ⟨N, 1, none⟩ b).setCell ⟨N, 2, none⟩ c).setCell ⟨N, 3, none⟩ d).setCell ⟨N, 4, none⟩ e).setCell ⟨N, 5, none⟩ f) :=
  (((((h.setCell (p := ⟨N, 0, none⟩) hN _).setCell (p := ⟨N, 1, none⟩) hN _).setCell (p := ⟨N, 2, none⟩) hN _).setCell (p := ⟨N, 3, none⟩) hN _).setCell (p := ⟨N, 4, none⟩) hN _).setCell (p := ⟨N, 5, none⟩) hN _
theorem StB.set {N : Nat} {w : World} {s : StV} (h : StB N w s) (t : StV) : StB N ((((((w.setCell ⟨N, 0, none⟩ (.bool t.ex)).setCell ⟨N, 1, none⟩ (.bool t.ht)).setCell ⟨N, 2, none⟩ (.bool t.hm)).setCell ⟨N, 3, none⟩ (.bool t.tag.1)).setCell ⟨N, 4, none⟩ (.string (strB t.tag.2))).setCell ⟨N, 5, none⟩ (.int .i64 t.md)) t := by
  obtain ⟨c0, c1, c2, c3, c4, c5, fr, lt⟩ := h
  refine ⟨?_, ?_, ?_, ?_, ?_, ?_, fun j => by simpa using fr j, by simpa using lt⟩
  all_goals simp [go_sem, c0, c1, c2, c3, c4, c5]
theorem cloE_new (w : World) (s : StV) (sg : Bool) (T S : TypeId) : CloE sg s.tag (w.heap.size + 1) w.heap.size ((w.alloc (.cells (stC s) T)).alloc (.cells #[cmpV sg] S)) := by
  have e : w.heap.size + 1 = (w.alloc (.cells (stC s) T)).heap.size := by simp
  refine ⟨?_, ?_, ?_, by simp, by simp; omega⟩
  · rw [e, World.cell?_alloc_at _ _ _ _ rfl]; rfl
  · rw [World.cell?_alloc_past _ _ _ (by simp), World.cell?_alloc_at _ _ _ _ rfl]; rfl
  · rw [World.cell?_alloc_past _ _ _ (by simp), World.cell?_alloc_at _ _ _ _ rfl]; rfl
set_option maxHeartbeats 4000000 in
set_option maxRecDepth 100000 in
theorem matches_any (sg : Bool) (s : StV) (l : List UInt8) (w : World) (hM : MaxIs w) (hl : l.length ≤ 1000000) :
    Calls Tryz.prog 44 #[stV s, .string (strB l), cmpV sg] w fun e w' => e = .returned (.bool (mtQ l s sg)) ∧ Below w.heap.size w w' := by
  have HM := Lib.hid hM
  have HS := stB_new w s 61
  have hW := below_newY w (.cells (stC s) 61) (.cells #[cmpV sg] 48)
  have HS2 := Lib.hid (HS.below (below_new _ (.cells #[cmpV sg] 48)))
  have HE := Lib.hid (cloE_new w s sg 61 48)
  have HM2 := Lib.hid (hM.below hW)
  have HW := Lib.hid hW
  have HR := Lib.hid (fun (w : World) (hM : MaxIs w) => readTags_any l w hM hl)
  clear hM HS hW
  generalize hcv : cmpV sg = cv at *
  go_enter Tryz.func44, Tryz.ntmps44
  go_wp2_with fail
  refine (HR.out _ HM2.out).mono ?_
  rintro e w2 ⟨hB2, hcase⟩
  have HW2 := Lib.hid (HW.out.trans (hB2.mono HW.out.size))
  obtain ⟨c0, c1, c2, c3, c4, c5, fr, lt⟩ := HS2.out.below hB2
  have HE2 := Lib.hid (HE.out.below hB2)
  clear hB2
  rcases hcase with ⟨hst, rfl⟩ | ⟨hst, hq, rfl⟩ | ⟨hst, v, ts, hq, rfl, hO, hln⟩
  · have HQ := Lib.hid (show mtQ l s sg = s.ex by unfold mtQ; rw [hst]; rfl)
    clear hst
    go_wp2
    go_ret
    exact ⟨by first | (rw [HQ.out]; rfl) | rw [HQ.out], HW2.out⟩
  · have ht : tagsL l = [] := by unfold tagsL; rw [hq]; rfl
    have HQ := Lib.hid (show mtQ l s sg = (s.ht && ([] : List Tg).any fun t => sameT sg t s.tag) by unfold mtQ; rw [hst, ht]; rfl)
    have HC := Lib.hid (containsFunc_any sg s.tag (w.heap.size + 1) w.heap.size (.slice none 0 0) [] w2 ⟨none, 0, rfl, fun j p h => by simp at h⟩ HE2.out (by simp))
    clear hst hq ht
    cases hht : s.ht with
    | false =>
      rw [hht] at c1 HQ
      go_wp2
      go_ret
      exact ⟨by rw [HQ.out]; rfl, HW2.out⟩
    | true =>
      rw [hht] at c1 HQ
      go_wp2_with fail
      refine HC.out.mono ?_
      rintro e w3 ⟨rfl, hB3⟩
      go_wp2_with fail
      go_ret
      exact ⟨by rw [HQ.out]; rfl, HW2.out.trans (hB3.mono HW2.out.size)⟩
  · have ht : tagsL l = ts := by unfold tagsL; rw [hq]; rfl
    have HQ := Lib.hid (show mtQ l s sg = (s.ht && ts.any fun t => sameT sg t s.tag) by unfold mtQ; rw [hst, ht]; rfl)
    have HC := Lib.hid (containsFunc_any sg s.tag (w.heap.size + 1) w.heap.size v ts w2 hO.reads HE2.out (by omega))
    clear hst hq ht hO
    cases hht : s.ht with
    | false =>
      rw [hht] at c1 HQ
      go_wp2
      go_ret
      exact ⟨by rw [HQ.out]; rfl, HW2.out⟩
    | true =>
      rw [hht] at c1 HQ
      go_wp2_with fail
      refine HC.out.mono ?_
      rintro e w3 ⟨rfl, hB3⟩
      go_wp2_with fail
      go_ret
      exact ⟨by rw [HQ.out]; rfl, HW2.out.trans (hB3.mono HW2.out.size)⟩
set_option maxHeartbeats 1000000 in
set_option maxRecDepth 100000 in
theorem known_any (s : StV) (w : World) :
    Calls Tryz.prog 41 #[stV s] w fun e w' => e = .returned (stV (knownS s)) ∧ Below w.heap.size w w' := by
  obtain ⟨ex, ht, hm, ⟨k, a⟩, md⟩ := s
  cases ex
  · go_enter Tryz.func41, Tryz.ntmps41
    go_wp2
    exact bodyPost_ret (v := stV (knownS ⟨false, ht, hm, (k, a), md⟩)) (by simp [results, Tryz.results41, go_sem, knownS, strB_nil0]) rfl ⟨rfl, below_newY _ _ _⟩
  · go_enter Tryz.func41, Tryz.ntmps41
    go_wp2
    exact bodyPost_ret (v := stV (knownS ⟨true, ht, hm, (k, a), md⟩)) (by simp [results, Tryz.results41, go_sem, knownS]) rfl ⟨rfl, below_newY _ _ _⟩
end Go.Proofs.YtkpeaghbacoehaaGreatDoor

/- What getDate, isOther, isUnmodified, Evaluate and UseRange return. -/
namespace Go.Proofs.YtkpeaghbacoehaaGreatDoor
open Go.RowKit

def EnvY (w : World) : Prop := MaxIs w ∧ EnvP w
theorem EnvY.below {w w' : World} (h : EnvY w) (hb : Below w.heap.size w w') : EnvY w' := ⟨h.1.below hb, h.2.below hb⟩
/-- A list of fields is small enough for all that is asked of it. -/
structure FitY (ps : Flds) : Prop where
  len : ps.length ≤ 1000
  each : ∀ p ∈ ps, p.1.length + p.2.length ≤ 1000000
  val : ∀ n, (valF ps n).length ≤ 100000
def dV : Option Nat → Value
  | some n => .tuple #[.int .i64 (n : Int), .nilIface]
  | none => .tuple #[.int .i64 0, errY]
def dN : Option Nat → Int
  | some n => (n : Int)
  | none => 0
theorem parseD_any (l : List UInt8) (d : Option Nat) (hd : DateIs l d) (w : World) (hE : EnvP w) (hl : l.length ≤ 1000000) :
    Calls Tryz.prog 49 #[.string (strB l)] w fun e w' => e = .returned (dV d) ∧ Below w.heap.size w w' := by
  have hv : ∀ e, ParseV (strB l).data.toList e → e = .returned (dV d) := by
    intro e h
    rw [strB_list] at h
    rcases h with ⟨n, hn, rfl⟩ | ⟨hn, rfl⟩
    · have : d = some n := hd.uniq (e := some n) hn
      subst this; rfl
    · have : d = none := hd.uniq (e := none) hn
      subst this; rfl
  by_cases hs : (strB l).size = 29
  · refine (parse_any (strB l) w hE hs).mono ?_
    rintro e w' ⟨h, hB⟩
    exact ⟨hv e h, hB⟩
  · refine (parse_short (strB l) w hs (by rw [strB_size]; unfold maxLen; omega)).mono ?_
    rintro e w' ⟨h, rfl⟩
    exact ⟨hv e h, Below.refl _ _⟩
theorem getY_any (fv : Value) (ps : Flds) (n : ByteArray) (w : World) (hr : ReadsQ w fv ps) (hf : FitY ps) (hn : n.size ≤ 100) :
    Calls Tryz.prog 43 #[fv, .string n] w fun e w' => e = .returned (.tuple #[.string (strB (valF ps n.data.toList)), .bool (fnd ps n.data.toList)]) ∧ Below w.heap.size w w' :=
  get_any fv ps n w hr (by omega) (by have := hf.len; omega) hf.each
set_option maxHeartbeats 1000000 in
set_option maxRecDepth 100000 in
theorem getDate_any (fv : Value) (ps : Flds) (n : ByteArray) (d : Option Nat) (w : World) (hr : ReadsQ w fv ps) (hf : FitY ps) (hn : n.size ≤ 100) (hd : DateIs (valF ps n.data.toList) d) (hE : EnvP w) :
    Calls Tryz.prog 58 #[fv, .string n] w fun e w' => e = .returned (.tuple #[.int .i64 (dN d), .bool d.isSome]) ∧ Below w.heap.size w w' := by
  have HG := Lib.hid (getY_any fv ps n w hr hf hn)
  have HE := Lib.hid hE
  have hvl := hf.val n.data.toList
  have HP := Lib.hid (fun (w : World) (hE : EnvP w) => parseD_any (valF ps n.data.toList) d hd w hE (by omega))
  clear hr hf hd hE
  generalize valF ps n.data.toList = x at *
  generalize fnd ps n.data.toList = y at *
  cases d with
  | none =>
    unfold dV at HP
    go_enter Tryz.func58, Tryz.ntmps58
    go_wp2_with fail
    refine HG.out.mono ?_
    rintro e w1 ⟨rfl, hB1⟩
    go_wp2_with fail
    refine (HP.out _ (HE.out.below hB1)).mono ?_
    rintro e w2 ⟨rfl, hB2⟩
    go_wp2_with fail
    go_quiet (fail)
    go_wp2
    go_ret2
    exact ⟨rfl, below_drewN (hB1.trans (hB2.mono hB1.size)) _⟩
  | some k =>
    unfold dV at HP
    go_enter Tryz.func58, Tryz.ntmps58
    go_wp2_with fail
    refine HG.out.mono ?_
    rintro e w1 ⟨rfl, hB1⟩
    go_wp2_with fail
    refine (HP.out _ (HE.out.below hB1)).mono ?_
    rintro e w2 ⟨rfl, hB2⟩
    go_wp2_with fail
    go_quiet (fail)
    go_wp2
    go_ret2
    exact ⟨rfl, below_drewN (hB1.trans (hB2.mono hB1.size)) _⟩
def otherQ (ps : Flds) (s : StV) (du : Option Nat) : Bool := if fnd ps nIM = true then !mtQ (valF ps nIM) s true else du.isSome && (s.hm && decide (dN du < s.md))
def sinceQ (s : StV) (d : Option Nat) : Bool := d.isSome && (s.hm && decide (s.md ≤ dN d))
theorem otherQ_known (ps : Flds) (s : StV) (du : Option Nat) : otherQ ps (knownS s) du = otherL ps s du := by
  unfold otherQ otherL
  rw [mtQ_known]
  split
  · rfl
  · unfold laterL knownS dN
    cases s.ex <;> cases du <;> simp
theorem sinceQ_known (s : StV) (d : Option Nat) : sinceQ (knownS s) d = sinceL s d := by
  unfold sinceQ sinceL knownS dN
  cases s.ex <;> cases d <;> simp
set_option maxHeartbeats 4000000 in
set_option maxRecDepth 100000 in
theorem isOther_any (fv : Value) (ps : Flds) (s : StV) (du : Option Nat) (w : World) (hr : ReadsQ w fv ps) (hf : FitY ps) (hd : DateIs (valF ps nIU) du) (hE : EnvY w) :
    Calls Tryz.prog 42 #[fv, stV s] w fun e w' => e = .returned (.bool (otherQ ps s du)) ∧ Below w.heap.size w w' := by
  have hW := below_new w (.cells (stC s) 61)
  have HG := Lib.hid (getY_any fv ps ⟨#[105, 102, 45, 109, 97, 116, 99, 104]⟩ _ (hr.below hW) hf (by decide))
  have hvl := hf.val nIM
  have HM := Lib.hid (fun (w : World) (hM : MaxIs w) => matches_any true s (valF ps nIM) w hM (by omega))
  have HD := Lib.hid (fun (w : World) (hr : ReadsQ w fv ps) (hE : EnvP w) => getDate_any fv ps ⟨#[105, 102, 45, 117, 110, 109, 111, 100, 105, 102, 105, 101, 100, 45, 115, 105, 110, 99, 101]⟩ du w hr hf (by decide) hd hE)
  have HE := Lib.hid (hE.below hW)
  have HR := Lib.hid (hr.below hW)
  have HS := Lib.hid (stB_new w s 61)
  have HW := Lib.hid hW
  have HQ := Lib.hid (show otherQ ps s du = if fnd ps nIM = true then !mtQ (valF ps nIM) s true else du.isSome && (s.hm && decide (dN du < s.md)) from rfl)
  clear hr hf hd hE hW
  cases hfn : fnd ps nIM with
  | true =>
    have HQ2 := Lib.hid (show otherQ ps s du = !mtQ (valF ps nIM) s true by rw [HQ.out, hfn]; rfl)
    have HG2 := Lib.hid HG.out
    rw [show fnd ps (⟨#[105, 102, 45, 109, 97, 116, 99, 104]⟩ : ByteArray).data.toList = true from hfn] at HG2
    go_enter Tryz.func42, Tryz.ntmps42
    go_wp2_with fail
    refine HG2.out.mono ?_
    rintro e w1 ⟨rfl, hB1⟩
    obtain ⟨c0, c1, c2, c3, c4, c5, fr, lt⟩ := HS.out.below hB1
    have HB1 := Lib.hid (HW.out.trans (hB1.mono HW.out.size))
    have HE1 := Lib.hid (HE.out.below hB1)
    clear hB1
    go_wp2_with fail
    refine (HM.out _ HE1.out.1).mono ?_
    rintro e w2 ⟨rfl, hB2⟩
    go_wp2_with fail
    go_ret
    exact ⟨by rw [HQ2.out]; rfl, HB1.out.trans (hB2.mono HB1.out.size)⟩
  | false =>
    have HQ2 := Lib.hid (show otherQ ps s du = (du.isSome && (s.hm && decide (dN du < s.md))) by rw [HQ.out, hfn]; rfl)
    have HG2 := Lib.hid HG.out
    rw [show fnd ps (⟨#[105, 102, 45, 109, 97, 116, 99, 104]⟩ : ByteArray).data.toList = false from hfn] at HG2
    have hgo : ∀ (x y : Bool) (n : Int), du.isSome = x → s.hm = y → dN du = n → Calls Tryz.prog 42 #[fv, stV s] w fun e w' => e = .returned (.bool (otherQ ps s du)) ∧ Below w.heap.size w w' := by
      intro x y n hx hhm hn
      rw [hx, hn] at HQ2 HD
      rw [hhm] at HQ2
      have HH := Lib.hid hhm
      clear hhm
      cases x <;> cases y
      all_goals
        go_enter Tryz.func42, Tryz.ntmps42
        go_wp2_with fail
        refine HG2.out.mono ?_
        rintro e w1 ⟨rfl, hB1⟩
        have HB1 := Lib.hid (HW.out.trans (hB1.mono HW.out.size))
        have HE1 := Lib.hid (HE.out.below hB1)
        have HR1 := Lib.hid (HR.out.below hB1)
        have HS1 := Lib.hid (HS.out.below hB1)
        clear hB1
        go_wp2_with fail
        refine (HD.out _ HR1.out HE1.out.2).mono ?_
        rintro e w2 ⟨rfl, hB2⟩
        obtain ⟨c0, c1, c2, c3, c4, c5, fr, lt⟩ := HS1.out.below hB2
        rw [HH.out] at c2
        have HB2 := Lib.hid (HB1.out.trans (hB2.mono HB1.out.size))
        clear hB2
        go_wp2_with fail
        go_ret
        exact ⟨by rw [HQ2.out]; rfl, HB2.out⟩
    exact hgo _ _ _ rfl rfl rfl
set_option maxHeartbeats 4000000 in
set_option maxRecDepth 100000 in
theorem isUnmodified_any (fv : Value) (ps : Flds) (s : StV) (du : Option Nat) (w : World) (hr : ReadsQ w fv ps) (hf : FitY ps) (hd : DateIs (valF ps nIS) du) (hE : EnvY w) :
    Calls Tryz.prog 45 #[fv, stV s] w fun e w' => e = .returned (.bool (sinceQ s du)) ∧ Below w.heap.size w w' := by
  have hW := below_new w (.cells (stC s) 61)
  have HD := Lib.hid (fun (w : World) (hr : ReadsQ w fv ps) (hE : EnvP w) => getDate_any fv ps ⟨#[105, 102, 45, 109, 111, 100, 105, 102, 105, 101, 100, 45, 115, 105, 110, 99, 101]⟩ du w hr hf (by decide) hd hE)
  have HE := Lib.hid (hE.below hW)
  have HR := Lib.hid (hr.below hW)
  have HS := Lib.hid (stB_new w s 61)
  have HW := Lib.hid hW
  have HQ2 := Lib.hid (show sinceQ s du = (du.isSome && (s.hm && decide (s.md ≤ dN du))) from rfl)
  clear hr hf hd hE hW
  have hgo : ∀ (x y : Bool) (n : Int), du.isSome = x → s.hm = y → dN du = n → Calls Tryz.prog 45 #[fv, stV s] w fun e w' => e = .returned (.bool (sinceQ s du)) ∧ Below w.heap.size w w' := by
    intro x y n hx hhm hn
    rw [hx, hn] at HQ2 HD
    rw [hhm] at HQ2
    have HH := Lib.hid hhm
    clear hhm
    cases x <;> cases y
    all_goals
      go_enter Tryz.func45, Tryz.ntmps45
      go_wp2_with fail
      refine (HD.out _ HR.out HE.out.2).mono ?_
      rintro e w2 ⟨rfl, hB2⟩
      obtain ⟨c0, c1, c2, c3, c4, c5, fr, lt⟩ := HS.out.below hB2
      rw [HH.out] at c2
      have HB2 := Lib.hid (HW.out.trans (hB2.mono HW.out.size))
      clear hB2
      go_wp2_with fail
      go_ret
      exact ⟨by rw [HQ2.out]; rfl, HB2.out⟩
  exact hgo _ _ _ rfl rfl rfl
end Go.Proofs.YtkpeaghbacoehaaGreatDoor

/- What Evaluate and UseRange return. -/
namespace Go.Proofs.YtkpeaghbacoehaaGreatDoor
open Go.RowKit

def evalQ (o f mt r si : Bool) : Int := if o = true then 3 else if f = true then (if mt = true then (if r = true then 2 else 3) else 1) else if r = true ∧ si = true then 2 else 1
theorem evalL_Q (m : List UInt8) (ps : Flds) (s : StV) (du dm : Option Nat) :
    evalL m ps s du dm = evalQ (otherQ ps (knownS s) du) (fnd ps nIN) (mtQ (valF ps nIN) (knownS s) false) (decide (m = mGET) || decide (m = mHEAD)) (sinceQ (knownS s) dm) := by
  rw [otherQ_known, mtQ_known, sinceQ_known]; rfl
theorem meth_any (m x : List UInt8) : ((strB m).toList == x) = decide (m = x) := by
  rw [ByteArray.toList_eq, strB_list]
  by_cases h : m = x
  · subst h; simp
  · simp [h]
set_option maxHeartbeats 16000000 in
set_option maxRecDepth 100000 in
theorem evaluate_any (m : List UInt8) (fv : Value) (ps : Flds) (s : StV) (du dm : Option Nat) (w : World) (hr : ReadsQ w fv ps) (hf : FitY ps) (hdu : DateIs (valF ps nIU) du) (hdm : DateIs (valF ps nIS) dm) (hE : EnvY w) :
    Calls Tryz.prog 25 #[.string (strB m), fv, stV s] w fun e w' => e = .returned (.int .i64 (evalL m ps s du dm)) ∧ Below w.heap.size w w' := by
  have hW := below_new w (.cells (stC s) 61)
  have hvl := hf.val nIN
  have HO := Lib.hid (fun (w : World) (hr : ReadsQ w fv ps) (hE : EnvY w) => isOther_any fv ps (knownS s) du w hr hf hdu hE)
  have HU := Lib.hid (fun (w : World) (hr : ReadsQ w fv ps) (hE : EnvY w) => isUnmodified_any fv ps (knownS s) dm w hr hf hdm hE)
  have HG := Lib.hid (fun (w : World) (hr : ReadsQ w fv ps) => getY_any fv ps ⟨#[105, 102, 45, 110, 111, 110, 101, 45, 109, 97, 116, 99, 104]⟩ w hr hf (by decide))
  have HM := Lib.hid (fun (w : World) (hM : MaxIs w) => matches_any false (knownS s) (valF ps nIN) w hM (by omega))
  have HQ := Lib.hid (evalL_Q m ps s du dm)
  have HK := Lib.hid (fun (w : World) => known_any s w)
  have HE := Lib.hid hE
  have HR := Lib.hid hr
  have HS := Lib.hid (stB_new w s 61)
  have HW := Lib.hid hW
  have HGT := Lib.hid (meth_any m [71, 69, 84])
  have HHD := Lib.hid (meth_any m [72, 69, 65, 68])
  clear hr hf hdu hdm hE hW
  generalize evalL m ps s du dm = res at *
  have hgo : ∀ (o f mt g h si : Bool), otherQ ps (knownS s) du = o → fnd ps nIN = f → mtQ (valF ps nIN) (knownS s) false = mt → decide (m = mGET) = g → decide (m = mHEAD) = h → sinceQ (knownS s) dm = si →
      Calls Tryz.prog 25 #[.string (strB m), fv, stV s] w fun e w' => e = .returned (.int .i64 res) ∧ Below w.heap.size w w' := by
    intro o f mt g h si ho hf hmt hg hh hsi
    rw [ho, hf, hmt, hg, hh, hsi] at HQ
    rw [ho] at HO
    rw [hsi] at HU
    rw [hmt] at HM
    rw [show decide (m = [71, 69, 84]) = g from hg] at HGT
    rw [show decide (m = [72, 69, 65, 68]) = h from hh] at HHD
    have HG2 := Lib.hid (fun (w : World) (hr : ReadsQ w fv ps) => HG.out w hr)
    rw [show fnd ps (⟨#[105, 102, 45, 110, 111, 110, 101, 45, 109, 97, 116, 99, 104]⟩ : ByteArray).data.toList = f from hf] at HG2
    rw [show valF ps (⟨#[105, 102, 45, 110, 111, 110, 101, 45, 109, 97, 116, 99, 104]⟩ : ByteArray).data.toList = valF ps nIN from rfl] at HG2
    clear HG ho hf hmt hg hh hsi
    generalize valF ps nIN = z at *
    generalize knownS s = ks at *
    cases o
    · have hgh : g = true ∨ (g = false ∧ h = true) ∨ (g = false ∧ h = false) := by cases g <;> cases h <;> simp
      rcases hgh with rfl | ⟨rfl, rfl⟩ | ⟨rfl, rfl⟩
      all_goals
        have hGT := HGT.out
        have hHD := HHD.out
        go_enter Tryz.func25, Tryz.ntmps25
        go_wp2_with fail
        refine (HK.out _).mono ?_
        rintro e w1 ⟨rfl, hB1⟩
        have hS1 := HS.out.below hB1
        have HS1 := Lib.hid (hS1.set ks)
        have HW1 := Lib.hid (below_six (HW.out.trans (hB1.mono HW.out.size)) (Nat.le_refl _) (.bool ks.ex) (.bool ks.ht) (.bool ks.hm) (.bool ks.tag.1) (.string (strB ks.tag.2)) (.int .i64 ks.md))
        obtain ⟨c0, c1, c2, c3, c4, c5, fr, lt⟩ := hS1
        have f0 := fr 0
        have f1 := fr 1
        have f2 := fr 2
        have f3 := fr 3
        have f4 := fr 4
        have f5 := fr 5
        clear hB1 fr
        go_wp2_with fail
        refine (HO.out _ (HR.out.below HW1.out) (HE.out.below HW1.out)).mono ?_
        rintro e w2 ⟨rfl, hB2⟩
        have HS2 := Lib.hid (HS1.out.below hB2)
        have HW2 := Lib.hid (HW1.out.trans (hB2.mono HW1.out.size))
        clear hB2 c0 c1 c2 c3 c4 c5 f0 f1 f2 f3 f4 f5 lt
        go_wp2_with fail
        refine (HG2.out _ (HR.out.below HW2.out)).mono ?_
        rintro e w3 ⟨rfl, hB3⟩
        have HS3 := Lib.hid (HS2.out.below hB3)
        have HW3 := Lib.hid (HW2.out.trans (hB3.mono HW2.out.size))
        clear hB3
        cases f
        · cases si
          all_goals
            obtain ⟨c0, c1, c2, c3, c4, c5, fr, lt⟩ := HS3.out
            go_wp2_with fail
            first
            | (refine (HU.out _ (HR.out.below HW3.out) (HE.out.below HW3.out)).mono ?_
               rintro e w4 ⟨rfl, hB4⟩
               go_wp2_with fail
               go_ret
               exact ⟨by rw [HQ.out]; rfl, HW3.out.trans (hB4.mono HW3.out.size)⟩)
            | (go_ret
               exact ⟨by rw [HQ.out]; rfl, HW3.out⟩)
        · cases mt
          all_goals
            obtain ⟨c0, c1, c2, c3, c4, c5, fr, lt⟩ := HS3.out
            go_wp2_with fail
            refine (HM.out _ (HE.out.below HW3.out).1).mono ?_
            rintro e w4 ⟨rfl, hB4⟩
            go_wp2_with fail
            go_ret
            exact ⟨by rw [HQ.out]; rfl, HW3.out.trans (hB4.mono HW3.out.size)⟩
    · have HQ2 := Lib.hid (show res = 3 from HQ.out)
      go_enter Tryz.func25, Tryz.ntmps25
      go_wp2_with fail
      refine (HK.out _).mono ?_
      rintro e w1 ⟨rfl, hB1⟩
      have hS1 := HS.out.below hB1
      have HS1 := Lib.hid (hS1.set ks)
      have HW1 := Lib.hid (below_six (HW.out.trans (hB1.mono HW.out.size)) (Nat.le_refl _) (.bool ks.ex) (.bool ks.ht) (.bool ks.hm) (.bool ks.tag.1) (.string (strB ks.tag.2)) (.int .i64 ks.md))
      obtain ⟨c0, c1, c2, c3, c4, c5, fr, lt⟩ := hS1
      have f0 := fr 0
      have f1 := fr 1
      have f2 := fr 2
      have f3 := fr 3
      have f4 := fr 4
      have f5 := fr 5
      clear hB1 fr
      go_wp2_with fail
      refine (HO.out _ (HR.out.below HW1.out) (HE.out.below HW1.out)).mono ?_
      rintro e w2 ⟨rfl, hB2⟩
      go_wp2_with fail
      go_ret
      exact ⟨by rw [HQ2.out]; rfl, HW1.out.trans (hB2.mono HW1.out.size)⟩
  exact hgo _ _ _ _ _ _ rfl rfl rfl rfl rfl rfl
end Go.Proofs.YtkpeaghbacoehaaGreatDoor

/- What the statements' tag, same, State and few return. -/
namespace Go.Proofs.YtkpeaghbacoehaaGreatDoor
open Go.RowKit

set_option maxHeartbeats 1000000 in
theorem tag_any (t : Tg) (w : World) :
    Calls Tryz.prog 13 #[tgV t] w fun e w' => e = .returned (tgV t) ∧ Below w.heap.size w w' := by
  obtain ⟨k, a⟩ := t
  go_enter Tryz.func13, Tryz.ntmps13
  go_wp2
  exact bodyPost_ret (v := tgV (k, a)) (by simp [results, Tryz.results13, go_sem]) rfl ⟨rfl, below_newY _ _ _⟩
theorem decide_tg (k j : Bool) (a b : List UInt8) : decide (((k, a) : Tg) = (j, b)) = (decide (k = j) && decide (a = b)) := by
  by_cases h1 : k = j <;> by_cases h2 : a = b <;> simp [h1, h2]
set_option maxHeartbeats 1000000 in
theorem same_any (t u : Tg) (w : World) :
    Calls Tryz.prog 17 #[tgV t, tgV u] w fun e w' => e = .returned (.bool (decide (t = u))) ∧ Below w.heap.size w w' := by
  obtain ⟨k, a⟩ := t
  obtain ⟨j, b⟩ := u
  have hs := same_strB a b
  cases k <;> cases j
  all_goals
    go_enter Tryz.func17, Tryz.ntmps17
    go_wp2
    go_ret
    exact ⟨by rw [decide_tg]; simp, below_newY _ _ _⟩
def zS : StV := ⟨false, false, false, (false, []), 0⟩
theorem StB.other {N M : Nat} {w : World} {s : StV} (h : StB N w s) (hn : M ≠ N) (a b c d e f : Value) : StB N ((((((w.setCell ⟨M, 0, none⟩ a).setCell ⟨M, 1, none⟩ b).setCell ⟨M, 2, none⟩ c).setCell ⟨M, 3, none⟩ d).setCell ⟨M, 4, none⟩ e).setCell ⟨M, 5, none⟩ f) s := by
  obtain ⟨c0, c1, c2, c3, c4, c5, fr, lt⟩ := h
  have ne : ∀ i j : Nat, (⟨M, i, none⟩ : Addr) ≠ ⟨N, j, none⟩ := fun i j he => hn (by injection he)
  have ne2 : ∀ i j : Nat, (⟨N, i, none⟩ : Addr) ≠ ⟨M, j, none⟩ := fun i j he => hn (by injection he with h1; exact h1.symm)
  refine ⟨?_, ?_, ?_, ?_, ?_, ?_, fun j => by simpa using fr j, by simpa using lt⟩
  all_goals simp [go_sem, c0, c1, c2, c3, c4, c5]
theorem tag_at (s : StV) (N M B : Nat) (w w' : World) (hS : (w'.cell? ⟨N, 0, none⟩ = some (.bool s.ex) ∧ w'.cell? ⟨N, 1, none⟩ = some (.bool s.ht) ∧ w'.cell? ⟨N, 2, none⟩ = some (.bool s.hm) ∧ w'.cell? ⟨N, 3, none⟩ = some (.bool s.tag.1) ∧ w'.cell? ⟨N, 4, none⟩ = some (.string (strB s.tag.2)) ∧ w'.cell? ⟨N, 5, none⟩ = some (.int .i64 s.md) ∧ StB N w' s ∧ (∃ z, StB M w' z) ∧ Below B w w' ∧ B ≤ w'.heap.size)) :
    Calls Tryz.prog 13 #[tgV s.tag] w' fun e w' => e = .returned (tgV s.tag) ∧ (w'.cell? ⟨N, 0, none⟩ = some (.bool s.ex) ∧ w'.cell? ⟨N, 1, none⟩ = some (.bool s.ht) ∧ w'.cell? ⟨N, 2, none⟩ = some (.bool s.hm) ∧ w'.cell? ⟨N, 3, none⟩ = some (.bool s.tag.1) ∧ w'.cell? ⟨N, 4, none⟩ = some (.string (strB s.tag.2)) ∧ w'.cell? ⟨N, 5, none⟩ = some (.int .i64 s.md) ∧ StB N w' s ∧ (∃ z, StB M w' z) ∧ Below B w w' ∧ B ≤ w'.heap.size) ∧ ∃ z, StB M w' z := by
  obtain ⟨_, _, _, _, _, _, hA, ⟨z, hZ⟩, hB, hb⟩ := hS
  refine (tag_any s.tag w').mono ?_
  rintro e w2 ⟨rfl, hB2⟩
  have hA2 := hA.below hB2
  have hZ2 := hZ.below hB2
  exact ⟨rfl, ⟨hA2.c0, hA2.c1, hA2.c2, hA2.c3, hA2.c4, hA2.c5, hA2, ⟨z, hZ2⟩, hB.trans (hB2.mono hb), Nat.le_trans hb hB2.size⟩, z, hZ2⟩
theorem store_at {s : StV} {N M B : Nat} {w w' : World} (hn : M ≠ N) (hM : B ≤ M) (t : StV) (hS : (w'.cell? ⟨N, 0, none⟩ = some (.bool s.ex) ∧ w'.cell? ⟨N, 1, none⟩ = some (.bool s.ht) ∧ w'.cell? ⟨N, 2, none⟩ = some (.bool s.hm) ∧ w'.cell? ⟨N, 3, none⟩ = some (.bool s.tag.1) ∧ w'.cell? ⟨N, 4, none⟩ = some (.string (strB s.tag.2)) ∧ w'.cell? ⟨N, 5, none⟩ = some (.int .i64 s.md) ∧ StB N w' s ∧ (∃ z, StB M w' z) ∧ Below B w w' ∧ B ≤ w'.heap.size)) (W : World)
    (hW : W = (((((w'.setCell ⟨M, 0, none⟩ (.bool t.ex)).setCell ⟨M, 1, none⟩ (.bool t.ht)).setCell ⟨M, 2, none⟩ (.bool t.hm)).setCell ⟨M, 3, none⟩ (.bool t.tag.1)).setCell ⟨M, 4, none⟩ (.string (strB t.tag.2))).setCell ⟨M, 5, none⟩ (.int .i64 t.md)) :
    (W.cell? ⟨N, 0, none⟩ = some (.bool s.ex) ∧ W.cell? ⟨N, 1, none⟩ = some (.bool s.ht) ∧ W.cell? ⟨N, 2, none⟩ = some (.bool s.hm) ∧ W.cell? ⟨N, 3, none⟩ = some (.bool s.tag.1) ∧ W.cell? ⟨N, 4, none⟩ = some (.string (strB s.tag.2)) ∧ W.cell? ⟨N, 5, none⟩ = some (.int .i64 s.md) ∧ StB N W s ∧ (∃ z, StB M W z) ∧ Below B w W ∧ B ≤ W.heap.size) := by
  obtain ⟨_, _, _, _, _, _, hA, ⟨z, hZ⟩, hB, hb⟩ := hS
  subst hW
  have hA2 := hA.other hn (.bool t.ex) (.bool t.ht) (.bool t.hm) (.bool t.tag.1) (.string (strB t.tag.2)) (.int .i64 t.md)
  exact ⟨hA2.c0, hA2.c1, hA2.c2, hA2.c3, hA2.c4, hA2.c5, hA2, ⟨t, hZ.set t⟩, below_six hB hM _ _ _ _ _ _, by simpa using hb⟩
set_option maxHeartbeats 8000000 in
set_option maxRecDepth 100000 in
theorem state_any (s : StV) (w : World) :
    Calls Tryz.prog 26 #[stV s] w fun e w' => e = .returned (stV s) ∧ Below w.heap.size w w' := by
  have hB0 : Below w.heap.size w (w.alloc (.cells (stC s) 52)) := below_new _ _
  have hB1 := below_newY w (.cells (stC s) 52) (.cells (stC zS) 61)
  have HA := Lib.hid ((stB_new w s 52).below (below_new _ (.cells (stC zS) 61)))
  have HZ := Lib.hid (stB_new (w.alloc (.cells (stC s) 52)) zS 61)
  have e1 : (w.alloc (.cells (stC s) 52)).heap.size = w.heap.size + 1 := by simp
  rw [e1] at HZ
  have HB1 := Lib.hid hB1
  clear hB0 hB1 e1
  go_enter Tryz.func26, Tryz.ntmps26
  go_wp2_with fail
  change Code.wp _ _ _ _ ((w.alloc (.cells (stC s) 52)).alloc (.cells (stC zS) 61))
  generalize ((w.alloc (.cells (stC s) 52)).alloc (.cells (stC zS) 61)) = W at *
  have HBd := Lib.hid (HB1.out.trans ((Below.refl W.heap.size W).drew.mono HB1.out.size))
  have HAd := Lib.hid (HA.out.below (Below.refl W.heap.size W).drew)
  have HZd := Lib.hid (HZ.out.below (Below.refl W.heap.size W).drew)
  have HSt := Lib.hid (show W.drew.cell? ⟨w.heap.size, 0, none⟩ = some (.bool s.ex) ∧ W.drew.cell? ⟨w.heap.size, 1, none⟩ = some (.bool s.ht) ∧ W.drew.cell? ⟨w.heap.size, 2, none⟩ = some (.bool s.hm) ∧ W.drew.cell? ⟨w.heap.size, 3, none⟩ = some (.bool s.tag.1) ∧ W.drew.cell? ⟨w.heap.size, 4, none⟩ = some (.string (strB s.tag.2)) ∧ W.drew.cell? ⟨w.heap.size, 5, none⟩ = some (.int .i64 s.md) ∧ StB w.heap.size W.drew s ∧ (∃ z, StB (w.heap.size + 1) W.drew z) ∧ Below w.heap.size w W.drew ∧ w.heap.size ≤ W.drew.heap.size from ⟨HAd.out.c0, HAd.out.c1, HAd.out.c2, HAd.out.c3, HAd.out.c4, HAd.out.c5, HAd.out, ⟨zS, HZd.out⟩, HBd.out, HBd.out.size⟩)
  go_region_held3 (fun w' => w'.cell? ⟨w.heap.size, 0, none⟩ = some (.bool s.ex) ∧ w'.cell? ⟨w.heap.size, 1, none⟩ = some (.bool s.ht) ∧ w'.cell? ⟨w.heap.size, 2, none⟩ = some (.bool s.hm) ∧ w'.cell? ⟨w.heap.size, 3, none⟩ = some (.bool s.tag.1) ∧ w'.cell? ⟨w.heap.size, 4, none⟩ = some (.string (strB s.tag.2)) ∧ w'.cell? ⟨w.heap.size, 5, none⟩ = some (.int .i64 s.md) ∧ StB w.heap.size w' s ∧ (∃ z, StB (w.heap.size + 1) w' z) ∧ Below w.heap.size w w' ∧ w.heap.size ≤ w'.heap.size)
    (first | with_reducible exact h5 | with_reducible exact HSt.out | with_reducible exact store_at (by omega) (by omega) s h5 _ rfl)
    (first | (go_at_call 13; refine (tag_at s w.heap.size (w.heap.size + 1) w.heap.size w _ (by assumption)).mono ?_; rintro e w1 ⟨rfl, h5, z, d0, d1, d2, d3, d4, d5, fd, ld⟩; have f0 := fd 0; have f1 := fd 1; have f2 := fd 2; have f3 := fd 3; have f4 := fd 4; have f5 := fd 5; clear fd))
  go_wp2_with fail
  refine bodyPost_ret (v := stV s) (by simp [results, Tryz.results26, go_sem, d0, d1, d2, d3, d4, d5]) rfl ?_
  exact ⟨rfl, below_six h5.2.2.2.2.2.2.2.2.1 (by omega) _ _ _ _ _ _⟩
end Go.Proofs.YtkpeaghbacoehaaGreatDoor

/- What the statements' few and awake return. -/
namespace Go.Proofs.YtkpeaghbacoehaaGreatDoor
open Go.RowKit

def fewB (ps : Flds) : Bool := decide (ps.length ≤ 20 ∧ totL ps ≤ 3000)
theorem few_yes {ps : Flds} (h : fewB ps = true) : ps.length ≤ 20 ∧ ∀ p ∈ ps, p.1.length + p.2.length ≤ 3000 := by
  have := of_decide_eq_true h
  exact ⟨this.1, fun p hp => Nat.le_trans (tot_mem hp) this.2⟩
theorem fit_of {ps : Flds} (h : ps.length ≤ 30) (hb : ∀ p ∈ ps, p.1.length + p.2.length ≤ 3000) : FitY ps := by
  refine ⟨by omega, fun p hp => by have := hb p hp; omega, fun n => ?_⟩
  have h1 := getL_len (allL ps n) 3000 (fun l hl => by
    obtain ⟨p, hp, rfl⟩ := List.mem_map.mp hl
    have := hb p (List.mem_filter.mp hp).1
    omega)
  have h2 := all_len ps n
  have h3 : (allL ps n).length * (3000 + 2) ≤ 30 * (3000 + 2) := Nat.mul_le_mul_right _ (by omega)
  unfold valF
  omega
set_option maxHeartbeats 1000000 in
set_option maxRecDepth 100000 in
theorem few_any (lv : Value) (ps : Flds) (w : World) (hr : ReadsQ w lv ps) (hl : ps.length ≤ 9223372036854775807) (hb : ∀ p ∈ ps, p.1.length ≤ 140737488355328 ∧ p.2.length ≤ 140737488355328) :
    Calls Tryz.prog 23 #[lv] w fun e w' => e = .returned (.bool (fewB ps)) ∧ Below w.heap.size w w' := by
  obtain ⟨ao, cap, rfl, hc⟩ := hr
  have hs := tot_le hb
  have HC := Lib.hid hc
  have HBig := Lib.hid hb
  have HS := Lib.hid hs
  clear hc hb hs
  by_cases h20 : ps.length ≤ 20
  · go_enter Tryz.func23, Tryz.ntmps23
    go_wp2_with fail
    go_loopw [3, 8] (fun v i wr => ∃ k : Nat, i = .int .i64 k ∧ k ≤ ps.length ∧ v = .int .i64 (totL (ps.take k)) ∧ Below w.heap.size w wr) (fun _ i _ => ps.length - (intOf i).toNat)
    case atStart => exact ⟨0, rfl, Nat.zero_le _, rfl, Below.refl _ _⟩
    case round =>
      obtain ⟨k, rfl, hk, rfl, hBr⟩ := hrel
      have hbr := hBr.size
      have hsk : totL (ps.take k) ≤ 20 * (140737488355328 + 140737488355328) := Nat.le_trans (HS.out k) (Nat.mul_le_mul_right _ (by omega))
      by_cases hlt : k < ps.length
      · obtain ⟨p, hp⟩ : ∃ p, ps[k]? = some p := ⟨ps[k], by simp [hlt]⟩
        obtain ⟨g, off, rfl, hg1, h1, h2⟩ := HC.out k p hp
        have hc1 : wr.cell? ⟨g, off + k * 2, none⟩ = some (.string (strB p.1)) := (hBr.cell (p := ⟨g, off + k * 2, none⟩) hg1).trans h1
        have hc2 : wr.cell? ⟨g, off + k * 2 + 1, none⟩ = some (.string (strB p.2)) := (hBr.cell (p := ⟨g, off + k * 2 + 1, none⟩) hg1).trans h2
        have hpl := HBig.out p (List.mem_of_getElem? hp)
        have e1 : (strB p.1).size = p.1.length := strB_size _
        have e2 : (strB p.2).size = p.2.length := strB_size _
        have hm := tot_more hp
        have HM := Lib.hid hm
        clear hp h1 h2 hm
        go_wp2
        go_roundw
        case rel => exact ⟨k + 1, by go_num, by omega, by rw [HM.out]; congr 1, hBr.alloc hbr _⟩
        case measure => simp [intOf]; omega
      · have htk : ps.take k = ps := List.take_of_length_le (by omega)
        rw [htk] at hsk ⊢
        go_wp2_with fail
        go_ret
        refine ⟨ret_bool ?_, hBr⟩
        unfold fewB
        by_cases h6 : totL ps ≤ 3000
        · rw [decide_eq_true (show ps.length ≤ 20 ∧ totL ps ≤ 3000 from ⟨h20, h6⟩), decide_eq_true (by omega)]
        · rw [decide_eq_false (fun h : ps.length ≤ 20 ∧ totL ps ≤ 3000 => h6 h.2), decide_eq_false (by omega)]
  · have hsm : fewB ps = false := decide_eq_false fun h => h20 h.1
    rw [hsm]
    go_enter Tryz.func23, Tryz.ntmps23
    go_wp2_with fail
    go_loopw [3, 8] (fun v i wr => ∃ (k : Nat) (z : Int), i = .int .i64 k ∧ k ≤ ps.length ∧ v = .int .i64 z ∧ Below w.heap.size w wr) (fun _ i _ => ps.length - (intOf i).toNat)
    case atStart => exact ⟨0, 0, rfl, Nat.zero_le _, rfl, Below.refl _ _⟩
    case round =>
      obtain ⟨k, z, rfl, hk, rfl, hBr⟩ := hrel
      have hbr := hBr.size
      by_cases hlt : k < ps.length
      · obtain ⟨p, hp⟩ : ∃ p, ps[k]? = some p := ⟨ps[k], by simp [hlt]⟩
        obtain ⟨g, off, rfl, hg1, h1, h2⟩ := HC.out k p hp
        have hc1 : wr.cell? ⟨g, off + k * 2, none⟩ = some (.string (strB p.1)) := (hBr.cell (p := ⟨g, off + k * 2, none⟩) hg1).trans h1
        have hc2 : wr.cell? ⟨g, off + k * 2 + 1, none⟩ = some (.string (strB p.2)) := (hBr.cell (p := ⟨g, off + k * 2 + 1, none⟩) hg1).trans h2
        have hpl := HBig.out p (List.mem_of_getElem? hp)
        have e1 : (strB p.1).size = p.1.length := strB_size _
        have e2 : (strB p.2).size = p.2.length := strB_size _
        clear hp h1 h2
        go_wp2
        go_roundw
        case rel => exact ⟨k + 1, _, by go_num, by omega, rfl, hBr.alloc hbr _⟩
        case measure => simp [intOf]; omega
      · go_wp2_with fail
        go_ret
        exact ⟨rfl, hBr⟩

def exP : Flds := [(nIN, [87, 47, 34, 97, 34])]
def exS : StV := ⟨true, true, false, (false, [97]), 0⟩
theorem exFit : FitY exP := fit_of (by decide) (by decide)
theorem exRead : readTL [87, 47, 34, 97, 34] = some (true, [97]) := by decide
theorem exNone (n : List UInt8) (h : lowS nIN ≠ lowS n) : valF exP n = [] := by
  have : allL exP n = [] := by
    unfold allL exP
    rw [List.filter_cons_of_neg (by unfold ofN; simpa using h)]; rfl
  unfold valF; rw [this]; rfl
theorem exEval : evalL mGET exP exS none none = 2 := by decide
theorem exReads (w : World) (T : TypeId) (N : Nat) (hN : N = w.heap.size) : ReadsQ (w.alloc (.cells #[.string ⟨#[105, 102, 45, 110, 111, 110, 101, 45, 109, 97, 116, 99, 104]⟩, .string ⟨#[87, 47, 34, 97, 34]⟩] T)) (.slice (some ⟨N, 0, none⟩) 1 1) exP := by
  subst hN
  refine ⟨_, 1, rfl, fun j p hj => ⟨w.heap.size, 0, rfl, by simp, ?_, ?_⟩⟩
  all_goals
    have hj0 : j = 0 := by
      have : j < exP.length := (List.getElem?_eq_some_iff.mp hj).1
      simp [exP] at this; exact this
    subst hj0
    simp only [exP, List.getElem?_cons_zero, Option.some.injEq] at hj
    subst hj
    rw [World.cell?_alloc_at _ _ _ _ rfl]; rfl
set_option maxHeartbeats 4000000 in
set_option maxRecDepth 100000 in
theorem awakeY_any (w : World) (hE : EnvY w) :
    Calls Tryz.prog 11 #[] w fun e w' => e = .returned (.bool true) ∧ Below w.heap.size w w' := by
  have HE := Lib.hid hE
  have HR := Lib.hid (fun (w : World) (hM : MaxIs w) => readTag_any [87, 47, 34, 97, 34] w hM (by decide))
  rw [exRead] at HR
  unfold tgO at HR
  have HV := Lib.hid (fun (fv : Value) (w : World) (hr : ReadsQ w fv exP) (hE : EnvY w) => evaluate_any mGET fv exP exS none none w hr exFit (by rw [exNone nIU (by decide)]; exact date_nil) (by rw [exNone nIS (by decide)]; exact date_nil) hE)
  rw [exEval] at HV
  have HV2 : Hid (∀ (fv : Value) (w : World), ReadsQ w fv exP → EnvY w → Calls Tryz.prog 25 #[.string ⟨#[71, 69, 84]⟩, fv, .agg #[.bool true, .bool true, .bool false, .bool false, .string ⟨#[97]⟩, .int .i64 0]] w fun e w' => e = .returned (.int .i64 2) ∧ Below w.heap.size w w') := HV
  clear HV
  clear hE
  go_enter Tryz.func11, Tryz.ntmps11
  go_wp2_with fail
  refine (HR.out _ HE.out.1).mono ?_
  rintro e w1 ⟨rfl, hB1⟩
  have HB1 := Lib.hid hB1
  obtain ⟨c0, c1, f0, f1, hN⟩ := twoT_new w1 true [97] 29
  clear hB1
  have e97 : ((strB [97]).toList == [97]) = true := by rw [meth_any]; decide
  go_wp2_with fail
  have hW := (below_newY w1 (.cells #[.bool true, .string (strB [97])] 29) (.cells #[.bool true, .bool true, .bool false, .bool false, .string ⟨#[97]⟩, .int .i64 0] 61)).alloc (by simp; omega) (.cells #[.string ⟨#[105, 102, 45, 110, 111, 110, 101, 45, 109, 97, 116, 99, 104]⟩, .string ⟨#[87, 47, 34, 97, 34]⟩] 72)
  have hW2 := HB1.out.trans (hW.mono HB1.out.size)
  have hX := exReads ((w1.alloc (.cells #[.bool true, .string (strB [97])] 29)).alloc (.cells #[.bool true, .bool true, .bool false, .bool false, .string ⟨#[97]⟩, .int .i64 0] 61)) 72 (w1.heap.size + 2) (by simp)
  refine (HV2.out _ _ hX (HE.out.below hW2)).mono ?_
  rintro e w2 ⟨rfl, hB2⟩
  go_wp2_with fail
  go_ret
  exact ⟨rfl, hW2.trans (hB2.mono hW2.size)⟩
end Go.Proofs.YtkpeaghbacoehaaGreatDoor
