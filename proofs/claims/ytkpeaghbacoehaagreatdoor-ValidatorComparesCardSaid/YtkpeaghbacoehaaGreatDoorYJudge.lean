/- What getDate, isOther, isUnmodified, Evaluate and UseRange return. -/
import Derived.Test.YtkpeaghbacoehaaGreatDoorYKnown
namespace Go.Proofs.YtkpeaghbacoehaaGreatDoor
open Go.RowKit

def EnvY (w : World) : Prop := MaxIs w ∧ EnvP w
theorem EnvY.below {w w' : World} (h : EnvY w) (hb : Below w.heap.size w w') : EnvY w' := ⟨h.1.below hb, h.2.below hb⟩
/-- A list of fields is small enough for all that is asked of it. -/
structure FitY (ps : Flds) : Prop where
  len : ps.length ≤ 1000
  each : ∀ p ∈ ps, p.1.length + p.2.length ≤ 1000000
  val : ∀ n, (valF ps n).length ≤ 100000
def dV : Option Nat → Value
  | some n => .tuple #[.int .i64 (n : Int), .nilIface]
  | none => .tuple #[.int .i64 0, errY]
def dN : Option Nat → Int
  | some n => (n : Int)
  | none => 0
theorem parseD_any (l : List UInt8) (d : Option Nat) (hd : DateIs l d) (w : World) (hE : EnvP w) (hl : l.length ≤ 1000000) :
    Calls Tryz.prog 49 #[.string (strB l)] w fun e w' => e = .returned (dV d) ∧ Below w.heap.size w w' := by
  have hv : ∀ e, ParseV (strB l).data.toList e → e = .returned (dV d) := by
    intro e h
    rw [strB_list] at h
    rcases h with ⟨n, hn, rfl⟩ | ⟨hn, rfl⟩
    · have : d = some n := hd.uniq (e := some n) hn
      subst this; rfl
    · have : d = none := hd.uniq (e := none) hn
      subst this; rfl
  by_cases hs : (strB l).size = 29
  · refine (parse_any (strB l) w hE hs).mono ?_
    rintro e w' ⟨h, hB⟩
    exact ⟨hv e h, hB⟩
  · refine (parse_short (strB l) w hs (by rw [strB_size]; unfold maxLen; omega)).mono ?_
    rintro e w' ⟨h, rfl⟩
    exact ⟨hv e h, Below.refl _ _⟩
theorem getY_any (fv : Value) (ps : Flds) (n : ByteArray) (w : World) (hr : ReadsQ w fv ps) (hf : FitY ps) (hn : n.size ≤ 100) :
    Calls Tryz.prog 43 #[fv, .string n] w fun e w' => e = .returned (.tuple #[.string (strB (valF ps n.data.toList)), .bool (fnd ps n.data.toList)]) ∧ Below w.heap.size w w' :=
  get_any fv ps n w hr (by omega) (by have := hf.len; omega) hf.each
set_option maxHeartbeats 1000000 in
set_option maxRecDepth 100000 in
theorem getDate_any (fv : Value) (ps : Flds) (n : ByteArray) (d : Option Nat) (w : World) (hr : ReadsQ w fv ps) (hf : FitY ps) (hn : n.size ≤ 100) (hd : DateIs (valF ps n.data.toList) d) (hE : EnvP w) :
    Calls Tryz.prog 58 #[fv, .string n] w fun e w' => e = .returned (.tuple #[.int .i64 (dN d), .bool d.isSome]) ∧ Below w.heap.size w w' := by
  have HG := Lib.hid (getY_any fv ps n w hr hf hn)
  have HE := Lib.hid hE
  have hvl := hf.val n.data.toList
  have HP := Lib.hid (fun (w : World) (hE : EnvP w) => parseD_any (valF ps n.data.toList) d hd w hE (by omega))
  clear hr hf hd hE
  generalize valF ps n.data.toList = x at *
  generalize fnd ps n.data.toList = y at *
  cases d with
  | none =>
    unfold dV at HP
    go_enter Tryz.func58, Tryz.ntmps58
    go_wp2_with fail
    refine HG.out.mono ?_
    rintro e w1 ⟨rfl, hB1⟩
    go_wp2_with fail
    refine (HP.out _ (HE.out.below hB1)).mono ?_
    rintro e w2 ⟨rfl, hB2⟩
    go_wp2_with fail
    go_quiet (fail)
    go_wp2
    go_ret2
    exact ⟨rfl, below_drewN (hB1.trans (hB2.mono hB1.size)) _⟩
  | some k =>
    unfold dV at HP
    go_enter Tryz.func58, Tryz.ntmps58
    go_wp2_with fail
    refine HG.out.mono ?_
    rintro e w1 ⟨rfl, hB1⟩
    go_wp2_with fail
    refine (HP.out _ (HE.out.below hB1)).mono ?_
    rintro e w2 ⟨rfl, hB2⟩
    go_wp2_with fail
    go_quiet (fail)
    go_wp2
    go_ret2
    exact ⟨rfl, below_drewN (hB1.trans (hB2.mono hB1.size)) _⟩
def otherQ (ps : Flds) (s : StV) (du : Option Nat) : Bool := if fnd ps nIM = true then !mtQ (valF ps nIM) s true else du.isSome && (s.hm && decide (dN du < s.md))
def sinceQ (s : StV) (d : Option Nat) : Bool := d.isSome && (s.hm && decide (s.md ≤ dN d))
theorem otherQ_known (ps : Flds) (s : StV) (du : Option Nat) : otherQ ps (knownS s) du = otherL ps s du := by
  unfold otherQ otherL
  rw [mtQ_known]
  split
  · rfl
  · unfold laterL knownS dN
    cases s.ex <;> cases du <;> simp
theorem sinceQ_known (s : StV) (d : Option Nat) : sinceQ (knownS s) d = sinceL s d := by
  unfold sinceQ sinceL knownS dN
  cases s.ex <;> cases d <;> simp
set_option maxHeartbeats 4000000 in
set_option maxRecDepth 100000 in
theorem isOther_any (fv : Value) (ps : Flds) (s : StV) (du : Option Nat) (w : World) (hr : ReadsQ w fv ps) (hf : FitY ps) (hd : DateIs (valF ps nIU) du) (hE : EnvY w) :
    Calls Tryz.prog 42 #[fv, stV s] w fun e w' => e = .returned (.bool (otherQ ps s du)) ∧ Below w.heap.size w w' := by
  have hW := below_new w (.cells (stC s) 61)
  have HG := Lib.hid (getY_any fv ps ⟨#[105, 102, 45, 109, 97, 116, 99, 104]⟩ _ (hr.below hW) hf (by decide))
  have hvl := hf.val nIM
  have HM := Lib.hid (fun (w : World) (hM : MaxIs w) => matches_any true s (valF ps nIM) w hM (by omega))
  have HD := Lib.hid (fun (w : World) (hr : ReadsQ w fv ps) (hE : EnvP w) => getDate_any fv ps ⟨#[105, 102, 45, 117, 110, 109, 111, 100, 105, 102, 105, 101, 100, 45, 115, 105, 110, 99, 101]⟩ du w hr hf (by decide) hd hE)
  have HE := Lib.hid (hE.below hW)
  have HR := Lib.hid (hr.below hW)
  have HS := Lib.hid (stB_new w s 61)
  have HW := Lib.hid hW
  have HQ := Lib.hid (show otherQ ps s du = if fnd ps nIM = true then !mtQ (valF ps nIM) s true else du.isSome && (s.hm && decide (dN du < s.md)) from rfl)
  clear hr hf hd hE hW
  cases hfn : fnd ps nIM with
  | true =>
    have HQ2 := Lib.hid (show otherQ ps s du = !mtQ (valF ps nIM) s true by rw [HQ.out, hfn]; rfl)
    have HG2 := Lib.hid HG.out
    rw [show fnd ps (⟨#[105, 102, 45, 109, 97, 116, 99, 104]⟩ : ByteArray).data.toList = true from hfn] at HG2
    go_enter Tryz.func42, Tryz.ntmps42
    go_wp2_with fail
    refine HG2.out.mono ?_
    rintro e w1 ⟨rfl, hB1⟩
    obtain ⟨c0, c1, c2, c3, c4, c5, fr, lt⟩ := HS.out.below hB1
    have HB1 := Lib.hid (HW.out.trans (hB1.mono HW.out.size))
    have HE1 := Lib.hid (HE.out.below hB1)
    clear hB1
    go_wp2_with fail
    refine (HM.out _ HE1.out.1).mono ?_
    rintro e w2 ⟨rfl, hB2⟩
    go_wp2_with fail
    go_ret
    exact ⟨by rw [HQ2.out]; rfl, HB1.out.trans (hB2.mono HB1.out.size)⟩
  | false =>
    have HQ2 := Lib.hid (show otherQ ps s du = (du.isSome && (s.hm && decide (dN du < s.md))) by rw [HQ.out, hfn]; rfl)
    have HG2 := Lib.hid HG.out
    rw [show fnd ps (⟨#[105, 102, 45, 109, 97, 116, 99, 104]⟩ : ByteArray).data.toList = false from hfn] at HG2
    have hgo : ∀ (x y : Bool) (n : Int), du.isSome = x → s.hm = y → dN du = n → Calls Tryz.prog 42 #[fv, stV s] w fun e w' => e = .returned (.bool (otherQ ps s du)) ∧ Below w.heap.size w w' := by
      intro x y n hx hhm hn
      rw [hx, hn] at HQ2 HD
      rw [hhm] at HQ2
      have HH := Lib.hid hhm
      clear hhm
      cases x <;> cases y
      all_goals
        go_enter Tryz.func42, Tryz.ntmps42
        go_wp2_with fail
        refine HG2.out.mono ?_
        rintro e w1 ⟨rfl, hB1⟩
        have HB1 := Lib.hid (HW.out.trans (hB1.mono HW.out.size))
        have HE1 := Lib.hid (HE.out.below hB1)
        have HR1 := Lib.hid (HR.out.below hB1)
        have HS1 := Lib.hid (HS.out.below hB1)
        clear hB1
        go_wp2_with fail
        refine (HD.out _ HR1.out HE1.out.2).mono ?_
        rintro e w2 ⟨rfl, hB2⟩
        obtain ⟨c0, c1, c2, c3, c4, c5, fr, lt⟩ := HS1.out.below hB2
        rw [HH.out] at c2
        have HB2 := Lib.hid (HB1.out.trans (hB2.mono HB1.out.size))
        clear hB2
        go_wp2_with fail
        go_ret
        exact ⟨by rw [HQ2.out]; rfl, HB2.out⟩
    exact hgo _ _ _ rfl rfl rfl
set_option maxHeartbeats 4000000 in
set_option maxRecDepth 100000 in
theorem isUnmodified_any (fv : Value) (ps : Flds) (s : StV) (du : Option Nat) (w : World) (hr : ReadsQ w fv ps) (hf : FitY ps) (hd : DateIs (valF ps nIS) du) (hE : EnvY w) :
    Calls Tryz.prog 45 #[fv, stV s] w fun e w' => e = .returned (.bool (sinceQ s du)) ∧ Below w.heap.size w w' := by
  have hW := below_new w (.cells (stC s) 61)
  have HD := Lib.hid (fun (w : World) (hr : ReadsQ w fv ps) (hE : EnvP w) => getDate_any fv ps ⟨#[105, 102, 45, 109, 111, 100, 105, 102, 105, 101, 100, 45, 115, 105, 110, 99, 101]⟩ du w hr hf (by decide) hd hE)
  have HE := Lib.hid (hE.below hW)
  have HR := Lib.hid (hr.below hW)
  have HS := Lib.hid (stB_new w s 61)
  have HW := Lib.hid hW
  have HQ2 := Lib.hid (show sinceQ s du = (du.isSome && (s.hm && decide (s.md ≤ dN du))) from rfl)
  clear hr hf hd hE hW
  have hgo : ∀ (x y : Bool) (n : Int), du.isSome = x → s.hm = y → dN du = n → Calls Tryz.prog 45 #[fv, stV s] w fun e w' => e = .returned (.bool (sinceQ s du)) ∧ Below w.heap.size w w' := by
    intro x y n hx hhm hn
    rw [hx, hn] at HQ2 HD
    rw [hhm] at HQ2
    have HH := Lib.hid hhm
    clear hhm
    cases x <;> cases y
    all_goals
      go_enter Tryz.func45, Tryz.ntmps45
      go_wp2_with fail
      refine (HD.out _ HR.out HE.out.2).mono ?_
      rintro e w2 ⟨rfl, hB2⟩
      obtain ⟨c0, c1, c2, c3, c4, c5, fr, lt⟩ := HS.out.below hB2
      rw [HH.out] at c2
      have HB2 := Lib.hid (HW.out.trans (hB2.mono HW.out.size))
      clear hB2
      go_wp2_with fail
      go_ret
      exact ⟨by rw [HQ2.out]; rfl, HB2.out⟩
  exact hgo _ _ _ rfl rfl rfl
end Go.Proofs.YtkpeaghbacoehaaGreatDoor
