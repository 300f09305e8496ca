/- What ReadTags and matches return. -/
import Derived.Test.YtkpeaghbacoehaaGreatDoorYList
namespace Go.Proofs.YtkpeaghbacoehaaGreatDoor
open Go.RowKit

theorem star_any (l : List UInt8) : ((strB (trimB l)).toList == [42]) = starL l := by
  rw [ByteArray.toList_eq, strB_list]
  unfold starL
  by_cases h : trimB l = [42]
  · rw [h]; rfl
  · simp [h]
def ReadPost (T : TypeId) (l : List UInt8) (w : World) (e : Ending) (w' : World) : Prop :=
  Below w.heap.size w w' ∧
  ((starL l = true ∧ e = .returned (.tuple #[.slice none 0 0, .bool true, .nilIface])) ∨
   (starL l = false ∧ lstL l [] = none ∧ e = .returned (.tuple #[.slice none 0 0, .bool false, errY])) ∨
   (starL l = false ∧ ∃ v ts, lstL l [] = some ts ∧ e = .returned (.tuple #[v, .bool false, .nilIface]) ∧ OwnsT T w.heap.size w' v ts ∧ ts.length ≤ l.length))
set_option maxHeartbeats 2000000 in
set_option maxRecDepth 100000 in
theorem readTags_any (l : List UInt8) (w : World) (hM : MaxIs w) (hl : l.length ≤ 1000000) :
    Calls Tryz.prog 19 #[.string (strB l)] w fun e w' => ReadPost 29 l w e w' := by
  have HM := Lib.hid hM
  have HS := star_any l
  clear hM
  cases hst : starL l with
  | true =>
    rw [hst] at HS
    have HT := Lib.hid hst
    clear hst
    go_enter Tryz.func19, Tryz.ntmps19
    go_wp2_with fail
    refine (trimS_any l _ hl).mono ?_
    rintro e w1 ⟨rfl, hB1⟩
    go_wp2_with fail
    exact bodyPost_ret (v := .tuple #[.slice none 0 0, .bool true, .nilIface]) (by simp [results, Tryz.results19, go_sem]) rfl ⟨hB1, .inl ⟨HT.out, rfl⟩⟩
  | false =>
    rw [hst] at HS
    have HT := Lib.hid hst
    clear hst
    go_enter Tryz.func19, Tryz.ntmps19
    go_wp2_with fail
    refine (trimS_any l _ hl).mono ?_
    rintro e w1 ⟨rfl, hB1⟩
    have HB1 := Lib.hid hB1
    clear hB1
    go_wp2_with fail
    refine (readList_any l _ (HM.out.below HB1.out) hl).mono ?_
    rintro e w2 ⟨hB2, he⟩
    have HB2 := Lib.hid (HB1.out.trans (hB2.mono HB1.out.size))
    clear hB2
    cases hq : lstL l [] with
    | none =>
      rw [hq] at he
      have HQ := Lib.hid hq
      clear hq
      simp only at he
      subst he
      go_wp2_with fail
      exact bodyPost_ret (v := .tuple #[.slice none 0 0, .bool false, errY]) (by simp [results, Tryz.results19, go_sem]) rfl ⟨HB2.out, .inr (.inl ⟨HT.out, HQ.out, rfl⟩)⟩
    | some ts =>
      rw [hq] at he
      have HQ := Lib.hid hq
      clear hq
      obtain ⟨v, rfl, hO, hln⟩ := he
      have HO := Lib.hid hO
      clear hO
      go_wp2_with fail
      exact bodyPost_ret (v := .tuple #[v, .bool false, .nilIface]) (by simp [results, Tryz.results19, go_sem]) rfl ⟨HB2.out, .inr (.inr ⟨HT.out, v, ts, HQ.out, rfl, HO.out.mono HB1.out.size, hln⟩)⟩

/-- The function value that compares two tags. -/
def cmpV (sg : Bool) : Value := .func (.func (if sg then 21 else 22)) #[] #[]
abbrev cloV (g1 g2 : Nat) : Value := .func (.func 62) #[] #[.pointer (some ⟨g1, 0, none⟩), .pointer (some ⟨g2, 0, none⟩)]
/-- What the closure asks of a world: the comparison in its box, the state's tag in the state's. -/
def CloE (sg : Bool) (u : Tg) (g1 g2 : Nat) (w : World) : Prop :=
  w.cell? ⟨g1, 0, none⟩ = some (cmpV sg) ∧ w.cell? ⟨g2, 3, none⟩ = some (.bool u.1) ∧ w.cell? ⟨g2, 4, none⟩ = some (.string (strB u.2)) ∧ g1 < w.heap.size ∧ g2 < w.heap.size
theorem CloE.below {sg : Bool} {u : Tg} {g1 g2 : Nat} {w w' : World} (h : CloE sg u g1 g2 w) (hb : Below w.heap.size w w') : CloE sg u g1 g2 w' := by
  obtain ⟨h1, h2, h3, h4, h5⟩ := h
  exact ⟨(hb.cell (p := ⟨g1, 0, none⟩) h4).trans h1, (hb.cell (p := ⟨g2, 3, none⟩) h5).trans h2, (hb.cell (p := ⟨g2, 4, none⟩) h5).trans h3, Nat.lt_of_lt_of_le h4 hb.size, Nat.lt_of_lt_of_le h5 hb.size⟩
set_option maxHeartbeats 2000000 in
set_option maxRecDepth 100000 in
theorem clo_any (sg : Bool) (t u : Tg) (g1 g2 : Nat) (w : World) (hE : CloE sg u g1 g2 w) :
    Calls Tryz.prog 62 #[tgV t, .pointer (some ⟨g1, 0, none⟩), .pointer (some ⟨g2, 0, none⟩)] w fun e w' => e = .returned (.bool (sameT sg t u)) ∧ Below w.heap.size w w' := by
  obtain ⟨k, a⟩ := t
  have hE2 := hE.below (below_new w (.cells #[.bool k, .string (strB a)] 29))
  obtain ⟨h1, h2, h3, h4, h5⟩ := hE2
  obtain ⟨c0, c1, f0, f1, hN⟩ := twoT_new w k a 29
  clear hE
  cases sg
  · unfold cmpV at h1
    simp only [if_false, Bool.false_eq_true] at h1
    go_enter Tryz.func62, Tryz.ntmps62
    go_wp2_with fail
    refine (weak_any (k, a) u _).mono ?_
    rintro e w2 ⟨rfl, hB2⟩
    go_wp2_with fail
    go_ret
    exact ⟨rfl, (below_new w _).trans (hB2.mono (by simp))⟩
  · unfold cmpV at h1
    simp only [if_true] at h1
    go_enter Tryz.func62, Tryz.ntmps62
    go_wp2_with fail
    refine (strong_any (k, a) u _).mono ?_
    rintro e w2 ⟨rfl, hB2⟩
    go_wp2_with fail
    go_ret
    exact ⟨rfl, (below_new w _).trans (hB2.mono (by simp))⟩
theorem any_take_step {ts : List Tg} {f : Tg → Bool} {k : Nat} {p : Tg} (hk : ts[k]? = some p) (h : (ts.take k).any f = false) (hp : f p = false) : (ts.take (k + 1)).any f = false := by
  rw [List.take_add_one, hk, List.any_append, h]; simp [hp]
theorem any_hit {ts : List Tg} {f : Tg → Bool} {k : Nat} {p : Tg} (hk : ts[k]? = some p) (hp : f p = true) : ts.any f = true :=
  List.any_eq_true.mpr ⟨p, List.mem_of_getElem? hk, hp⟩
theorem any_all {ts : List Tg} {f : Tg → Bool} {k : Nat} (hk : ts.length ≤ k) (h : (ts.take k).any f = false) : ts.any f = false := by
  rwa [List.take_of_length_le hk] at h
set_option maxHeartbeats 4000000 in
set_option maxRecDepth 100000 in
theorem indexFunc_any (sg : Bool) (u : Tg) (g1 g2 : Nat) (v : Value) (ts : List Tg) (w : World) (hR : ReadsT w v ts) (hE : CloE sg u g1 g2 w) (hl : ts.length ≤ 1000000) :
    Calls Tryz.prog 84 #[v, cloV g1 g2] w fun e w' => ∃ n : Int, e = .returned (.int .i64 n) ∧ decide (0 ≤ n) = ts.any (fun t => sameT sg t u) ∧ Below w.heap.size w w' := by
  obtain ⟨ao, cap, rfl, hc⟩ := hR
  have HC := Lib.hid hc
  have HE := Lib.hid hE
  clear hc hE
  go_enter Tryz.func84, Tryz.ntmps84
  go_wp2
  go_loopw [8] (fun i wr => ∃ k : Nat, i = .int .i64 k ∧ k ≤ ts.length ∧ (ts.take k).any (fun t => sameT sg t u) = false ∧ Below w.heap.size w wr) (fun i _ => ts.length - (intOf i).toNat)
  case atStart => exact ⟨0, rfl, Nat.zero_le _, rfl, Below.refl _ _⟩
  case round =>
    obtain ⟨k, rfl, hk, hn, hBr⟩ := hrel
    have hbr := hBr.size
    have HBR := Lib.hid hBr
    have HN := Lib.hid hn
    clear hBr hn
    by_cases hlt : k < ts.length
    · obtain ⟨p, hp⟩ : ∃ p, ts[k]? = some p := ⟨ts[k], by simp [hlt]⟩
      obtain ⟨g, off, rfl, hg, hc1, hc2⟩ := HC.out k p hp
      have hd1 : wr.cell? ⟨g, off + k * 2, none⟩ = some (.bool p.1) := (HBR.out.cell (p := ⟨g, off + k * 2, none⟩) hg).trans hc1
      have hd2 : wr.cell? ⟨g, off + k * 2 + 1, none⟩ = some (.string (strB p.2)) := (HBR.out.cell (p := ⟨g, off + k * 2 + 1, none⟩) hg).trans hc2
      have HP := Lib.hid hp
      clear hp hc1 hc2
      go_wp2_with fail
      refine (clo_any sg p u g1 g2 _ (HE.out.below HBR.out)).mono ?_
      rintro e w2 ⟨rfl, hB2⟩
      have HB2 := Lib.hid (HBR.out.trans (hB2.mono hbr))
      clear hB2
      cases hs : sameT sg p u with
      | true =>
        have HS := Lib.hid (any_hit (f := fun t => sameT sg t u) HP.out hs)
        clear hs
        go_wp2
        go_ret
        exact ⟨k, rfl, by rw [HS.out]; simp, HB2.out⟩
      | false =>
        have HS := Lib.hid (any_take_step (f := fun t => sameT sg t u) HP.out HN.out hs)
        clear hs
        go_wp2
        go_roundw
        case rel => exact ⟨k + 1, by go_num, by omega, HS.out, HB2.out⟩
        case measure => simp [intOf]; omega
    · have HS := Lib.hid (any_all (f := fun t => sameT sg t u) (by omega) HN.out)
      go_wp2
      go_ret
      exact ⟨-1, rfl, by rw [HS.out]; decide, HBR.out⟩
set_option maxHeartbeats 1000000 in
theorem containsFunc_any (sg : Bool) (u : Tg) (g1 g2 : Nat) (v : Value) (ts : List Tg) (w : World) (hR : ReadsT w v ts) (hE : CloE sg u g1 g2 w) (hl : ts.length ≤ 1000000) :
    Calls Tryz.prog 61 #[v, cloV g1 g2] w fun e w' => e = .returned (.bool (ts.any fun t => sameT sg t u)) ∧ Below w.heap.size w w' := by
  have HI := Lib.hid (indexFunc_any sg u g1 g2 v ts w hR hE hl)
  clear hR hE
  go_enter Tryz.func61, Tryz.ntmps61
  go_wp2_with fail
  refine HI.out.mono ?_
  rintro e w2 ⟨n, rfl, hn, hB2⟩
  go_wp2_with fail
  go_ret
  exact ⟨by rw [← hn]; rfl, hB2⟩
end Go.Proofs.YtkpeaghbacoehaaGreatDoor
