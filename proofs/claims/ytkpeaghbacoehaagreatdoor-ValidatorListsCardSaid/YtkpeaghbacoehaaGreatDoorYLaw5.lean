/- ValidatorLists: for every text the statement's function returns true: the walk. -/
import Derived.Test.YtkpeaghbacoehaaGreatDoorYFew
import Derived.Test.YtkpeaghbacoehaaGreatDoorYRefAll
import Derived.Test.YtkpeaghbacoehaaGreatDoorIs
import Derived.Deep.RegionHeld3
namespace Go.Proofs.YtkpeaghbacoehaaGreatDoor
open Go.RowKit

/-- What the last loop's region reads. -/
structure LisS (g o g2 o2 : Nat) (p : Tg) (w w' : World) : Prop where
  e1 : w'.cell? ⟨g, o, none⟩ = some (.bool p.1)
  e2 : w'.cell? ⟨g, o + 1, none⟩ = some (.string (strB p.2))
  d1 : w'.cell? ⟨g2, o2, none⟩ = some (.bool p.1)
  d2 : w'.cell? ⟨g2, o2 + 1, none⟩ = some (.string (strB p.2))
  lt : g < w'.heap.size
  lt2 : g2 < w'.heap.size
  b : Below w.heap.size w w'
theorem LisS.below {g o g2 o2 : Nat} {p : Tg} {w w1 w2 : World} (h : LisS g o g2 o2 p w w1) (hb : Below w1.heap.size w1 w2) : LisS g o g2 o2 p w w2 :=
  ⟨(hb.cell (p := ⟨g, o, none⟩) h.lt).trans h.e1, (hb.cell (p := ⟨g, o + 1, none⟩) h.lt).trans h.e2, (hb.cell (p := ⟨g2, o2, none⟩) h.lt2).trans h.d1, (hb.cell (p := ⟨g2, o2 + 1, none⟩) h.lt2).trans h.d2, Nat.lt_of_lt_of_le h.lt hb.size, Nat.lt_of_lt_of_le h.lt2 hb.size, h.b.trans (hb.mono h.b.size)⟩
theorem lis_all {g o g2 o2 : Nat} {p : Tg} {w w' : World} (h : LisS g o g2 o2 p w w') : w'.cell? ⟨g, o, none⟩ = some (.bool p.1) ∧ w'.cell? ⟨g, o + 1, none⟩ = some (.string (strB p.2)) ∧ w'.cell? ⟨g2, o2, none⟩ = some (.bool p.1) ∧ w'.cell? ⟨g2, o2 + 1, none⟩ = some (.string (strB p.2)) ∧ LisS g o g2 o2 p w w' := ⟨h.e1, h.e2, h.d1, h.d2, h⟩
theorem lis_same {g o g2 o2 : Nat} {p : Tg} {w w' : World} (h : LisS g o g2 o2 p w w') : Calls Tryz.prog 17 #[tgV p, tgV p] w' fun e w2 => e = .returned (.bool true) ∧ LisS g o g2 o2 p w w2 := by
  refine (same_any p p w').mono ?_
  rintro e w2 ⟨rfl, hB⟩
  exact ⟨by rw [decide_eq_true rfl], h.below hB⟩
set_option maxHeartbeats 16000000 in
set_option maxRecDepth 100000 in
theorem lists_walk (s : ByteArray) (w : World) (hE : EnvY w) (hs : s.size ≤ maxLen) :
    Calls Tryz.prog 5 #[.string s] w fun e w' => e = .returned (.bool true) ∧ Below w.heap.size w w' := by
  obtain ⟨l, rfl⟩ : ∃ l, s = strB l := ⟨s.data.toList, (strB_of s).symm⟩
  have hsz : (strB l).size = l.length := strB_size l
  have HE := Lib.hid hE
  unfold maxLen at hs
  clear hE
  by_cases h1 : l.length ≤ 1000
  · have HP := Lib.hid (fun (w : World) (hM : MaxIs w) => readTags_any l w hM (by omega))
    have HR := Lib.hid (fun (w : World) => refAllT_any l w (by omega))
    go_enter Tryz.func5, Tryz.ntmps5
    go_wp2_with fail
    refine (awakeY_any _ HE.out).mono ?_
    rintro e w1 ⟨rfl, hB1⟩
    have HB1 := Lib.hid hB1
    have HE1 := Lib.hid (HE.out.below hB1)
    clear hB1
    go_wp2_with fail
    refine (HP.out _ HE1.out.1).mono ?_
    rintro e w2 ⟨hB2, hcase⟩
    have HB2 := Lib.hid (HB1.out.trans (hB2.mono HB1.out.size))
    clear hB2
    rcases hcase with ⟨hst, rfl⟩ | ⟨hst, hq, rfl⟩ | ⟨hst, v, ts, hq, rfl, hO, hln⟩
    · go_wp2_with fail
      refine (HR.out _).mono ?_
      rintro e w3 ⟨hB3, hcase3⟩
      rcases hcase3 with ⟨hst3, rfl⟩ | ⟨hst3, _⟩ | ⟨hst3, _⟩
      · clear hst hst3
        go_wp2_with fail
        go_loopw [59] (fun i wr => i = .int .i64 0 ∧ wr = w3) (fun _ _ => 0)
        case atStart => exact ⟨rfl, rfl⟩
        case round =>
          obtain ⟨rfl, rfl⟩ := hrel
          go_wp2_with fail
          go_ret
          exact ⟨rfl, HB2.out.trans (hB3.mono HB2.out.size)⟩
      · rw [hst] at hst3; cases hst3
      · rw [hst] at hst3; cases hst3
    · go_wp2_with fail
      refine (HR.out _).mono ?_
      rintro e w3 ⟨hB3, hcase3⟩
      rcases hcase3 with ⟨hst3, rfl⟩ | ⟨hst3, hq3, u, rfl⟩ | ⟨hst3, u, ts3, hq3, _⟩
      · rw [hst] at hst3; cases hst3
      · clear hst hst3 hq hq3
        go_wp2_with fail
        refine (is_errno 2 (by decide) _).mono ?_
        rintro e w' ⟨rfl, rfl⟩
        go_wp2_with fail
        go_ret
        exact ⟨rfl, HB2.out.trans (hB3.mono HB2.out.size)⟩
      · rw [hq] at hq3; cases hq3
    · have hRd := hO.reads
      obtain ⟨ao, cap, rfl, hc⟩ := hRd
      have HC := Lib.hid hc
      clear hc hO
      go_wp2_with fail
      refine (HR.out _).mono ?_
      rintro e w3 ⟨hB3, hcase3⟩
      rcases hcase3 with ⟨hst3, rfl⟩ | ⟨hst3, hq3, _⟩ | ⟨hst3, u, ts3, hq3, rfl, hO3, hln3⟩
      · rw [hst] at hst3; cases hst3
      · rw [hq] at hq3; cases hq3
      · rw [hq] at hq3
        simp only [Option.some.injEq] at hq3
        subst hq3
        have hRd3 := hO3.reads
        obtain ⟨ao3, cap3, rfl, hc3⟩ := hRd3
        have HC3 := Lib.hid hc3
        have HB3 := Lib.hid (HB2.out.trans (hB3.mono HB2.out.size))
        have HB23 := Lib.hid hB3
        clear hc3 hO3 hst hst3 hq hB3
        go_wp2_with fail
        go_loopw [59] (fun i wr => ∃ k : Nat, i = .int .i64 k ∧ k ≤ ts.length ∧ Below w3.heap.size w3 wr) (fun i _ => ts.length - (intOf i).toNat)
        case atStart => exact ⟨0, rfl, Nat.zero_le _, Below.refl _ _⟩
        case round =>
          obtain ⟨k, rfl, hk, hBr⟩ := hrel
          have HBR := Lib.hid hBr
          clear hBr
          by_cases hlt : k < ts.length
          · obtain ⟨p, hp⟩ : ∃ p, ts[k]? = some p := ⟨ts[k], by simp [hlt]⟩
            obtain ⟨g, off, rfl, hg, hc1, hc2⟩ := HC.out k p hp
            obtain ⟨g2, off2, rfl, hg2, hd1, hd2⟩ := HC3.out k p hp
            have hB2r := HB23.out.trans (HBR.out.mono HB23.out.size)
            have HS := Lib.hid (show LisS g (off + k * 2) g2 (off2 + k * 2) p wr wr.drew from (⟨(hB2r.cell (p := ⟨g, off + k * 2, none⟩) hg).trans hc1, (hB2r.cell (p := ⟨g, off + k * 2 + 1, none⟩) hg).trans hc2, (HBR.out.cell (p := ⟨g2, off2 + k * 2, none⟩) hg2).trans hd1, (HBR.out.cell (p := ⟨g2, off2 + k * 2 + 1, none⟩) hg2).trans hd2, Nat.lt_of_lt_of_le hg hB2r.size, Nat.lt_of_lt_of_le hg2 HBR.out.size, Below.refl _ _⟩ : LisS g (off + k * 2) g2 (off2 + k * 2) p wr wr).below (Below.refl _ _).drew)
            clear hp hc1 hc2 hd1 hd2 hB2r hg hg2
            go_wp2
            go_region_held3 (fun w' => w'.cell? ⟨g, off + k * 2, none⟩ = some (.bool p.1) ∧ w'.cell? ⟨g, off + k * 2 + 1, none⟩ = some (.string (strB p.2)) ∧ w'.cell? ⟨g2, off2 + k * 2, none⟩ = some (.bool p.1) ∧ w'.cell? ⟨g2, off2 + k * 2 + 1, none⟩ = some (.string (strB p.2)) ∧ LisS g (off + k * 2) g2 (off2 + k * 2) p wr w')
              (first | with_reducible exact lis_all hK | with_reducible exact lis_all HS.out)
              (first
                | (go_at_call 17; refine (lis_same HS.out).mono ?_; rintro e w10 ⟨rfl, hK⟩))
            go_wp2_with fail
            go_roundw
            case rel => exact ⟨k + 1, by go_num, by omega, HBR.out.trans (hK.b.mono HBR.out.size)⟩
            case measure => simp [intOf]; omega
          · go_wp2_with fail
            go_ret
            exact ⟨rfl, HB3.out.trans (HBR.out.mono HB3.out.size)⟩
  · have h1' : 1000 < l.length := by omega
    go_enter Tryz.func5, Tryz.ntmps5
    go_wp2_with fail
    refine (awakeY_any _ HE.out).mono ?_
    rintro e w1 ⟨rfl, hB1⟩
    have HB1 := Lib.hid hB1
    have HE1 := Lib.hid (HE.out.below hB1)
    clear hB1
    go_wp2_with fail
    refine (awakeY_any _ HE1.out).mono ?_
    rintro e w2 ⟨rfl, hB2⟩
    go_wp2_with fail
    go_ret
    exact ⟨rfl, HB1.out.trans (hB2.mono HB1.out.size)⟩
end Go.Proofs.YtkpeaghbacoehaaGreatDoor
