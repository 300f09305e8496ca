/- The statements of layer 4 that parse texts: HttpdateParses, HttpdateReturns; and HttpdateSteps: the walks. -/
import Derived.Test.YtfggckdakmnfbaaDoorHLaws
import Derived.Lib.ConvBytes
namespace Go.Proofs.YtfggckdakmnfbaaDoor
open Go.RowKit

namespace parses
theorem parse_all (s : ByteArray) (w : World) (hE : EnvP w) (hm : s.size ≤ maxLen) :
    Calls Tryd.prog 19 #[.string s] w fun e w' => ParseV s.data.toList e ∧ Below w.heap.size w w' := by
  by_cases hs : s.size = 29
  · exact parse_any s w hE hs
  · exact (parse_short s w hs hm).mono fun _ _ ⟨h, hw⟩ => ⟨h, by rw [← hw]; exact Below.refl _ _⟩
theorem refParse_all (s : ByteArray) (w : World) (hm : s.size ≤ maxLen) :
    Calls Tryd.prog 20 #[.string s] w fun e w' => ParseR s.data.toList e ∧ Below w.heap.size w w' := by
  by_cases hs : s.size = 29
  · exact refParse_any s w hs
  · exact (refParse_short s w hs hm).mono fun _ _ ⟨h, hw⟩ => ⟨h, by rw [← hw]; exact Below.refl _ _⟩
set_option maxHeartbeats 2000000 in
theorem walk (s : ByteArray) (w : World) (hE : EnvP w) (hs : s.size ≤ 9223372036854775807) :
    Calls Tryd.prog 5 #[.string s] w fun e w' => e = .returned (.bool true) ∧ Below w.heap.size w w' := by
  have HE := Lib.hid hE
  have HS := Lib.hid (show s.size ≤ maxLen from hs)
  clear hE hs
  go_enter Tryd.func5, Tryd.ntmps5
  go_wp2_with fail
  refine (awakeH_any _ HE.out.env).mono ?_
  rintro e w' ⟨rfl, hB⟩
  have HB := Lib.hid hB
  clear hB
  go_wp2_with fail
  refine (parse_all s _ (HE.out.below HB.out) HS.out).mono ?_
  rintro e w2 ⟨hP, hB2⟩
  have HB2 := Lib.hid (HB.out.trans (hB2.mono HB.out.size))
  clear hB2
  rcases hP with ⟨n, hn, rfl⟩ | ⟨hn, rfl⟩
  all_goals
    have HN := Lib.hid hn
    clear hn
    go_wp2_with fail
    refine (refParse_all s _ HS.out).mono ?_
    rintro e w3 ⟨hP, hB3⟩
    have HB3 := Lib.hid (HB2.out.trans (hB3.mono HB2.out.size))
    clear hB3
    rcases hP with ⟨k, hk, rfl⟩ | ⟨hk, v, rfl⟩
  · obtain rfl := isT_inj HN.out hk
    clear hk
    go_wp2_with fail
    go_ret
    exact ⟨rfl, HB3.out⟩
  · exact absurd HN.out (hk n)
  · exact absurd hk (HN.out k)
  · clear hk
    go_wp2_with fail
    refine (isErr_any 2 (by decide) _).mono ?_
    rintro e w' ⟨rfl, rfl⟩
    go_wp2_with fail
    go_ret
    exact ⟨rfl, HB3.out⟩
end parses
namespace steps
theorem clip_any (n : Int) (w : World) : Calls Tryd.prog 21 #[.int .i64 n, .int .i64 0, .int .i64 2932895] w fun e w' => ∃ m : Int, e = .returned (.int .i64 m) ∧ 0 ≤ m ∧ m ≤ 2932895 ∧ w = w' := by
  by_cases h1 : n ≤ 0
  · have h2 : n ≤ 2932895 := by omega
    go_enter Tryd.func21, Tryd.ntmps21
    go_wp2
    all_goals
      go_ret
      exact ⟨_, rfl, by omega, by omega, rfl⟩
  · by_cases h2 : n ≤ 2932895
    · have h3 : 0 < n := by omega
      go_enter Tryd.func21, Tryd.ntmps21
      go_wp2
      all_goals
        go_ret
        exact ⟨_, rfl, by omega, by omega, rfl⟩
    · have h3 : 2932895 < n := by omega
      go_enter Tryd.func21, Tryd.ntmps21
      go_wp2
      all_goals
        go_ret
        exact ⟨_, rfl, by omega, by omega, rfl⟩
set_option maxHeartbeats 2000000 in
theorem walk (n : Int) (w : World) (hE : EnvH w) :
    Calls Tryd.prog 9 #[.int .i64 n] w fun e w' => e = .returned (.bool true) ∧ Below w.heap.size w w' := by
  have HE := Lib.hid hE
  clear hE
  go_enter Tryd.func9, Tryd.ntmps9
  go_wp2_with fail
  refine (awakeH_any _ HE.out).mono ?_
  rintro e w' ⟨rfl, hB⟩
  have HB := Lib.hid hB
  clear hB
  go_wp2_with fail
  refine (clip_any n _).mono ?_
  rintro e w' ⟨x, rfl, hx0, hx1, rfl⟩
  obtain ⟨y, m, d, hD⟩ := isD_exI x hx0 (by omega)
  obtain ⟨y2, m2, d2, hD2, hN⟩ := isD_next hD (by omega)
  have b := isD_bd hD
  have bm := md_bd y m
  have e12 : m = 12 → md y m = 31 := fun h => by rw [h]; exact md_31 y 12 (by omega) (by omega)
  have H1 := Lib.hid (fun W => date_yes y m d x W hD)
  have H2 := Lib.hid (fun W => date_yes y2 m2 d2 (x + 1) W hD2)
  have bw := wd_bd x
  have H3 := Lib.hid (fun W => weekday_any (x + 1) W)
  have H4 := Lib.hid (fun W => weekday_any x W)
  rw [wd_succ] at H3
  obtain ⟨v, hv⟩ : ∃ v, wdI x = v := ⟨_, rfl⟩
  rw [hv] at H3 H4 bw
  clear hD hD2 hv
  have hC : (y2 = y ∧ m2 = m ∧ d2 = d + 1 ∧ d2 ≤ 31) ∨ (y2 = y ∧ m2 = m + 1 ∧ d2 = 1 ∧ 28 ≤ d ∧ d ≤ 31) ∨ (y2 = y + 1 ∧ m2 = 1 ∧ d2 = 1 ∧ d = 31 ∧ m = 12) := by
    rcases hN with ⟨a1, a2, a3, a4⟩ | ⟨a1, a2, a3, a4, a5⟩ | ⟨a1, a2, a3, a4, a5⟩
    · exact .inl ⟨a1, a2, a3, by omega⟩
    · exact .inr (.inl ⟨a1, a2, a3, by omega, by omega⟩)
    · exact .inr (.inr ⟨a1, a2, a3, by rw [a4]; exact e12 a5, a5⟩)
  clear hN bm e12
  rcases hC with ⟨rfl, rfl, rfl, hd⟩ | ⟨rfl, rfl, rfl, hd, hd2⟩ | ⟨rfl, rfl, rfl, rfl, rfl⟩
  · go_wp2_with fail
    refine (H1.out _).mono ?_
    rintro e w' ⟨rfl, rfl⟩
    go_wp2_with fail
    refine (H2.out _).mono ?_
    rintro e w' ⟨rfl, rfl⟩
    go_wp2_with fail
    refine (H3.out _).mono ?_
    rintro e w' ⟨rfl, rfl⟩
    go_wp2_with fail
    refine (H4.out _).mono ?_
    rintro e w' ⟨rfl, rfl⟩
    go_wp2_with fail
    go_ret
    exact ⟨rfl, HB.out⟩
  · go_wp2_with fail
    refine (H1.out _).mono ?_
    rintro e w' ⟨rfl, rfl⟩
    go_wp2_with fail
    refine (H2.out _).mono ?_
    rintro e w' ⟨rfl, rfl⟩
    go_wp2_with fail
    refine (H3.out _).mono ?_
    rintro e w' ⟨rfl, rfl⟩
    go_wp2_with fail
    refine (H4.out _).mono ?_
    rintro e w' ⟨rfl, rfl⟩
    go_wp2_with fail
    go_ret
    exact ⟨rfl, HB.out⟩
  · go_wp2_with fail
    refine (H1.out _).mono ?_
    rintro e w' ⟨rfl, rfl⟩
    go_wp2_with fail
    refine (H2.out _).mono ?_
    rintro e w' ⟨rfl, rfl⟩
    go_wp2_with fail
    refine (H3.out _).mono ?_
    rintro e w' ⟨rfl, rfl⟩
    go_wp2_with fail
    refine (H4.out _).mono ?_
    rintro e w' ⟨rfl, rfl⟩
    go_wp2_with fail
    go_ret
    exact ⟨rfl, HB.out⟩
end steps
end Go.Proofs.YtfggckdakmnfbaaDoor
