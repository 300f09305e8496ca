/- What the decoder's steps return: the size line, the places of single bytes, the data. -/
import Derived.Test.YthlfhbhjiofneaaDoorKMem
import Derived.Test.YthlfhbhjiofneaaDoorBytes
namespace Go.Proofs.YthlfhbhjiofneaaDoor
open Go.RowKit

theorem i64_eq {a b : Int} (h : a = b) : Value.int .i64 a = .int .i64 b := by rw [h]
def hexN (c : UInt8) : Nat := (hexV c).getD 0
def hexO (c : UInt8) : Bool := (hexV c).isSome
set_option maxHeartbeats 1000000 in
set_option maxRecDepth 100000 in
theorem hexDigit_any (c : UInt8) (w : World) :
    Calls Tryd.prog 57 #[.int .u8 (c.toNat : Int)] w fun e w' => e = .returned (.tuple #[.int .i64 (hexN c : Int), .bool (hexO c)]) ∧ w = w' := by
  by_cases h1 : 48 ≤ c.toNat ∧ c.toNat ≤ 57
  · have hv : hexV c = some (c.toNat - 48) := by unfold hexV; rw [if_pos h1]
    have hd : digB c = true := by simp [digB]; omega
    have e1 : hexN c = c.toNat - 48 := by unfold hexN; rw [hv]; rfl
    have e2 : hexO c = true := by unfold hexO; rw [hv]; rfl
    rw [e1, e2]
    obtain ⟨h1, h2⟩ := h1
    have HD := Lib.hid hd
    clear hv hd e1 e2
    go_enter Tryd.func57, Tryd.ntmps57
    go_wp2_with fail
    refine (isDigit_any c _).mono ?_
    rintro e w' ⟨rfl, rfl⟩
    rw [HD.out]
    go_wp2_with fail
    go_ret2
    exact ⟨ret_two (i64_eq (by omega)) rfl, rfl⟩
  · have hd : digB c = false := by rw [Bool.eq_false_iff]; simp [digB]; omega
    have HD := Lib.hid hd
    clear hd
    by_cases h2 : 97 ≤ c.toNat ∧ c.toNat ≤ 102
    · have hv : hexV c = some (c.toNat - 87) := by unfold hexV; rw [if_neg h1, if_pos h2]
      have e1 : hexN c = c.toNat - 87 := by unfold hexN; rw [hv]; rfl
      have e2 : hexO c = true := by unfold hexO; rw [hv]; rfl
      rw [e1, e2]
      obtain ⟨h3, h4⟩ := h2
      clear hv e1 e2 h1
      go_enter Tryd.func57, Tryd.ntmps57
      go_wp2_with fail
      refine (isDigit_any c _).mono ?_
      rintro e w' ⟨rfl, rfl⟩
      rw [HD.out]
      go_wp2_with fail
      go_ret2
      exact ⟨ret_two (i64_eq (by omega)) rfl, rfl⟩
    · by_cases h3 : 65 ≤ c.toNat ∧ c.toNat ≤ 70
      · have hv : hexV c = some (c.toNat - 55) := by unfold hexV; rw [if_neg h1, if_neg h2, if_pos h3]
        have e1 : hexN c = c.toNat - 55 := by unfold hexN; rw [hv]; rfl
        have e2 : hexO c = true := by unfold hexO; rw [hv]; rfl
        rw [e1, e2]
        obtain ⟨h4, h5⟩ := h3
        have h6 : ¬ (97 : Int) ≤ (c.toNat : Int) := by omega
        clear hv e1 e2 h1 h2
        go_enter Tryd.func57, Tryd.ntmps57
        go_wp2_with fail
        refine (isDigit_any c _).mono ?_
        rintro e w' ⟨rfl, rfl⟩
        rw [HD.out]
        go_wp2_with fail
        go_ret2
        exact ⟨ret_two (i64_eq (by omega)) rfl, rfl⟩
      · have hv : hexV c = none := by unfold hexV; rw [if_neg h1, if_neg h2, if_neg h3]
        have e1 : hexN c = 0 := by unfold hexN; rw [hv]; rfl
        have e2 : hexO c = false := by unfold hexO; rw [hv]; rfl
        rw [e1, e2]
        clear hv e1 e2
        go_enter Tryd.func57, Tryd.ntmps57
        go_wp2_with fail
        refine (isDigit_any c _).mono ?_
        rintro e w' ⟨rfl, rfl⟩
        rw [HD.out]
        go_wp2_with fail
        all_goals first
          | (exfalso; omega)
          | (go_ret2; exact ⟨rfl, rfl⟩)
theorem errV_yes {c : Nat} (h : c ≠ 0) : errV c = .iface 41 (.int .i64 c) := by unfold errV; rw [if_neg h]
set_option maxHeartbeats 1000000 in
set_option maxRecDepth 100000 in
theorem expect_any {B P : Nat} {X : Nat → Prop} {s : Dc} (c : UInt8) (o n : Nat) (w : World) (h : Dec B P X s w) :
    Calls Tryd.prog 46 #[.pointer (some ⟨P, 0, none⟩), .int .u8 (c.toNat : Int), .int .u8 (o : Int), .int .i64 (n : Int)] w (StepPost B P X (expS s c o n) w) := by
  have hd := h
  obtain ⟨lv, tv, h1, _, _, h4, _⟩ := h
  obtain ⟨c0, _, _, _, _, _, _, hf⟩ := dec_cells h1
  have f0 := hf 0
  have H1 := Lib.hid h1
  have HD := Lib.hid hd
  clear hf h1 hd
  by_cases he : c.toNat = o
  · have e1 : expS s c o n = (0, { s with pl := n }) := by unfold expS; rw [if_pos he]
    rw [e1]
    have hne : ((c.toNat : Int) != (o : Int)) = false := by simp [he]
    clear e1 he
    go_enter Tryd.func46, Tryd.ntmps46
    go_wp2_with fail
    go_ret
    exact ⟨rfl, .same (dec_pl HD.out rfl) (Only.set h4 _ _ _)⟩
  · have e1 : expS s c o n = (33, s) := by unfold expS; rw [if_neg he]
    rw [e1]
    have hne : ((c.toNat : Int) != (o : Int)) = true := by simp; omega
    clear e1 he
    go_enter Tryd.func46, Tryd.ntmps46
    go_wp2_with fail
    go_ret
    exact ⟨rfl, .refl HD.out⟩
/-- The facts of a decoder that the walks read, with its predicate hidden. -/
theorem dec_open {B P : Nat} {X : Nat → Prop} {s : Dc} {w : World} (h : Dec B P X s w) : X P ∧ Hid (Dec B P X s w) ∧ ∃ lv tv, DecC P s lv tv w := by
  have hd := h
  obtain ⟨lv, tv, h1, _, _, h4, _⟩ := h
  exact ⟨h4, Lib.hid hd, lv, tv, dec_cells h1⟩
set_option maxHeartbeats 1000000 in
set_option maxRecDepth 100000 in
theorem takeDigit_any {B P : Nat} {X : Nat → Prop} {s : Dc} (d : Nat) (w : World) (h : Dec B P X s w) (hok : s.Ok) (hd : d < 16) :
    Calls Tryd.prog 58 #[.pointer (some ⟨P, 0, none⟩), .int .i64 (d : Int)] w (StepPost B P X (digS s d) w) := by
  obtain ⟨hx, HD, lv, tv, _, _, c2, c3, c4, _, _, hf⟩ := dec_open h
  have f2 := hf 2
  have f4 := hf 4
  have h1 := hok.b1
  have h5 := hok.b5
  clear h hf hok
  by_cases h8 : s.len = 8
  · have e1 : digS s d = (33, s) := by unfold digS; rw [if_pos h8]
    rw [e1]
    have hq : ((s.len : Int) == 8) = true := by simp [h8] <;> rfl
    clear e1 h8
    go_enter Tryd.func58, Tryd.ntmps58
    go_wp2_with fail
    go_ret
    exact ⟨rfl, .refl HD.out⟩
  · have hq : ((s.len : Int) == 8) = false := by simp; omega
    by_cases hl : 65536 < s.tot + (s.sz * 16 + d)
    · have e1 : digS s d = (5, s) := by unfold digS; rw [if_neg h8, if_pos hl]
      rw [e1]
      have hq2 : (65536 : Int) < (s.tot : Int) + ((s.sz : Int) * 16 + (d : Int)) := by omega
      clear e1 h8
      go_enter Tryd.func58, Tryd.ntmps58
      go_wp2_with fail
      go_ret
      exact ⟨rfl, .refl HD.out⟩
    · have e1 : digS s d = (0, { s with sz := s.sz * 16 + d, len := s.len + 1 }) := by unfold digS; rw [if_neg h8, if_neg hl]
      rw [e1]
      have hq2 : ¬ (65536 : Int) < (s.tot : Int) + ((s.sz : Int) * 16 + (d : Int)) := by omega
      clear e1 h8
      go_enter Tryd.func58, Tryd.ntmps58
      go_wp2_with fail
      go_ret
      exact ⟨rfl, .same (dec_len (n := s.len + 1) (z := (s.len : Int) + 1) (dec_sz (n := s.sz * 16 + d) (z := (s.sz : Int) * 16 + (d : Int)) HD.out (by omega)) (by omega)) ((Only.set hx _ _ _).trans' (Only.set hx _ _ _))⟩
set_option maxHeartbeats 1000000 in
set_option maxRecDepth 100000 in
theorem takeSize_any {B P : Nat} {X : Nat → Prop} {s : Dc} (c : UInt8) (w : World) (h : Dec B P X s w) (hok : s.Ok) :
    Calls Tryd.prog 43 #[.pointer (some ⟨P, 0, none⟩), .int .u8 (c.toNat : Int)] w (StepPost B P X (sizeS s c) w) := by
  have HH := Lib.hid h
  have HO := Lib.hid hok
  obtain ⟨hx, HD, lv, tv, _, _, _, _, c4, _, _, hf⟩ := dec_open h
  have f0 := hf 0
  have f4 := hf 4
  have h5 := hok.b5
  clear h hf hok
  cases hv : hexV c with
  | some d =>
    have e1 : sizeS s c = digS s d := by unfold sizeS; rw [hv]
    have e2 : hexN c = d := by unfold hexN; rw [hv]; rfl
    have e3 : hexO c = true := by unfold hexO; rw [hv]; rfl
    have HT := Lib.hid (takeDigit_any d w HH.out HO.out (hexV_lt hv))
    rw [← e1] at HT
    have E2 := Lib.hid e2
    have E3 := Lib.hid e3
    clear hv e1 e2 e3
    go_enter Tryd.func43, Tryd.ntmps43
    go_wp2_with fail
    refine (hexDigit_any c _).mono ?_
    rintro e w' ⟨rfl, rfl⟩
    rw [E2.out, E3.out]
    go_wp2_with fail
    refine HT.out.mono ?_
    rintro e w' ⟨rfl, hT⟩
    go_wp2_with fail
    go_ret
    exact ⟨rfl, hT⟩
  | none =>
    have e2 : hexN c = 0 := by unfold hexN; rw [hv]; rfl
    have e3 : hexO c = false := by unfold hexO; rw [hv]; rfl
    have E2 := Lib.hid e2
    have E3 := Lib.hid e3
    have E1 : sizeS s c = if s.len = 0 then (33, s) else if c.toNat = 59 then (0, { s with pl := 1, len := s.len + 1 }) else expS s c 13 2 := by unfold sizeS; rw [hv]
    clear e2 e3 hv
    by_cases h0 : s.len = 0
    · rw [if_pos h0] at E1
      rw [E1]
      have hq : ((s.len : Int) == 0) = true := by simp [h0]
      clear E1 h0
      go_enter Tryd.func43, Tryd.ntmps43
      go_wp2_with fail
      refine (hexDigit_any c _).mono ?_
      rintro e w' ⟨rfl, rfl⟩
      rw [E2.out, E3.out]
      go_wp2_with fail
      go_ret
      exact ⟨rfl, .refl HD.out⟩
    · rw [if_neg h0] at E1
      have hq : ((s.len : Int) == 0) = false := by simp; omega
      by_cases h59 : c.toNat = 59
      · rw [if_pos h59] at E1
        rw [E1]
        have hq2 : ((c.toNat : Int) == 59) = true := by simp [h59] <;> rfl
        clear E1 h0 h59
        go_enter Tryd.func43, Tryd.ntmps43
        go_wp2_with fail
        refine (hexDigit_any c _).mono ?_
        rintro e w' ⟨rfl, rfl⟩
        rw [E2.out, E3.out]
        go_wp2_with fail
        go_ret
        exact ⟨rfl, .same (dec_len (n := s.len + 1) (z := (s.len : Int) + 1) (dec_pl (n := 1) (z := 1) HD.out rfl) (by omega)) ((Only.set hx _ _ _).trans' (Only.set hx _ _ _))⟩
      · rw [if_neg h59] at E1
        rw [E1]
        have hq2 : ((c.toNat : Int) == 59) = false := by simp; omega
        have HE := Lib.hid (expect_any c 13 2 w HH.out)
        clear E1 h0 h59
        go_enter Tryd.func43, Tryd.ntmps43
        go_wp2_with fail
        refine (hexDigit_any c _).mono ?_
        rintro e w' ⟨rfl, rfl⟩
        rw [E2.out, E3.out]
        go_wp2_with fail
        refine HE.out.mono ?_
        rintro e w' ⟨rfl, hT⟩
        go_wp2_with fail
        go_ret
        exact ⟨rfl, hT⟩
set_option maxHeartbeats 1000000 in
set_option maxRecDepth 100000 in
theorem takeExt_any {B P : Nat} {X : Nat → Prop} {s : Dc} (c : UInt8) (w : World) (h : Dec B P X s w) (hok : s.Ok) :
    Calls Tryd.prog 44 #[.pointer (some ⟨P, 0, none⟩), .int .u8 (c.toNat : Int)] w (StepPost B P X (extS s c) w) := by
  obtain ⟨hx, HD, lv, tv, _, _, _, _, c4, _, _, hf⟩ := dec_open h
  have f0 := hf 0
  have f4 := hf 4
  have h5 := hok.b5
  clear h hf hok
  by_cases h13 : c.toNat = 13
  · have e1 : extS s c = (0, { s with pl := 2 }) := by unfold extS; rw [if_pos h13]
    rw [e1]
    have hq : ((c.toNat : Int) == 13) = true := by simp [h13] <;> rfl
    clear e1 h13
    go_enter Tryd.func44, Tryd.ntmps44
    go_wp2_with fail
    go_ret
    exact ⟨rfl, .same (dec_pl HD.out rfl) (Only.set hx _ _ _)⟩
  · have hq : ((c.toNat : Int) == 13) = false := by simp; omega
    cases hc : ctlB c with
    | true =>
      have e1 : extS s c = (33, s) := by unfold extS; rw [if_neg h13, if_pos (.inl hc)]
      rw [e1]
      have HC := Lib.hid hc
      clear e1 h13 hc
      go_enter Tryd.func44, Tryd.ntmps44
      go_wp2_with fail
      refine (isControl_any c _).mono ?_
      rintro e w' ⟨rfl, rfl⟩
      rw [HC.out]
      go_wp2_with fail
      go_ret
      exact ⟨rfl, .refl HD.out⟩
    | false =>
      have HC := Lib.hid hc
      by_cases h256 : s.len = 256
      · have e1 : extS s c = (33, s) := by unfold extS; rw [if_neg h13, if_pos (.inr h256)]
        rw [e1]
        have hq2 : ((s.len : Int) == 256) = true := by simp [h256] <;> rfl
        clear e1 h13 hc h256
        go_enter Tryd.func44, Tryd.ntmps44
        go_wp2_with fail
        refine (isControl_any c _).mono ?_
        rintro e w' ⟨rfl, rfl⟩
        rw [HC.out]
        go_wp2_with fail
        go_ret
        exact ⟨rfl, .refl HD.out⟩
      · have e1 : extS s c = (0, { s with len := s.len + 1 }) := by unfold extS; rw [if_neg h13, if_neg (by simp [hc, h256])]
        rw [e1]
        have hq2 : ((s.len : Int) == 256) = false := by simp; omega
        clear e1 h13 hc h256
        go_enter Tryd.func44, Tryd.ntmps44
        go_wp2_with fail
        refine (isControl_any c _).mono ?_
        rintro e w' ⟨rfl, rfl⟩
        rw [HC.out]
        go_wp2_with fail
        go_ret
        exact ⟨rfl, .same (dec_len (n := s.len + 1) (z := (s.len : Int) + 1) HD.out (by omega)) (Only.set hx _ _ _)⟩
theorem StepPost.from {B P : Nat} {X : Nat → Prop} {r : Nat × Dc} {w w1 w2 : World} {e : Ending} (h : StepPost B P X r w1 e w2) (hO : Only X w w1) : StepPost B P X r w e w2 := by
  obtain ⟨he, X', h1, h2, h3⟩ := h
  have hs := hO.size
  exact ⟨he, X', fun k hk => by rcases h1 k hk with h | h; exact .inl h; exact .inr (by omega), h2, hO.trans' h3⟩
set_option maxHeartbeats 1000000 in
set_option maxRecDepth 100000 in
theorem endSize_any {B P : Nat} {X : Nat → Prop} {s : Dc} (c : UInt8) (w : World) (h : Dec B P X s w) :
    Calls Tryd.prog 45 #[.pointer (some ⟨P, 0, none⟩), .int .u8 (c.toNat : Int)] w (StepPost B P X (endS s c) w) := by
  obtain ⟨hx, HD, lv, tv, _, _, c2, _, c4, _, _, hf⟩ := dec_open h
  have f4 := hf 4
  have hL := dec_len (n := 0) (z := 0) h rfl
  have HS := Lib.hid (Only.set hx w 4 (.int .i64 0))
  by_cases h0 : s.sz = 0
  · have e1 : endS s c = expS { s with len := 0 } c 10 6 := by unfold endS; rw [if_pos h0]
    have HE := Lib.hid (expect_any c 10 6 _ hL)
    rw [← e1] at HE
    have hq : ((s.sz : Int) == 0) = true := by simp [h0]
    clear e1 h0 h hf hL
    go_enter Tryd.func45, Tryd.ntmps45
    go_wp2_with fail
    refine HE.out.mono ?_
    rintro e w' hp
    have hp := hp.from HS.out
    obtain ⟨rfl, hT⟩ := hp
    go_wp2_with fail
    go_ret
    exact ⟨rfl, hT⟩
  · have e1 : endS s c = expS { s with len := 0 } c 10 3 := by unfold endS; rw [if_neg h0]
    have HE := Lib.hid (expect_any c 10 3 _ hL)
    rw [← e1] at HE
    have hq : ((s.sz : Int) == 0) = false := by simp; omega
    clear e1 h0 h hf hL
    go_enter Tryd.func45, Tryd.ntmps45
    go_wp2_with fail
    refine HE.out.mono ?_
    rintro e w' hp
    have hp := hp.from HS.out
    obtain ⟨rfl, hT⟩ := hp
    go_wp2_with fail
    go_ret
    exact ⟨rfl, hT⟩
/-- What takeData leaves. -/
def DataPost (B P : Nat) (X : Nat → Prop) (s : Dc) (n : Nat) (w : World) (e : Ending) (w' : World) : Prop := e = .returned (.int .i64 (n : Int)) ∧ Dec B P X (dataS s n) w' ∧ Only X w w'
set_option maxHeartbeats 1000000 in
set_option maxRecDepth 100000 in
theorem takeData_any {B P : Nat} {X : Nat → Prop} {s : Dc} (m : Nat) (w : World) (h : Dec B P X s w) (hok : s.Ok) (h3 : s.pl = 3) (_hm : m ≤ 1000000000000) :
    Calls Tryd.prog 32 #[.pointer (some ⟨P, 0, none⟩), .int .i64 (m : Int)] w (DataPost B P X s (min m s.sz) w) := by
  obtain ⟨hx, HD, lv, tv, c0, _, c2, c3, _, _, _, hf⟩ := dec_open h
  have f0 := hf 0
  have f2 := hf 2
  have f3 := hf 3
  have h1 := hok.b1
  clear h hf hok
  obtain ⟨n, hn⟩ : ∃ n, n = min m s.sz := ⟨_, rfl⟩
  have hmin : min (m : Int) (s.sz : Int) = (n : Int) := by omega
  have hns : n ≤ s.sz := by omega
  rw [← hn]
  clear hn
  by_cases h0 : s.sz - n = 0
  · have e1 : dataS s n = { s with sz := s.sz - n, tot := s.tot + n, pl := 4 } := by unfold dataS; rw [if_pos h0]
    have E1 := Lib.hid e1
    have hq : ((s.sz : Int) - (n : Int) == 0) = true := by simp; omega
    clear e1 h0
    go_enter Tryd.func32, Tryd.ntmps32
    go_wp2_with fail
    go_ret
    refine ⟨rfl, ?_, ((Only.set hx _ _ _).trans' (Only.set hx _ _ _)).trans' (Only.set hx _ _ _)⟩
    rw [E1.out]
    exact dec_pl (n := 4) (z := 4) (dec_tot (n := s.tot + n) (z := (s.tot : Int) + (n : Int)) (dec_sz (n := s.sz - n) (z := (s.sz : Int) - (n : Int)) HD.out (by omega)) (by omega)) rfl
  · have e1 : dataS s n = { s with sz := s.sz - n, tot := s.tot + n } := by unfold dataS; rw [if_neg h0, ← h3]
    have E1 := Lib.hid e1
    have hq : ((s.sz : Int) - (n : Int) == 0) = false := by simp; omega
    clear e1 h0
    go_enter Tryd.func32, Tryd.ntmps32
    go_wp2_with fail
    go_ret
    refine ⟨rfl, ?_, (Only.set hx _ _ _).trans' (Only.set hx _ _ _)⟩
    rw [E1.out]
    exact dec_tot (n := s.tot + n) (z := (s.tot : Int) + (n : Int)) (dec_sz (n := s.sz - n) (z := (s.sz : Int) - (n : Int)) HD.out (by omega)) (by omega)
end Go.Proofs.YthlfhbhjiofneaaDoor
