/- AddressEquals: for every list of pieces and every query the statement's function returns true: the walk. -/
import Derived.Test.YtfggckdakmnfbaaDoorAWritten
import Derived.Test.YtfggckdakmnfbaaDoorAAwake
import Derived.Test.YtfggckdakmnfbaaDoorAReadS
import Derived.Deep.RegionWith
import Derived.Deep.DeepCutAuto
import Derived.Outline
namespace Go.Proofs.YtfggckdakmnfbaaDoor.equals
open Go.RowKit

theorem bcell2 {W w1 : World} (hb : Below W.heap.size W w1) : (∀ b o, b < W.heap.size → w1.cell? ⟨b, o, none⟩ = W.cell? ⟨b, o, none⟩) ∧ (∀ b o, b < W.heap.size → w1.frozen? ⟨b, o, none⟩ = W.frozen? ⟨b, o, none⟩) :=
  ⟨fun b o h => hb.cell (p := ⟨b, o, none⟩) h, fun b o h => hb.frozen (p := ⟨b, o, none⟩) h⟩
def Small (p : Pc) : Prop := Good p ∧ p.t.length ≤ 40 ∧ p.b.length ≤ 5 ∧ p.w.length ≤ 42
theorem plainL_snoc (ls : List Pc) (p : Pc) : plainL (ls ++ [p]) = plainL ls ++ 47 :: p.t := by simp [plainL]
theorem otherL_snoc (ls : List Pc) (p : Pc) : otherL (ls ++ [p]) = otherL ls ++ 47 :: (p.b ++ p.w) := by simp [otherL]
theorem lens : ∀ (ls : List Pc), (∀ p ∈ ls, Small p) → (plainL ls).length ≤ 41 * ls.length ∧ (otherL ls).length ≤ 48 * ls.length := by
  intro ls
  induction ls with
  | nil => intro _; simp [plainL, otherL]
  | cons p r ih =>
    intro h
    obtain ⟨h1, h2⟩ := ih fun q hq => h q (by simp [hq])
    obtain ⟨_, a, b, c⟩ := h p (by simp)
    have e1 : plainL (p :: r) = 47 :: (p.t ++ plainL r) := by simp [plainL]
    have e2 : otherL (p :: r) = 47 :: (p.b ++ (p.w ++ otherL r)) := by simp [otherL]
    rw [e1, e2]
    simp only [List.length_cons, List.length_append]
    omega
def EqRel (ps : List Piece) (w : World) (u5 u6 u29 : Value) (wr : World) : Prop :=
  ∃ pcs : List Pc, pcs.length ≤ ps.length ∧ (∀ p ∈ pcs, Small p) ∧ u29 = .int .i64 (pcs.length : Int) ∧ u5 = .string (strB (plainL pcs)) ∧ u6 = .string (strB (otherL pcs)) ∧ Below w.heap.size w wr
/-- What stands before a piece. -/
def befL : Nat → List UInt8
  | 1 => [46, 47]
  | 2 => [120, 47, 46, 46, 47]
  | 3 => [46, 47, 46, 47]
  | _ => []
theorem befL_bef (n : Nat) : ∃ s, Bef (befL n) s := by
  match n with
  | 0 => exact ⟨_, .inl ⟨rfl, rfl⟩⟩
  | 1 => exact ⟨_, .inr (.inl ⟨rfl, rfl⟩)⟩
  | 2 => exact ⟨_, .inr (.inr (.inl ⟨rfl, rfl⟩))⟩
  | 3 => exact ⟨_, .inr (.inr (.inr ⟨rfl, rfl⟩))⟩
  | _ + 4 => exact ⟨_, .inl ⟨rfl, rfl⟩⟩
theorem befL_len (n : Nat) : (befL n).length ≤ 5 := by
  match n with
  | 0 => decide
  | 1 => decide
  | 2 => decide
  | 3 => decide
  | _ + 4 => simp [befL]
def noQ (c : UInt8) : Bool := !decide (c.toNat = 63) && !decide (c.toNat = 37)
theorem noQ_all {l : List UInt8} (h : l.all noQ = true) : 37 ∉ l ∧ 63 ∉ l := by
  rw [List.all_eq_true] at h
  constructor
  · intro hm; have := h _ hm; simp [noQ] at this
  · intro hm; have := h _ hm; simp [noQ] at this
theorem encT_len {l : Bool} {t : List UInt8} {i : Nat} {c : UInt8} (hi : i < t.length) : (encT l t i c).length = t.length + 2 := by unfold encT; simp; omega
/-- A piece that was written well is good. -/
theorem small_of {t : ByteArray} {x : List UInt8} {l : Bool} (n : Nat) (ht : t.size ≤ 40) (ha : t.data.toList.all noQ = true)
    (hx : x = t.data.toList ∨ ∃ (i : Nat) (hi : i < t.size), unrB t[i] = true ∧ x = encT l t.data.toList i t[i]) : Small ⟨t.data.toList, x, befL n⟩ := by
  obtain ⟨h1, h2⟩ := noQ_all ha
  have hl : t.data.toList.length = t.size := by simp
  rcases hx with rfl | ⟨i, hi, hu, rfl⟩
  · exact ⟨⟨h1, h2, wr_self h1 h2, befL_bef n⟩, by simp only; omega, befL_len n, by simp only; omega⟩
  · refine ⟨⟨h1, h2, wr_encT hi h1 h2 hu, befL_bef n⟩, by simp only; omega, befL_len n, ?_⟩
    show (encT _ _ _ _).length ≤ 42
    rw [encT_len (by omega)]; omega
theorem x_size {t : ByteArray} {x : List UInt8} {l : Bool} (ht : t.size ≤ 40) (hx : x = t.data.toList ∨ ∃ (i : Nat) (hi : i < t.size), unrB t[i] = true ∧ x = encT l t.data.toList i t[i]) : (strB x).size ≤ 42 := by
  have hl : t.data.toList.length = t.size := by simp
  rw [strB_size]
  rcases hx with rfl | ⟨i, hi, hu, rfl⟩
  · omega
  · rw [encT_len (by omega)]; omega
/-- The text of a piece, put behind the others. -/
theorem other_eq (a b x : List UInt8) : strB a ++ ((⟨#[47]⟩ : ByteArray) ++ strB b ++ strB x) = strB (a ++ 47 :: (b ++ x)) := by apply ByteArray.ext; simp [strB]
theorem plain_eq (a : List UInt8) (t : ByteArray) : strB a ++ ((⟨#[47]⟩ : ByteArray) ++ t) = strB (a ++ 47 :: t.data.toList) := by apply ByteArray.ext; simp [strB]
theorem query_eq (a : List UInt8) (q : ByteArray) : strB a ++ (⟨#[63]⟩ : ByteArray) ++ q = strB (a ++ 63 :: q.data.toList) := by apply ByteArray.ext; simp [strB]
def S5 (M : Nat) (t : ByteArray) (e : UInt8) (l : Bool) (b : UInt8) (w : World) : Prop :=
  w.cell? ⟨M, 0, none⟩ = some (.string t) ∧ w.cell? ⟨M, 1, none⟩ = some (.int .u8 (e.toNat : Int)) ∧ w.cell? ⟨M, 2, none⟩ = some (.bool l) ∧ w.cell? ⟨M, 3, none⟩ = some (.int .u8 (b.toNat : Int)) ∧ M < w.heap.size
theorem s5_below {M : Nat} {t : ByteArray} {e : UInt8} {l : Bool} {b : UInt8} {w w' : World} (h : S5 M t e l b w) (hb : Below w.heap.size w w') : S5 M t e l b w' := by
  obtain ⟨a0, a1, a2, a3, hM⟩ := h
  exact ⟨(hb.cell (p := ⟨M, 0, none⟩) hM).trans a0, (hb.cell (p := ⟨M, 1, none⟩) hM).trans a1, (hb.cell (p := ⟨M, 2, none⟩) hM).trans a2, (hb.cell (p := ⟨M, 3, none⟩) hM).trans a3, Nat.lt_of_lt_of_le hM hb.size⟩
theorem s5_drew {M : Nat} {t : ByteArray} {e : UInt8} {l : Bool} {b : UInt8} {w : World} (h : S5 M t e l b w) : S5 M t e l b w.drew := s5_below h (Below.refl _ _).drew
theorem s5_alloc {M : Nat} {t : ByteArray} {e : UInt8} {l : Bool} {b : UInt8} {w : World} (h : S5 M t e l b w) (o : Obj) : S5 M t e l b (w.alloc o) := s5_below h (below_new w o)
theorem written_in {M : Nat} {t : ByteArray} {e : UInt8} {l : Bool} {b : UInt8} {w : World} (ht : t.size ≤ 40) (h : S5 M t e l b w) :
    Calls Tryd.prog 12 #[pcV t e l b] w fun en w' => ∃ x, en = .returned (.string (strB x)) ∧ (x = t.data.toList ∨ ∃ (i : Nat) (hi : i < t.size), unrB t[i] = true ∧ x = encT l t.data.toList i t[i]) ∧ (strB x).size ≤ 42 ∧ Below w.heap.size w w' ∧ S5 M t e l b w' :=
  (written_any t e l b w ht).mono fun _ _ ⟨x, he, hB, hx⟩ => ⟨x, he, hx, x_size ht hx, hB, s5_below h hB⟩
theorem bef_at (r : Nat) (h : r < 4) : ∀ h' : r < ([.string ⟨#[]⟩, .string ⟨#[46, 47]⟩, .string ⟨#[120, 47, 46, 46, 47]⟩, .string ⟨#[46, 47, 46, 47]⟩] : List Value).length, ([.string ⟨#[]⟩, .string ⟨#[46, 47]⟩, .string ⟨#[120, 47, 46, 46, 47]⟩, .string ⟨#[46, 47, 46, 47]⟩] : List Value)[r] = .string (strB (befL r)) := by
  intro h'
  have : r = 0 ∨ r = 1 ∨ r = 2 ∨ r = 3 := by omega
  rcases this with rfl | rfl | rfl | rfl <;> rfl
theorem fin_a {B : Nat} {w w5 w6 : World} {o : Obj} (hs : B ≤ w5.heap.size) (h5 : Below B w w5) (h6 : Below (w5.alloc o).drew.heap.size (w5.alloc o).drew w6) : Below B w w6 :=
  ((h5.alloc hs o).drew).trans (h6.mono (by show B ≤ (w5.alloc o).heap.size; simp; omega))
theorem fin_b {B : Nat} {w w5 w6 : World} (hs : B ≤ w5.heap.size) (h5 : Below B w w5) (h6 : Below w5.drew.heap.size w5.drew w6) : Below B w w6 := h5.drew.trans (h6.mono hs)
theorem fin_c {B : Nat} {w w5 w6 : World} (hs : B ≤ w5.heap.size) (h5 : Below B w w5) (h6 : Below w5.drew.heap.size w5.drew w6) (o : Obj) : Below B w (w6.alloc o) :=
  (fin_b hs h5 h6).alloc (Nat.le_trans hs h6.size) o
theorem fin_d {B : Nat} {w w5 w6 : World} (hs : B ≤ w5.heap.size) (h5 : Below B w w5) (h6 : Below w5.drew.heap.size w5.drew w6) (o : Obj) : Below B w (w6.alloc o).drew := (fin_c hs h5 h6 o).drew
theorem rel_next {ps : List Piece} {pcs : List Pc} {t : ByteArray} {lo : Bool} {x : List UInt8} {r k : Nat} {w wr : World} (hk : k < ps.length) (HK : pcs.length = k) (HS : ∀ p ∈ pcs, Small p) (ht : t.size ≤ 40) (HA : t.data.toList.all noQ = true)
    (HX : x = t.data.toList ∨ ∃ (i : Nat) (hi : i < t.size), unrB t[i] = true ∧ x = encT lo t.data.toList i t[i]) (hB : Below w.heap.size w wr) :
    EqRel ps w (.string (strB (plainL pcs) ++ ((⟨#[47]⟩ : ByteArray) ++ t))) (.string (strB (otherL pcs) ++ ((⟨#[47]⟩ : ByteArray) ++ strB (befL r) ++ strB x))) (.int .i64 ((k : Int) + 1)) wr := by
  refine ⟨pcs ++ [⟨t.data.toList, x, befL r⟩], by rw [List.length_append, HK]; exact hk, fun p hp => ?_, ?_, ?_, ?_, hB⟩
  · rcases List.mem_append.1 hp with h | h
    · exact HS p h
    · rw [List.mem_singleton] at h; rw [h]; exact small_of r ht HA HX
  · congr 1; rw [List.length_append, HK]; simp
  · rw [plain_eq, plainL_snoc]
  · rw [other_eq, otherL_snoc]
set_option maxHeartbeats 8000000 in
set_option maxRecDepth 100000 in
theorem walk (v : Value) (ps : List Piece) (q : ByteArray) (w : World) (hE : Env w) (hP : ReadsPc w v ps) (hlen : ps.length ≤ maxLen) (hq : q.size ≤ maxLen) (hsz : ∀ p ∈ ps, p.t.size ≤ maxLen) :
    Calls Tryd.prog 3 #[v, .string q] w fun e w' => e = .returned (.bool true) ∧ Below w.heap.size w w' := by
  obtain ⟨ao, cap, rfl, hc⟩ := hP
  have HE := Lib.hid hE
  have HC := Lib.hid hc
  have HSZ := Lib.hid hsz
  unfold maxLen at hlen hq
  clear hE hc hsz
  by_cases h12 : 12 < ps.length
  · go_enter Tryd.func3, Tryd.ntmps3
    go_wp2_with fail
    refine (awake_any _ HE.out).mono ?_
    rintro e w1 ⟨rfl, hB1⟩
    have HB1 := Lib.hid hB1
    clear hB1
    go_wp2_with fail
    refine (awake_any _ (HE.out.below HB1.out)).mono ?_
    rintro e w2 ⟨rfl, hB2⟩
    have HB2 := Lib.hid (HB1.out.trans (hB2.mono HB1.out.size))
    clear hB2
    go_wp2_with fail
    go_ret
    exact ⟨rfl, HB2.out⟩
  by_cases h200 : 200 < q.size
  · have h12' : ps.length ≤ 12 := by omega
    clear h12
    go_enter Tryd.func3, Tryd.ntmps3
    go_wp2_with fail
    refine (awake_any _ HE.out).mono ?_
    rintro e w1 ⟨rfl, hB1⟩
    have HB1 := Lib.hid hB1
    clear hB1
    go_wp2_with fail
    refine (awake_any _ (HE.out.below HB1.out)).mono ?_
    rintro e w2 ⟨rfl, hB2⟩
    have HB2 := Lib.hid (HB1.out.trans (hB2.mono HB1.out.size))
    clear hB2
    go_wp2_with fail
    go_ret
    exact ⟨rfl, HB2.out⟩
  have h12' : ps.length ≤ 12 := by omega
  have h200' : q.size ≤ 200 := by omega
  clear h12 h200
  go_enter Tryd.func3, Tryd.ntmps3
  go_wp2_with fail
  refine (awake_any _ HE.out).mono ?_
  rintro e w1 ⟨rfl, hB1⟩
  have HB1 := Lib.hid hB1
  clear hB1
  go_wp2_with fail
  go_loopw [5, 6, 29] (fun u5 u6 u29 wr => EqRel ps w u5 u6 u29 wr) (fun _ _ i _ => ps.length - (intOf i).toNat)
  case atStart => exact ⟨[], by simp, by simp, rfl, rfl, rfl, HB1.out⟩
  case round =>
    obtain ⟨pcs, hk, hS, rfl, rfl, rfl, hBr⟩ := hrel
    have HS := Lib.hid hS
    have hl := lens pcs hS
    have HBr := Lib.hid hBr
    have hpl : (strB (plainL pcs)).size ≤ 492 := by rw [strB_size]; omega
    have hol : (strB (otherL pcs)).size ≤ 576 := by rw [strB_size]; omega
    have hbs := hBr.size
    clear hS hBr hl
    obtain ⟨k, hkk⟩ : ∃ k, pcs.length = k := ⟨_, rfl⟩
    have HK := Lib.hid hkk
    rw [hkk] at hk ⊢
    clear hkk
    by_cases hlt : k < ps.length
    · obtain ⟨p, hp⟩ : ∃ p, ps[k]? = some p := ⟨ps[k], by simp [hlt]⟩
      obtain ⟨g, off, rfl, hg1, c0, c1, c2, c3⟩ := HC.out k p hp
      have hg2 : g < wr.heap.size := by omega
      have d0 := (HBr.out.cell (p := ⟨g, off + k * 4, none⟩) hg1).trans c0
      have d1 := (HBr.out.cell (p := ⟨g, off + k * 4 + 1, none⟩) hg1).trans c1
      have d2 := (HBr.out.cell (p := ⟨g, off + k * 4 + 2, none⟩) hg1).trans c2
      have d3 := (HBr.out.cell (p := ⟨g, off + k * 4 + 3, none⟩) hg1).trans c3
      have hps := HSZ.out p (List.mem_of_getElem? hp)
      unfold maxLen at hps
      obtain ⟨t, en, lo, be⟩ := p
      simp only at d0 d1 d2 d3 hps
      clear c0 c1 c2 c3 hp hg1
      by_cases h40 : 40 < t.size
      · go_wp2_with fail
        go_ret
        exact ⟨rfl, HBr.out.alloc HBr.out.size _⟩
      · have h40' : t.size ≤ 40 := by omega
        clear h40
        go_wp2_with fail
        have HB5 := Lib.hid (HBr.out.alloc hbs (.cells #[.string t, .int .u8 (en.toNat : Int), .bool lo, .int .u8 (be.toNat : Int)] 25))
        have F := four_new wr (.string t) (.int .u8 (en.toNat : Int)) (.bool lo) (.int .u8 (be.toNat : Int)) 25
        obtain ⟨f0, f1, f2, f3, -, -, -, -, hM⟩ := F
        have hbs5 : w.heap.size ≤ (wr.alloc (.cells #[.string t, .int .u8 (en.toNat : Int), .bool lo, .int .u8 (be.toNat : Int)] 25)).heap.size := HB5.out.size
        clear d0 d1 d2 d3 hg2
        generalize wr.alloc (.cells #[.string t, .int .u8 (en.toNat : Int), .bool lo, .int .u8 (be.toNat : Int)] 25) = w5 at *
        generalize wr.heap.size = M at *
        go_loop [40] (fun i => ∃ j : Nat, j ≤ t.size ∧ i = .int .i64 (j : Int) ∧ okTo noQ t j) (fun i => t.size - (intOf i).toNat)
        case atStart => exact ⟨0, by omega, rfl, okTo0 _ t⟩
        case round =>
          obtain ⟨j, hj, rfl, hn⟩ := hrel
          have HN := Lib.hid hn
          clear hn
          by_cases hjt : j < t.size
          · by_cases h63 : t[j].toNat = 63
            · have e63 : ((t[j].toNat : Int) == 63) = true := by rw [h63]; rfl
              clear h63
              go_wp2_with fail
              go_ret
              exact ⟨rfl, HB5.out⟩
            · have e63 : ((t[j].toNat : Int) == 63) = false := by simp; omega
              by_cases h37 : t[j].toNat = 37
              · have e37 : ((t[j].toNat : Int) == 37) = true := by rw [h37]; rfl
                clear h63 h37
                go_wp2_with fail
                go_ret
                exact ⟨rfl, HB5.out⟩
              · have e37 : ((t[j].toNat : Int) == 37) = false := by simp; omega
                have HQ := Lib.hid (show noQ t[j] = true by unfold noQ; simp [h63, h37])
                clear h63 h37
                go_wp2_with fail
                go_round
                case rel => exact ⟨j + 1, by omega, by go_num, okTo_step hjt HN.out HQ.out⟩
                case measure => simp [intOf]; omega
          · have HA := Lib.hid (okTo_end (Nat.le_of_not_lt hjt) HN.out)
            go_upto_region 16 with fail
            have hS5 : S5 M t en lo be w5 := ⟨f0, f1, f2, f3, hM⟩
            obtain ⟨r, hr⟩ : ∃ r : Nat, be.toNat % 4 = r := ⟨_, rfl⟩
            have hr4 : r < 4 := by omega
            have ht : (be.toNat : Int).tmod 4 = (r : Int) := by rw [Int.tmod_eq_emod_of_nonneg (by omega)]; omega
            have ht2 : (be.toNat : Int) % 4 = (r : Int) := by omega
            have hix := bef_at r hr4
            have r0 : (0 : Int) ≤ (r : Int) := by omega
            have r1 : (r : Int) < 4 := by omega
            have zb : (strB (befL r)).size ≤ 5 := by rw [strB_size]; exact befL_len r
            have HR := Lib.hid hr
            have HWI := Lib.hid (fun W (h : S5 M t en lo be W) => written_in h40' h)
            clear hr
            go_region_with (first
              | (go_at_call 12; refine (HWI.out _ ?_).mono ?_; (first | exact s5_drew hS5 | exact s5_drew (s5_alloc hS5 _) | exact hS5 | exact s5_alloc hS5 _ | exact s5_alloc (s5_drew hS5) _); rintro e2 w6 ⟨x, rfl, hX, hzx, hB6, g0, g1, g2, g3, g4⟩; obtain ⟨hc6, hf6⟩ := bcell2 hB6; have HB6 := Lib.hid hB6; have HX := Lib.hid hX; have hz6 := hB6.size; clear hB6 hX))
            all_goals
              go_wp2_with fail
              go_roundw
              case rel => exact rel_next hlt HK.out HS.out h40' HA.out HX.out (by first | exact fin_a hbs5 HB5.out HB6.out | exact fin_b hbs5 HB5.out HB6.out | exact fin_c hbs5 HB5.out HB6.out _ | exact fin_d hbs5 HB5.out HB6.out _)
              case measure => simp [intOf]; omega
    · have hGood : ∀ p ∈ pcs, Good p := fun p hp => (HS.out p hp).1
      have hl := lens pcs HS.out
      rw [HK.out] at hl
      have HPL := Lib.hid (query_eq (plainL pcs) q)
      have HOL := Lib.hid (query_eq (otherL pcs) q)
      have HEQ := Lib.hid (equals_same hGood q.data.toList)
      have z1 : (strB (plainL pcs ++ 63 :: q.data.toList)).size ≤ 1000 := by rw [strB_size, List.length_append, List.length_cons]; simp; omega
      have z2 : (strB (otherL pcs ++ 63 :: q.data.toList)).size ≤ 1000 := by rw [strB_size, List.length_append, List.length_cons]; simp; omega
      obtain ⟨n, x, hx⟩ : ∃ n x, parseA [104] (plainL pcs ++ 63 :: q.data.toList) = (n, x) := ⟨_, _, rfl⟩
      have P1 := Lib.hid (show ∀ W, Env W → Calls Tryd.prog 13 #[.string ⟨#[104]⟩, .string (strB (plainL pcs) ++ (⟨#[63]⟩ : ByteArray) ++ q)] W fun e w' => e = .returned (.tuple #[adrV x, if n = 0 then .nilIface else errA n]) ∧ Below W.heap.size W w' from fun W hW => by
        rw [HPL.out]
        refine (parse_any ⟨#[104]⟩ _ W hW (by decide) (by omega)).mono fun e w' ⟨he, hB⟩ => ⟨?_, hB⟩
        rw [he, strB_list, parseV_of hx])
      have P2 := Lib.hid (show ∀ W, Env W → Calls Tryd.prog 13 #[.string ⟨#[72]⟩, .string (strB (otherL pcs) ++ (⟨#[63]⟩ : ByteArray) ++ q)] W fun e w' => e = .returned (.tuple #[adrV x, if n = 0 then .nilIface else errA n]) ∧ Below W.heap.size W w' from fun W hW => by
        rw [HOL.out]
        refine (parse_any ⟨#[72]⟩ _ W hW (by decide) (by omega)).mono fun e w' ⟨he, hB⟩ => ⟨?_, hB⟩
        rw [he, strB_list, parseV_of (HEQ.out.trans hx)])
      obtain ⟨ev, hev⟩ : ∃ ev : Value, ev = if n = 0 then .nilIface else errA n := ⟨_, rfl⟩
      rw [← hev] at P1 P2
      have HN := Lib.hid (show ∀ W, Calls Tryd.prog 14 #[ev] W fun e w' => e = .returned (.int .i64 (n : Int)) ∧ W = w' from fun W => by
        rw [hev]
        by_cases h0 : n = 0
        · subst h0; exact num_nil W
        · rw [if_neg h0]; exact num_errno n W)
      clear hGood hl z1 z2 hx hev
      go_wp2_with fail
      refine (P1.out _ (HE.out.below HBr.out)).mono ?_
      rintro e w2 ⟨rfl, hB2⟩
      have HB2 := Lib.hid (HBr.out.trans (hB2.mono hbs))
      clear hB2
      go_wp2_with fail
      have HB3 := Lib.hid (HB2.out.alloc HB2.out.size (.cells #[.string (strB x.h), .string (strB x.p), .string (strB x.q), .bool x.b] 29))
      have F := Lib.hid (four_new w2 (.string (strB x.h)) (.string (strB x.p)) (.string (strB x.q)) (.bool x.b) 29)
      generalize w2.alloc (.cells #[.string (strB x.h), .string (strB x.p), .string (strB x.q), .bool x.b] 29) = w3 at *
      generalize w2.heap.size = M at *
      refine (P2.out _ (HE.out.below HB3.out)).mono ?_
      rintro e w4 ⟨rfl, hB4⟩
      have HB4 := Lib.hid (HB3.out.trans (hB4.mono HB3.out.size))
      obtain ⟨f0, f1, f2, f3, -, -, -, -, hM⟩ := F.out.below hB4
      clear hB4 F P1 P2
      go_wp2_with fail
      refine (HN.out _).mono ?_
      rintro e w' ⟨rfl, rfl⟩
      go_wp2_with fail
      refine (HN.out _).mono ?_
      rintro e w' ⟨rfl, rfl⟩
      go_wp2_with fail
      go_ret
      exact ⟨rfl, HB4.out.alloc HB4.out.size _⟩
end Go.Proofs.YtfggckdakmnfbaaDoor.equals
