import Derived.Test.YtoiampkdmjpljaaGreatDoorPa49
import Derived.Test.YtoiampkdmjpljaaGreatDoorPa35
import Derived.Test.YtoiampkdmjpljaaGreatDoorPa47
/- StorableMixes: the walk, for every input. -/
namespace Go.Proofs.YtoiampkdmjpljaaGreatDoor
open Go.RowKit

/-- The boxes of the tags and of the flags. -/
structure MxS (s0 s1 : ByteArray) (x y : Bool) (w w' : World) : Prop where
  c0 : w'.cell? ⟨w.heap.size, 0, none⟩ = some (.string s0)
  c1 : w'.cell? ⟨w.heap.size, 1, none⟩ = some (.string s1)
  d0 : w'.cell? ⟨w.heap.size + 1, 0, none⟩ = some (.bool x)
  d1 : w'.cell? ⟨w.heap.size + 1, 1, none⟩ = some (.bool y)
  lt : w.heap.size + 1 < w'.heap.size
  b : Below w.heap.size w w'
theorem MxS.below {s0 s1 : ByteArray} {x y : Bool} {w w1 w2 : World} (h : MxS s0 s1 x y w w1) (hb : Below w1.heap.size w1 w2) : MxS s0 s1 x y w w2 :=
  have l := h.lt
  ⟨(hb.cell (p := ⟨w.heap.size, 0, none⟩) (by show w.heap.size < _; omega)).trans h.c0, (hb.cell (p := ⟨w.heap.size, 1, none⟩) (by show w.heap.size < _; omega)).trans h.c1,
    (hb.cell (p := ⟨w.heap.size + 1, 0, none⟩) l).trans h.d0, (hb.cell (p := ⟨w.heap.size + 1, 1, none⟩) l).trans h.d1, Nat.lt_of_lt_of_le l hb.size, h.b.trans (hb.mono h.b.size)⟩
theorem mxS_new (s0 s1 : ByteArray) (x y : Bool) (w : World) (T U : TypeId) : MxS s0 s1 x y w ((w.alloc (.cells #[.string s0, .string s1] T)).alloc (.cells #[.bool x, .bool y] U)) := by
  have hs : (w.alloc (.cells #[.string s0, .string s1] T)).heap.size = w.heap.size + 1 := by simp
  have hb := below_new (w.alloc (.cells #[.string s0, .string s1] T)) (.cells #[.bool x, .bool y] U)
  have hn := new_pair (w.alloc (.cells #[.string s0, .string s1] T)) (.bool x) (.bool y) U
  rw [hs] at hn
  refine ⟨(hb.cell (p := ⟨w.heap.size, 0, none⟩) (by simp)).trans (new_pair w _ _ _).1, (hb.cell (p := ⟨w.heap.size, 1, none⟩) (by simp)).trans (new_pair w _ _ _).2, hn.1, hn.2, by simp, (below_new w _).alloc (by simp) _⟩
/-- The two values, of which each may be set. -/
structure VaS (V : Nat) (a b : ByteArray) (w : World) : Prop where
  e0 : w.cell? ⟨V, 0, none⟩ = some (.string a)
  e1 : w.cell? ⟨V, 1, none⟩ = some (.string b)
  f0 : w.frozen? ⟨V, 0, none⟩ = false
  f1 : w.frozen? ⟨V, 1, none⟩ = false
  lt : V < w.heap.size
theorem VaS.below {V : Nat} {a b : ByteArray} {w w' : World} (h : VaS V a b w) (hb : Below w.heap.size w w') : VaS V a b w' :=
  ⟨(hb.cell (p := ⟨V, 0, none⟩) h.lt).trans h.e0, (hb.cell (p := ⟨V, 1, none⟩) h.lt).trans h.e1, (hb.frozen (p := ⟨V, 0, none⟩) h.lt).trans h.f0, (hb.frozen (p := ⟨V, 1, none⟩) h.lt).trans h.f1, Nat.lt_of_lt_of_le h.lt hb.size⟩
theorem vaS_new (w : World) (T : TypeId) : VaS w.heap.size ⟨#[]⟩ ⟨#[]⟩ (w.alloc (.cells #[.string ⟨#[]⟩, .string ⟨#[]⟩] T)) :=
  ⟨(new_pair w _ _ _).1, (new_pair w _ _ _).2, World.frozen?_alloc_new _ _ _ _, World.frozen?_alloc_new _ _ _ _, by simp⟩
theorem VaS.set0 {V : Nat} {a b : ByteArray} {w : World} (h : VaS V a b w) (c : ByteArray) : VaS V c b (w.setCell ⟨V, 0, none⟩ (.string c)) := by
  obtain ⟨e0, e1, f0, f1, l⟩ := h
  refine ⟨?_, ?_, by simpa using f0, by simpa using f1, by simpa using l⟩
  all_goals simp [go_sem, e0, e1]
theorem VaS.set1 {V : Nat} {a b : ByteArray} {w : World} (h : VaS V a b w) (c : ByteArray) : VaS V a c (w.setCell ⟨V, 1, none⟩ (.string c)) := by
  obtain ⟨e0, e1, f0, f1, l⟩ := h
  refine ⟨?_, ?_, by simpa using f0, by simpa using f1, by simpa using l⟩
  all_goals simp [go_sem, e0, e1]
/-- What a field's value is made of a text. -/
def texV (x : Bool) (s : ByteArray) : ByteArray := strB (texL (x, s.data.toList))
theorem texV_plain (s : ByteArray) : (⟨#[34]⟩ : ByteArray) ++ s ++ ⟨#[34]⟩ = texV false s := by apply ByteArray.ext; simp [texV, strB, texL]
theorem texV_weak (s : ByteArray) : (⟨#[87, 47]⟩ : ByteArray) ++ texV false s = texV true s := by apply ByteArray.ext; simp [texV, strB, texL]
theorem reads_new1 (w : World) (n v : List UInt8) (T : TypeId) : ReadsQ (w.alloc (.cells #[.string (strB n), .string (strB v)] T)) (.slice (some ⟨w.heap.size, 0, none⟩) 1 1) [(n, v)] := by
  refine ⟨some ⟨w.heap.size, 0, none⟩, 1, rfl, fun j p h => ?_⟩
  match j, h with
  | 0, h => cases h; exact ⟨w.heap.size, 0, rfl, by simp, (new_pair w _ _ _).1, (new_pair w _ _ _).2⟩
  | j + 1, h => simp at h
theorem nET_len : nET.length = 4 := rfl
theorem one_all (v : List UInt8) : allL [(nET, v)] nET = [v] := rfl
theorem fitT_add {R : Flds} {v : List UInt8} (hl : R.length ≤ 4398046511104) (he : ∀ p ∈ R, p.1.length + p.2.length ≤ 281474976710656) (h0 : allL R nET = []) (hv : v.length ≤ 1000) : FitT (addL R nET v) ∧ (addL R nET v).length ≤ 4398046512000 ∧ allL (addL R nET v) nET = [v] := by
  have hA : allL (addL R nET v) nET = [v] := by rw [all_add_same rfl, h0]; rfl
  have hlen : (addL R nET v).length = R.length + 1 := by simp [addL]
  refine ⟨⟨by omega, fun p hp => ?_, by rw [hA]; simp, fun u hu => ?_⟩, by omega, hA⟩
  · rcases List.mem_append.mp hp with h | h
    · exact he p h
    · rw [List.mem_singleton] at h
      subst h
      have e : (lowS nET).length = 4 := rfl
      show (lowS nET).length + v.length ≤ _
      omega
  · rw [hA, List.mem_singleton] at hu
    subst hu; omega
theorem fit_one {v : List UInt8} (hv : v.length ≤ 1000) : ∀ p ∈ [(nET, v)], p.1.length + p.2.length ≤ 6000 := fun p hp => by
  rw [List.mem_singleton] at hp
  subst hp
  have e := nET_len
  show nET.length + v.length ≤ _
  omega
theorem fitL_one {v : List UInt8} (hv : v.length ≤ 1000) : FitL [(nET, v)] := ⟨by simp, fun p hp => Nat.le_trans (fit_one hv p hp) (by decide)⟩
theorem fitT_none {R : Flds} (hl : R.length ≤ 4398046511104) (he : ∀ p ∈ R, p.1.length + p.2.length ≤ 281474976710656) (h0 : allL R nET = []) : FitT R :=
  ⟨by omega, he, by rw [h0]; simp, fun v hv => by rw [h0] at hv; cases hv⟩
set_option maxRecDepth 100000 in
theorem two_at0 (s0 s1 : ByteArray) (w : World) : (Instr.index 55 (.agg #[.string s0, .string s1]) (.int .i64 0)).run Tryz.prog w = .ok (.string s0) w := by kernel_rfl
set_option maxRecDepth 100000 in
theorem two_at1 (s0 s1 : ByteArray) (w : World) : (Instr.index 55 (.agg #[.string s0, .string s1]) (.int .i64 1)).run Tryz.prog w = .ok (.string s1) w := by kernel_rfl
theorem texT_len (t : Tg) : (texL t).length ≤ t.2.length + 4 := by
  obtain ⟨k, a⟩ := t
  cases k <;> simp [texL]
theorem texV_size (x : Bool) (s : ByteArray) : (texV x s).size ≤ s.size + 4 := by
  have hs : s.data.toList.length = s.size := by rw [Array.length_toList]; rfl
  unfold texV; rw [strB_size]; cases x <;> simp [texL]

set_option maxHeartbeats 16000000 in
set_option maxRecDepth 100000 in
theorem sb_mixes_walk (qa : Option Addr) (qc : Nat) (ps : Flds) (s0 s1 : ByteArray) (x y : Bool) (w : World) (hE : EnvL w) (hr : ReadsQ w (.slice qa ps.length qc) ps) (hl : ps.length ≤ 4398046511104) (hb : ∀ p ∈ ps, p.1.length ≤ 140737488355328 ∧ p.2.length ≤ 140737488355328) (hs0 : s0.size ≤ 140737488355328) (hs1 : s1.size ≤ 140737488355328) :
    Calls Tryz.prog 9 #[(.slice qa ps.length qc), .agg #[.string s0, .string s1], .agg #[.bool x, .bool y]] w fun e w' => e = .returned (.bool true) ∧ Below w.heap.size w w' := by
  have HR := Lib.hid hr
  have HE := Lib.hid hE
  have HLg := Lib.hid (fun (lv : Value) (w : World) (hr : ReadsF w lv [((.slice qa ps.length qc), ps)]) => large15_big lv _ w hr (by simp) (fun z hz => by simp at hz; subst hz; exact ⟨by show ps.length ≤ _; omega, hb⟩))
  have HAw := Lib.hid (fun (w : World) (hE : EnvL w) => awake15_any w hE)
  have HS1 := Lib.hid (mxS_new s0 s1 x y w 55 56)
  have HB := Lib.hid hb
  clear hE hr hb
  generalize hlg : lgZ [((.slice qa ps.length qc), ps)] = lg at *
  have HRb := Lib.hid (fun (w' : World) (h : Below w.heap.size w w') => HR.out.below h)
  have HEb := Lib.hid (fun (w' : World) (h : Below w.heap.size w w') => HE.out.below h)
  clear HR HE
  go_enter Tryz.func9, Tryz.ntmps9
  go_upto_region 1 with fail
  change Code.wp _ _ _ _ ((w.alloc (.cells #[.string s0, .string s1] 55)).alloc (.cells #[.bool x, .bool y] 56))
  generalize ((w.alloc (.cells #[.string s0, .string s1] 55)).alloc (.cells #[.bool x, .bool y] 56)) = W1 at *
  cases lg with
  | true =>
    clear hlg
    go_wp2_with fail
    refine (HLg.out _ _ (readsF_one _ (HRb.out _ HS1.out.b))).mono ?_
    rintro e w2 ⟨rfl, hB2⟩
    have HS2 := Lib.hid (HS1.out.below ((below_new _ _).trans (hB2.mono (by simp))))
    clear hB2 HS1
    go_wp2_with fail
    refine (HLg.out _ _ (readsF_one _ (HRb.out _ HS2.out.b))).mono ?_
    rintro e w3 ⟨rfl, hB3⟩
    have HS3 := Lib.hid (HS2.out.below ((below_new _ _).trans (hB3.mono (by simp))))
    clear hB3 HS2
    go_wp2_with fail
    go_ret
    exact ⟨rfl, HS3.out.b⟩
  | false =>
    clear hlg
    go_wp2_with fail
    refine (HLg.out _ _ (readsF_one _ (HRb.out _ HS1.out.b))).mono ?_
    rintro e w2 ⟨rfl, hB2⟩
    have HS2 := Lib.hid (HS1.out.below ((below_new _ _).trans (hB2.mono (by simp))))
    clear hB2 HS1
    obtain ⟨c0, c1, d0, d1, _, _⟩ := HS2.out
    by_cases hsum : 100 < s0.size + s1.size
    · go_wp2_with fail
      refine (HLg.out _ _ (readsF_one _ (HRb.out _ HS2.out.b))).mono ?_
      rintro e w3 ⟨rfl, hB3⟩
      have HS3 := Lib.hid (HS2.out.below ((below_new _ _).trans (hB3.mono (by simp))))
      clear hB3 c0 c1 d0 d1
      obtain ⟨c0, c1, d0, d1, _, _⟩ := HS3.out
      go_wp2_with fail
      go_ret
      exact ⟨rfl, HS3.out.b⟩
    · go_wp2_with fail
      refine (HAw.out _ (HEb.out _ HS2.out.b)).mono ?_
      rintro e w3 ⟨rfl, hB3⟩
      have HS3 := Lib.hid (HS2.out.below hB3)
      clear hB3 c0 c1 d0 d1 HS2 HLg HAw
      have e4 : (⟨#[101, 116, 97, 103]⟩ : ByteArray) = strB nET := rfl
      try rw [e4]
      go_wp2_with fail
      refine (refRemove_big (.slice qa ps.length qc) ps nET _ (HRb.out _ HS3.out.b) (by decide) hl (fun p hp => by have := HB.out p hp; omega)).mono ?_
      rintro e w4 ⟨v4, rfl, hO4, hB4⟩
      have HS4 := Lib.hid (HS3.out.below hB4)
      have HQ4 := Lib.hid hO4.q
      clear hO4 hB4 HS3
      have hRl : (remL ps nET).length ≤ 4398046511104 := Nat.le_trans (List.length_filter_le _ _) hl
      have HRe := Lib.hid (show ∀ p ∈ remL ps nET, p.1.length + p.2.length ≤ 281474976710656 from fun p hp => by have := HB.out p (List.mem_filter.mp hp).1; omega)
      have HR0 := Lib.hid (show allL (remL ps nET) nET = [] from all_rem_same rfl)
      clear HB
      generalize remL ps nET = R at *
      go_wp2_with fail
      refine (fields_big v4 R _ HQ4.out hRl HRe.out).mono ?_
      rintro e w5 ⟨v5, rfl, hO5, hB5⟩
      have HS5 := Lib.hid (HS4.out.below hB5)
      have HQ5 := Lib.hid hO5.q
      clear hO5 hB5 HS4 HQ4
      go_upto_region 5 with fail
      have HV0 := Lib.hid (vaS_new w5 55)
      have HB0 := Lib.hid (below_new w5 (.cells #[.string ⟨#[]⟩, .string ⟨#[]⟩] 55))
      change Code.wp _ _ _ _ (w5.alloc (.cells #[.string ⟨#[]⟩, .string ⟨#[]⟩] 55))
      generalize (w5.alloc (.cells #[.string ⟨#[]⟩, .string ⟨#[]⟩] 55)) = W6 at *
      obtain ⟨c0, c1, d0, d1, _, _⟩ := HS5.out.below HB0.out
      go_wp2_with fail
      clear c0 c1 d0 d1
      go_loopw [50] (fun i wr => Below w5.heap.size w5 wr ∧ ((i = .int .i64 0 ∧ VaS w5.heap.size ⟨#[]⟩ ⟨#[]⟩ wr) ∨ (i = .int .i64 1 ∧ txtB s0.data.toList = true ∧ VaS w5.heap.size (texV x s0) ⟨#[]⟩ wr) ∨ (i = .int .i64 2 ∧ txtB s0.data.toList = true ∧ txtB s1.data.toList = true ∧ VaS w5.heap.size (texV x s0) (texV y s1) wr))) (fun i _ => 2 - (intOf i).toNat)
      case atStart => exact ⟨HB0.out, .inl ⟨rfl, HV0.out⟩⟩
      case round =>
        obtain ⟨hBr, hcs⟩ := hrel
        have HBr := Lib.hid hBr
        clear hBr
        have hl5 := HS5.out.lt
        obtain ⟨c0, c1, d0, d1, _, _⟩ := HS5.out.below HBr.out
        rcases hcs with ⟨rfl, hv⟩ | ⟨rfl, ht0, hv⟩ | ⟨rfl, ht0, ht1, hv⟩
        · have HV := Lib.hid hv
          clear hv
          have hix := two_at0 s0 s1
          go_wp2_with fail
          go_loop [56] (fun i => ∃ k : Nat, k ≤ s0.size ∧ i = .int .i64 k ∧ txtB (s0.data.toList.take k) = true) (fun i => s0.size - (intOf i).toNat)
          case atStart => exact ⟨0, by omega, rfl, by simp [txtB]⟩
          case round =>
            obtain ⟨k, hk, rfl, hn⟩ := hrel
            have HN := Lib.hid hn
            clear hn
            by_cases hlt : k < s0.size
            · by_cases c1 : s0[k].toNat ≤ 32
              · have hc1 : (s0[k].toNat : Int) ≤ 32 := by omega
                go_wp2
                go_ret
                exact ⟨rfl, HS5.out.b.trans (HBr.out.mono HS5.out.b.size)⟩
              · have hc1 : ¬ (s0[k].toNat : Int) ≤ 32 := by omega
                by_cases c2 : s0[k].toNat = 34
                · have hc2 : ((s0[k].toNat : Int) == 34) = true := by simp; omega
                  go_wp2
                  go_ret
                  exact ⟨rfl, HS5.out.b.trans (HBr.out.mono HS5.out.b.size)⟩
                · have hc2 : ((s0[k].toNat : Int) == 34) = false := by simp; omega
                  by_cases c3 : s0[k].toNat = 127
                  · have hc3 : ((s0[k].toNat : Int) == 127) = true := by simp; omega
                    go_wp2
                    go_ret
                    exact ⟨rfl, HS5.out.b.trans (HBr.out.mono HS5.out.b.size)⟩
                  · have hc3 : ((s0[k].toNat : Int) == 127) = false := by simp; omega
                    have HT := Lib.hid (txt_step hlt HN.out (by
                      cases hx : txtC s0[k] with
                      | true => rfl
                      | false => rcases (txtC_iff _).mp hx with h | h | h <;> omega))
                    go_wp2
                    go_round
                    case rel => exact ⟨k + 1, by omega, by go_num, HT.out⟩
                    case measure => simp [intOf]; omega
            · have HT := Lib.hid (txt_all (by omega) HN.out)
              have hz := texV_size false s0
              obtain ⟨e0, e1, f0, f1, _⟩ := HV.out
              have hpl := texV_plain s0
              go_upto_region 15 with fail
              change Code.wp _ _ _ _ (wr.setCell ⟨w5.heap.size, 0, none⟩ (.string (⟨#[34]⟩ ++ s0 ++ ⟨#[34]⟩)))
              rw [hpl]
              have HV7 := Lib.hid (HV.out.set0 (texV false s0))
              have HB7 := Lib.hid (HBr.out.setCell (p := ⟨w5.heap.size, 0, none⟩) (Nat.le_refl _) (.string (texV false s0)))
              clear HV e0 e1 f0 f1 HBr c0 c1 d0 d1 hpl
              generalize wr.setCell ⟨w5.heap.size, 0, none⟩ (.string (texV false s0)) = W7 at *
              obtain ⟨_, _, d0, d1, _, _⟩ := HS5.out.below HB7.out
              obtain ⟨e0, e1, f0, f1, _⟩ := HV7.out
              have hwk := texV_weak s0
              cases x with
              | false =>
                go_wp2_with fail
                go_roundw
                case rel => exact ⟨HB7.out, .inr (.inl ⟨rfl, HT.out, HV7.out⟩)⟩
                case measure => simp [intOf]
              | true =>
                go_upto_region 17 with fail
                change Code.wp _ _ _ _ (W7.setCell ⟨w5.heap.size, 0, none⟩ (.string (⟨#[87, 47]⟩ ++ texV false s0)))
                rw [hwk]
                have HV8 := Lib.hid (HV7.out.set0 (texV true s0))
                have HB8 := Lib.hid (HB7.out.setCell (p := ⟨w5.heap.size, 0, none⟩) (Nat.le_refl _) (.string (texV true s0)))
                clear HV7 e0 e1 f0 f1 HB7 d0 d1 hwk
                generalize W7.setCell ⟨w5.heap.size, 0, none⟩ (.string (texV true s0)) = W8 at *
                go_wp2_with fail
                go_roundw
                case rel => exact ⟨HB8.out, .inr (.inl ⟨rfl, HT.out, HV8.out⟩)⟩
                case measure => simp [intOf]
        · have HV := Lib.hid hv
          clear hv
          have HT0 := Lib.hid ht0
          clear ht0
          have hix := two_at1 s0 s1
          go_wp2_with fail
          go_loop [56] (fun i => ∃ k : Nat, k ≤ s1.size ∧ i = .int .i64 k ∧ txtB (s1.data.toList.take k) = true) (fun i => s1.size - (intOf i).toNat)
          case atStart => exact ⟨0, by omega, rfl, by simp [txtB]⟩
          case round =>
            obtain ⟨k, hk, rfl, hn⟩ := hrel
            have HN := Lib.hid hn
            clear hn
            by_cases hlt : k < s1.size
            · by_cases c1 : s1[k].toNat ≤ 32
              · have hc1 : (s1[k].toNat : Int) ≤ 32 := by omega
                go_wp2
                go_ret
                exact ⟨rfl, HS5.out.b.trans (HBr.out.mono HS5.out.b.size)⟩
              · have hc1 : ¬ (s1[k].toNat : Int) ≤ 32 := by omega
                by_cases c2 : s1[k].toNat = 34
                · have hc2 : ((s1[k].toNat : Int) == 34) = true := by simp; omega
                  go_wp2
                  go_ret
                  exact ⟨rfl, HS5.out.b.trans (HBr.out.mono HS5.out.b.size)⟩
                · have hc2 : ((s1[k].toNat : Int) == 34) = false := by simp; omega
                  by_cases c3 : s1[k].toNat = 127
                  · have hc3 : ((s1[k].toNat : Int) == 127) = true := by simp; omega
                    go_wp2
                    go_ret
                    exact ⟨rfl, HS5.out.b.trans (HBr.out.mono HS5.out.b.size)⟩
                  · have hc3 : ((s1[k].toNat : Int) == 127) = false := by simp; omega
                    have HT := Lib.hid (txt_step hlt HN.out (by
                      cases hx : txtC s1[k] with
                      | true => rfl
                      | false => rcases (txtC_iff _).mp hx with h | h | h <;> omega))
                    go_wp2
                    go_round
                    case rel => exact ⟨k + 1, by omega, by go_num, HT.out⟩
                    case measure => simp [intOf]; omega
            · have HT := Lib.hid (txt_all (by omega) HN.out)
              have hz := texV_size false s1
              obtain ⟨e0, e1, f0, f1, _⟩ := HV.out
              have hpl := texV_plain s1
              go_upto_region 15 with fail
              change Code.wp _ _ _ _ (wr.setCell ⟨w5.heap.size, 1, none⟩ (.string (⟨#[34]⟩ ++ s1 ++ ⟨#[34]⟩)))
              rw [hpl]
              have HV7 := Lib.hid (HV.out.set1 (texV false s1))
              have HB7 := Lib.hid (HBr.out.setCell (p := ⟨w5.heap.size, 1, none⟩) (Nat.le_refl _) (.string (texV false s1)))
              clear HV e0 e1 f0 f1 HBr c0 c1 d0 d1 hpl
              generalize wr.setCell ⟨w5.heap.size, 1, none⟩ (.string (texV false s1)) = W7 at *
              obtain ⟨_, _, d0, d1, _, _⟩ := HS5.out.below HB7.out
              obtain ⟨e0, e1, f0, f1, _⟩ := HV7.out
              have hwk := texV_weak s1
              cases y with
              | false =>
                go_wp2_with fail
                go_roundw
                case rel => exact ⟨HB7.out, .inr (.inr ⟨rfl, HT0.out, HT.out, HV7.out⟩)⟩
                case measure => simp [intOf]
              | true =>
                go_upto_region 17 with fail
                change Code.wp _ _ _ _ (W7.setCell ⟨w5.heap.size, 1, none⟩ (.string (⟨#[87, 47]⟩ ++ texV false s1)))
                rw [hwk]
                have HV8 := Lib.hid (HV7.out.set1 (texV true s1))
                have HB8 := Lib.hid (HB7.out.setCell (p := ⟨w5.heap.size, 1, none⟩) (Nat.le_refl _) (.string (texV true s1)))
                clear HV7 e0 e1 f0 f1 HB7 d0 d1 hwk
                generalize W7.setCell ⟨w5.heap.size, 1, none⟩ (.string (texV true s1)) = W8 at *
                go_wp2_with fail
                go_roundw
                case rel => exact ⟨HB8.out, .inr (.inr ⟨rfl, HT0.out, HT.out, HV8.out⟩)⟩
                case measure => simp [intOf]
        · have HV := Lib.hid hv
          clear hv
          have hz0 := texT_len (x, s0.data.toList)
          have hz1 := texT_len (y, s1.data.toList)
          have hy0 : s0.data.toList.length = s0.size := by rw [Array.length_toList]; rfl
          have hy1 : s1.data.toList.length = s1.size := by rw [Array.length_toList]; rfl
          simp only at hz0 hz1
          have hv0 : (texL (x, s0.data.toList)).length ≤ 1000 := by omega
          have hv1 : (texL (y, s1.data.toList)).length ≤ 1000 := by omega
          have hmx := mix_tex (t := (x, s0.data.toList)) (u := (y, s1.data.toList)) ht0 ht1
          obtain ⟨hFA, hAl, hA⟩ := fitT_add hRl HRe.out HR0.out hv0
          have hBe := fit_one hv1
          have hFB := fitL_one hv1
          have hFR := fitT_none hRl HRe.out HR0.out
          have hB := one_all (texL (y, s1.data.toList))
          obtain ⟨er, her⟩ : ∃ er : Value, er = if s0.data.toList = s1.data.toList then .nilIface else errMix := ⟨_, rfl⟩
          have HU := Lib.hid (show ∀ (u v : Value) (w : World), ReadsQ w u (addL R nET (texL (x, s0.data.toList))) → ReadsQ w v [(nET, (texL (y, s1.data.toList)))] → MaxIs w → Calls Tryz.prog 17 #[u, v] w fun e w' => ∃ z, e = .returned (.tuple #[z, er]) ∧ Below w.heap.size w w' from fun u v w hu hv hM => by
              by_cases hT : s0.data.toList = s1.data.toList
              · rw [if_pos hT] at her
                refine (update_big_ok u _ v _ w hu hFA hAl hv (by simp) hBe hM (by rw [hA, hB, hmx]; simp [hT])).mono ?_
                rintro e w' ⟨z, rfl, _, hb⟩
                exact ⟨z, by rw [her], hb⟩
              · rw [if_neg hT] at her
                refine (update_big_mix u _ v _ w hu hFA hv hFB.t hM (by rw [hA, hB, hmx]; simp [hT])).mono ?_
                rintro e w' ⟨rfl, hb⟩
                exact ⟨_, by rw [her], hb⟩)
          have HN := Lib.hid (show ∀ (u v : Value) (w : World), ReadsQ w u R → ReadsQ w v [(nET, (texL (y, s1.data.toList)))] → MaxIs w → Calls Tryz.prog 17 #[u, v] w fun e w' => ∃ z, e = .returned (.tuple #[z, .nilIface]) ∧ Below w.heap.size w w' from fun u v w hu hv hM => by
              refine (update_big_ok u _ v _ w hu hFR (by omega) hv (by simp) hBe hM (by rw [HR0.out]; rfl)).mono ?_
              rintro e w' ⟨z, rfl, _, hb⟩
              exact ⟨z, rfl, hb⟩)
          have HAd := Lib.hid (fun (w : World) (hq : ReadsQ w v5 R) => add_big v5 R nET (texL (x, s0.data.toList)) w hq (by decide) (by omega) hRl)
          have HEr := Lib.hid her
          clear hA hB hmx hFA hFB hFR hBe her ht0 ht1 hAl hRl HRe HR0 hv0 hv1
          have HEB := Lib.hid (fun (w' : World) (h : Below w5.heap.size w5 w') => (HEb.out w' (HS5.out.b.trans (h.mono HS5.out.b.size))).1)
          have HQB := Lib.hid (fun (w' : World) (h : Below w5.heap.size w5 w') => HQ5.out.below h)
          clear HEb HRb HQ5 c0 c1 d0 d1
          go_upto_region 18 with fail
          go_cut [13] (fun u wx => u = er ∧ VaS w5.heap.size (texV x s0) (texV y s1) wx ∧ Below w5.heap.size w5 wx)
          case first =>
            have hv0 := HV.out.below (Below.refl _ _).drew
            have hb0 := HBr.out.drew
            clear HV HBr
            refine wp_region_held_drew (S := (fun w' => w'.cell? ⟨w5.heap.size, 0, none⟩ = some (.string (texV x s0)) ∧ w'.cell? ⟨w5.heap.size, 1, none⟩ = some (.string (texV y s1)) ∧ VaS w5.heap.size (texV x s0) (texV y s1) w' ∧ Below w5.heap.size w5 w')) (by kernel_rfl) (⟨hv0.e0, hv0.e1, hv0, hb0⟩) (fun hHeld => ?_)
            generalize wr.drew = V0 at *
            refine wpAnyH_take (i := 0) (oi := { dst := some 92, op := _, type := _, pos := _, after := _, guard := _ }) (v := ?_) rfl (by kernel_rfl) (by kernel_rfl) (by kernel_rfl) (fun _ _ _ h => h) (Or.inl ⟨by rfl, ?_⟩) (by assumption) ?_
            rotate_left
            focus (intro w hSw; (try dsimp only at hSw); first | (go_simp; done) | (go_simp; with_reducible rfl))
            (try simp only [Act.put, List.setIfInBounds_toArray, List.set_cons_zero, List.set_cons_succ])
            refine wpAnyH_take (i := 1) (oi := { dst := some 93, op := _, type := _, pos := _, after := _, guard := _ }) (v := ?_) rfl (by kernel_rfl) (by kernel_rfl) (by kernel_rfl) (fun _ _ _ h => h) (Or.inl ⟨by rfl, ?_⟩) (by assumption) ?_
            rotate_left
            focus (intro w hSw; (try dsimp only at hSw); first | (go_simp; done) | (go_simp; with_reducible rfl))
            (try simp only [Act.put, List.setIfInBounds_toArray, List.set_cons_zero, List.set_cons_succ])
            refine wpAnyH_take (i := 2) (oi := { dst := some 94, op := _, type := _, pos := _, after := _, guard := _ }) (v := ?_) rfl (by kernel_rfl) (by kernel_rfl) (by kernel_rfl) (fun _ _ _ h => h) (Or.inl ⟨by rfl, ?_⟩) (by assumption) ?_
            rotate_left
            focus (intro w hSw; (try dsimp only at hSw); first | (go_simp; done) | (go_simp; with_reducible rfl))
            (try simp only [Act.put, List.setIfInBounds_toArray, List.set_cons_zero, List.set_cons_succ])
            refine wpAnyH_take (i := 4) (oi := { dst := some 96, op := _, type := _, pos := _, after := _, guard := _ }) (v := ?_) rfl (by kernel_rfl) (by kernel_rfl) (by kernel_rfl) (fun _ _ _ h => h) (Or.inl ⟨by rfl, ?_⟩) (by assumption) ?_
            rotate_left
            focus (intro w hSw; (try dsimp only at hSw); first | (go_simp; done) | (go_simp; with_reducible rfl))
            (try simp only [Act.put, List.setIfInBounds_toArray, List.set_cons_zero, List.set_cons_succ])
            refine wpAnyH_take (i := 5) (oi := { dst := some 97, op := _, type := _, pos := _, after := _, guard := _ }) (v := ?_) rfl (by kernel_rfl) (by kernel_rfl) (by kernel_rfl) (fun _ _ _ h => h) (Or.inl ⟨by rfl, ?_⟩) (by assumption) ?_
            rotate_left
            focus (intro w hSw; (try dsimp only at hSw); first | (go_simp; done) | (go_simp; with_reducible rfl))
            (try simp only [Act.put, List.setIfInBounds_toArray, List.set_cons_zero, List.set_cons_succ])
            refine wpAnyH_take (i := 6) (oi := { dst := some 98, op := _, type := _, pos := _, after := _, guard := _ }) (v := ?_) rfl (by kernel_rfl) (by kernel_rfl) (by kernel_rfl) (fun _ _ _ h => h) (Or.inl ⟨by rfl, ?_⟩) (by assumption) ?_
            rotate_left
            focus (intro w hSw; (try dsimp only at hSw); first | (go_simp; done) | (go_simp; with_reducible rfl))
            (try simp only [Act.put, List.setIfInBounds_toArray, List.set_cons_zero, List.set_cons_succ])
            refine wpAnyH_ready (rs := [3, 7]) (by kernel_rfl) (by simp) ?_
            refine AllReadyH.cons (o := { dst := some 95, op := _, type := _, pos := _, after := _, guard := _ }) rfl (fun K hK => ?_) (AllReadyH.cons (o := { dst := some 99, op := _, type := _, pos := _, after := _, guard := _ }) rfl (fun K hK => ?_) AllReadyH.nil)
            · go_simp
              refine (HAd.out _ (HQB.out _ hb0)).mono ?_
              rintro e V1 ⟨v1, rfl, hO1, hBc⟩
              have hv1 := hv0.below hBc
              have hb1 := hb0.trans (hBc.mono hb0.size)
              have hq1 := hO1.q
              refine hK.out _ _ (⟨hv1.e0, hv1.e1, hv1, hb1⟩) (fun hH1 => ?_)
              clear hK K hBc hO1 hHeld hv0 hb0
              (try simp only [Act.put, List.setIfInBounds_toArray, List.set_cons_zero, List.set_cons_succ])
              refine wpAnyH_ready (rs := [7]) (by kernel_rfl) (by simp) ?_
              refine AllReadyH.cons (o := { dst := some 99, op := _, type := _, pos := _, after := _, guard := _ }) rfl (fun K hK => ?_) AllReadyH.nil
              go_simp
              have hv2 := hv1.below (below_new V1 (.cells #[.string ⟨#[101, 116, 97, 103]⟩, .string (texV y s1)] 58))
              have hb2 := hb1.alloc hb1.size (.cells #[.string ⟨#[101, 116, 97, 103]⟩, .string (texV y s1)] 58)
              have hq2 := hq1.below (below_new V1 (.cells #[.string ⟨#[101, 116, 97, 103]⟩, .string (texV y s1)] 58))
              have hn2 := reads_new1 V1 nET (texL (y, s1.data.toList)) 58
              refine hK.out _ _ (⟨hv2.e0, hv2.e1, hv2, hb2⟩) (fun hH2 => ?_)
              clear hK K hH1 hv1 hb1 hq1
              (try simp only [Act.put, List.setIfInBounds_toArray, List.set_cons_zero, List.set_cons_succ])
              refine wpAnyH_ready (rs := [8]) (by kernel_rfl) (by simp) ?_
              refine AllReadyH.cons (o := { dst := some 100, op := _, type := _, pos := _, after := _, guard := _ }) rfl (fun K hK => ?_) AllReadyH.nil
              go_simp
              refine (HU.out _ _ _ (hq2) (hn2) (HEB.out _ hb2)).mono ?_
              rintro e V9 ⟨z, rfl, hBu⟩
              have hv9 := hv2.below hBu
              have hb9 := hb2.trans (hBu.mono hb2.size)
              refine hK.out _ _ (⟨hv9.e0, hv9.e1, hv9, hb9⟩) (fun hH9 => ?_)
              clear hK K hBu
              (try simp only [Act.put, List.setIfInBounds_toArray, List.set_cons_zero, List.set_cons_succ])
              refine wpAnyH_take (i := 9) (oi := { dst := some 91, op := _, type := _, pos := _, after := _, guard := _ }) (v := ?_) rfl (by kernel_rfl) (by kernel_rfl) (by kernel_rfl) (fun _ _ _ h => h) (Or.inl ⟨by rfl, ?_⟩) (by assumption) ?_
              rotate_left
              focus (intro w hSw; (try dsimp only at hSw); first | (go_simp; done) | (go_simp; with_reducible rfl))
              (try simp only [Act.put, List.setIfInBounds_toArray, List.set_cons_zero, List.set_cons_succ])
              refine wpAnyH_take (i := 10) (oi := { dst := some 101, op := _, type := _, pos := _, after := _, guard := _ }) (v := ?_) rfl (by kernel_rfl) (by kernel_rfl) (by kernel_rfl) (fun _ _ _ h => h) (Or.inl ⟨by rfl, ?_⟩) (by assumption) ?_
              rotate_left
              focus (intro w hSw; (try dsimp only at hSw); first | (go_simp; done) | (go_simp; with_reducible rfl))
              (try simp only [Act.put, List.setIfInBounds_toArray, List.set_cons_zero, List.set_cons_succ])
              refine wpAnyH_take (i := 11) (oi := { dst := some 102, op := _, type := _, pos := _, after := _, guard := _ }) (v := ?_) rfl (by kernel_rfl) (by kernel_rfl) (by kernel_rfl) (fun _ _ _ h => h) (Or.inl ⟨by rfl, ?_⟩) (by assumption) ?_
              rotate_left
              focus (intro w hSw; (try dsimp only at hSw); first | (go_simp; done) | (go_simp; with_reducible rfl))
              (try simp only [Act.put, List.setIfInBounds_toArray, List.set_cons_zero, List.set_cons_succ])
              refine wpAnyH_take (i := 12) (oi := { dst := some 12, op := _, type := _, pos := _, after := _, guard := _ }) (v := ?_) rfl (by kernel_rfl) (by kernel_rfl) (by kernel_rfl) (fun _ _ _ h => h) (Or.inl ⟨by rfl, ?_⟩) (by assumption) ?_
              rotate_left
              focus (intro w hSw; (try dsimp only at hSw); first | (go_simp; done) | (go_simp; with_reducible rfl))
              (try simp only [Act.put, List.setIfInBounds_toArray, List.set_cons_zero, List.set_cons_succ])
              refine wpAnyH_take (i := 13) (oi := { dst := some 13, op := _, type := _, pos := _, after := _, guard := _ }) (v := ?_) rfl (by kernel_rfl) (by kernel_rfl) (by kernel_rfl) (fun _ _ _ h => h) (Or.inl ⟨by rfl, ?_⟩) (by assumption) ?_
              rotate_left
              focus (intro w hSw; (try dsimp only at hSw); first | (go_simp; done) | (go_simp; with_reducible rfl))
              (try simp only [Act.put, List.setIfInBounds_toArray, List.set_cons_zero, List.set_cons_succ])
              refine wpAnyH_done (by kernel_rfl) ?_ _
              (try simp only [Exit.then])
              (try go_wp2_with fail)
              go_meet
              exact ⟨rfl, hv9, hb9⟩
            · go_simp
              have hv1 := hv0.below (below_new V0 (.cells #[.string ⟨#[101, 116, 97, 103]⟩, .string (texV y s1)] 58))
              have hb1 := hb0.alloc hb0.size (.cells #[.string ⟨#[101, 116, 97, 103]⟩, .string (texV y s1)] 58)
              have hn1 := reads_new1 V0 nET (texL (y, s1.data.toList)) 58
              refine hK.out _ _ (⟨hv1.e0, hv1.e1, hv1, hb1⟩) (fun hH1 => ?_)
              clear hK K hHeld hv0 hb0
              (try simp only [Act.put, List.setIfInBounds_toArray, List.set_cons_zero, List.set_cons_succ])
              refine wpAnyH_ready (rs := [3]) (by kernel_rfl) (by simp) ?_
              refine AllReadyH.cons (o := { dst := some 95, op := _, type := _, pos := _, after := _, guard := _ }) rfl (fun K hK => ?_) AllReadyH.nil
              go_simp
              refine (HAd.out _ (HQB.out _ hb1)).mono ?_
              rintro e V2 ⟨v2, rfl, hO2, hBc⟩
              have hv2 := hv1.below hBc
              have hb2 := hb1.trans (hBc.mono hb1.size)
              have hq2 := hO2.q
              have hn2 := hn1.below hBc
              refine hK.out _ _ (⟨hv2.e0, hv2.e1, hv2, hb2⟩) (fun hH2 => ?_)
              clear hK K hBc hO2 hH1 hv1 hb1 hn1
              (try simp only [Act.put, List.setIfInBounds_toArray, List.set_cons_zero, List.set_cons_succ])
              refine wpAnyH_ready (rs := [8]) (by kernel_rfl) (by simp) ?_
              refine AllReadyH.cons (o := { dst := some 100, op := _, type := _, pos := _, after := _, guard := _ }) rfl (fun K hK => ?_) AllReadyH.nil
              go_simp
              refine (HU.out _ _ _ (hq2) (hn2) (HEB.out _ hb2)).mono ?_
              rintro e V9 ⟨z, rfl, hBu⟩
              have hv9 := hv2.below hBu
              have hb9 := hb2.trans (hBu.mono hb2.size)
              refine hK.out _ _ (⟨hv9.e0, hv9.e1, hv9, hb9⟩) (fun hH9 => ?_)
              clear hK K hBu
              (try simp only [Act.put, List.setIfInBounds_toArray, List.set_cons_zero, List.set_cons_succ])
              refine wpAnyH_take (i := 9) (oi := { dst := some 91, op := _, type := _, pos := _, after := _, guard := _ }) (v := ?_) rfl (by kernel_rfl) (by kernel_rfl) (by kernel_rfl) (fun _ _ _ h => h) (Or.inl ⟨by rfl, ?_⟩) (by assumption) ?_
              rotate_left
              focus (intro w hSw; (try dsimp only at hSw); first | (go_simp; done) | (go_simp; with_reducible rfl))
              (try simp only [Act.put, List.setIfInBounds_toArray, List.set_cons_zero, List.set_cons_succ])
              refine wpAnyH_take (i := 10) (oi := { dst := some 101, op := _, type := _, pos := _, after := _, guard := _ }) (v := ?_) rfl (by kernel_rfl) (by kernel_rfl) (by kernel_rfl) (fun _ _ _ h => h) (Or.inl ⟨by rfl, ?_⟩) (by assumption) ?_
              rotate_left
              focus (intro w hSw; (try dsimp only at hSw); first | (go_simp; done) | (go_simp; with_reducible rfl))
              (try simp only [Act.put, List.setIfInBounds_toArray, List.set_cons_zero, List.set_cons_succ])
              refine wpAnyH_take (i := 11) (oi := { dst := some 102, op := _, type := _, pos := _, after := _, guard := _ }) (v := ?_) rfl (by kernel_rfl) (by kernel_rfl) (by kernel_rfl) (fun _ _ _ h => h) (Or.inl ⟨by rfl, ?_⟩) (by assumption) ?_
              rotate_left
              focus (intro w hSw; (try dsimp only at hSw); first | (go_simp; done) | (go_simp; with_reducible rfl))
              (try simp only [Act.put, List.setIfInBounds_toArray, List.set_cons_zero, List.set_cons_succ])
              refine wpAnyH_take (i := 12) (oi := { dst := some 12, op := _, type := _, pos := _, after := _, guard := _ }) (v := ?_) rfl (by kernel_rfl) (by kernel_rfl) (by kernel_rfl) (fun _ _ _ h => h) (Or.inl ⟨by rfl, ?_⟩) (by assumption) ?_
              rotate_left
              focus (intro w hSw; (try dsimp only at hSw); first | (go_simp; done) | (go_simp; with_reducible rfl))
              (try simp only [Act.put, List.setIfInBounds_toArray, List.set_cons_zero, List.set_cons_succ])
              refine wpAnyH_take (i := 13) (oi := { dst := some 13, op := _, type := _, pos := _, after := _, guard := _ }) (v := ?_) rfl (by kernel_rfl) (by kernel_rfl) (by kernel_rfl) (fun _ _ _ h => h) (Or.inl ⟨by rfl, ?_⟩) (by assumption) ?_
              rotate_left
              focus (intro w hSw; (try dsimp only at hSw); first | (go_simp; done) | (go_simp; with_reducible rfl))
              (try simp only [Act.put, List.setIfInBounds_toArray, List.set_cons_zero, List.set_cons_succ])
              refine wpAnyH_done (by kernel_rfl) ?_ _
              (try simp only [Exit.then])
              (try go_wp2_with fail)
              go_meet
              exact ⟨rfl, hv9, hb9⟩
          case rest =>
          rename World => w8
          obtain ⟨rfl, hv, hb⟩ := hcut
          have HV8 := Lib.hid hv
          have HB8 := Lib.hid hb
          clear hv hb HU HAd HV HBr
          obtain ⟨e0, e1, _, _, _⟩ := HV8.out
          go_wp2_with fail
          have HB9 := Lib.hid (HB8.out.alloc HB8.out.size (.cells #[.string ⟨#[101, 116, 97, 103]⟩, .string (texV y s1)] 58))
          refine (HN.out _ _ _ (HQB.out _ HB9.out) (reads_new1 w8 nET (texL (y, s1.data.toList)) 58) (HEB.out _ HB9.out)).mono ?_
          rintro e w9 ⟨z, rfl, hb9⟩
          have HB10 := Lib.hid (HB9.out.trans (hb9.mono HB9.out.size))
          clear hb9 e0 e1
          obtain ⟨c0, c1, _, _, _, _⟩ := HS5.out.below HB10.out
          have HBw := Lib.hid (HS5.out.b.trans (HB10.out.mono HS5.out.b.size))
          have hse : (s0.toList == s1.toList) = decide (s0.data.toList = s1.data.toList) := by
            rw [ByteArray.toList_eq, ByteArray.toList_eq]
            by_cases h : s0.data.toList = s1.data.toList
            · rw [decide_eq_true h]; exact beq_iff_eq.mpr h
            · rw [decide_eq_false h]; exact beq_eq_false_iff_ne.mpr h
          have hE := HEr.out
          clear HEr
          by_cases hT : s0.data.toList = s1.data.toList
          · rw [decide_eq_true hT] at hse
            rw [if_pos hT] at hE
            subst hE
            clear hT
            go_wp2_with fail
            go_ret
            exact ⟨rfl, HBw.out⟩
          · rw [decide_eq_false hT] at hse
            rw [if_neg hT] at hE
            subst hE
            clear hT
            go_wp2_with fail
            refine (is_errno 20 (by decide) _).mono ?_
            rintro e w10 ⟨rfl, rfl⟩
            go_wp2_with fail
            go_ret
            exact ⟨rfl, HBw.out⟩
end Go.Proofs.YtoiampkdmjpljaaGreatDoor

/- A slice of the reference's fields with its size, an array of two strings and one of two flags among the arguments, opened. -/
namespace Go.Proofs.YtoiampkdmjpljaaGreatDoor
open Go.ChangeShapes Go.WideShapes Go.ChangeAt Go.RowKit
open Go.ChangeMaps (shut_string open_string)

theorem weight_in {H : Type} {P : Program} {e : TypeId} {d : DataW H} {n : Nat} : ∀ {l : List (DataW H)}, d ∈ l → n ∈ d.weights P e → n ∈ DataW.weightsAll P e l
  | x :: r, hd, hn => by
    simp only [DataW.weightsAll, List.mem_append]
    rcases List.mem_cons.1 hd with e | e
    · subst e; exact .inl hn
    · exact .inr (weight_in e hn)
set_option maxRecDepth 100000 in
/-- A slice of the reference's fields among the arguments. -/
theorem open_fieldsB {H : Type} {enc : TypeId × Value → H} {w : World} {v : Value} {d : DataW H} {p : List MemPlace} {base : Nat} (hv : Value.okWide Tryz.prog w .any base 22 v)
    (h : DataW.Trod enc Tryz.prog w 0 (fun _ => true) true 22 v d p) (hw : ∀ n ∈ d.weights Tryz.prog 22, n ≤ reachBytes) :
    ∃ ps : List (List UInt8 × List UInt8), ReadsQ w v ps ∧ ps.length ≤ 4398046511104 ∧ (∀ q ∈ ps, q.1.length ≤ 140737488355328 ∧ q.2.length ≤ 140737488355328) ∧ Sane v := by
  obtain ⟨a0, len, cap, rfl⟩ := okWide_slice Tryz.underlying22 hv
  obtain ⟨fuel, hf⟩ := h
  rcases Go.Deep.open_slice_pairs Tryz.underlying22 Tryz.underlying32 (by kernel_rfl) rfl rfl (by kernel_rfl) (by kernel_rfl) (by simpa [Value.cells] using hf) with ⟨hcs, hx⟩ | ⟨a, len', cap', m, n, V0, V1, D0, D1, P0, P1, hcs, _, hl, hm, hmm, hx, hall⟩
  · simp only [List.cons.injEq, Value.slice.injEq, and_true] at hcs
    obtain ⟨rfl, rfl, rfl⟩ := hcs
    exact ⟨[], ⟨none, 0, rfl, fun j l h => by simp at h⟩, by simp, by simp, fun a n c e => by cases e; exact ⟨Nat.le_refl _, fun _ => rfl⟩⟩
  · simp only [List.cons.injEq, Value.slice.injEq, and_true] at hcs
    obtain ⟨rfl, rfl, rfl⟩ := hcs
    simp only [Prod.mk.injEq] at hx
    obtain ⟨rfl, _⟩ := hx
    simp only [if_true] at hmm
    subst hmm
    have each : ∀ i, i < len → ∃ q : ByteArray × ByteArray, V0 i = .string q.1 ∧ V1 i = .string q.2 ∧ D0 i = .lit (.string q.1.data.toList) ∧ D1 i = .lit (.string q.2.data.toList) := by
      intro i hi
      obtain ⟨_, _, t0, t1⟩ := hall i (by omega)
      obtain ⟨s0, e0, f0, _⟩ := DataW.trod_string Tryz.underlying9 t0
      obtain ⟨s1, e1, f1, _⟩ := DataW.trod_string Tryz.underlying9 t1
      simp only [List.cons.injEq, and_true, Prod.mk.injEq] at e0 e1 f0 f1
      exact ⟨(s0, s1), e0, e1, f0.1, f1.1⟩
    obtain ⟨q, hq⟩ := Go.Deep.choose_lt each
    have hlen : ((List.range len).map fun i => ((q i).1.data.toList, (q i).2.data.toList)).length = len := by simp
    have hwt : ∀ i, i < len → (q i).1.data.toList.length ≤ 140737488355328 ∧ (q i).2.data.toList.length ≤ 140737488355328 := by
      intro i hi
      obtain ⟨_, _, d0, d1⟩ := hq i hi
      have hin : (DataW.agg [D0 i, D1 i]) ∈ (List.range len).map fun i => DataW.agg [D0 i, D1 i] := List.mem_map.mpr ⟨i, List.mem_range.mpr hi, rfl⟩
      have key : ∀ k ∈ (DataW.agg [D0 i, D1 i]).weights Tryz.prog 32, k ≤ reachBytes := by
        intro k hk
        refine hw k ?_
        unfold DataW.weights
        rw [Tryz.underlying22]
        simp only [List.mem_cons, List.mem_append]
        exact .inr (.inl (weight_in hin hk))
      unfold DataW.weights at key
      rw [Tryz.underlying32] at key
      rw [d0, d1] at key
      simp only [DataW.weightsEach, DataW.weights, List.map_cons, List.map_nil, List.mem_append, List.mem_cons, List.not_mem_nil, or_false] at key
      have k0 := key _ (.inl rfl)
      have k1 := key _ (.inr rfl)
      unfold reachBytes at k0 k1
      omega
    have hle : len ≤ 4398046511104 := by
      have hb : Tryz.prog.bytesOf 32 = 32 := by kernel_rfl
      have this := hw ((((List.range len).map fun i => DataW.agg [D0 i, D1 i]).length + ((List.range (m - len)).map fun j => DataW.agg [D0 (len + j), D1 (len + j)]).length) * Tryz.prog.bytesOf 32) (by
        unfold DataW.weights
        rw [Tryz.underlying22]
        exact List.mem_cons_self ..)
      rw [hb, List.length_map, List.length_map, List.length_range, List.length_range] at this
      unfold reachBytes at this
      omega
    refine ⟨(List.range len).map fun i => ((q i).1.data.toList, (q i).2.data.toList), ⟨some a, m, by rw [hlen], fun j l hj => ?_⟩, ?_, ?_, fun a' n' c' e => by cases e; exact ⟨hl, fun h => by cases h⟩⟩
    · have hjl : j < len := by have := (List.getElem?_eq_some_iff.mp hj).1; omega
      have hj' : ((q j).1.data.toList, (q j).2.data.toList) = l := by
        rw [List.getElem?_map, List.getElem?_range hjl] at hj
        exact Option.some.inj hj
      obtain ⟨c0, c1, _, _⟩ := hall j (by omega)
      obtain ⟨v0, v1, _, _⟩ := hq j hjl
      obtain ⟨z0, _, _, _⟩ := hall 0 (by omega)
      obtain ⟨b, off, spot⟩ := a
      have hspot : spot = none := by simpa [Addr.add] using World.cell?_spot z0
      subst hspot
      have hlt : b < w.heap.size := by have := World.block_lt_of_cell? w _ z0; simpa [Addr.add] using this
      rw [v0, Go.WideShapes.add_plain] at c0
      rw [v1, Go.WideShapes.add_plain, ← Nat.add_assoc] at c1
      subst hj'
      exact ⟨b, off, rfl, hlt, by rw [strB_of]; exact c0, by rw [strB_of]; exact c1⟩
    · rw [hlen]; omega
    · intro x hx
      obtain ⟨i, hi, rfl⟩ := List.mem_map.mp hx
      exact hwt i (List.mem_range.mp hi)
set_option maxRecDepth 100000 in
theorem open_pair {H : Type} {enc : TypeId × Value → H} {w : World} {v : Value} {d : DataW H} {p : List MemPlace} {base : Nat} (hv : Value.okWide Tryz.prog w .any base 55 v)
    (h : DataW.Trod enc Tryz.prog w 0 (fun _ => true) true 55 v d p) (hw : ∀ n ∈ d.weights Tryz.prog 55, n ≤ reachBytes) :
    ∃ s0 s1 : ByteArray, v = .agg #[.string s0, .string s1] ∧ s0.size ≤ 140737488355328 ∧ s1.size ≤ 140737488355328 := by
  obtain ⟨cs, rfl, hsz⟩ : ∃ cs, v = .agg cs ∧ cs.size = 2 := by
    simp only [Value.okWide, Tryz.underlying55] at hv
    obtain ⟨cs, h1, h2, _⟩ := hv
    exact ⟨cs, h1, h2.trans (by kernel_rfl)⟩
  obtain ⟨c0, c1, rfl⟩ : ∃ c0 c1, cs = #[c0, c1] := by
    obtain ⟨l⟩ := cs
    match l, hsz with
    | [a, b], _ => exact ⟨a, b, rfl⟩
    | [], hz => simp at hz
    | [_], hz => simp at hz
    | _ :: _ :: _ :: _, hz => simp at hz
  obtain ⟨fuel, hf⟩ := h
  have hf' : DataW.trod enc Tryz.prog w 0 (fun _ => true) true fuel 55 [c0, c1] = some (d, p) := by simpa [Value.cells] using hf
  obtain ⟨xs, m, rfl, hx, _, hl, hall⟩ := DataW.trod_array Tryz.underlying55 hf'
  have g0 := hall 0 (by omega)
  have g1 := hall 1 (by omega)
  have hce : Tryz.prog.cellsOf 9 = 1 := by kernel_rfl
  rw [hce] at g0 g1
  obtain ⟨x0, x1, rfl⟩ : ∃ x0 x1, xs = [x0, x1] := by
    match xs, hl with
    | [a, b], _ => exact ⟨a, b, rfl⟩
  have g0' : DataW.trod enc Tryz.prog w 0 (fun _ => true) true m 9 [c0] = some x0 := by simpa using g0
  have g1' : DataW.trod enc Tryz.prog w 0 (fun _ => true) true m 9 [c1] = some x1 := by simpa using g1
  obtain ⟨s0, e0, f0, _⟩ := DataW.trod_string Tryz.underlying9 g0'
  obtain ⟨s1, e1, f1, _⟩ := DataW.trod_string Tryz.underlying9 g1'
  simp only [List.cons.injEq, and_true] at e0 e1
  simp only [Prod.mk.injEq, List.map_cons, List.map_nil] at hx
  rw [hx.1, f0, f1] at hw
  have key := hw
  unfold DataW.weights at key
  rw [Tryz.underlying55] at key
  simp only [DataW.weightsAll, DataW.weights, List.mem_append, List.mem_cons, List.not_mem_nil, or_false] at key
  have k0 := key _ (.inl rfl)
  have k1 := key _ (.inr rfl)
  rw [Array.length_toList] at k0 k1
  have k0' : s0.size ≤ reachBytes := k0
  have k1' : s1.size ≤ reachBytes := k1
  unfold reachBytes at k0' k1'
  exact ⟨s0, s1, by rw [e0, e1], by omega, by omega⟩
section
variable {H : Type} {enc : TypeId × Value → H} {w : World} {base : Nat} {spare : Nat → Bool} {held : Bool}
set_option maxRecDepth 100000 in
theorem cells_bools {fuel : Nat} {cs : List Value} {x : DataW H × List MemPlace} (h : DataW.trod enc Tryz.prog w base spare held fuel 56 cs = some x) : ∃ a b : Bool, cs = [.bool a, .bool b] := by
  obtain ⟨xs, m, _, _, hl, hlen, hf⟩ := DataW.trod_array Tryz.underlying56 h
  have ce : Tryz.prog.cellsOf 56 = 2 := by kernel_rfl
  have c1 : Tryz.prog.cellsOf 4 = 1 := by kernel_rfl
  rw [ce] at hl
  match cs, hl, xs, hlen with
  | [v0, v1], _, [y0, y1], _ =>
    have g0 := hf 0 (by decide)
    have g1 := hf 1 (by decide)
    simp [c1] at g0 g1
    obtain ⟨s0, e0, _⟩ := DataW.trod_bool Tryz.underlying4 g0
    obtain ⟨s1, e1, _⟩ := DataW.trod_bool Tryz.underlying4 g1
    simp only [List.cons.injEq, and_true] at e0 e1
    exact ⟨s0, s1, by rw [e0, e1]⟩
end
section
variable {H : Type} {enc : TypeId × Value → H} {w : World} {base : Nat} {v : Value} {d : DataW H} {p : List MemPlace}
set_option maxRecDepth 100000 in
theorem open_bools2 (hv : Value.okWide Tryz.prog w .any base 56 v) (h : DataW.Trod enc Tryz.prog w 0 (fun _ => true) true 56 v d p) : ∃ a b : Bool, v = .agg #[.bool a, .bool b] := by
  obtain ⟨cs, rfl⟩ : ∃ cs, v = .agg cs := by
    simp only [Value.okWide, Tryz.underlying56] at hv
    obtain ⟨cs, h1, _⟩ := hv
    exact ⟨cs, h1⟩
  obtain ⟨fuel, hf⟩ := h
  obtain ⟨a, b, hq⟩ := cells_bools (show DataW.trod enc Tryz.prog w 0 (fun _ => true) true fuel 56 cs.toList = some (d, p) by simpa [Value.cells] using hf)
  exact ⟨a, b, by rw [show cs = (cs.toList).toArray by simp, hq]⟩
end
end Go.Proofs.YtoiampkdmjpljaaGreatDoor
