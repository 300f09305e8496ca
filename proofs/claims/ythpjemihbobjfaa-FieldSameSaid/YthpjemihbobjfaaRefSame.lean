/- The reference's Same. -/
import Derived.Test.YthpjemihbobjfaaSameSpec
import Derived.Test.YthpjemihbobjfaaRefAll
import Derived.Test.YthpjemihbobjfaaFSmall
import Derived.Test.YthpjemihbobjfaaTexts
import Derived.Deep.RegionHeld3
namespace Go.Proofs.Ythpjemihbobjfaa
open Go.RowKit

def sameB (pa pb : Flds) : Prop := pa.length = pb.length ∧ ∀ p ∈ pa, allL pa p.1 = allL pb p.1
theorem get_other {la lb : List (List UInt8)} {k : Nat} {l m : List UInt8} (ha : la[k]? = some l) (hb : lb[k]? = some m) (h : l ≠ m) : la ≠ lb := fun e => by
  rw [e, hb] at ha; simp at ha; exact h ha.symm
theorem take_whole {la lb : List (List UInt8)} {k : Nat} (h : la.take k = lb.take k) (ha : la.length ≤ k) (hb : lb.length ≤ k) : la = lb := by
  rwa [List.take_of_length_le ha, List.take_of_length_le hb] at h
theorem take_step {la lb : List (List UInt8)} {k : Nat} {l m : List UInt8} (h : la.take k = lb.take k) (ha : la[k]? = some l) (hb : lb[k]? = some m) (e : l = m) : la.take (k + 1) = lb.take (k + 1) := by
  rw [List.take_add_one, List.take_add_one, h, ha, hb, e]

def Held1 (w0 : World) (a : Addr) (v : Value) (w' : World) : Prop := w'.cell? a = some v ∧ Below w0.heap.size w0 w'
theorem Held1.below {w0 w w' : World} {a : Addr} {v : Value} (h : Held1 w0 a v w) (hb : Below w.heap.size w w') : Held1 w0 a v w' :=
  ⟨(hb.cell (World.block_lt_of_cell? w _ h.1)).trans h.1, h.2.trans (hb.mono h.2.size)⟩
theorem Held1.drew {w0 w : World} {a : Addr} {v : Value} (h : Held1 w0 a v w) : Held1 w0 a v w.drew := h.below (below_drewN (Below.refl _ _) 1)

set_option maxHeartbeats 8000000 in
set_option maxRecDepth 100000 in
theorem refSame_any (va vb : Value) (pa pb : Flds) (w : World) (hra : ReadsQ w va pa) (hrb : ReadsQ w vb pb) (hla : pa.length ≤ 1000) (hlb : pb.length ≤ 1000)
    (hba : ∀ p ∈ pa, p.1.length + p.2.length ≤ 1000000) (hbb : ∀ p ∈ pb, p.1.length + p.2.length ≤ 1000000) :
    Calls Try.prog 24 #[va, vb] w fun e w' => ∃ c : Bool, e = .returned (.bool c) ∧ (c = true ↔ sameB pa pb) ∧ Below w.heap.size w w' := by
  have RA := fun n w h hn => refAll_any va pa n w h hn (by omega) hba
  have RB := fun n w h hn => refAll_any vb pb n w h hn (by omega) hbb
  have HRa := Lib.hid hra
  have HRb := Lib.hid hrb
  have HBig := Lib.hid hba
  obtain ⟨ao, ca, rfl, h1⟩ := hra
  obtain ⟨bo, cb, rfl, h2⟩ := hrb
  have HCa := Lib.hid h1
  clear h1 h2 hba hbb
  by_cases hl : pa.length = pb.length
  · have e : ((pa.length : Int) != (pb.length : Int)) = false := by simp [hl]
    have HL := Lib.hid hl
    clear hl
    go_enter Try.func24, Try.ntmps24
    go_wp2_with fail
    go_loopw [16] (fun i wr => ∃ k : Nat, i = .int .i64 k ∧ k ≤ pa.length ∧ (∀ q ∈ pa.take k, allL pa q.1 = allL pb q.1) ∧ Below w.heap.size w wr) (fun i _ => pa.length - (intOf i).toNat)
    case atStart => exact ⟨0, rfl, Nat.zero_le _, (fun q hq => by simp at hq), Below.refl _ _⟩
    case round =>
      obtain ⟨k, rfl, hk, hs, hBr⟩ := hrel
      have hbr := hBr.size
      have HS := Lib.hid hs
      clear hs
      by_cases hlt : k < pa.length
      · obtain ⟨p, hp⟩ : ∃ p, pa[k]? = some p := ⟨pa[k], by simp [hlt]⟩
        obtain ⟨g, off, rfl, hg1, h1, h2⟩ := HCa.out k p hp
        have hc1 : wr.cell? ⟨g, off + k * 2, none⟩ = some (.string (strB p.1)) := (hBr.cell (p := ⟨g, off + k * 2, none⟩) hg1).trans h1
        have hpl := HBig.out p (List.mem_of_getElem? hp)
        have hS : Held1 wr ⟨g, off + k * 2, none⟩ (.string (strB p.1)) wr := ⟨hc1, Below.refl _ _⟩
        obtain ⟨la, hla'⟩ : ∃ la, allL pa p.1 = la := ⟨_, rfl⟩
        obtain ⟨lb, hlb'⟩ : ∃ lb, allL pb p.1 = lb := ⟨_, rfl⟩
        have hal : la.length ≤ 1000 := by rw [← hla']; exact Nat.le_trans (all_len _ _) hla
        have hbl : lb.length ≤ 1000 := by rw [← hlb']; exact Nat.le_trans (all_len _ _) hlb
        have QA : ∀ w', Held1 wr ⟨g, off + k * 2, none⟩ (.string (strB p.1)) w' → Calls Try.prog 15 #[.slice (some ⟨g, off, none⟩) pa.length ca, .string (strB p.1)] w' fun e w'' => ∃ v, e = .returned v ∧ ReadsS w'' v la ∧ Held1 wr ⟨g, off + k * 2, none⟩ (.string (strB p.1)) w'' := fun w' h =>
          (RA p.1 w' (HRa.out.below (hBr.trans (h.2.mono hbr))) (by omega)).mono fun e w'' ⟨v, he, hO, hb'⟩ => ⟨v, he, by rw [← hla']; exact hO.reads, h.below hb'⟩
        have QB : ∀ w' x, Held1 wr ⟨g, off + k * 2, none⟩ (.string (strB p.1)) w' → ReadsS w' x la → Calls Try.prog 15 #[.slice bo pb.length cb, .string (strB p.1)] w' fun e w'' => ∃ v, e = .returned v ∧ ReadsS w'' v lb ∧ ReadsS w'' x la ∧ Held1 wr ⟨g, off + k * 2, none⟩ (.string (strB p.1)) w'' := fun w' x h hx =>
          (RB p.1 w' (HRb.out.below (hBr.trans (h.2.mono hbr))) (by omega)).mono fun e w'' ⟨v, he, hO, hb'⟩ => ⟨v, he, by rw [← hlb']; exact hO.reads, hx.below hb', h.below hb'⟩
        have HP := Lib.hid hp
        have HLa := Lib.hid hla'
        have HLb := Lib.hid hlb'
        clear hp h1 h2 RA RB hla' hlb'
        go_wp2_with fail
        go_region_held3 (fun w' => w'.cell? ⟨g, off + k * 2, none⟩ = some (.string (strB p.1)) ∧ Below wr.heap.size wr w')
          (first | exact hS.drew | exact hS2 | exact hS3)
          (first
            | (go_at_call_of 15 (Value.slice (some ⟨g, off, none⟩) pa.length ca); refine (QA _ (by assumption)).mono ?_; rintro e w2 ⟨x, rfl, hX, hS2⟩)
            | (go_at_call_of 15 (Value.slice bo pb.length cb); refine (QB _ _ (by assumption) (by assumption)).mono ?_; rintro e w3 ⟨y, rfl, hY, hX3, hS3⟩))
        have hB3 := hBr.trans (hS3.2.mono hbr)
        have hb3 := hB3.size
        obtain ⟨xo, cx, rfl, hx⟩ := hX3
        obtain ⟨yo, cy, rfl, hy⟩ := hY
        clear hX QA QB hS hS2 hS3
        have hno : la ≠ lb → ¬ sameB pa pb := fun h h' => h (by have := h'.2 p (List.mem_of_getElem? HP.out); rw [HLa.out, HLb.out] at this; exact this)
        have HNo := Lib.hid hno
        have HX := Lib.hid hx
        have HY := Lib.hid hy
        clear hno hx hy
        by_cases hne : la.length = lb.length
        · have hne1 : la.length ≤ lb.length := by omega
          have hne2 : lb.length ≤ la.length := by omega
          have q0 : ((la.length : Int) != (lb.length : Int)) = false := by simp [hne]
          clear hne
          go_wp2_with fail
          go_loopw [40] (fun i wr => ∃ j n : Nat, i = .int .i64 j ∧ j ≤ la.length ∧ la.take j = lb.take j ∧ wr = w3.drewN n) (fun i _ => la.length - (intOf i).toNat)
          case atStart => exact ⟨0, 0, rfl, Nat.zero_le _, rfl, rfl⟩
          case round =>
            obtain ⟨j, n, rfl, hj, hs, rfl⟩ := hrel
            have HS2 := Lib.hid hs
            clear hs
            by_cases hlt2 : j < la.length
            · obtain ⟨l, hl⟩ : ∃ l, la[j]? = some l := ⟨la[j], by simp [hlt2]⟩
              obtain ⟨m, hm⟩ : ∃ m, lb[j]? = some m := ⟨lb[j]'(by omega), by simp⟩
              obtain ⟨g1, off1, rfl, hg1', d1⟩ := HX.out j l hl
              obtain ⟨g2, off2, rfl, hg2', d2⟩ := HY.out j m hm
              have H1 := Lib.hid hl
              have H2 := Lib.hid hm
              clear hl hm
              by_cases hlm : l = m
              · have heq : ((strB l).toList == (strB m).toList) = true := by rw [hlm]; exact beq_self_eq_true _
                have HLM := Lib.hid hlm
                clear hlm
                go_wp2_with fail
                go_quiet (fail)
                go_wp2_with fail
                go_roundw
                case rel => exact ⟨j + 1, _, by go_num, by omega, take_step HS2.out H1.out H2.out HLM.out, rfl⟩
                case measure => simp [intOf]; omega
              · have heq := toList_other hlm
                have hn := HNo.out (get_other H1.out H2.out hlm)
                have HN := Lib.hid hn
                clear hlm hn
                go_wp2_with fail
                go_quiet (fail)
                go_wp2_with fail
                go_ret
                exact ⟨false, rfl, ⟨(fun h => by cases h), fun h => absurd h HN.out⟩, below_drewN (below_drewN hB3 _) _⟩
            · have he : allL pa p.1 = allL pb p.1 := by rw [HLa.out, HLb.out]; exact take_whole HS2.out (by omega) (by omega)
              have HE := Lib.hid he
              clear he
              go_wp2_with fail
              go_roundw
              case rel => exact ⟨k + 1, by go_num, by omega, same_take HP.out HS.out HE.out, below_drewN hB3 _⟩
              case measure => simp [intOf]; omega
        · have q0 : ((la.length : Int) != (lb.length : Int)) = true := by simp; omega
          have hn := HNo.out fun h => hne (by rw [h])
          have HN := Lib.hid hn
          clear hne hn
          go_wp2_with fail
          go_ret
          exact ⟨false, rfl, ⟨(fun h => by cases h), fun h => absurd h HN.out⟩, hB3⟩
      · go_wp2_with fail
        go_ret
        exact ⟨true, rfl, ⟨fun _ => ⟨HL.out, fun q hq => HS.out q (by rw [List.take_of_length_le (by omega)]; exact hq)⟩, fun _ => rfl⟩, hBr⟩
  · have e : ((pa.length : Int) != (pb.length : Int)) = true := by simp; omega
    have HL := Lib.hid hl
    clear hl RA RB
    go_enter Try.func24, Try.ntmps24
    go_wp2_with fail
    go_ret
    exact ⟨false, rfl, ⟨(fun h => by cases h), fun h => absurd h.1 HL.out⟩, Below.refl _ _⟩
end Go.Proofs.Ythpjemihbobjfaa
