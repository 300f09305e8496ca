/- The code's byName: the fields with their names in lower case, in the stable order. -/
import Derived.Test.YthpjemihbobjfaaSortFn
import Derived.Test.YthpjemihbobjfaaRefSet
namespace Go.Proofs.Ythpjemihbobjfaa
open Go.RowKit

theorem reads_oneP (w : World) (a b : List UInt8) (T : TypeId) : ReadsQ (w.alloc (.cells #[.string (strB a), .string (strB b)] T)) (.slice (some ⟨w.heap.size, 0, none⟩) 1 1) [(a, b)] := by
  refine ⟨_, 1, rfl, fun j p hj => ⟨w.heap.size, 0, rfl, by simp, ?_⟩⟩
  match j, hj with
  | 0, hj =>
    simp at hj; subst hj
    have h0 := two_new w a b T 0 _ rfl
    have h1 := two_new w a b T 1 _ rfl
    exact ⟨h0, h1⟩
  | j + 1, hj => simp at hj
theorem sane_one' (a : Addr) : Sane (.slice (some a) 1 1) := fun x n c e => by cases e; exact ⟨Nat.le_refl _, fun h => by cases h⟩
theorem below_box {B : Nat} {w0 w w' : World} {o : Obj} (hB : Below B w0 w) (hBs : B ≤ w.heap.size) (h : Below (w.alloc o).heap.size (w.alloc o) w') : Below B w0 w' :=
  hB.trans ((below_new w o).trans (h.mono (by simp)) |>.mono hBs)

set_option maxHeartbeats 4000000 in
set_option maxRecDepth 100000 in
theorem byName_any (fv : Value) (ps : Flds) (w : World) (hr : ReadsQ w fv ps) (hl : ps.length ≤ 1000) (hb : ∀ p ∈ ps, p.1.length + p.2.length ≤ 1000000) :
    Calls Try.prog 34 #[fv] w fun e w' => ∃ v Z, e = .returned v ∧ Srt Z ∧ SameF Z (lowF ps) ∧ OwnsP 42 w.heap.size w' v Z ∧ Below w.heap.size w w' := by
  obtain ⟨i0, hi, hz0, hz1, hz2⟩ := info_parts Try.infoF
  obtain ⟨ao, cap, rfl, hc⟩ := hr
  have HC := Lib.hid hc
  have HBig := Lib.hid hb
  clear hc hb
  go_enter Try.func34, Try.ntmps34
  go_wp2_with fail
  go_loopw [3, 8] (fun v i wr => ∃ k : Nat, i = .int .i64 k ∧ k ≤ ps.length ∧ OwnsP 42 w.heap.size wr v (lowF (ps.take k)) ∧ Below w.heap.size w wr) (fun _ i _ => ps.length - (intOf i).toNat)
  case atStart => exact ⟨0, rfl, Nat.zero_le _, OwnsP.nil _ _ _, Below.refl _ _⟩
  case round =>
    obtain ⟨k, rfl, hk, hO, hBr⟩ := hrel
    have hbr := hBr.size
    by_cases hlt : k < ps.length
    · obtain ⟨p, hp⟩ : ∃ p, ps[k]? = some p := ⟨ps[k], by simp [hlt]⟩
      obtain ⟨g, off, rfl, hg1, h1, h2⟩ := HC.out k p hp
      have hc1 : wr.cell? ⟨g, off + k * 2, none⟩ = some (.string (strB p.1)) := (hBr.cell (p := ⟨g, off + k * 2, none⟩) hg1).trans h1
      have hc2 : wr.cell? ⟨g, off + k * 2 + 1, none⟩ = some (.string (strB p.2)) := (hBr.cell (p := ⟨g, off + k * 2 + 1, none⟩) hg1).trans h2
      have hpl := HBig.out p (List.mem_of_getElem? hp)
      have hlen : (lowF (ps.take k)).length = k := by rw [lowF_len]; simp; omega
      have HP := Lib.hid hp
      have HLen := Lib.hid hlen
      have LN : ∀ w', Below (wr.alloc (.cells #[.string (strB p.1), .string (strB p.2)] 42)).heap.size (wr.alloc (.cells #[.string (strB p.1), .string (strB p.2)] 42)) w' →
          Calls Try.prog 29 #[.agg #[.string (strB p.1), .string (strB p.2)]] w' fun e w'' => e = .returned (.string (strB (lowS p.1))) ∧
            w''.cell? ⟨wr.heap.size, 1, none⟩ = some (.string (strB p.2)) ∧ OwnsP 42 w.heap.size w'' _ (lowF (ps.take k)) ∧ Below w.heap.size w w'' ∧ w.heap.size ≤ w''.heap.size := fun w' hB' =>
        (lowerName_any p.1 p.2 w' (by omega)).mono fun e w'' ⟨he, hb'⟩ => by
          have hB'' := hB'.trans (hb'.mono hB'.size)
          have := below_box hBr hbr hB''
          exact ⟨he, (pair_kept hB'').2, OwnsP.below (OwnsP.below hO (below_new wr _)) hB'', this, this.size⟩
      have hpn := new_pair wr (.string (strB p.1)) (.string (strB p.2)) 42
      have hn1 := hpn.1
      have hn2 := hpn.2
      clear hp h1 h2 hlen hpn
      go_wp2_with fail
      go_region_law (first
        | (refine step_appendP (qs := [(lowS p.1, p.2)]) hi hz0 hz1 hz2 Try.underlying28 rfl (.tmp 12) (.tmp 18) rfl u3 (.slice (some ⟨w2.heap.size, 0, none⟩) 1 1) (by simp [Act.eval]) (by simp [Act.eval]) (OwnsP.below hO1 (below_new _ _)) (reads_oneP _ _ _ _) (sane_one' _) (by rw [HLen.out]; simp; omega) (by simp; omega) ?_; intro v3 w5 hO5 hg5)
        | (go_simp; go_at_call 29; refine (LN _ (by first | exact Below.refl _ _ | exact (Below.refl _ _).drew)).mono ?_; rintro e w2 ⟨rfl, hd2, hO1, hB1, hs1⟩))
      all_goals
        go_wp2_with fail
        go_roundw
        case rel => exact ⟨k + 1, by go_num, by omega, by rw [lowF_more HP.out]; exact hO5, (hB1.alloc hs1 _).grown hg5 (by simp; omega) (fun q hq => (World.ownsRow.lt hO1 q hq).1)⟩
        case measure => simp [intOf]; omega
    · have htk : ps.take k = ps := List.take_of_length_le (by omega)
      rw [htk] at hO
      have SR := fun u hu => sortStable_any w.heap.size u (lowF ps) wr hu hbr (by rw [lowF_len]; omega)
      have SR := SR _ hO
      clear hO
      go_wp2_with fail
      refine SR.mono ?_
      rintro e w1 ⟨rfl, Z, h1, h2, h3, h4⟩
      go_wp2_with fail
      go_ret
      exact ⟨_, Z, rfl, h1, h2, h3, hBr.trans h4⟩
end Go.Proofs.Ythpjemihbobjfaa
