/- What seen returns: a hop among the arguments of AgeChains. -/
import Derived.Test.YtnbjkgkkefjaoaaZChain
import Derived.Test.YtnbjkgkkefjaoaaZLaw4
namespace Go.Proofs.Ytnbjkgkkefjaoaa
open Go.RowKit Go.Sort

abbrev hpV (h : Hp) : Value := .agg #[.int .u8 h.part, .bool h.slow, .int .u16 h.to, .int .u16 h.back, .int .u16 h.kept]
/-- The block N holds a hop. -/
def HpB (N : Nat) (w : World) (h : Hp) : Prop :=
  w.cell? ⟨N, 0, none⟩ = some (.int .u8 h.part) ∧ w.cell? ⟨N, 1, none⟩ = some (.bool h.slow) ∧ w.cell? ⟨N, 2, none⟩ = some (.int .u16 h.to) ∧ w.cell? ⟨N, 3, none⟩ = some (.int .u16 h.back) ∧ w.cell? ⟨N, 4, none⟩ = some (.int .u16 h.kept) ∧ N < w.heap.size
theorem HpB.below {N : Nat} {w w' : World} {h : Hp} (g : HpB N w h) (hb : Below w.heap.size w w') : HpB N w' h := by
  obtain ⟨h1, h2, h3, h4, h5, h6⟩ := g
  exact ⟨(hb.cell (p := ⟨N, 0, none⟩) h6).trans h1, (hb.cell (p := ⟨N, 1, none⟩) h6).trans h2, (hb.cell (p := ⟨N, 2, none⟩) h6).trans h3, (hb.cell (p := ⟨N, 3, none⟩) h6).trans h4, (hb.cell (p := ⟨N, 4, none⟩) h6).trans h5, Nat.lt_of_lt_of_le h6 hb.size⟩
theorem hpB_new (w : World) (h : Hp) (T : TypeId) : HpB w.heap.size (w.alloc (.cells #[.int .u8 h.part, .bool h.slow, .int .u16 h.to, .int .u16 h.back, .int .u16 h.kept] T)) h := by
  refine ⟨?_, ?_, ?_, ?_, ?_, by simp⟩ <;> (rw [World.cell?_alloc_at _ _ _ _ rfl]; rfl)
theorem okB_seen {h : Hp} (ok : h.Ok) (q t : Int) (h0 : 0 ≤ t) (ht : t ≤ 100000000) : okB (10 * h.part) (nearN (pm q) h.part h.slow) 1024 t = true := by
  obtain ⟨_, _, n1, n2⟩ := near_h ok q
  have p := ok.1
  unfold okB rateB
  rw [decide_eq_true (by omega), decide_eq_true (by omega), decide_eq_true (by omega), decide_eq_true (by omega)]; rfl
set_option maxHeartbeats 4000000 in
theorem seen_any {h : Hp} (ok : h.Ok) (q t : Int) (h0 : 0 ≤ t) (ht : t ≤ 100000000) (w : World) :
    Calls Try.prog 36 #[hpV h, .int .i64 q, .int .i64 t] w fun e w' => e = .returned (.tuple #[.int .i64 (seenV h q t), .bool true]) ∧ Below w.heap.size w w' := by
  have HR := Lib.hid (fun W => read_any (10 * h.part) (nearN (pm q) h.part h.slow) 1024 t W)
  rw [readV_yes (okB_seen ok q t h0 ht)] at HR
  have b2 := pm_bd q
  have HP := Lib.hid (fun W => refPpm_any q W)
  have hpb := ok.1
  have eN := Lib.hid (show nearN (pm q) h.part h.slow = if h.slow = true then 1024 + -(pm q * 1024 / 1000000 * h.part / 255) else 1024 + pm q * 1024 / 1000000 * h.part / 255 from rfl)
  have eS := Lib.hid (show 10 * h.part + t * nearN (pm q) h.part h.slow / 1024 = seenV h q t from rfl)
  have nb := near_bd (pm q) h.part h.slow b2.1 b2.2 hpb.1 hpb.2
  rw [eS.out] at HR
  obtain ⟨V, hV⟩ : ∃ V, seenV h q t = V := ⟨_, rfl⟩
  rw [hV] at HR ⊢
  clear eS hV
  obtain ⟨part, slow, to, back, kept⟩ := h
  simp only at HR eN nb hpb ⊢
  clear ok
  obtain ⟨p, hp⟩ : ∃ p, pm q = p := ⟨_, rfl⟩
  rw [hp] at b2 HP eN nb HR
  clear hp
  have m0 : 0 ≤ p * 1024 / 1000000 ∧ p * 1024 / 1000000 ≤ 102 := by omega
  obtain ⟨z, hz⟩ : ∃ z, p * 1024 / 1000000 * part = z := ⟨_, rfl⟩
  have hw : wrap64 (p * 1024 / 1000000 * part) = z := by rw [hz]; exact wrap_in (by omega) (by omega)
  rw [hz] at nb eN
  clear hz
  have z0 : 0 ≤ z ∧ z ≤ 26010 := nb.2.2.2.2
  clear nb
  obtain ⟨N, hN⟩ : ∃ N, nearN p part slow = N := ⟨_, rfl⟩
  rw [hN] at HR eN
  clear hN
  have hB0 := hpB_new w ⟨part, slow, to, back, kept⟩ 70
  have HB := Lib.hid (below_new w (.cells #[.int .u8 part, .bool slow, .int .u16 to, .int .u16 back, .int .u16 kept] 70))
  cases slow with
  | true =>
    rw [if_pos rfl] at eN
    rw [eN.out] at HR
    go_enter Try.func36, Try.ntmps36
    go_wp2_with fail
    obtain ⟨c0, c1, c2, c3, c4, c5⟩ := hB0
    generalize w.alloc (.cells #[.int .u8 part, .bool true, .int .u16 to, .int .u16 back, .int .u16 kept] 70) = w0 at *
    refine (HP.out _).mono ?_
    rintro e w' ⟨rfl, rfl⟩
    go_wp2_with fail
    refine (HR.out _).mono ?_
    rintro e w1 ⟨rfl, hB⟩
    have HB1 := Lib.hid (HB.out.trans (hB.mono HB.out.size))
    clear hB HB c0 c1 c2 c3 c4 c5
    go_wp2_with fail
    go_quiet (fail)
    go_wp2_with fail
    go_ret2
    exact ⟨rfl, below_drewN HB1.out _⟩
  | false =>
    rw [if_neg (by simp)] at eN
    rw [eN.out] at HR
    go_enter Try.func36, Try.ntmps36
    go_wp2_with fail
    obtain ⟨c0, c1, c2, c3, c4, c5⟩ := hB0
    generalize w.alloc (.cells #[.int .u8 part, .bool false, .int .u16 to, .int .u16 back, .int .u16 kept] 70) = w0 at *
    refine (HP.out _).mono ?_
    rintro e w' ⟨rfl, rfl⟩
    go_wp2_with fail
    refine (HR.out _).mono ?_
    rintro e w1 ⟨rfl, hB⟩
    have HB1 := Lib.hid (HB.out.trans (hB.mono HB.out.size))
    clear hB HB c0 c1 c2 c3 c4 c5
    go_wp2_with fail
    go_quiet (fail)
    go_wp2_with fail
    go_ret2
    exact ⟨rfl, below_drewN HB1.out _⟩
/-- The value v is a slice of hops that reads as hs in the world w. -/
def ReadsH (w : World) (v : Value) (hs : List Hp) : Prop :=
  ∃ ao cap, v = .slice ao hs.length cap ∧ ∀ j h, hs[j]? = some h → ∃ g off, ao = some ⟨g, off, none⟩ ∧ g < w.heap.size ∧ w.cell? ⟨g, off + j * 5, none⟩ = some (.int .u8 h.part) ∧ w.cell? ⟨g, off + j * 5 + 1, none⟩ = some (.bool h.slow) ∧ w.cell? ⟨g, off + j * 5 + 2, none⟩ = some (.int .u16 h.to) ∧ w.cell? ⟨g, off + j * 5 + 3, none⟩ = some (.int .u16 h.back) ∧ w.cell? ⟨g, off + j * 5 + 4, none⟩ = some (.int .u16 h.kept)
end Go.Proofs.Ytnbjkgkkefjaoaa
