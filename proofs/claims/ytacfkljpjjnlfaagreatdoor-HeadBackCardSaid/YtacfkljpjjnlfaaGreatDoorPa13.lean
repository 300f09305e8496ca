import Derived.Test.YtacfkljpjjnlfaaGreatDoorPa12
import Derived.Test.YtacfkljpjjnlfaaGreatDoorPa11
import Derived.Test.YtacfkljpjjnlfaaGreatDoorPa8
import Derived.OneCell
/- What the program's sole.Value returns. -/
namespace Go.Proofs.YtacfkljpjjnlfaaGreatDoor
open Go.RowKit

set_option maxHeartbeats 2000000 in
set_option maxRecDepth 100000 in
theorem sole_any (fv : Value) (ps : Flds) (n : ByteArray) (w : World) (hr : ReadsQ w fv ps) (hn : n.size ≤ 1000000000) (hl : ps.length ≤ 1000000) (hb : ∀ p ∈ ps, p.1.length + p.2.length ≤ 1000000) :
    Calls Tryz.prog 52 #[fv, .string n] w fun e w' => e = .returned (.tuple #[.string (strB (oneL (allL ps n.data.toList)).1), .bool (oneL (allL ps n.data.toList)).2]) ∧ Below w.heap.size w w' := by
  have HA := Lib.hid (all_any fv ps n w hr hn hl hb)
  have hll := all_len ps n.data.toList
  clear hr hb
  generalize allL ps n.data.toList = ls at *
  rcases ls with _ | ⟨v, _ | ⟨b, r⟩⟩
  · go_enter Tryz.func52, Tryz.ntmps52
    go_wp2_with fail
    refine HA.out.mono ?_
    rintro e w1 ⟨x, rfl, hO, hB1⟩
    rcases hO.open' with ⟨rfl, hz⟩ | ⟨g, cap, rfl, _, hg, hc⟩
    · go_wp2_with fail
      go_ret2
      exact ⟨rfl, hB1⟩
    · clear hc hO
      go_wp2_with fail
      go_ret2
      exact ⟨rfl, hB1⟩
  · go_enter Tryz.func52, Tryz.ntmps52
    go_wp2_with fail
    refine HA.out.mono ?_
    rintro e w1 ⟨x, rfl, hO, hB1⟩
    rcases hO.open' with ⟨rfl, hz⟩ | ⟨g, cap, rfl, _, hg, hc⟩
    · cases hz
    · have hc0 : w1.cell? ⟨g, 0, none⟩ = some (.string (strB v)) := hc 0 v rfl
      have hone : ([v] : List (List UInt8)).length = 1 := rfl
      rw [hone]
      clear hc hO hone
      go_wp2_with fail
      go_ret2
      exact ⟨rfl, hB1⟩
  · have hb : (((v :: b :: r).length : Int) != 1) = true := by simp; omega
    have hv : (oneL (v :: b :: r)) = ([], false) := rfl
    rw [hv]
    clear hv
    have HA2 : Calls Tryz.prog 83 #[fv, .string n] w fun e w' => ∃ g cap, e = .returned (.slice (some ⟨g, 0, none⟩) (v :: b :: r).length cap) ∧ Below w.heap.size w w' := by
      refine HA.out.mono ?_
      rintro e w1 ⟨x, rfl, hO, hB1⟩
      rcases hO.open' with ⟨rfl, hz⟩ | ⟨g, cap, rfl, _, hg, hc⟩
      · cases hz
      · exact ⟨g, cap, rfl, hB1⟩
    have HA3 := Lib.hid HA2
    clear HA HA2
    generalize (v :: b :: r).length = m at *
    go_enter Tryz.func52, Tryz.ntmps52
    go_wp2_with fail
    refine HA3.out.mono ?_
    rintro e w1 ⟨g, cap, rfl, hB1⟩
    go_wp2_with fail
    go_ret2
    exact ⟨rfl, hB1⟩
end Go.Proofs.YtacfkljpjjnlfaaGreatDoor

/- The host of a request: what the program's withHost returns. -/
namespace Go.Proofs.YtacfkljpjjnlfaaGreatDoor
open Go.RowKit

theorem withH_nil {fs : Fs} (h : allL fs hostN = []) : withH hostO fs = none := by unfold withH; rw [h]
theorem withH_many {fs : Fs} {a b : List UInt8} {r : List (List UInt8)} (h : allL fs hostN = a :: b :: r) : withH hostO fs = none := by unfold withH; rw [h]
theorem withH_bad {fs : Fs} {a : List UInt8} (h : allL fs hostN = [a]) (ha : hostO a = none) : withH hostO fs = none := by unfold withH; rw [h]; simp only; rw [ha]; rfl
theorem withH_good {fs : Fs} {a y : List UInt8} (h : allL fs hostN = [a]) (ha : hostO a = some y) : withH hostO fs = some (setL fs hostN y) := by unfold withH; rw [h]; simp only; rw [ha]; rfl
/-- What withHost leaves. -/
def HostPost (fs : Fs) (w : World) (e : Ending) (w' : World) : Prop :=
  ∃ v, e = .returned (.tuple #[v, errV (if withH hostO fs = none then 29 else 0)]) ∧ OwnsP 91 w.heap.size w' v ((withH hostO fs).getD []) ∧ Below w.heap.size w w'
theorem hostPost_no {fs : Fs} {w w' : World} (h : withH hostO fs = none) (hB : Below w.heap.size w w') : HostPost fs w (.returned (.tuple #[.slice none 0 0, .iface 64 (.int .i64 29)])) w' :=
  ⟨.slice none 0 0, by rw [if_pos h]; rfl, by rw [h]; exact OwnsP.nil _ _ _, hB⟩
theorem allL_part {fs : Fs} {n : List UInt8} {M : Nat} (hb : ∀ p ∈ fs, p.1.length + p.2.length ≤ M) : ∀ l ∈ allL fs n, l.length ≤ M := by
  intro l hl
  unfold allL at hl
  obtain ⟨p, hp, rfl⟩ := List.mem_map.1 hl
  have := hb p (List.mem_filter.1 hp).1
  omega
set_option maxHeartbeats 4000000 in
set_option maxRecDepth 100000 in
theorem withHost_any (fv : Value) (fs : Fs) (w : World) (hr : ReadsQ w fv fs) (hM : HasMax w) (hl : fs.length ≤ 1000) (hb : ∀ p ∈ fs, p.1.length + p.2.length ≤ 1000000) :
    Calls Tryz.prog 29 #[fv] w (HostPost fs w) := by
  have HA := sole_any fv fs (strB hostN) w hr (by decide) (by omega) hb
  rw [strB_list] at HA
  have HP := allL_part (n := hostN) hb
  have HR := Lib.hid hr
  have HS := Lib.hid (fun y w (hr : ReadsQ w fv fs) (hy : y.length ≤ 1000000) => set_any fv fs hostN y w hr (by decide) (by omega) hl hb)
  have HM := Lib.hid hM
  clear hb hM
  obtain ⟨ao, cap, rfl, hc⟩ := hr
  clear hc
  rcases hls : allL fs hostN with _ | ⟨a, _ | ⟨b, r⟩⟩
  · have HN := Lib.hid (withH_nil hls)
    rw [hls] at HA
    unfold oneL at HA
    clear hls HP
    go_enter Tryz.func29, Tryz.ntmps29
    go_wp2_with fail
    refine HA.mono ?_
    rintro e w1 ⟨rfl, hB⟩
    go_wp2_with fail
    go_ret2
    exact hostPost_no HN.out hB
  · rw [hls] at HA
    unfold oneL at HA
    have ha := HP a (by rw [hls]; simp)
    have HH := Lib.hid (fun w hM => hostM_any (strB a) w hM (by rw [strB_size]; unfold maxLen; omega))
    rw [strB_list] at HH
    clear HP
    cases hh : hostO a with
    | none =>
      have HN := Lib.hid (withH_bad hls hh)
      rw [hostV_no hh] at HH
      clear hls hh
      go_enter Tryz.func29, Tryz.ntmps29
      go_wp2_with fail
      refine HA.mono ?_
      rintro e w1 ⟨rfl, hB⟩
      go_wp2_with fail
      refine (HH.out _ (HM.out.below hB)).mono ?_
      rintro e w2 ⟨rfl, hB2⟩
      go_wp2_with fail
      go_ret2
      exact hostPost_no HN.out (hB.trans (hB2.mono hB.size))
    | some y =>
      have HN := Lib.hid (withH_good hls hh)
      have hy : y.length ≤ 1000000 := by rw [(hostO_some hh).1, lowS_len]; exact ha
      rw [hostV_yes hh] at HH
      clear hls hh
      go_enter Tryz.func29, Tryz.ntmps29
      go_wp2_with fail
      refine HA.mono ?_
      rintro e w1 ⟨rfl, hB⟩
      go_wp2_with fail
      refine (HH.out _ (HM.out.below hB)).mono ?_
      rintro e w2 ⟨rfl, hB2⟩
      have hB2' := hB.trans (hB2.mono hB.size)
      go_wp2_with fail
      refine (HS.out y _ (HR.out.below hB2') hy).mono ?_
      rintro e w3 ⟨v3, rfl, hO3, hB3⟩
      go_wp2_with fail
      go_ret2
      exact ⟨_, by rw [HN.out]; rfl, by rw [HN.out]; exact OwnsP.mono hB2'.size hO3, hB2'.trans (hB3.mono hB2'.size)⟩
  · have HN := Lib.hid (withH_many hls)
    rw [hls] at HA
    unfold oneL at HA
    clear hls HP
    go_enter Tryz.func29, Tryz.ntmps29
    go_wp2_with fail
    refine HA.mono ?_
    rintro e w1 ⟨rfl, hB⟩
    go_wp2_with fail
    go_ret2
    exact hostPost_no HN.out hB
end Go.Proofs.YtacfkljpjjnlfaaGreatDoor

/- What the program's ReadRequest returns. -/
namespace Go.Proofs.YtacfkljpjjnlfaaGreatDoor
open Go.RowKit

abbrev rdQ (l : List UInt8) := readQ nmO vlO hostO lowS l
theorem reqC_pos {m t : List UInt8} (h : reqC m t ≠ 0) : (methodB m = false ∧ reqC m t = 26) ∨ (methodB m = true ∧ targetB m t = false ∧ reqC m t = 27) := by
  unfold reqC at h ⊢
  cases h1 : methodB m with
  | false => exact .inl ⟨rfl, by simp⟩
  | true =>
    cases h2 : targetB m t with
    | false => exact .inr ⟨rfl, rfl, by simp⟩
    | true => rw [h1, h2] at h; simp at h
theorem reqC_zero {m t : List UInt8} (h : reqC m t = 0) : methodB m = true ∧ targetB m t = true := by
  unfold reqC at h
  cases h1 : methodB m with
  | false => rw [h1] at h; simp at h
  | true =>
    cases h2 : targetB m t with
    | false => rw [h1, h2] at h; simp at h
    | true => exact ⟨rfl, rfl⟩
theorem reqL_cons (nm vl hs : List UInt8 → Option (List UInt8)) (lw : List UInt8 → List UInt8) (x : List UInt8) (t : List (List UInt8)) : reqL nm vl hs lw (x :: t) =
    (if methodB (cutG 32 x).1 = false then (26, [], [], [])
    else if targetB (cutG 32 x).1 (cutG 32 (cutG 32 x).2).1 = false then (27, [], [], [])
    else if (cutG 32 (cutG 32 x).2).2 ≠ verL then (28, [], [], [])
    else if (readFs nm vl t).1 ≠ 0 then ((readFs nm vl t).1, [], [], [])
    else match hosted hs lw (readFs nm vl t).2 with
      | none => (29, [], [], [])
      | some fs => (0, (cutG 32 x).1, (cutG 32 (cutG 32 x).2).1, fs)) := rfl
/-- A request, read from its lines, by the number of the start line's error. -/
theorem reqL_start {nm vl hs : List UInt8 → Option (List UInt8)} {lw : List UInt8 → List UInt8} {x : List UInt8} {t : List (List UInt8)} (h : startC x ≠ 0) : reqL nm vl hs lw (x :: t) = (startC x, [], [], []) := by
  unfold startC at h ⊢
  rw [reqL_cons]
  by_cases h1 : reqC (cutG 32 x).1 (cutG 32 (cutG 32 x).2).1 ≠ 0
  · rw [if_pos h1]
    rcases reqC_pos h1 with ⟨a, b⟩ | ⟨a, b, c⟩
    · rw [b, if_pos a]
    · rw [c, if_neg (by rw [a]; simp), if_pos b]
  · rw [if_neg h1] at h ⊢
    simp only [ne_eq, Decidable.not_not] at h1
    obtain ⟨a, b⟩ := reqC_zero h1
    by_cases h2 : (cutG 32 (cutG 32 x).2).2 ≠ verL
    · rw [if_pos h2, if_neg (by rw [a]; simp), if_neg (by rw [b]; simp), if_pos h2]
    · rw [if_neg h2] at h; exact absurd rfl h
theorem reqL_rest {nm vl hs : List UInt8 → Option (List UInt8)} {lw : List UInt8 → List UInt8} {x : List UInt8} {t : List (List UInt8)} (h : startC x = 0) :
    reqL nm vl hs lw (x :: t) = if (readFs nm vl t).1 ≠ 0 then ((readFs nm vl t).1, [], [], []) else match hosted hs lw (readFs nm vl t).2 with
      | none => (29, [], [], [])
      | some fs => (0, (cutG 32 x).1, (cutG 32 (cutG 32 x).2).1, fs) := by
  unfold startC at h
  rw [reqL_cons]
  by_cases h1 : reqC (cutG 32 x).1 (cutG 32 (cutG 32 x).2).1 ≠ 0
  · rw [if_pos h1] at h; exact absurd h h1
  · rw [if_neg h1] at h
    simp only [ne_eq, Decidable.not_not] at h1
    obtain ⟨a, b⟩ := reqC_zero h1
    by_cases h2 : (cutG 32 (cutG 32 x).2).2 ≠ verL
    · rw [if_pos h2] at h; exact absurd h (by decide)
    · rw [if_neg (by rw [a]; simp), if_neg (by rw [b]; simp), if_neg h2]
theorem readFs_mem {nm vl : List UInt8 → Option (List UInt8)} : ∀ {ls : List (List UInt8)}, ∀ f ∈ (readFs nm vl ls).2, ∃ l ∈ ls, f = (readF nm vl l).2 ∧ (readF nm vl l).1 = 0 := by
  intro ls
  induction ls with
  | nil => intro f hf; simp [readFs] at hf
  | cons x t ih =>
    intro f hf
    rw [readFs] at hf
    by_cases h1 : (readF nm vl x).1 ≠ 0
    · rw [if_pos h1] at hf; simp at hf
    · rw [if_neg h1] at hf
      by_cases h2 : (readFs nm vl t).1 ≠ 0
      · rw [if_pos h2] at hf; simp at hf
      · rw [if_neg h2] at hf
        rcases List.mem_cons.1 hf with rfl | hf
        · exact ⟨x, by simp, rfl, by simpa using h1⟩
        · obtain ⟨l, hl, e⟩ := ih f hf
          exact ⟨l, by simp [hl], e⟩
theorem readFs_len {nm vl : List UInt8 → Option (List UInt8)} : ∀ (ls : List (List UInt8)), (readFs nm vl ls).2.length ≤ ls.length := by
  intro ls
  induction ls with
  | nil => simp [readFs]
  | cons x t ih =>
    rw [readFs]
    by_cases h1 : (readF nm vl x).1 ≠ 0
    · rw [if_pos h1]; simp
    · rw [if_neg h1]
      by_cases h2 : (readFs nm vl t).1 ≠ 0
      · rw [if_pos h2]; simp
      · rw [if_neg h2]; simp; exact ih
theorem readFs_lower (ls : List (List UInt8)) : ∀ f ∈ (readFs nmO vlO ls).2, lowS f.1 = f.1 := by
  intro f hf
  obtain ⟨l, _, rfl, h0⟩ := readFs_mem f hf
  exact readF_low (fun h => (nmO_some h).1) l h0
theorem OwnsS.room {B : Nat} {w : World} {v : Value} {x : List UInt8} {t : List (List UInt8)} (hO : OwnsS B w v (x :: t)) :
    ∃ g cap, v = .slice (some ⟨g, 0, none⟩) (t.length + 1) cap ∧ t.length + 1 ≤ cap ∧ g < w.heap.size ∧ (∀ j l, (x :: t)[j]? = some l → w.cell? ⟨g, j, none⟩ = some (.string (strB l))) := by
  rcases hO.open' with ⟨_, h⟩ | ⟨g, cap, hv, hb, hg, hc⟩
  · cases h
  · refine ⟨g, cap, by rw [hv]; rfl, ?_, hg, hc⟩
    rcases hO with ⟨hl, ⟨hv', hn⟩ | ⟨g', cap', cur, hv', hb', hg', hn, _⟩⟩
    · rw [hv'] at hv; cases hv
    · rw [hv'] at hv
      simp only [Value.slice.injEq, Option.some.injEq, Addr.mk.injEq, and_true, true_and] at hv
      obtain ⟨_, rfl⟩ := hv
      simpa using hn
theorem tail_reads {w : World} {g : Nat} {x : List UInt8} {t : List (List UInt8)} (ao : Option Addr) (cap : Nat) (hg : g < w.heap.size) (hc : ∀ j l, (x :: t)[j]? = some l → w.cell? ⟨g, j, none⟩ = some (.string (strB l)))
    (ha : t ≠ [] → ao = some ⟨g, 1, none⟩) : ReadsS w (.slice ao t.length cap) t := by
  refine ⟨ao, cap, rfl, fun j l hj => ?_⟩
  have hne : t ≠ [] := by rintro rfl; simp at hj
  exact ⟨g, 1, ha hne, hg, hc (1 + j) l (by rw [Nat.add_comm]; simpa using hj)⟩
/-- A new variable of three cells, kept over calls. -/
theorem three_kept (w : World) {a b c : Value} {t : TypeId} {w' : World} (h : Below (w.alloc (.cells #[a, b, c] t)).heap.size (w.alloc (.cells #[a, b, c] t)) w') :
    w'.cell? ⟨w.heap.size, 0, none⟩ = some a ∧ w'.cell? ⟨w.heap.size, 1, none⟩ = some b ∧ w'.cell? ⟨w.heap.size, 2, none⟩ = some c ∧ w'.frozen? ⟨w.heap.size, 0, none⟩ = false ∧ w'.frozen? ⟨w.heap.size, 1, none⟩ = false ∧ w'.frozen? ⟨w.heap.size, 2, none⟩ = false ∧ w.heap.size < w'.heap.size := by
  have hs : w.heap.size < (w.alloc (.cells #[a, b, c] t)).heap.size := by simp
  have hc : ∀ j, (w.alloc (.cells #[a, b, c] t)).cell? ⟨w.heap.size, j, none⟩ = (#[a, b, c] : Array Value)[j]? := fun j => by rw [World.cell?_alloc_at _ _ _ _ rfl]
  have hf : ∀ j, (w.alloc (.cells #[a, b, c] t)).frozen? ⟨w.heap.size, j, none⟩ = false := fun j => World.frozen?_alloc_at _ _ _ _ rfl
  exact ⟨(h.cell (p := ⟨w.heap.size, 0, none⟩) hs).trans (hc 0), (h.cell (p := ⟨w.heap.size, 1, none⟩) hs).trans (hc 1), (h.cell (p := ⟨w.heap.size, 2, none⟩) hs).trans (hc 2),
    (h.frozen (p := ⟨w.heap.size, 0, none⟩) hs).trans (hf 0), (h.frozen (p := ⟨w.heap.size, 1, none⟩) hs).trans (hf 1), (h.frozen (p := ⟨w.heap.size, 2, none⟩) hs).trans (hf 2), Nat.lt_of_lt_of_le hs h.size⟩
theorem below_three {w w' : World} (h : Below w.heap.size w w') (a b c : Value) : Below w.heap.size w (((w'.setCell ⟨w.heap.size, 0, none⟩ a).setCell ⟨w.heap.size, 1, none⟩ b).setCell ⟨w.heap.size, 2, none⟩ c) :=
  ((h.setCell (p := ⟨w.heap.size, 0, none⟩) (Nat.le_refl _) a).setCell (p := ⟨w.heap.size, 1, none⟩) (Nat.le_refl _) b).setCell (p := ⟨w.heap.size, 2, none⟩) (Nat.le_refl _) c
/-- A slice of the call's own is kept when the first block is written. -/
theorem ownsP_three (w : World) {T : TypeId} {w' : World} {v : Value} {ps : Fs} (h : OwnsP T (w.heap.size + 1) w' v ps) (a b c : Value) :
    OwnsP T w.heap.size (((w'.setCell ⟨w.heap.size, 0, none⟩ a).setCell ⟨w.heap.size, 1, none⟩ b).setCell ⟨w.heap.size, 2, none⟩ c) v ps := by
  have hn : ∀ k, v.ownBlock ≠ some (⟨w.heap.size, k, none⟩ : Addr).block := fun k hq => by have := (World.ownsRow.lt h _ hq).1; simp at this; omega
  exact OwnsP.mono (Nat.le_succ _) (ownsRow_setCell_other (ownsRow_setCell_other (ownsRow_setCell_other h (hn 0) a) (hn 1) b) (hn 2) c)
/-- What ReadRequest leaves. -/
def ReqPost (l : List UInt8) (w : World) (e : Ending) (w' : World) : Prop :=
  ∃ v, e = .returned (.tuple #[.agg #[.string (strB (rdQ l).2.1.1), .string (strB (rdQ l).2.1.2.1), v], .int .i64 ((rdQ l).2.2 : Int), errV (rdQ l).1]) ∧ OwnsP 91 w.heap.size w' v (rdQ l).2.1.2.2 ∧ Below w.heap.size w w'
theorem reqPost_err {l : List UInt8} {w w' : World} {c : Nat} (h : rdQ l = (c, ([], [], []), 0)) (hc : c ≠ 0) (hB : Below w.heap.size w w') :
    ReqPost l w (.returned (.tuple #[.agg #[.string ⟨#[]⟩, .string ⟨#[]⟩, .slice none 0 0], .int .i64 0, .iface 64 (.int .i64 c)])) w' :=
  ⟨.slice none 0 0, by rw [h, errV_no hc]; rfl, by rw [h]; exact OwnsP.nil _ _ _, hB⟩
theorem rdQ_split {l : List UInt8} {c : Nat} (h : (splitG l).1 = c) (hc : c ≠ 0) : rdQ l = (c, ([], [], []), 0) := by
  unfold rdQ readQ; rw [h, if_pos hc]
theorem rdQ_lines {l : List UInt8} (h : (splitG l).1 = 0) : rdQ l = if (reqL nmO vlO hostO lowS (splitG l).2.1).1 ≠ 0 then ((reqL nmO vlO hostO lowS (splitG l).2.1).1, ([], [], []), 0) else (0, (reqL nmO vlO hostO lowS (splitG l).2.1).2, (splitG l).2.2) := by
  unfold rdQ readQ; rw [if_neg (by rw [h]; simp)]
/-- The lines of a head that is divided. -/
theorem split_lines {l : List UInt8} (h : (splitG l).1 = 0) : ∃ x t, (splitG l).2.1 = x :: t ∧ t.length ≤ 64 ∧ (∀ y ∈ x :: t, y.length ≤ l.length) := by
  obtain ⟨h1, h2, h3, h4, h5, h6, h7⟩ := splitG_some (s := l) (l := (splitG l).2.1) (n := (splitG l).2.2) (Prod.ext h rfl)
  cases hx : (splitG l).2.1 with
  | nil => exact absurd hx h1
  | cons x t =>
    refine ⟨x, t, rfl, by rw [hx] at h7; simp at h7; omega, fun y hy => ?_⟩
    rw [← hx] at hy
    have := enc_part _ y hy
    omega
/-- What divide, the start line, the fields and the host make of a request. -/
theorem rdQ_f {l x : List UInt8} {t : List (List UInt8)} (h : (splitG l).1 = 0) (hx : (splitG l).2.1 = x :: t) (h1 : startC x = 0) (h2 : (readFs nmO vlO t).1 ≠ 0) : rdQ l = ((readFs nmO vlO t).1, ([], [], []), 0) := by
  rw [rdQ_lines h, hx, reqL_rest h1, if_pos h2, if_pos h2]
theorem rdQ_h {l x : List UInt8} {t : List (List UInt8)} (h : (splitG l).1 = 0) (hx : (splitG l).2.1 = x :: t) (h1 : startC x = 0) (h2 : (readFs nmO vlO t).1 = 0) (hh : withH hostO (readFs nmO vlO t).2 = none) : rdQ l = (29, ([], [], []), 0) := by
  have e : reqL nmO vlO hostO lowS (x :: t) = (29, [], [], []) := by rw [reqL_rest h1, if_neg (by rw [h2]; simp), hosted_with (readFs_lower t), hh]
  rw [rdQ_lines h, hx, e]; rfl
theorem rdQ_g {l x : List UInt8} {t : List (List UInt8)} {fs : Fs} (h : (splitG l).1 = 0) (hx : (splitG l).2.1 = x :: t) (h1 : startC x = 0) (h2 : (readFs nmO vlO t).1 = 0) (hh : withH hostO (readFs nmO vlO t).2 = some fs) : rdQ l = (0, ((cutG 32 x).1, (cutG 32 (cutG 32 x).2).1, fs), (splitG l).2.2) := by
  have e : reqL nmO vlO hostO lowS (x :: t) = (0, (cutG 32 x).1, (cutG 32 (cutG 32 x).2).1, fs) := by rw [reqL_rest h1, if_neg (by rw [h2]; simp), hosted_with (readFs_lower t), hh]
  rw [rdQ_lines h, hx, e]; rfl
theorem startV_no {x : List UInt8} (h : startC x ≠ 0) : startV x = .tuple #[.string ⟨#[]⟩, .string ⟨#[]⟩, .iface 64 (.int .i64 (startC x))] := by unfold startV; rw [if_neg h]; rfl
theorem startV_yes {x : List UInt8} (h : startC x = 0) : startV x = .tuple #[.string (strB (cutG 32 x).1), .string (strB (cutG 32 (cutG 32 x).2).1), .nilIface] := by unfold startV; rw [if_pos h]
set_option maxHeartbeats 8000000 in
set_option maxRecDepth 100000 in
theorem readRequest_any (v : Value) (l : List UInt8) (w : World) (hr : ReadsB w v l) (hM : HasMax w) (hl : l.length ≤ 100000) :
    Calls Tryz.prog 10 #[v] w (ReqPost l w) := by
  have hB0 : Below w.heap.size w (w.alloc (.cells #[.string ⟨#[]⟩, .string ⟨#[]⟩, .slice none 0 0] 27)) := below_new _ _
  have hM0 := hM.below hB0
  have D := divideG_any v l _ (hr.below hB0) hM0 hl
  have HM := Lib.hid hM0
  clear hr hM hM0
  go_enter Tryz.func10, Tryz.ntmps10
  go_wp2_with fail
  refine D.mono ?_
  rintro e w1 ⟨v1, he, hO, hB⟩
  clear D
  by_cases hs : (splitG l).1 = 0
  · obtain ⟨x, t, hx, ht, hpl⟩ := split_lines hs
    rw [hs, show errV 0 = .nilIface from rfl] at he
    rw [hx] at hO
    have HS := Lib.hid hs
    have HX := Lib.hid hx
    have HPL := Lib.hid hpl
    subst he
    obtain ⟨g, cap, rfl, hcap, hg, hc⟩ := hO.room
    have hc0 := hc 0 x rfl
    have HC := Lib.hid hc
    have R := Lib.hid (fun W hM => readLine_any x W hM (by have := hpl x (by simp); omega))
    have F := Lib.hid (fun ao cp W (hr : ReadsS W (.slice ao t.length cp) t) hM => readFields_any (.slice ao t.length cp) t W hr hM (by omega) (fun y hy => by have := hpl y (by simp [hy]); omega))
    clear hs hx hpl hc hO
    go_wp2_with fail
    refine (R.out _ (HM.out.below hB)).mono ?_
    rintro e w2 ⟨rfl, hB2⟩
    have hBx := hB.trans (hB2.mono hB.size)
    have hg2 := Nat.lt_of_lt_of_le hg hB2.size
    have HC2 := Lib.hid (fun j y (hj : (x :: t)[j]? = some y) => (hB2.cell (p := ⟨g, j, none⟩) hg).trans (HC.out j y hj))
    clear hB hB2 HC hg R hc0
    by_cases h1 : startC x = 0
    · rw [startV_yes h1]
      have H1 := Lib.hid h1
      clear h1
      by_cases hcp : 2 ≤ cap
      · have HT := Lib.hid (tail_reads (some ⟨g, 1, none⟩) (cap - 1) hg2 HC2.out (fun _ => rfl))
        go_wp2_with fail
        refine (F.out _ _ _ HT.out (HM.out.below hBx)).mono ?_
        rintro e w3 ⟨v3, he3, hO3, hB3⟩
        have hBy := hBx.trans (hB3.mono hBx.size)
        clear hBx F
        by_cases h2 : (readFs nmO vlO t).1 = 0
        · rw [h2, show errV 0 = .nilIface from rfl] at he3
          have hlen := readFs_len (nm := nmO) (vl := vlO) t
          have H := withHost_any v3 (readFs nmO vlO t).2 w3 hO3.q (HM.out.below hBy) (by omega) (fun f hf => by
            obtain ⟨y, hy, rfl, _⟩ := readFs_mem f hf
            have h5 := rdF_len y
            have h6 := HPL.out y (by simp [hy])
            show (rdF y).2.1.length + (rdF y).2.2.length ≤ _
            omega)
          subst he3
          have H2 := Lib.hid h2
          clear h2 hO3 hB3 hlen
          go_wp2_with fail
          refine H.mono ?_
          rintro e w4 ⟨v4, he4, hO4, hB4⟩
          have hBz := hBy.trans (hB4.mono hBy.size)
          have hO4 := OwnsP.mono (show w.heap.size + 1 ≤ w3.heap.size by have := hBy.size; simp at this; omega) hO4
          clear H hB4
          obtain ⟨c0, c1, c2, f0, f1, f2, hz⟩ := three_kept w hBz
          cases hh : withH hostO (readFs nmO vlO t).2 with
          | none =>
            rw [hh, if_pos rfl, errV_no (by decide)] at he4
            have HE := Lib.hid (rdQ_h HS.out HX.out H1.out H2.out hh)
            subst he4
            clear hh hO4
            go_wp2_with fail
            refine bodyPost_ret (v := .tuple #[.agg #[.string ⟨#[]⟩, .string ⟨#[]⟩, .slice none 0 0], .int .i64 0, .iface 64 (.int .i64 (29))]) (by simp [results, Tryz.results10, go_sem, c0, c1, c2]) rfl ?_
            exact reqPost_err HE.out (by decide) (below_three (hB0.trans (hBz.mono hB0.size)) _ _ _)
          | some fs2 =>
            rw [hh, if_neg (by simp), show errV 0 = .nilIface from rfl] at he4
            rw [hh] at hO4
            have HE := Lib.hid (rdQ_g HS.out HX.out H1.out H2.out hh)
            subst he4
            clear hh
            obtain ⟨ao4, cap4, rfl, _⟩ := hO4.reads
            have hO5 := ownsP_three w hO4
            clear hO4
            go_wp2_with fail
            refine bodyPost_ret (v := .tuple #[.agg #[.string (strB (cutG 32 x).1), .string (strB (cutG 32 (cutG 32 x).2).1), .slice ao4 ((some fs2).getD []).length cap4], .int .i64 ((splitG l).2.2 : Int), .nilIface]) (by simp [results, Tryz.results10, go_sem, c0, c1, c2]) rfl ?_
            exact ⟨_, by rw [HE.out]; rfl, by rw [HE.out]; exact hO5 _ _ _, below_three (hB0.trans (hBz.mono hB0.size)) _ _ _⟩
        · rw [errV_no h2] at he3
          have HE := Lib.hid (rdQ_f HS.out HX.out H1.out h2)
          have H2 := Lib.hid h2
          subst he3
          clear h2
          obtain ⟨c0, c1, c2, f0, f1, f2, hz⟩ := three_kept w hBy
          go_wp2_with fail
          refine bodyPost_ret (v := .tuple #[.agg #[.string ⟨#[]⟩, .string ⟨#[]⟩, .slice none 0 0], .int .i64 0, .iface 64 (.int .i64 ((readFs nmO vlO t).1))]) (by simp [results, Tryz.results10, go_sem, c0, c1, c2]) rfl ?_
          exact reqPost_err HE.out H2.out (below_three (hB0.trans (hBy.mono hB0.size)) _ _ _)
      · have ht0 : t = [] := List.eq_nil_of_length_eq_zero (by omega)
        obtain rfl : cap = 1 := by omega
        subst ht0
        have HT := Lib.hid (fun ao cp => tail_reads (w := w2) (x := x) (t := []) ao cp hg2 HC2.out (fun h => absurd rfl h))
        go_wp2_with fail
        refine (F.out _ _ _ (HT.out _ _) (HM.out.below hBx)).mono ?_
        rintro e w3 ⟨v3, he3, hO3, hB3⟩
        have hBy := hBx.trans (hB3.mono hBx.size)
        clear hBx F
        by_cases h2 : (readFs nmO vlO []).1 = 0
        · rw [h2, show errV 0 = .nilIface from rfl] at he3
          have hlen := readFs_len (nm := nmO) (vl := vlO) []
          have H := withHost_any v3 (readFs nmO vlO []).2 w3 hO3.q (HM.out.below hBy) (by omega) (fun f hf => by
            obtain ⟨y, hy, rfl, _⟩ := readFs_mem f hf
            have h5 := rdF_len y
            have h6 := HPL.out y (by simp [hy])
            show (rdF y).2.1.length + (rdF y).2.2.length ≤ _
            omega)
          subst he3
          have H2 := Lib.hid h2
          clear h2 hO3 hB3 hlen
          go_wp2_with fail
          refine H.mono ?_
          rintro e w4 ⟨v4, he4, hO4, hB4⟩
          have hBz := hBy.trans (hB4.mono hBy.size)
          have hO4 := OwnsP.mono (show w.heap.size + 1 ≤ w3.heap.size by have := hBy.size; simp at this; omega) hO4
          clear H hB4
          obtain ⟨c0, c1, c2, f0, f1, f2, hz⟩ := three_kept w hBz
          cases hh : withH hostO (readFs nmO vlO []).2 with
          | none =>
            rw [hh, if_pos rfl, errV_no (by decide)] at he4
            have HE := Lib.hid (rdQ_h HS.out HX.out H1.out H2.out hh)
            subst he4
            clear hh hO4
            go_wp2_with fail
            refine bodyPost_ret (v := .tuple #[.agg #[.string ⟨#[]⟩, .string ⟨#[]⟩, .slice none 0 0], .int .i64 0, .iface 64 (.int .i64 (29))]) (by simp [results, Tryz.results10, go_sem, c0, c1, c2]) rfl ?_
            exact reqPost_err HE.out (by decide) (below_three (hB0.trans (hBz.mono hB0.size)) _ _ _)
          | some fs2 =>
            rw [hh, if_neg (by simp), show errV 0 = .nilIface from rfl] at he4
            rw [hh] at hO4
            have HE := Lib.hid (rdQ_g HS.out HX.out H1.out H2.out hh)
            subst he4
            clear hh
            obtain ⟨ao4, cap4, rfl, _⟩ := hO4.reads
            have hO5 := ownsP_three w hO4
            clear hO4
            go_wp2_with fail
            refine bodyPost_ret (v := .tuple #[.agg #[.string (strB (cutG 32 x).1), .string (strB (cutG 32 (cutG 32 x).2).1), .slice ao4 ((some fs2).getD []).length cap4], .int .i64 ((splitG l).2.2 : Int), .nilIface]) (by simp [results, Tryz.results10, go_sem, c0, c1, c2]) rfl ?_
            exact ⟨_, by rw [HE.out]; rfl, by rw [HE.out]; exact hO5 _ _ _, below_three (hB0.trans (hBz.mono hB0.size)) _ _ _⟩
        · rw [errV_no h2] at he3
          have HE := Lib.hid (rdQ_f HS.out HX.out H1.out h2)
          have H2 := Lib.hid h2
          subst he3
          clear h2
          obtain ⟨c0, c1, c2, f0, f1, f2, hz⟩ := three_kept w hBy
          go_wp2_with fail
          refine bodyPost_ret (v := .tuple #[.agg #[.string ⟨#[]⟩, .string ⟨#[]⟩, .slice none 0 0], .int .i64 0, .iface 64 (.int .i64 ((readFs nmO vlO []).1))]) (by simp [results, Tryz.results10, go_sem, c0, c1, c2]) rfl ?_
          exact reqPost_err HE.out H2.out (below_three (hB0.trans (hBy.mono hB0.size)) _ _ _)
    · rw [startV_no h1]
      have HE := Lib.hid (show rdQ l = (startC x, ([], [], []), 0) by rw [rdQ_lines HS.out, HX.out, reqL_start h1, if_pos h1])
      have H1 := Lib.hid h1
      clear h1
      obtain ⟨c0, c1, c2, f0, f1, f2, hz⟩ := three_kept w hBx
      go_wp2_with fail
      refine bodyPost_ret (v := .tuple #[.agg #[.string ⟨#[]⟩, .string ⟨#[]⟩, .slice none 0 0], .int .i64 0, .iface 64 (.int .i64 (startC x))]) (by simp [results, Tryz.results10, go_sem, c0, c1, c2]) rfl ?_
      exact reqPost_err HE.out H1.out (below_three (hB0.trans (hBx.mono hB0.size)) _ _ _)
  · have HE := Lib.hid (rdQ_split rfl hs)
    rw [errV_no hs] at he
    subst he
    have H1 := Lib.hid hs
    clear hs
    obtain ⟨c0, c1, c2, f0, f1, f2, hz⟩ := three_kept w hB
    go_wp2_with fail
    refine bodyPost_ret (v := .tuple #[.agg #[.string ⟨#[]⟩, .string ⟨#[]⟩, .slice none 0 0], .int .i64 0, .iface 64 (.int .i64 (splitG l).1)]) (by simp [results, Tryz.results10, go_sem, c0, c1, c2]) rfl ?_
    exact reqPost_err HE.out H1.out (below_three (hB0.trans (hB.mono hB0.size)) _ _ _)
end Go.Proofs.YtacfkljpjjnlfaaGreatDoor
