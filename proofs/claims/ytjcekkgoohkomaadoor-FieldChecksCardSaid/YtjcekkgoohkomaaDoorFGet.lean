/- What Get and Size return, for every list of fields; the statements' fixed example: awake returns true. -/
import Derived.Test.YtjcekkgoohkomaaDoorFAll
import Derived.Test.YtjcekkgoohkomaaDoorFSize
import Derived.Test.YtjcekkgoohkomaaDoorShelf
namespace Go.Proofs.YtjcekkgoohkomaaDoor
open Go.RowKit

theorem OwnsS.opens {B : Nat} {w : World} {v : Value} {ls : List (List UInt8)} (h : OwnsS B w v ls) :
    (v = .slice none 0 0 ∧ ls = []) ∨ ∃ g cap, v = .slice (some ⟨g, 0, none⟩) ls.length cap ∧ ls.length ≤ cap ∧ g < w.heap.size ∧ (∀ j l, ls[j]? = some l → w.cell? ⟨g, j, none⟩ = some (.string (strB l))) := by
  rcases h.open' with h1 | ⟨g, cap, hv, hb, hg, hc⟩
  · exact .inl h1
  · refine .inr ⟨g, cap, hv, ?_, hg, hc⟩
    rcases h with ⟨hl, ⟨hv', hn⟩ | ⟨g', cap', cur, hv', hb', hg', hn, _⟩⟩
    · rw [hv'] at hv; cases hv
    · rw [hv'] at hv
      simp only [Value.slice.injEq, Option.some.injEq, Addr.mk.injEq, and_true, true_and] at hv
      obtain ⟨_, rfl⟩ := hv
      exact hn
theorem join_getL (ls : List (List UInt8)) : Lib.join ls [44, 32] = getL ls := by
  cases ls with
  | nil => rfl
  | cons a r =>
    rw [Lib.join_cons]
    induction r generalizing a with
    | nil => simp [Lib.joinTail, getL]
    | cons b t ih =>
      rw [getL_cons a _ (by simp), ← ih b]
      simp [Lib.joinTail]
theorem getL_len (ls : List (List UInt8)) (M : Nat) (h : ∀ l ∈ ls, l.length ≤ M) : (getL ls).length ≤ ls.length * (M + 2) := by
  induction ls with
  | nil => simp [getL]
  | cons a r ih =>
    have h1 := ih fun l hl => h l (List.mem_cons_of_mem _ hl)
    have h2 := h a (List.mem_cons_self ..)
    rw [List.length_cons, Nat.succ_mul]
    cases r with
    | nil => simp [getL]; omega
    | cons b t =>
      rw [getL_cons a _ (by simp)]
      simp only [List.length_append, List.length_cons] at h1 ⊢
      omega
theorem join_any (v : Value) (ls : List (List UInt8)) (B : Nat) (w : World) (hO : OwnsS B w v ls) (hl : ls.length ≤ 1000000) (hb : ∀ l ∈ ls, l.length ≤ 1000000) :
    Calls Tryd.prog 66 #[v, .string ⟨#[44, 32]⟩] w fun e w' => e = .returned (.string (strB (getL ls))) ∧ Below w.heap.size w w' := by
  rcases hO.opens with ⟨rfl, rfl⟩ | ⟨g, cap, rfl, hcap, hg, hc⟩
  · refine (Any.strings_Join_none Tryd.lays156 Tryd.Builder_Extra_156 none 0 ⟨#[44, 32]⟩ w).mono ?_
    rintro e w' ⟨rfl, rfl⟩
    exact ⟨rfl, Below.refl _ _⟩
  · have hm : (ls.map strB).map (fun s : ByteArray => s.data.toList) = ls := by
      rw [List.map_map]
      conv => rhs; rw [← List.map_id ls]
      exact List.map_congr_left fun l _ => strB_list l
    have hgl := getL_len ls 1000000 hb
    have hmul : ls.length * (1000000 + 2) ≤ 1000000 * (1000000 + 2) := Nat.mul_le_mul_right _ hl
    have := Tryd.strings_Join g 0 cap (ls.map strB) ⟨#[44, 32]⟩ w (fun j x hx => by
      rw [List.getElem?_map] at hx
      cases hj : ls[j]? with
      | none => rw [hj] at hx; cases hx
      | some l =>
        rw [hj] at hx
        simp only [Option.map_some, Option.some.injEq] at hx
        rw [Nat.zero_add, hc j l hj, hx]) hg (by simp; omega) (by simpa using hcap) (by
        rw [hm]; show (Lib.join ls [44, 32]).length ≤ _; rw [join_getL]; omega)
    rw [List.length_map] at this
    refine this.mono ?_
    rintro e w' ⟨rfl, hB⟩
    rw [hm]
    exact ⟨by show Ending.returned (.string ⟨(Lib.join ls [44, 32]).toArray⟩) = _; rw [join_getL]; rfl, hB⟩
theorem all_small {ps : Flds} {n : List UInt8} {M : Nat} (hb : ∀ p ∈ ps, p.1.length + p.2.length ≤ M) : ∀ l ∈ allL ps n, l.length ≤ M := by
  intro l hl
  unfold allL at hl
  obtain ⟨p, hp, rfl⟩ := List.mem_map.mp hl
  have := hb p (List.mem_filter.mp hp).1
  omega

set_option maxHeartbeats 400000 in
set_option maxRecDepth 100000 in
theorem get_any (fv : Value) (ps : Flds) (n : ByteArray) (w : World) (hr : ReadsQ w fv ps) (hn : n.size ≤ 1000000000) (hl : ps.length ≤ 1000000) (hb : ∀ p ∈ ps, p.1.length + p.2.length ≤ 1000000) :
    Calls Tryd.prog 42 #[fv, .string n] w fun e w' => e = .returned (.tuple #[.string (strB (getL (allL ps n.data.toList))), .bool (decide (0 < (allL ps n.data.toList).length))]) ∧ Below w.heap.size w w' := by
  have HA := all_any fv ps n w hr hn hl hb
  have hal := all_len ps n.data.toList
  have HJ := fun v w1 hO => join_any v (allL ps n.data.toList) w.heap.size w1 hO (by omega) (all_small hb)
  obtain ⟨ao, cap, rfl, hc⟩ := hr
  clear hc
  have HB := Lib.hid hb
  clear hb
  go_enter Tryd.func42, Tryd.ntmps42
  go_wp2_with fail
  refine HA.mono ?_
  rintro e w1 ⟨v, rfl, hO, hB⟩
  have HJ' := HJ v w1 hO
  clear HA HJ
  rcases hO.opens with ⟨rfl, he⟩ | ⟨g, cap', rfl, hcap, hg, hc⟩
  · rw [he] at HJ'
    go_wp2_with fail
    refine HJ'.mono ?_
    rintro e w2 ⟨rfl, hB2⟩
    go_wp2_with fail
    go_ret2
    exact ⟨by rw [he]; rfl, hB.trans (hB2.mono hB.size)⟩
  · clear hc
    go_wp2_with fail
    refine HJ'.mono ?_
    rintro e w2 ⟨rfl, hB2⟩
    go_wp2_with fail
    go_ret2
    exact ⟨by simp, hB.trans (hB2.mono hB.size)⟩

def exL : Flds := [([65], [49]), ([98], [120]), ([97], [50])]
theorem reads_ex (w : World) (T : TypeId) : ReadsQ (w.alloc (.cells #[.string ⟨#[65]⟩, .string ⟨#[49]⟩, .string ⟨#[98]⟩, .string ⟨#[120]⟩, .string ⟨#[97]⟩, .string ⟨#[50]⟩] T)) (.slice (some ⟨w.heap.size, 0, none⟩) 3 3) exL := by
  refine ⟨_, 3, rfl, fun j p hj => ⟨w.heap.size, 0, rfl, by simp, ?_⟩⟩
  rw [World.cell?_alloc_at _ _ _ _ rfl, World.cell?_alloc_at _ _ _ _ rfl]
  unfold exL at hj
  match j, hj with
  | 0, hj => simp at hj; subst hj; exact ⟨rfl, rfl⟩
  | 1, hj => simp at hj; subst hj; exact ⟨rfl, rfl⟩
  | 2, hj => simp at hj; subst hj; exact ⟨rfl, rfl⟩
  | j + 3, hj => simp at hj
theorem ex_small : ∀ p ∈ exL, p.1.length + p.2.length ≤ 1000000 := by decide

set_option maxHeartbeats 400000 in
set_option maxRecDepth 100000 in
theorem awake_any (w : World) : Calls Tryd.prog 13 #[] w fun e w' => e = .returned (.bool true) ∧ Below w.heap.size w w' := by
  have HG := get_any _ exL ⟨#[65]⟩ _ (reads_ex w 70) (by decide) (by decide) ex_small
  have hg : getL (allL exL (⟨#[65]⟩ : ByteArray).data.toList) = [49, 44, 32, 50] := by decide
  have hd : decide (0 < (allL exL (⟨#[65]⟩ : ByteArray).data.toList).length) = true := by decide
  rw [hg, hd] at HG
  go_enter Tryd.func13, Tryd.ntmps13
  go_wp2_with fail
  refine HG.mono ?_
  rintro e w1 ⟨rfl, hB⟩
  have hS := size_any _ exL w1 ((reads_ex w 70).below hB) (by decide) ex_small
  have hz : (sizL exL : Int) = 18 := by decide
  rw [hz] at hS
  have q1 : ((strB [49, 44, 32, 50]).toList == [49, 44, 32, 50]) = true := by rw [ByteArray.toList_eq]; decide
  go_wp2_with fail
  refine hS.mono ?_
  rintro e w2 ⟨rfl, hB2⟩
  go_wp2_with fail
  go_ret
  have h1 := below_new w (.cells #[.string ⟨#[65]⟩, .string ⟨#[49]⟩, .string ⟨#[98]⟩, .string ⟨#[120]⟩, .string ⟨#[97]⟩, .string ⟨#[50]⟩] 70)
  exact ⟨rfl, (h1.trans (hB.mono h1.size)).trans (hB2.mono (Nat.le_trans h1.size hB.size))⟩
end Go.Proofs.YtjcekkgoohkomaaDoor
