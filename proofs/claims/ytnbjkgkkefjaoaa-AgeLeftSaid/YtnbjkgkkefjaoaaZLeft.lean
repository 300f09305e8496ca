/- What sort.Search returns where Left calls it, its closure, and Left. -/
import Derived.Test.YtnbjkgkkefjaoaaZFresh
namespace Go.Proofs.Ytnbjkgkkefjaoaa
open Go.RowKit Go.Sort

/-- What the closure asks of a world: the times, the reading, the drift and the lifetime in their boxes. -/
def CloL (s r a n p l : Int) (B : Nat) (w : World) : Prop :=
  (w.cell? ⟨B, 0, none⟩ = some (.int .i64 s) ∧ w.cell? ⟨B, 1, none⟩ = some (.int .i64 r) ∧ w.cell? ⟨B, 2, none⟩ = some (.int .i64 a)) ∧
  w.cell? ⟨B + 1, 0, none⟩ = some (.int .i64 n) ∧ w.cell? ⟨B + 2, 0, none⟩ = some (.int .i64 p) ∧ w.cell? ⟨B + 3, 0, none⟩ = some (.int .i64 l) ∧ B + 3 < w.heap.size
theorem CloL.below {s r a n p l : Int} {B : Nat} {w w' : World} (h : CloL s r a n p l B w) (hb : Below w.heap.size w w') : CloL s r a n p l B w' := by
  obtain ⟨⟨h1, h2, h3⟩, h4, h5, h6, h7⟩ := h
  exact ⟨⟨(hb.cell (p := ⟨B, 0, none⟩) (show B < _ by omega)).trans h1, (hb.cell (p := ⟨B, 1, none⟩) (show B < _ by omega)).trans h2, (hb.cell (p := ⟨B, 2, none⟩) (show B < _ by omega)).trans h3⟩, (hb.cell (p := ⟨B + 1, 0, none⟩) (show B + 1 < _ by omega)).trans h4, (hb.cell (p := ⟨B + 2, 0, none⟩) (show B + 2 < _ by omega)).trans h5, (hb.cell (p := ⟨B + 3, 0, none⟩) h7).trans h6, Nat.lt_of_lt_of_le h7 hb.size⟩
abbrev cloL (B : Nat) : Value := .func (.func 48) #[] #[.pointer (some ⟨B, 0, none⟩), .pointer (some ⟨B + 1, 0, none⟩), .pointer (some ⟨B + 2, 0, none⟩), .pointer (some ⟨B + 3, 0, none⟩)]
set_option maxHeartbeats 1000000 in
theorem closure_any (s r a n p l : Int) (B : Nat) (k : Nat) (w : World) (hE : CloL s r a n p l B w) (hn : 0 ≤ n ∧ n ≤ 1099511627776) (hk : k < 1099511627777) :
    Calls Try.prog 48 #[.int .i64 k, .pointer (some ⟨B, 0, none⟩), .pointer (some ⟨B + 1, 0, none⟩), .pointer (some ⟨B + 2, 0, none⟩), .pointer (some ⟨B + 3, 0, none⟩)] w fun e w' => e = .returned (.bool !(frA s r a (n + k) p l)) ∧ Gr w w' := by
  obtain ⟨⟨h1, h2, h3⟩, h4, h5, h6, h7⟩ := hE
  have H := Lib.hid (fun W => fresh_any s r a (n + k) p l W)
  obtain ⟨b, hb⟩ : ∃ b, frA s r a (n + k) p l = b := ⟨_, rfl⟩
  rw [hb] at H ⊢
  clear hb h7
  go_enter Try.func48, Try.ntmps48
  go_wp2_with fail
  refine (H.out _).mono ?_
  rintro e w1 ⟨rfl, hG⟩
  have HG := Lib.hid hG
  clear hG
  go_wp2_with fail
  go_ret
  exact ⟨rfl, HG.out⟩
set_option maxHeartbeats 4000000 in
theorem search_any (s r a n p l : Int) (B M : Nat) (w : World) (hE : CloL s r a n p l B w) (hn : 0 ≤ n ∧ n ≤ 1099511627776) (hM : M ≤ 1099511627777)
    (hmono : ∀ i j, i ≤ j → j < M → frA s r a (n + (j : Nat)) p l = true → frA s r a (n + (i : Nat)) p l = true) :
    Calls Try.prog 47 #[.int .i64 M, cloL B] w fun e w' => ∃ N : Nat, e = .returned (.int .i64 N) ∧ CountIs (fun k => frA s r a (n + k) p l) M N ∧ Gr w w' := by
  have HE := Lib.hid hE
  have HM := Lib.hid hmono
  clear hE hmono
  go_enter Try.func47, Try.ntmps47
  go_wp2
  go_loopw [5, 6] (fun x y wr => ∃ lo hi : Nat, x = .int .i64 lo ∧ y = .int .i64 hi ∧ lo ≤ hi ∧ hi ≤ M ∧ Hid ((∀ t, t < lo → frA s r a (n + (t : Nat)) p l = true) ∧ (∀ t, hi ≤ t → t < M → frA s r a (n + (t : Nat)) p l = false)) ∧ Hid (Gr w wr)) (fun x y _ => (intOf y).toNat - (intOf x).toNat)
  case atStart => exact ⟨0, M, rfl, rfl, Nat.zero_le _, Nat.le_refl _, Lib.hid ⟨fun t ht => absurd ht (Nat.not_lt_zero _), fun t h1 h2 => by omega⟩, Lib.hid (Gr.refl _)⟩
  case round =>
    obtain ⟨lo, hi, rfl, rfl, hlh, hiM, I, G⟩ := hrel
    by_cases hlt : lo < hi
    · obtain ⟨m, hm⟩ : ∃ m, (lo + hi) / 2 = m := ⟨_, rfl⟩
      have hm1 : lo ≤ m ∧ m < hi := by omega
      have hc := Lib.hid (closure_any s r a n p l B m wr (HE.out.below G.out.below) hn (by omega))
      have em : ((lo : Int) + (hi : Int)) / 2 = (m : Int) := by omega
      cases hp : frA s r a (n + (m : Nat)) p l <;> rw [hp] at hc
      · have HP := Lib.hid hp
        clear hp
        go_wp2_with fail
        refine hc.out.mono ?_
        rintro e w1 ⟨rfl, hG⟩
        have HG := Lib.hid (G.out.trans hG)
        clear hG
        go_wp2_with fail
        go_roundw
        case measure => simp [intOf]; omega
        case rel =>
          refine ⟨lo, m, rfl, by go_num, by omega, by omega, Lib.hid ⟨I.out.1, fun t h1 h2 => ?_⟩, HG⟩
          cases q : frA s r a (n + (t : Nat)) p l with
          | false => rfl
          | true => have := HM.out m t h1 h2 q; rw [HP.out] at this; cases this
      · have HP := Lib.hid hp
        clear hp
        go_wp2_with fail
        refine hc.out.mono ?_
        rintro e w1 ⟨rfl, hG⟩
        have HG := Lib.hid (G.out.trans hG)
        clear hG
        go_wp2_with fail
        go_roundw
        case measure => simp [intOf]; omega
        case rel => exact ⟨m + 1, hi, by go_num, rfl, by omega, hiM, Lib.hid ⟨fun t ht => HM.out t m (by omega) (by omega) HP.out, I.out.2⟩, HG⟩
    · obtain rfl : hi = lo := by omega
      go_wp2_with fail
      go_ret
      exact ⟨hi, rfl, ⟨hiM, I.out.1, I.out.2⟩, G.out⟩
/-- What Left returns: none where it is not fresh now, else the number of readings at which it is. -/
def LeftOf (s r a n p l : Int) (N : Nat) : Prop := if frA s r a n p l = true then LeftIs s r a n p l N else N = 0
theorem fr_tk (s r a n p l : Int) : frA s r a (tk n) p l = frA s r a n p l := by unfold frA okA topA; rw [tk_tk]
theorem fr_tk0 (s r a n p l : Int) : frA s r a (tk n + ((0 : Nat) : Int)) p l = frA s r a n p l := by rw [← fr_tk s r a n p l]; simp
theorem fr_ok {s r a n p l : Int} (h : frA s r a n p l = true) : okA s r n = true := by unfold frA at h; simp at h; exact h.1
theorem LeftOf.uniq {s r a n p l : Int} {N K : Nat} (h : LeftOf s r a n p l N) (g : LeftOf s r a n p l K) : N = K := by
  unfold LeftOf at h g
  split at h
  · next q => rw [if_pos q] at g; exact CountIs.uniq h g
  · next q => rw [if_neg q] at g; omega
theorem LeftOf.le {s r a n p l : Int} {N : Nat} (h : LeftOf s r a n p l N) : (N : Int) ≤ 1099511627777 - tk n := by
  have := tk_bd n
  unfold LeftOf at h
  split at h
  · have := h.1; omega
  · omega
theorem cell_old (w : World) (o : Obj) (B i : Nat) (h : B < w.heap.size) : (w.alloc o).cell? ⟨B, i, none⟩ = w.cell? ⟨B, i, none⟩ := (below_new w o).cell (p := ⟨B, i, none⟩) h
theorem cell_one (w : World) (v : Value) (T : TypeId) (B : Nat) (h : B = w.heap.size) : (w.alloc (.cells #[v] T)).cell? ⟨B, 0, none⟩ = some v := by
  subst h; rw [World.cell?_alloc_at _ _ _ _ rfl]; rfl
theorem cloL_new (w : World) (s r a m p l : Int) (T1 T2 T3 T4 : TypeId) : CloL s r a m p l w.heap.size ((((w.alloc (.cells #[.int .i64 s, .int .i64 r, .int .i64 a] T1)).alloc (.cells #[.int .i64 m] T2)).alloc (.cells #[.int .i64 p] T3)).alloc (.cells #[.int .i64 l] T4)) := by
  obtain ⟨t1, t2, t3, t4⟩ := threeI_new w s r a T1
  refine ⟨⟨?_, ?_, ?_⟩, ?_, ?_, ?_, by simp⟩
  · rw [cell_old _ _ _ _ (by simp; omega), cell_old _ _ _ _ (by simp; omega), cell_old _ _ _ _ (by simp)]; exact t1
  · rw [cell_old _ _ _ _ (by simp; omega), cell_old _ _ _ _ (by simp; omega), cell_old _ _ _ _ (by simp)]; exact t2
  · rw [cell_old _ _ _ _ (by simp; omega), cell_old _ _ _ _ (by simp; omega), cell_old _ _ _ _ (by simp)]; exact t3
  · rw [cell_old _ _ _ _ (by simp), cell_old _ _ _ _ (by simp)]; exact cell_one _ _ _ _ (by simp)
  · rw [cell_old _ _ _ _ (by simp)]; exact cell_one _ _ _ _ (by simp)
  · exact cell_one _ _ _ _ (by simp)
set_option maxHeartbeats 4000000 in
theorem left_any (s r a n p l : Int) (w : World) :
    Calls Try.prog 34 #[tmV s r a, .int .i64 n, .int .i64 p, .int .i64 l] w fun e w' => ∃ N : Nat, e = .returned (.int .i64 N) ∧ LeftOf s r a n p l N ∧ Gr w w' := by
  have H0 := Lib.hid (fun W => clipTime_any n W)
  have b3 := tk_bd n
  have H1 := Lib.hid (fun W => fresh_any s r a (tk n) p l W)
  rw [fr_tk] at H1
  cases h : frA s r a n p l with
  | false =>
    have E := Lib.hid (show LeftOf s r a n p l 0 by unfold LeftOf; rw [if_neg (by rw [h]; simp)])
    rw [h] at H1
    clear h
    go_enter Try.func34, Try.ntmps34
    go_wp2_with fail
    refine (H0.out _).mono ?_
    rintro e w1 ⟨rfl, rfl⟩
    go_wp2_with fail
    refine (H1.out _).mono ?_
    rintro e w1 ⟨rfl, hG⟩
    have HG := Lib.hid (((((gr_new w (.cells #[.int .i64 s, .int .i64 r, .int .i64 a] 57)).alloc (.cells #[.int .i64 (tk n)] 3)).alloc (.cells #[.int .i64 p] 3)).alloc (.cells #[.int .i64 l] 3)).trans hG)
    clear hG
    go_wp2_with fail
    go_ret
    exact ⟨0, rfl, E.out, HG.out⟩
  | true =>
    have E := Lib.hid (show ∀ N, LeftIs s r a n p l N → LeftOf s r a n p l N from fun N hN => by unfold LeftOf; rw [if_pos h]; exact hN)
    have HA := Lib.hid (show ∀ i j : Nat, i ≤ j → j < (1099511627777 - tk n).toNat → frA s r a (tk n + (j : Nat)) p l = true → frA s r a (tk n + (i : Nat)) p l = true from fun i j hij hj => fr_anti (fr_ok h) hij (by omega))
    rw [h] at H1
    clear h
    obtain ⟨m, hm⟩ : ∃ m, tk n = m := ⟨_, rfl⟩
    unfold LeftIs at E
    rw [hm] at E HA H0 H1 b3
    clear hm
    obtain ⟨M, hM⟩ : ∃ M, (1099511627777 - m).toNat = M := ⟨_, rfl⟩
    rw [hM] at E HA
    have eM : (1099511627777 - m : Int) = (M : Int) := by omega
    go_enter Try.func34, Try.ntmps34
    go_wp2_with fail
    refine (H0.out _).mono ?_
    rintro e w1 ⟨rfl, rfl⟩
    go_wp2_with fail
    refine (H1.out _).mono ?_
    have hC := cloL_new w s r a m p l 57 3 3 3
    have hG0 := Lib.hid ((((gr_new w (.cells #[.int .i64 s, .int .i64 r, .int .i64 a] 57)).alloc (.cells #[.int .i64 m] 3)).alloc (.cells #[.int .i64 p] 3)).alloc (.cells #[.int .i64 l] 3))
    generalize (((w.alloc (.cells #[.int .i64 s, .int .i64 r, .int .i64 a] 57)).alloc (.cells #[.int .i64 m] 3)).alloc (.cells #[.int .i64 p] 3)).alloc (.cells #[.int .i64 l] 3) = w0 at *
    rintro e w1 ⟨rfl, hG⟩
    have HC := Lib.hid (hC.below hG.below)
    obtain ⟨⟨h1, h2, h3⟩, h4, h5, h6, h7⟩ := HC.out
    have HG := Lib.hid (hG0.out.trans hG)
    clear hG hC
    go_wp2_with fail
    refine (search_any s r a m p l w.heap.size M _ HC.out b3 (by omega) HA.out).mono ?_
    rintro e w2 ⟨N, rfl, hN, hG⟩
    have HN := Lib.hid (E.out N hN)
    have HG2 := Lib.hid (HG.out.trans hG)
    clear hG hN
    go_wp2_with fail
    go_ret
    exact ⟨N, rfl, HN.out, HG2.out⟩
end Go.Proofs.Ytnbjkgkkefjaoaa
