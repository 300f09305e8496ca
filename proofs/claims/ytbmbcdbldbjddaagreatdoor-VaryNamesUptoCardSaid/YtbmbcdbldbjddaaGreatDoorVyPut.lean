/- Plain mathematics: the loop of Put, a variant at a time, leaves what the document says. -/
import Derived.Test.YtbmbcdbldbjddaaGreatDoorVySet
namespace Go.Proofs.YtbmbcdbldbjddaaGreatDoor

def stP (ns : List (List UInt8)) (key : List UInt8) (x : List Vr × List Int) (v : Vr) : List Vr × List Int :=
  if sameV ns key v = true ∨ x.1.length = 16 then (x.1, x.2 ++ [v.id]) else (x.1 ++ [v], x.2)
theorem fold_no (ns : List (List UInt8)) (key : List UInt8) (M : List Vr) : ∀ (K : List Vr) (R : List Int), (∀ v ∈ M, sameV ns key v = false) → K.length ≤ 16 →
    M.foldl (stP ns key) (K, R) = (K ++ M.take (16 - K.length), R ++ (M.drop (16 - K.length)).map (·.id)) := by
  induction M with
  | nil => intro K R _ _; simp
  | cons v t ih =>
    intro K R h hK
    have hv := h v (List.mem_cons_self ..)
    have ht : ∀ u ∈ t, sameV ns key u = false := fun u hu => h u (List.mem_cons_of_mem _ hu)
    rw [List.foldl_cons]
    by_cases hk : K.length = 16
    · rw [show stP ns key (K, R) v = (K, R ++ [v.id]) by unfold stP; rw [if_pos (.inr hk)], ih K _ ht hK]
      simp [hk]
    · rw [show stP ns key (K, R) v = (K ++ [v], R) by unfold stP; rw [if_neg (by simp [hv, hk])], ih _ _ ht (by simp; omega)]
      obtain ⟨m, hm⟩ : ∃ m, 16 - K.length = m + 1 := ⟨16 - K.length - 1, by omega⟩
      have hm2 : 16 - (K ++ [v]).length = m := by simp; omega
      rw [hm, hm2]
      simp
theorem put_fold {l : List Vr} (h : InvV l) (ns : List (List UInt8)) (key : List UInt8) (id : Int) :
    (otherV l id).foldl (stP ns key) ([⟨ns, key, id⟩], []) = (putV l ns key id, goneV l ns key id) := by
  have hlen : (otherV l id).length ≤ 16 := Nat.le_trans (List.length_filter_le ..) h.len
  have htwo : (otherV l id).Pairwise fun a b => ¬ (a.ns = b.ns ∧ a.key = b.key) := h.two.sublist (List.filter_sublist ..)
  unfold putV goneV allV keepV dupV
  generalize otherV l id = L at *
  by_cases hd : ∃ d ∈ L, sameV ns key d = true
  · obtain ⟨d, hm, hs⟩ := hd
    obtain ⟨A, B, rfl⟩ := List.append_of_mem hm
    have hsd := of_decide_eq_true hs
    obtain ⟨_, h2, h3⟩ := List.pairwise_append.mp htwo
    obtain ⟨h4, _⟩ := List.pairwise_cons.mp h2
    have hA : ∀ v ∈ A, sameV ns key v = false := fun v hv => decide_eq_false fun e => h3 v hv d (List.mem_cons_self ..) ⟨e.1.trans hsd.1.symm, e.2.trans hsd.2.symm⟩
    have hB : ∀ v ∈ B, sameV ns key v = false := fun v hv => decide_eq_false fun e => h4 v hv ⟨hsd.1.trans e.1.symm, hsd.2.trans e.2.symm⟩
    rw [List.length_append, List.length_cons] at hlen
    have fA1 : A.filter (fun v => !sameV ns key v) = A := List.filter_eq_self.mpr fun v hv => by simp [hA v hv]
    have fB1 : B.filter (fun v => !sameV ns key v) = B := List.filter_eq_self.mpr fun v hv => by simp [hB v hv]
    have fA2 : A.filter (sameV ns key) = [] := List.filter_eq_nil_iff.mpr fun v hv => by simp [hA v hv]
    have fB2 : B.filter (sameV ns key) = [] := List.filter_eq_nil_iff.mpr fun v hv => by simp [hB v hv]
    have hst : ∀ K R, stP ns key (K, R) d = (K, R ++ [d.id]) := fun K R => by unfold stP; rw [if_pos (.inl hs)]
    have k1 : (([⟨ns, key, id⟩] : List Vr) ++ A).length ≤ 16 := by simp; omega
    rw [List.foldl_append, fold_no ns key A _ _ hA (by simp), List.foldl_cons, hst]
    rw [show A.take (16 - ([⟨ns, key, id⟩] : List Vr).length) = A from List.take_of_length_le (by simp; omega), show A.drop (16 - ([⟨ns, key, id⟩] : List Vr).length) = [] from List.drop_eq_nil_of_le (by simp; omega)]
    rw [fold_no ns key B _ _ hB k1]
    rw [show B.take (16 - (([⟨ns, key, id⟩] : List Vr) ++ A).length) = B from List.take_of_length_le (by simp; omega), show B.drop (16 - (([⟨ns, key, id⟩] : List Vr) ++ A).length) = [] from List.drop_eq_nil_of_le (by simp; omega)]
    rw [List.filter_append, List.filter_append, List.filter_cons, List.filter_cons, if_neg (by simp [hs]), if_pos hs, fA1, fB1, fA2, fB2]
    rw [List.take_of_length_le (by simp; omega), List.drop_eq_nil_of_le (by simp; omega)]
    simp
  · have hn : ∀ v ∈ L, sameV ns key v = false := fun v hv => by
      cases e : sameV ns key v with
      | false => rfl
      | true => exact absurd ⟨v, hv, e⟩ hd
    have f1 : L.filter (fun v => !sameV ns key v) = L := List.filter_eq_self.mpr fun v hv => by simp [hn v hv]
    have f2 : L.filter (sameV ns key) = [] := List.filter_eq_nil_iff.mpr fun v hv => by simp [hn v hv]
    rw [fold_no ns key L _ _ hn (by simp), f1, f2]
    simp
/-- A prefix of the loop keeps at most sixteen. -/
theorem stP_len (ns : List (List UInt8)) (key : List UInt8) (M : List Vr) : ∀ (x : List Vr × List Int), x.1.length ≤ 16 → (M.foldl (stP ns key) x).1.length ≤ 16 := by
  induction M with
  | nil => intro x h; exact h
  | cons v t ih =>
    intro x h
    refine ih _ ?_
    unfold stP
    split
    · exact h
    · rename_i hn
      have : x.1.length ≠ 16 := fun e => hn (.inr e)
      simp; omega
end Go.Proofs.YtbmbcdbldbjddaaGreatDoor
