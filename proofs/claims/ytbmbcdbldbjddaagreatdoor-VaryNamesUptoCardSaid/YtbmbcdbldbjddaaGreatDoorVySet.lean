/- Plain mathematics: the variants of one address: what a Put leaves, and what it never leaves. -/
import Derived.Test.YtbmbcdbldbjddaaGreatDoorVyPure
namespace Go.Proofs.YtbmbcdbldbjddaaGreatDoor

structure Vr where
  ns : List (List UInt8)
  key : List UInt8
  id : Int
def sameV (ns : List (List UInt8)) (key : List UInt8) (v : Vr) : Bool := decide (v.ns = ns ∧ v.key = key)
def otherV (l : List Vr) (id : Int) : List Vr := l.filter fun v => decide (v.id ≠ id)
def keepV (l : List Vr) (ns : List (List UInt8)) (key : List UInt8) (id : Int) : List Vr := (otherV l id).filter fun v => !sameV ns key v
def dupV (l : List Vr) (ns : List (List UInt8)) (key : List UInt8) (id : Int) : List Vr := (otherV l id).filter (sameV ns key)
def allV (l : List Vr) (ns : List (List UInt8)) (key : List UInt8) (id : Int) : List Vr := ⟨ns, key, id⟩ :: keepV l ns key id
/-- The variants behind a Put, and the ids that were removed. -/
def putV (l : List Vr) (ns : List (List UInt8)) (key : List UInt8) (id : Int) : List Vr := (allV l ns key id).take 16
def goneV (l : List Vr) (ns : List (List UInt8)) (key : List UInt8) (id : Int) : List Int := (dupV l ns key id).map (·.id) ++ ((allV l ns key id).drop 16).map (·.id)
def findV (l : List Vr) (f : Flds) : List Int := (l.filter fun v => decide (keyL v.ns f = v.key)).map (·.id)
def remV (l : List Vr) (id : Int) : List Vr := otherV l id
def idsV (l : List Vr) : List Int := l.map (·.id)
/-- No id twice, no names and key twice, at most sixteen. -/
structure InvV (l : List Vr) : Prop where
  ids : (idsV l).Nodup
  two : l.Pairwise fun a b => ¬ (a.ns = b.ns ∧ a.key = b.key)
  len : l.length ≤ 16
theorem inv_nil : InvV [] := ⟨List.nodup_nil, List.Pairwise.nil, by simp⟩
theorem other_ids {l : List Vr} {id : Int} (h : (idsV l).Nodup) : (idsV (otherV l id)).Nodup ∧ id ∉ idsV (otherV l id) := by
  refine ⟨h.sublist (List.Sublist.map _ (List.filter_sublist ..)), fun hm => ?_⟩
  obtain ⟨v, hv, e⟩ := List.mem_map.mp hm
  have := (List.mem_filter.mp hv).2
  simp at this
  exact this e
theorem keep_sub (l : List Vr) (ns : List (List UInt8)) (key : List UInt8) (id : Int) : (keepV l ns key id).Sublist l := (List.filter_sublist ..).trans (List.filter_sublist ..)
theorem put_len (l : List Vr) (ns : List (List UInt8)) (key : List UInt8) (id : Int) : (putV l ns key id).length ≤ 16 := List.length_take_le ..
theorem put_front (l : List Vr) (ns : List (List UInt8)) (key : List UInt8) (id : Int) : putV l ns key id = ⟨ns, key, id⟩ :: (keepV l ns key id).take 15 := rfl
theorem all_ids {l : List Vr} (h : (idsV l).Nodup) (ns : List (List UInt8)) (key : List UInt8) (id : Int) : (idsV (dupV l ns key id) ++ idsV (allV l ns key id)).Nodup := by
  obtain ⟨h1, h2⟩ := other_ids (id := id) h
  have hp : (idsV (dupV l ns key id) ++ idsV (keepV l ns key id)).Perm (idsV (otherV l id)) := by
    unfold idsV
    rw [← List.map_append]
    exact (List.filter_append_perm (sameV ns key) (otherV l id)).map _
  have hn := hp.symm.nodup h1
  have hi : id ∉ idsV (dupV l ns key id) ++ idsV (keepV l ns key id) := fun e => h2 (hp.mem_iff.mp e)
  have hq : (idsV (dupV l ns key id) ++ id :: idsV (keepV l ns key id)).Perm (id :: (idsV (dupV l ns key id) ++ idsV (keepV l ns key id))) := List.perm_middle
  exact hq.symm.nodup (List.nodup_cons.mpr ⟨hi, hn⟩)
/-- The ids behind a Put and those that it removed are all different. -/
theorem put_ids {l : List Vr} (h : (idsV l).Nodup) (ns : List (List UInt8)) (key : List UInt8) (id : Int) : (idsV (putV l ns key id) ++ goneV l ns key id).Nodup := by
  have hp : (idsV (putV l ns key id) ++ goneV l ns key id).Perm (idsV (dupV l ns key id) ++ idsV (allV l ns key id)) := by
    unfold putV goneV idsV
    rw [← List.append_assoc]
    refine (List.Perm.append_right _ List.perm_append_comm).trans ?_
    rw [List.append_assoc, ← List.map_append, List.take_append_drop]
  exact hp.symm.nodup (all_ids h ns key id)
/-- What was there is there, or was removed. -/
theorem put_all (l : List Vr) (ns : List (List UInt8)) (key : List UInt8) (id x : Int) (hx : x ∈ idsV l) : x ∈ idsV (putV l ns key id) ∨ x ∈ goneV l ns key id := by
  obtain ⟨v, hv, rfl⟩ := List.mem_map.mp hx
  by_cases he : v.id = id
  · exact .inl (by rw [he, put_front]; exact List.mem_cons_self ..)
  · have ho : v ∈ otherV l id := List.mem_filter.mpr ⟨hv, by simpa using he⟩
    cases hs : sameV ns key v with
    | true => exact .inr (List.mem_append_left _ (List.mem_map.mpr ⟨v, List.mem_filter.mpr ⟨ho, hs⟩, rfl⟩))
    | false =>
      have hk : v ∈ allV l ns key id := List.mem_cons_of_mem _ (List.mem_filter.mpr ⟨ho, by simp [hs]⟩)
      rw [← List.take_append_drop 16 (allV l ns key id)] at hk
      rcases List.mem_append.mp hk with a | a
      · exact .inl (List.mem_map.mpr ⟨v, a, rfl⟩)
      · exact .inr (List.mem_append_right _ (List.mem_map.mpr ⟨v, a, rfl⟩))
theorem inv_put {l : List Vr} (h : InvV l) (ns : List (List UInt8)) (key : List UInt8) (id : Int) : InvV (putV l ns key id) := by
  refine ⟨(List.nodup_append.mp (put_ids h.ids ns key id)).1, ?_, put_len l ns key id⟩
  rw [put_front]
  refine List.Pairwise.cons (fun v hv e => ?_) ((h.two.sublist (keep_sub l ns key id)).sublist (List.take_sublist ..))
  have hm := (List.mem_filter.mp (List.mem_of_mem_take hv)).2
  unfold sameV at hm
  simp at hm
  rcases hm with a | a
  · exact a e.1.symm
  · exact a e.2.symm
theorem inv_rem {l : List Vr} (h : InvV l) (id : Int) : InvV (remV l id) :=
  ⟨(other_ids h.ids).1, h.two.sublist (List.filter_sublist ..), Nat.le_trans (List.length_filter_le ..) h.len⟩
/-- A request finds the variant that was put with the same values, and first. -/
theorem put_find (l : List Vr) (ns : List (List UInt8)) (f : Flds) (id : Int) : (findV (putV l ns (keyL ns f) id) f).head? = some id := by
  unfold findV
  rw [put_front, List.filter_cons, if_pos (by simp)]
  rfl
theorem find_one (ns : List (List UInt8)) (f g : Flds) (id : Int) : findV (putV [] ns (keyL ns f) id) g = if keyL ns g = keyL ns f then [id] else [] := by
  unfold findV
  rw [put_front]
  have e : (keepV [] ns (keyL ns f) id).take 15 = [] := rfl
  rw [e, List.filter_cons]
  by_cases h : keyL ns g = keyL ns f <;> simp [h]
end Go.Proofs.YtbmbcdbldbjddaaGreatDoor
