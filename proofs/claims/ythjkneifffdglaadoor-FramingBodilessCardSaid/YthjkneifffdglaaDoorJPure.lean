/- Framing, in lists of bytes: how many elements there are, how they are read one value after the other; a frame as a value. -/
import Derived.Test.YthjkneifffdglaaDoorJSpec
import Derived.Test.YthjkneifffdglaaDoorFSpec
namespace Go.Proofs.YthjkneifffdglaaDoor

/-- The room that the elements of all values take at most. -/
def roomL : List (List UInt8) → Nat
  | [] => 0
  | v :: r => v.length + 1 + roomL r
theorem room_app (a b : List (List UInt8)) : roomL (a ++ b) = roomL a + roomL b := by
  induction a with
  | nil => simp [roomL]
  | cons v r ih => rw [List.cons_append, roomL, roomL, ih]; omega
theorem room_mem {v : List UInt8} : ∀ {vs : List (List UInt8)}, v ∈ vs → v.length < roomL vs := by
  intro vs
  induction vs with
  | nil => intro h; cases h
  | cons x r ih =>
    intro h
    rw [roomL]
    rcases List.mem_cons.1 h with rfl | h
    · omega
    · have := ih h; omega
theorem room_take (vs : List (List UInt8)) (k : Nat) : roomL (vs.take k) ≤ roomL vs := by
  have h := room_app (vs.take k) (vs.drop k)
  rw [List.take_append_drop] at h; omega
theorem room_len (vs : List (List UInt8)) : vs.length ≤ roomL vs := by
  induction vs with
  | nil => exact Nat.zero_le _
  | cons v r ih => rw [roomL, List.length_cons]; omega
theorem scan_len (b : UInt8) : ∀ (l : List UInt8) (st : St) (cur : List UInt8) (ps : List (List UInt8)), scan b st cur l = some ps → ps.length ≤ l.length + 1 := by
  intro l
  induction l with
  | nil =>
    intro st cur ps h
    cases st with
    | out => rw [scan] at h; obtain rfl := Option.some.inj h; simp
    | inn => rw [scan] at h; cases h
    | esc => rw [scan] at h; cases h
  | cons d r ih =>
    intro st cur ps h
    rw [List.length_cons]
    cases st with
    | out =>
      rw [scan] at h
      by_cases h1 : d = 34
      · rw [if_pos h1] at h; have := ih _ _ _ h; omega
      · rw [if_neg h1] at h
        by_cases h2 : d = b
        · rw [if_pos h2] at h
          cases h3 : scan b .out [] r with
          | none => rw [h3] at h; cases h
          | some qs =>
            rw [h3] at h
            obtain rfl := Option.some.inj h
            have := ih _ _ _ h3
            rw [List.length_cons]; omega
        · rw [if_neg h2] at h; have := ih _ _ _ h; omega
    | inn =>
      rw [scan] at h
      by_cases h1 : d = 34
      · rw [if_pos h1] at h; have := ih _ _ _ h; omega
      · rw [if_neg h1] at h
        by_cases h2 : d = 92
        · rw [if_pos h2] at h; have := ih _ _ _ h; omega
        · rw [if_neg h2] at h; have := ih _ _ _ h; omega
    | esc => rw [scan] at h; have := ih _ _ _ h; omega
theorem listO_len {v : List UInt8} {es : List (List UInt8)} (h : listO v = some es) : es.length ≤ v.length + 1 := by
  unfold listO partsO at h
  by_cases hc : ctlS v = true
  · rw [if_pos hc] at h; cases h
  · rw [if_neg hc] at h
    cases hs : scan 44 .out [] v with
    | none => rw [hs] at h; cases h
    | some ps =>
      rw [hs] at h
      obtain rfl := Option.some.inj h
      have h1 := scan_len 44 v .out [] ps hs
      refine Nat.le_trans (List.length_filter_le _ _) ?_
      rw [List.length_map]; exact h1
theorem scan_part (b : UInt8) : ∀ (l : List UInt8) (st : St) (cur : List UInt8) (ps : List (List UInt8)), scan b st cur l = some ps → ∀ p ∈ ps, p.length ≤ cur.length + l.length := by
  intro l
  induction l with
  | nil =>
    intro st cur ps h p hp
    cases st with
    | out => rw [scan] at h; obtain rfl := Option.some.inj h; rw [List.mem_singleton] at hp; rw [hp]; simp
    | inn => rw [scan] at h; cases h
    | esc => rw [scan] at h; cases h
  | cons d r ih =>
    intro st cur ps h p hp
    rw [List.length_cons]
    have go : ∀ st', scan b st' (cur ++ [d]) r = some ps → p.length ≤ cur.length + (r.length + 1) := by
      intro st' h'
      have := ih _ _ _ h' p hp
      rw [List.length_append, List.length_singleton] at this; omega
    cases st with
    | out =>
      rw [scan] at h
      by_cases h1 : d = 34
      · rw [if_pos h1] at h; exact go _ h
      · rw [if_neg h1] at h
        by_cases h2 : d = b
        · rw [if_pos h2] at h
          cases h3 : scan b .out [] r with
          | none => rw [h3] at h; cases h
          | some qs =>
            rw [h3] at h
            obtain rfl := Option.some.inj h
            rcases List.mem_cons.1 hp with rfl | hp
            · omega
            · have := ih _ _ _ h3 p hp
              rw [List.length_nil] at this; omega
        · rw [if_neg h2] at h; exact go _ h
    | inn =>
      rw [scan] at h
      by_cases h1 : d = 34
      · rw [if_pos h1] at h; exact go _ h
      · rw [if_neg h1] at h
        by_cases h2 : d = 92
        · rw [if_pos h2] at h; exact go _ h
        · rw [if_neg h2] at h; exact go _ h
    | esc => rw [scan] at h; exact go _ h
theorem listO_part {v : List UInt8} {es : List (List UInt8)} (h : listO v = some es) : ∀ e ∈ es, e.length ≤ v.length := by
  unfold listO partsO at h
  by_cases hc : ctlS v = true
  · rw [if_pos hc] at h; cases h
  · rw [if_neg hc] at h
    cases hs : scan 44 .out [] v with
    | none => rw [hs] at h; cases h
    | some ps =>
      rw [hs] at h
      obtain rfl := Option.some.inj h
      intro e he
      obtain ⟨p, hp, rfl⟩ := List.mem_map.1 (List.mem_filter.1 he).1
      have h1 := scan_part 44 v .out [] ps hs p hp
      have h2 := trimB_le p
      rw [List.length_nil] at h1; omega
theorem elems_len : ∀ {vs : List (List UInt8)} {es : List (List UInt8)}, elemsF vs = some es → es.length ≤ roomL vs := by
  intro vs
  induction vs with
  | nil => intro es h; obtain rfl := Option.some.inj h; simp [roomL]
  | cons v r ih =>
    intro es h
    rw [elemsF] at h
    cases h1 : listO v with
    | none => rw [h1] at h; cases h
    | some a =>
      rw [h1] at h
      cases h2 : elemsF r with
      | none => rw [h2] at h; cases h
      | some b =>
        rw [h2] at h
        obtain rfl := Option.some.inj h
        have e1 := listO_len h1
        have e2 := ih h2
        rw [List.length_append, roomL]; omega
theorem elems_app : ∀ (a b : List (List UInt8)), elemsF (a ++ b) = (elemsF a).bind fun x => (elemsF b).map (x ++ ·) := by
  intro a
  induction a with
  | nil => intro b; cases h : elemsF b <;> simp [elemsF, h]
  | cons v r ih =>
    intro b
    rw [List.cons_append, elemsF, elemsF, ih]
    cases listO v with
    | none => rfl
    | some x =>
      cases elemsF r with
      | none => rfl
      | some y => cases elemsF b <;> simp
theorem elems_more {vs : List (List UInt8)} {k : Nat} {v : List UInt8} {acc a : List (List UInt8)} (h : vs[k]? = some v) (h1 : elemsF (vs.take k) = some acc) (h2 : listO v = some a) : elemsF (vs.take (k + 1)) = some (acc ++ a) := by
  rw [take_more h, elems_app, h1]
  simp [elemsF, h2]
theorem elems_none {vs : List (List UInt8)} {v : List UInt8} (h : v ∈ vs) (h2 : listO v = none) : elemsF vs = none := by
  induction vs with
  | nil => cases h
  | cons x r ih =>
    rw [elemsF]
    rcases List.mem_cons.1 h with rfl | h
    · rw [h2]; rfl
    · rw [ih h]; cases listO x <;> rfl
theorem elems_none_at {vs : List (List UInt8)} {k : Nat} {v : List UInt8} (h : vs[k]? = some v) (h2 : listO v = none) : elemsF vs = none := elems_none (List.mem_of_getElem? h) h2
theorem elems_all {vs : List (List UInt8)} {k : Nat} {acc : List (List UInt8)} (hk : vs.length ≤ k) (h : elemsF (vs.take k) = some acc) : elemsF vs = some acc := by
  rwa [List.take_of_length_le hk] at h
theorem elems_part {vs es : List (List UInt8)} (h : elemsF vs = some es) : ∀ e ∈ es, e.length ≤ roomL vs := by
  induction vs generalizing es with
  | nil => obtain rfl := Option.some.inj h; intro e he; cases he
  | cons v r ih =>
    rw [elemsF] at h
    cases h1 : listO v with
    | none => rw [h1] at h; cases h
    | some a =>
      rw [h1] at h
      cases h2 : elemsF r with
      | none => rw [h2] at h; cases h
      | some b =>
        rw [h2] at h
        obtain rfl := Option.some.inj h
        intro e he
        rw [roomL]
        rcases List.mem_append.1 he with he | he
        · have := listO_part h1 e he; omega
        · have := ih h2 e he; omega
/-- The values of a name take no more room than the fields. -/
theorem all_room (ps : Flds) (n : List UInt8) : roomL (allL ps n) ≤ ps.length + (ps.foldr (fun p n => p.1.length + p.2.length + n) 0) := by
  induction ps with
  | nil => simp [allL, roomL]
  | cons p r ih =>
    rw [List.length_cons, List.foldr_cons]
    unfold allL at ih ⊢
    rw [List.filter_cons]
    split
    · rw [List.map_cons, roomL]; omega
    · omega
end Go.Proofs.YthjkneifffdglaaDoor
