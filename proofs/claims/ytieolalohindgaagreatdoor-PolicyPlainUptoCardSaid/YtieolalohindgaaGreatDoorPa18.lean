import Derived.Test.YtieolalohindgaaGreatDoorPa17
import Derived.Test.YtieolalohindgaaGreatDoorPa3
import Derived.Test.YtieolalohindgaaGreatDoorPa15
import Derived.Test.YtieolalohindgaaGreatDoorPa1
/- What add does to directives, continued. -/
namespace Go.Proofs.YtieolalohindgaaGreatDoor
open Go.RowKit

theorem addD_any (N : Nat) (d : Dv) (e : List UInt8) (w : World) (hD : DvB N w d) (hN : Nor d) (hM : MaxIs w) (he : e.length ≤ 1000000) :
    Calls Tryz.prog 53 #[.pointer (some ⟨N, 0, none⟩), .string (strB e)] w fun en w' => AddPost N (elemD d e) w en w' := by
  obtain ⟨nm, ar, fd, hC⟩ := cutD_ex e he
  by_cases h0 : lowS nm = nNS
  · exact add_nNS N d e nm ar _ fd w hC rfl h0 hD hN hM he
  by_cases h1 : lowS nm = nNC
  · exact add_nNC N d e nm ar _ fd w hC rfl h0 h1 hD hN hM he
  by_cases h2 : lowS nm = nPR
  · exact add_nPR N d e nm ar _ fd w hC rfl h0 h1 h2 hD hN hM he
  by_cases h3 : lowS nm = nPU
  · exact add_nPU N d e nm ar _ fd w hC rfl h0 h1 h2 h3 hD hN hM he
  by_cases h4 : lowS nm = nMR
  · exact add_nMR N d e nm ar _ fd w hC rfl h0 h1 h2 h3 h4 hD hN hM he
  by_cases h5 : lowS nm = nPX
  · exact add_nPX N d e nm ar _ fd w hC rfl h0 h1 h2 h3 h4 h5 hD hN hM he
  by_cases h6 : lowS nm = nOC
  · exact add_nOC N d e nm ar _ fd w hC rfl h0 h1 h2 h3 h4 h5 h6 hD hN hM he
  by_cases h7 : lowS nm = nMA
  · exact add_nMA N d e nm ar _ fd w hC rfl h0 h1 h2 h3 h4 h5 h6 h7 hD hN hM he
  by_cases h8 : lowS nm = nSA
  · exact add_nSA N d e nm ar _ fd w hC rfl h0 h1 h2 h3 h4 h5 h6 h7 h8 hD hN hM he
  by_cases h9 : lowS nm = nWS
  · exact add_nWS N d e nm ar _ fd w hC rfl h0 h1 h2 h3 h4 h5 h6 h7 h8 h9 hD hN hM he
  by_cases h10 : lowS nm = nOE
  · exact add_nOE N d e nm ar _ fd w hC rfl h0 h1 h2 h3 h4 h5 h6 h7 h8 h9 h10 hD hN hM he
  by_cases h11 : lowS nm = nMS
  · exact add_nMS N d e nm ar _ fd w hC rfl h0 h1 h2 h3 h4 h5 h6 h7 h8 h9 h10 h11 hD hN hM he
  by_cases h12 : lowS nm = nMF
  · exact add_nMF N d e nm ar _ fd w hC rfl h0 h1 h2 h3 h4 h5 h6 h7 h8 h9 h10 h11 h12 hD hN hM he
  exact add_other N d e nm ar _ fd w hC rfl h0 h1 h2 h3 h4 h5 h6 h7 h8 h9 h10 h11 h12 hD hN hM he
end Go.Proofs.YtieolalohindgaaGreatDoor

/- What lowerName, All and Size return, for every list of fields. -/
namespace Go.Proofs.YtieolalohindgaaGreatDoor
open Go.RowKit

theorem toList_same {a b : List UInt8} (h : a = b) : ((strB a).toList == (strB b).toList) = true := by subst h; exact beq_self_eq_true _
theorem toList_other {a b : List UInt8} (h : a ≠ b) : ((strB a).toList == (strB b).toList) = false := by
  rw [ByteArray.toList_eq, ByteArray.toList_eq]
  simpa [strB] using h
theorem new_pair (w : World) (a b : Value) (T : TypeId) : (w.alloc (.cells #[a, b] T)).cell? ⟨w.heap.size, 0, none⟩ = some a ∧ (w.alloc (.cells #[a, b] T)).cell? ⟨w.heap.size, 1, none⟩ = some b := by
  constructor <;> rw [World.cell?_alloc_at _ _ _ _ rfl] <;> rfl
/-- Both cells of a new variable of two strings, behind a call that leaves what was there. -/
theorem pair_kept {w w' : World} {a b : Value} {T : TypeId} (h : Below (w.alloc (.cells #[a, b] T)).heap.size (w.alloc (.cells #[a, b] T)) w') :
    w'.cell? ⟨w.heap.size, 0, none⟩ = some a ∧ w'.cell? ⟨w.heap.size, 1, none⟩ = some b := by
  have hs : w.heap.size < (w.alloc (.cells #[a, b] T)).heap.size := by simp
  exact ⟨(h.cell (p := ⟨w.heap.size, 0, none⟩) hs).trans (new_pair w a b T).1, (h.cell (p := ⟨w.heap.size, 1, none⟩) hs).trans (new_pair w a b T).2⟩
theorem below_pair {B : Nat} {w0 w w' : World} {a b : Value} {T : TypeId} (hB : Below B w0 w) (hBs : B ≤ w.heap.size) (h : Below (w.alloc (.cells #[a, b] T)).heap.size (w.alloc (.cells #[a, b] T)) w') : Below B w0 w' :=
  (hB.alloc hBs _).trans (h.mono (by simp; omega))
theorem below_pair' {w w' : World} {a b : Value} {T : TypeId} (h : Below (w.alloc (.cells #[a, b] T)).heap.size (w.alloc (.cells #[a, b] T)) w') : Below w.heap.size w w' := below_pair (Below.refl _ _) (Nat.le_refl _) h

set_option maxHeartbeats 400000 in
set_option maxRecDepth 100000 in
theorem lowerName_any (a b : List UInt8) (w : World) (ha : a.length ≤ 1000000000) :
    Calls Tryz.prog 77 #[.agg #[.string (strB a), .string (strB b)]] w fun e w' => e = .returned (.string (strB (lowS a))) ∧ Below w.heap.size w w' := by
  have hz : (strB a).size ≤ 1000000000 := by rw [strB_size]; exact ha
  go_enter Tryz.func77, Tryz.ntmps77
  go_wp2_with fail
  refine (lower_any (strB a) _ hz).mono ?_
  rintro e w1 ⟨rfl, hB⟩
  rw [strB_list]
  go_wp2_with fail
  go_ret
  exact ⟨rfl, below_pair' hB⟩

def AllRel (ps : Flds) (n : List UInt8) (w : World) (v i : Value) (wr : World) : Prop :=
  ∃ k : Nat, i = .int .i64 k ∧ k ≤ ps.length ∧ OwnsS w.heap.size wr v (allL (ps.take k) n) ∧ Below w.heap.size w wr

set_option maxHeartbeats 2000000 in
set_option maxRecDepth 100000 in
theorem all_any (fv : Value) (ps : Flds) (n : ByteArray) (w : World) (hr : ReadsQ w fv ps) (hn : n.size ≤ 1000000000) (hl : ps.length ≤ 1000000) (hb : ∀ p ∈ ps, p.1.length + p.2.length ≤ 1000000) :
    Calls Tryz.prog 51 #[fv, .string n] w fun e w' => ∃ v, e = .returned v ∧ OwnsS w.heap.size w' v (allL ps n.data.toList) ∧ Below w.heap.size w w' := by
  obtain ⟨i0, hi, hz0, hz1, hz2⟩ := info_parts Tryz.infoS
  obtain ⟨ao, cap, rfl, hc⟩ := hr
  have HC := Lib.hid hc
  have HBig := Lib.hid hb
  clear hc hb
  go_enter Tryz.func51, Tryz.ntmps51
  go_wp2_with fail
  refine (lower_any n _ hn).mono ?_
  rintro e w1 ⟨rfl, hB⟩
  have hz1' := hB.size
  go_wp2_with fail
  go_loopw [5, 12] (fun v i wr => AllRel ps n.data.toList w1 v i wr) (fun _ i _ => ps.length - (intOf i).toNat)
  case atStart => exact ⟨0, rfl, Nat.zero_le _, World.ownsRow_nil _ _ _ _, Below.refl _ _⟩
  case round =>
    obtain ⟨k, rfl, hk, hO, hBr⟩ := hrel
    have hbr := hBr.size
    have hal := all_le ps n.data.toList k
    by_cases hlt : k < ps.length
    · obtain ⟨p, hp⟩ : ∃ p, ps[k]? = some p := ⟨ps[k], by simp [hlt]⟩
      obtain ⟨g, off, rfl, hg1, h1, h2⟩ := HC.out k p hp
      have hc1 : wr.cell? ⟨g, off + k * 2, none⟩ = some (.string (strB p.1)) := (hBr.cell (p := ⟨g, off + k * 2, none⟩) (by show g < _; omega)).trans ((hB.cell (p := ⟨g, off + k * 2, none⟩) hg1).trans h1)
      have hc2 : wr.cell? ⟨g, off + k * 2 + 1, none⟩ = some (.string (strB p.2)) := (hBr.cell (p := ⟨g, off + k * 2 + 1, none⟩) (by show g < _; omega)).trans ((hB.cell (p := ⟨g, off + k * 2 + 1, none⟩) hg1).trans h2)
      have hpl := HBig.out p (List.mem_of_getElem? hp)
      have HP := Lib.hid hp
      clear hp h1 h2
      cases ho : ofN n.data.toList p with
      | true =>
        have heq := toList_same (of_decide_eq_true ho)
        have HO := Lib.hid ho
        clear ho
        go_wp2_with fail
        refine (lowerName_any p.1 p.2 _ (by omega)).mono ?_
        rintro e w2 ⟨rfl, hB2⟩
        have hpk := pair_kept hB2
        have hd1 := hpk.2
        have hB2' := below_pair' hB2
        have hs2 := hB2'.size
        clear hpk hB2
        go_wp2_with (at_builtin; refine wpList_append_own _ rfl _ _ 94 rfl w1.heap.size 9 i0 (.string ByteArray.empty) 1 16 Tryz.underlying94 hi hz0 hz1 hz2 rfl (by decide) _ _ _ rfl ((OwnsS.below hO hB2').alloc _) ⟨w2.heap.size, 0, none⟩ 1 1 [strV p.2] rfl rfl (cell_one_new _ _ _) (fun u hu => by simp at hu; subst hu; rfl) (by unfold maxLen; omega) (by omega) (by simp; omega) ?_; intro v' w3 hown' hgrow _)
        go_roundw
        case rel => exact ⟨k + 1, by go_num, by omega, by rw [all_yes HP.out HO.out]; exact OwnsS.snoc hown', below_append hBr hbr hB2' hO hgrow⟩
        case measure => simp [intOf]; omega
      | false =>
        have heq := toList_other (of_decide_eq_false ho)
        have HO := Lib.hid ho
        clear ho
        go_wp2_with fail
        refine (lowerName_any p.1 p.2 _ (by omega)).mono ?_
        rintro e w2 ⟨rfl, hB2⟩
        have hB2' := below_pair' hB2
        have hs2 := hB2'.size
        clear hB2
        go_wp2_with fail
        go_roundw
        case rel => exact ⟨k + 1, by go_num, by omega, by rw [all_no HP.out HO.out]; exact OwnsS.below hO hB2', hBr.trans (hB2'.mono hbr)⟩
        case measure => simp [intOf]; omega
    · have htk : ps.take k = ps := List.take_of_length_le (by omega)
      rw [htk] at hO
      go_wp2_with fail
      go_ret
      exact ⟨_, rfl, OwnsS.mono hz1' hO, hB.trans (hBr.mono hz1')⟩
end Go.Proofs.YtieolalohindgaaGreatDoor

/- Plain mathematics: how many parts there are, and how long they are. -/
namespace Go.Proofs.YtieolalohindgaaGreatDoor
open Go.RowKit

theorem scan_ne (b : UInt8) : ∀ (l : List UInt8) (st : St) (cur : List UInt8) (ps : List (List UInt8)), scan b st cur l = some ps → ps ≠ [] := by
  intro l
  induction l with
  | nil =>
    intro st cur ps h
    cases st <;> simp [scan] at h
    rw [← h]; simp
  | cons c r ih =>
    intro st cur ps h
    cases st
    · unfold scan at h
      split at h
      · exact ih _ _ _ h
      · split at h
        · cases hr : scan b .out [] r with
          | none => rw [hr] at h; cases h
          | some qs => rw [hr] at h; simp at h; rw [← h]; simp
        · exact ih _ _ _ h
    · unfold scan at h
      split at h
      · exact ih _ _ _ h
      · split at h
        · exact ih _ _ _ h
        · exact ih _ _ _ h
    · unfold scan at h; exact ih _ _ _ h
theorem scan_len (b : UInt8) : ∀ (l : List UInt8) (st : St) (cur : List UInt8) (ps : List (List UInt8)), scan b st cur l = some ps → ∀ p ∈ ps, p.length ≤ cur.length + l.length := by
  intro l
  induction l with
  | nil =>
    intro st cur ps h p hp
    cases st <;> simp [scan] at h
    subst h; simp at hp; subst hp; simp
  | cons c r ih =>
    intro st cur ps h p hp
    cases st
    · unfold scan at h
      split at h
      · have := ih _ _ _ h p hp; simp at this ⊢; omega
      · split at h
        · cases hr : scan b .out [] r with
          | none => rw [hr] at h; cases h
          | some qs =>
            rw [hr] at h; simp at h; subst h
            rcases List.mem_cons.mp hp with e | e
            · subst e; simp
            · have := ih _ _ _ hr p e; simp at this ⊢; omega
        · have := ih _ _ _ h p hp; simp at this ⊢; omega
    · unfold scan at h
      split at h
      · have := ih _ _ _ h p hp; simp at this ⊢; omega
      · split at h
        · have := ih _ _ _ h p hp; simp at this ⊢; omega
        · have := ih _ _ _ h p hp; simp at this ⊢; omega
    · unfold scan at h; have := ih _ _ _ h p hp; simp at this ⊢; omega
theorem trimB_len (l : List UInt8) : (trimB l).length ≤ l.length := by
  rw [trimB_eq]
  have h1 : (tL l).length ≤ l.length := (List.dropWhile_sublist _).length_le
  have h2 : (tR (tL l)).length ≤ (tL l).length := by
    unfold tR; rw [List.length_reverse]
    have := (List.dropWhile_sublist (p := blank) (l := (tL l).reverse)).length_le
    simpa using this
  omega
theorem partsO_ne {b : UInt8} {l : List UInt8} {ls : List (List UInt8)} (h : partsO b l = some ls) : ls ≠ [] := by
  unfold partsO at h
  split at h
  · cases h
  · cases hs : scan b .out [] l with
    | none => rw [hs] at h; cases h
    | some ps =>
      rw [hs] at h; simp at h; subst h
      have := scan_ne b l _ _ _ hs
      simpa using this
theorem partsO_len {b : UInt8} {l : List UInt8} {ls : List (List UInt8)} (h : partsO b l = some ls) : ∀ p ∈ ls, p.length ≤ l.length := by
  unfold partsO at h
  split at h
  · cases h
  · cases hs : scan b .out [] l with
    | none => rw [hs] at h; cases h
    | some ps =>
      rw [hs] at h; simp at h; subst h
      intro p hp
      obtain ⟨q, hq, rfl⟩ := List.mem_map.mp hp
      have h1 := scan_len b l _ _ _ hs q hq
      have h2 := trimB_len q
      simp at h1; omega
end Go.Proofs.YtieolalohindgaaGreatDoor
