import Derived.Test.YtfmgfcddnnggeaaGreatDoorPa3
import Derived.Test.YtfmgfcddnnggeaaGreatDoorPa4
import Derived.Test.YtfmgfcddnnggeaaGreatDoorPa12
import Derived.Test.YtfmgfcddnnggeaaGreatDoorPa1
import Derived.Test.YtfmgfcddnnggeaaGreatDoorPa2
import Derived.Lib.Hide
/- Names, values and hosts are as the heads' reading and writing asks. -/
namespace Go.Proofs.YtfmgfcddnnggeaaGreatDoor

def nmO (l : List UInt8) : Option (List UInt8) := if nameC l = 0 then some (lowS l) else none
def vlO (l : List UInt8) : Option (List UInt8) := if valueC l = 0 then some (trimB l) else none
theorem tok_fin : ∀ n : Fin 256, tokB (UInt8.ofNat n.val) = true → (UInt8.ofNat n.val ≠ 0 ∧ UInt8.ofNat n.val ≠ 13 ∧ UInt8.ofNat n.val ≠ 10 ∧ UInt8.ofNat n.val ≠ 58 ∧ UInt8.ofNat n.val ≠ 32 ∧ UInt8.ofNat n.val ≠ 9) ∧ tokB (lowB (UInt8.ofNat n.val)) = true := by decide +kernel
theorem tok_facts {c : UInt8} (h : tokB c = true) : (c ≠ 0 ∧ c ≠ 13 ∧ c ≠ 10 ∧ c ≠ 58 ∧ c ≠ 32 ∧ c ≠ 9) ∧ tokB (lowB c) = true := by
  have := tok_fin ⟨c.toNat, UInt8.toNat_lt c⟩ (by rw [UInt8.ofNat_toNat]; exact h)
  simpa only [UInt8.ofNat_toNat] using this
theorem nmO_some {l y : List UInt8} (h : nmO l = some y) : y = lowS l ∧ tokS l = true ∧ l.length ≤ 64 := by
  unfold nmO at h
  by_cases h1 : nameC l = 0
  · rw [if_pos h1] at h
    unfold nameC at h1
    by_cases h2 : tokS l = true
    · rw [if_pos h2] at h1
      exact ⟨(Option.some.inj h).symm, h2, by split at h1 <;> omega⟩
    · rw [if_neg h2] at h1; omega
  · rw [if_neg h1] at h; cases h
theorem nmO_of {l : List UInt8} (h1 : tokS l = true) (h2 : l.length ≤ 64) : nmO l = some (lowS l) := by
  have e : nameC l = 0 := by unfold nameC; rw [if_pos h1, if_neg (by omega)]
  unfold nmO; rw [if_pos e]
theorem tokS_low {l : List UInt8} (h : tokS l = true) : tokS (lowS l) = true := by
  unfold tokS at h ⊢
  rw [Bool.and_eq_true, List.all_eq_true] at h
  rw [Bool.and_eq_true, List.all_eq_true]
  refine ⟨fun c hc => ?_, ?_⟩
  · unfold lowS at hc
    obtain ⟨d, hd, rfl⟩ := List.mem_map.1 hc
    exact (tok_facts (h.1 d hd)).2
  · cases l with
    | nil => simp at h
    | cons c t => rfl
theorem ctl_fin : ∀ n : Fin 256, ctlB (UInt8.ofNat n.val) = false → UInt8.ofNat n.val ≠ 0 ∧ UInt8.ofNat n.val ≠ 13 ∧ UInt8.ofNat n.val ≠ 10 := by decide +kernel
theorem vlO_some {l y : List UInt8} (h : vlO l = some y) : y = trimB l ∧ ctlS l = false ∧ (trimB l).length ≤ 2048 := by
  unfold vlO at h
  by_cases h1 : valueC l = 0
  · rw [if_pos h1] at h
    unfold valueC at h1
    by_cases h2 : ctlS l = true
    · rw [if_pos h2] at h1; omega
    · rw [if_neg h2] at h1
      exact ⟨(Option.some.inj h).symm, by simpa using h2, by split at h1 <;> omega⟩
  · rw [if_neg h1] at h; cases h
theorem vlO_of {l : List UInt8} (h1 : ctlS l = false) (h2 : (trimB l).length ≤ 2048) : vlO l = some (trimB l) := by
  have e : valueC l = 0 := by unfold valueC; rw [h1, if_neg (by decide), if_neg (by omega)]
  unfold vlO; rw [if_pos e]
theorem tL_id (l : List UInt8) : tL (tL l) = tL l := by
  induction l with
  | nil => rfl
  | cons c t ih =>
    rw [tL_cons]
    by_cases h : blank c = true
    · rw [if_pos h]; exact ih
    · rw [if_neg h, tL_cons, if_neg h]
theorem tR_id (l : List UInt8) : tR (tR l) = tR l := by
  induction l with
  | nil => rfl
  | cons c t ih =>
    rw [tR_cons]
    by_cases h : tR t = [] ∧ blank c = true
    · rw [if_pos h]; rfl
    · rw [if_neg h, tR_cons, ih, if_neg h]
theorem trimB_id (l : List UInt8) : trimB (trimB l) = trimB l := by
  rw [trimB_eq, trimB_eq, tR_tL, tR_id, ← tR_tL (tL l), tL_id]
theorem trimB_sub (l : List UInt8) : ∀ c ∈ trimB l, c ∈ l := by
  intro c hc
  rw [trimB_eq] at hc
  unfold tR at hc
  rw [List.mem_reverse] at hc
  have h1 := (List.dropWhile_sublist blank).subset hc
  rw [List.mem_reverse] at h1
  exact (List.dropWhile_sublist blank).subset h1
theorem ctlS_sub {a b : List UInt8} (h : ∀ c ∈ a, c ∈ b) (hb : ctlS b = false) : ctlS a = false := by
  unfold ctlS at *
  rw [List.any_eq_false] at *
  exact fun c hc => hb c (h c hc)
theorem trimB_blank (c : UInt8) (hc : blank c = true) (l : List UInt8) : trimB (c :: l) = trimB l := by
  rw [trimB_eq, trimB_eq, tL_cons, if_pos hc]
/-- A text without blanks is trimmed. -/
theorem trimB_none {l : List UInt8} (h : ∀ c ∈ l, blank c = false) : trimB l = l := by
  have h1 : tL l = l := by
    cases l with
    | nil => rfl
    | cons c t => rw [tL_cons, if_neg (by rw [h c (by simp)]; decide)]
  have h2 : tR l = l := by
    unfold tR
    have : l.reverse.dropWhile blank = l.reverse := by
      cases hr : l.reverse with
      | nil => rfl
      | cons c t =>
        rw [List.dropWhile_cons, if_neg]
        have : c ∈ l.reverse := by rw [hr]; simp
        rw [h c (List.mem_reverse.1 this)]; decide
    rw [this, List.reverse_reverse]
  rw [trimB_eq, h1, h2]
theorem aln_fin : ∀ n : Fin 256, lblC (UInt8.ofNat n.val) = true → ctlB (UInt8.ofNat n.val) = false ∧ blank (UInt8.ofNat n.val) = false := by decide +kernel
theorem lblC_facts {c : UInt8} (h : lblC c = true) : ctlB c = false ∧ blank c = false := by
  have := aln_fin ⟨c.toNat, UInt8.toNat_lt c⟩ (by rw [UInt8.ofNat_toNat]; exact h)
  simpa only [UInt8.ofNat_toNat] using this
theorem host_chars {l h : List UInt8} (e : hostO l = some h) : ∀ c ∈ h, ctlB c = false ∧ blank c = false := by
  have e' := (hostO_some (hostO_idem e)).2.2
  intro c hc
  by_cases hd : c = 46
  · subst hd; decide
  · obtain ⟨s, hs, hxs⟩ := cutL_mem 46 h c hc hd
    have := List.all_eq_true.mp e' s hs
    simp only [lblB, Bool.and_eq_true, List.all_eq_true] at this
    exact lblC_facts (this.2 c hxs)
theorem flk : Flk nmO vlO hostO lowS where
  nm_lw h := (nmO_some h).1
  nm_id h := by
    obtain ⟨rfl, h2, h3⟩ := nmO_some h
    rw [nmO_of (tokS_low h2) (by rw [lowS_len]; exact h3), lowS_idem]
  nm_ok h := by
    obtain ⟨rfl, h2, h3⟩ := nmO_some h
    unfold tokS at h2
    rw [Bool.and_eq_true, List.all_eq_true] at h2
    refine ⟨?_, fun c hc => (tok_facts (h2.1 c hc)).1⟩
    rintro rfl
    simp at h2
  vl_ok h := by
    obtain ⟨_, h2, _⟩ := vlO_some h
    unfold ctlS at h2
    rw [List.any_eq_false] at h2
    intro c hc
    have h3 : ctlB c = false := by simpa using h2 c hc
    have := ctl_fin ⟨c.toNat, UInt8.toNat_lt c⟩ (by rw [UInt8.ofNat_toNat]; exact h3)
    simpa only [UInt8.ofNat_toNat] using this
  vl_id h := by
    obtain ⟨rfl, h2, h3⟩ := vlO_some h
    refine ⟨?_, trimB_le _⟩
    rw [vlO_of (ctlS_sub (trimB_sub _) h2) (by rw [trimB_id]; exact h3), trimB_id]
  vl_sp h := by
    obtain ⟨h1, h2, h3⟩ := vlO_some h
    have e := trimB_blank 32 (by decide) _ |>.trans h1.symm
    rw [vlO_of (by unfold ctlS; rw [List.any_cons]; unfold ctlS at h2; rw [h2]; decide) (by rw [trimB_blank 32 (by decide)]; exact h3), e]
  hs_lw h := (hostO_some h).1
  hs_id h := hostO_idem h
  hs_vl h := by
    have hc := host_chars h
    have ht : trimB _ = _ := trimB_none fun c hm => (hc c hm).2
    have hl := (hostO_some (hostO_idem h)).2.1
    rw [vlO_of (by unfold ctlS; rw [List.any_eq_false]; intro c hm; simp [(hc c hm).1]) (by rw [ht]; omega), ht]
  lw_len := lowS_len
  lw_id := lowS_idem
end Go.Proofs.YtfmgfcddnnggeaaGreatDoor

/- Heads that arrive in parts: more bytes change nothing once a head is complete or faulty. -/
namespace Go.Proofs.YtfmgfcddnnggeaaGreatDoor

theorem end4_more {l : List UInt8} {n : Nat} (h : end4 l = some n) (r : List UInt8) : end4 (l ++ r) = some n := by
  have := end4_pre h (l.drop n ++ r)
  rwa [← List.append_assoc, List.take_append_drop] at this
theorem endO_more {l : List UInt8} {n : Nat} (h : endO l = some n) (r : List UInt8) : endO (l ++ r) = some n := by
  unfold endO at h ⊢
  by_cases h2 : l.take 2 = [13, 10]
  · rw [if_pos h2] at h
    have hl := congrArg List.length h2
    simp [List.length_take] at hl
    rw [if_pos (by rw [List.take_append_of_le_length (by omega)]; exact h2)]; exact h
  · rw [if_neg h2] at h
    have h4 := end4_some h
    rw [if_neg (by rw [List.take_append_of_le_length (by omega)]; exact h2)]
    exact end4_more h r
theorem endO_le {l : List UInt8} {n : Nat} (h : endO l = some n) : 2 ≤ n ∧ n ≤ l.length := by
  unfold endO at h
  by_cases h2 : l.take 2 = [13, 10]
  · rw [if_pos h2] at h
    have hl := congrArg List.length h2
    simp [List.length_take] at hl
    obtain rfl := Option.some.inj h
    omega
  · rw [if_neg h2] at h
    have := end4_some h
    omega
theorem endO_pre {l : List UInt8} {n : Nat} (h : endO l = some n) : endO (l.take n) = some n := by
  unfold endO at h ⊢
  by_cases h2 : l.take 2 = [13, 10]
  · rw [if_pos h2] at h
    obtain rfl := Option.some.inj h
    rw [if_pos (by rw [List.take_take]; exact h2)]
  · rw [if_neg h2] at h
    have h4 := end4_some h
    rw [if_neg (by rw [List.take_take, Nat.min_eq_left (by omega)]; exact h2)]
    have := end4_pre h []
    rwa [List.append_nil] at this
/-- An end that shows only with more bytes lies behind those that were there. -/
theorem endO_new {l r : List UInt8} {n : Nat} (h0 : endO l = none) (h : endO (l ++ r) = some n) : l.length < n := by
  by_cases hn : n ≤ l.length
  · have h1 := endO_pre h
    rw [List.take_append_of_le_length hn] at h1
    have h2 := endO_more h1 (l.drop n)
    rw [List.take_append_drop, h0] at h2
    cases h2
  · omega
theorem splitG_more {s : List UInt8} (h : (splitG s).1 ≠ 21) (r : List UInt8) : splitG (s ++ r) = splitG s := by
  unfold splitG at h ⊢
  cases he : endO s with
  | some n =>
    rw [endO_more he r]
    have hn := (endO_le he).2
    simp only
    rw [List.take_append_of_le_length hn]
  | none =>
    rw [he] at h
    have hl : ¬ s.length < 8192 := by intro hl; simp only [if_pos hl] at h; exact h rfl
    simp only [if_neg hl]
    cases he2 : endO (s ++ r) with
    | none => simp only [List.length_append]; rw [if_neg (by omega)]
    | some n =>
      have := endO_new he he2
      simp only
      rw [if_pos (.inl (by omega))]
theorem splitG_len {s : List UInt8} (h : (splitG s).1 = 21) : s.length < 8192 := by
  unfold splitG at h
  cases he : endO s with
  | none =>
    rw [he] at h
    simp only at h
    by_cases hl : s.length < 8192
    · exact hl
    · rw [if_neg hl] at h; cases h
  | some n =>
    rw [he] at h
    simp only at h
    split at h
    · cases h
    · split at h
      · cases h
      · cases h
theorem splitG_nil : (splitG []).1 = 21 := by decide
/-- The number of bytes of a head that shows only with the last byte. -/
theorem splitG_last {s : List UInt8} {c : UInt8} (h0 : (splitG s).1 = 21) (h : (splitG (s ++ [c])).1 = 0) : (splitG (s ++ [c])).2.2 = s.length + 1 := by
  have hE : endO s = none := by
    cases he : endO s with
    | none => rfl
    | some n =>
      unfold splitG at h0
      rw [he] at h0
      simp only at h0
      split at h0
      · cases h0
      · split at h0 <;> cases h0
  unfold splitG at h ⊢
  cases he : endO (s ++ [c]) with
  | none => rw [he] at h; simp only at h; split at h <;> cases h
  | some n =>
    rw [he] at h
    have h1 := endO_new hE he
    have h2 := (endO_le he).2
    simp only [List.length_append, List.length_singleton] at h2
    simp only at h ⊢
    split at h
    · cases h
    · rename_i q1
      rw [if_neg q1]
      split at h
      · cases h
      · rename_i q2
        rw [if_neg q2]
        simp only
        omega
section
variable {nm vl hs : List UInt8 → Option (List UInt8)} {lw : List UInt8 → List UInt8}
theorem readF_codes (l : List UInt8) : (readF nm vl l).1 ≤ 25 ∧ (readF nm vl l).1 ≠ 21 := by
  unfold readF
  (repeat' split) <;> simp
theorem readFs_codes : ∀ ls : List (List UInt8), (readFs nm vl ls).1 ≤ 25 ∧ (readFs nm vl ls).1 ≠ 21 := by
  intro ls
  induction ls with
  | nil => simp [readFs]
  | cons l r ih =>
    unfold readFs
    have := readF_codes (nm := nm) (vl := vl) l
    split
    · exact this
    · split
      · exact ih
      · simp
theorem reqL_codes (l : List (List UInt8)) : (reqL nm vl hs lw l).1 ≤ 29 ∧ (reqL nm vl hs lw l).1 ≠ 21 := by
  unfold reqL
  have := readFs_codes (nm := nm) (vl := vl) l.tail
  simp only
  split
  · simp
  · split
    · simp
    · split
      · simp
      · split
        · omega
        · split <;> simp
theorem respL_codes (l : List (List UInt8)) : (respL nm vl l).1 ≤ 28 ∧ (respL nm vl l).1 ≠ 21 := by
  unfold respL
  have := readFs_codes (nm := nm) (vl := vl) l.tail
  split
  · simp
  · split
    · simp
    · split
      · omega
      · simp
theorem readQ_21 {s : List UInt8} : (readQ nm vl hs lw s).1 = 21 ↔ (splitG s).1 = 21 := by
  unfold readQ
  have := reqL_codes (nm := nm) (vl := vl) (hs := hs) (lw := lw) (splitG s).2.1
  by_cases h : (splitG s).1 = 0
  · rw [if_neg (by simp [h])]
    constructor
    · intro e
      split at e
      · exact absurd e this.2
      · cases e
    · intro e; omega
  · rw [if_pos h]
theorem readP_21 {s : List UInt8} : (readP nm vl s).1 = 21 ↔ (splitG s).1 = 21 := by
  unfold readP
  have := respL_codes (nm := nm) (vl := vl) (splitG s).2.1
  by_cases h : (splitG s).1 = 0
  · rw [if_neg (by simp [h])]
    constructor
    · intro e
      split at e
      · exact absurd e this.2
      · cases e
    · intro e; omega
  · rw [if_pos h]
theorem readQ_more {s : List UInt8} (h : (readQ nm vl hs lw s).1 ≠ 21) (r : List UInt8) : readQ nm vl hs lw (s ++ r) = readQ nm vl hs lw s := by
  unfold readQ; rw [splitG_more (fun e => h (readQ_21.2 e)) r]
theorem readP_more {s : List UInt8} (h : (readP nm vl s).1 ≠ 21) (r : List UInt8) : readP nm vl (s ++ r) = readP nm vl s := by
  unfold readP; rw [splitG_more (fun e => h (readP_21.2 e)) r]
theorem readQ_zero {s : List UInt8} (h : (readQ nm vl hs lw s).1 = 0) : (splitG s).1 = 0 ∧ (readQ nm vl hs lw s).2.2 = (splitG s).2.2 := by
  unfold readQ at h ⊢
  by_cases h0 : (splitG s).1 = 0
  · rw [if_neg (by simp [h0])] at h ⊢
    by_cases h1 : (reqL nm vl hs lw (splitG s).2.1).1 = 0
    · rw [if_neg (by simp [h1])]; exact ⟨h0, rfl⟩
    · rw [if_pos h1] at h; exact absurd h h1
  · rw [if_pos h0] at h; exact absurd h h0
theorem readP_zero {s : List UInt8} (h : (readP nm vl s).1 = 0) : (splitG s).1 = 0 ∧ (readP nm vl s).2.2 = (splitG s).2.2 := by
  unfold readP at h ⊢
  by_cases h0 : (splitG s).1 = 0
  · rw [if_neg (by simp [h0])] at h ⊢
    by_cases h1 : (respL nm vl (splitG s).2.1).1 = 0
    · rw [if_neg (by simp [h1])]; exact ⟨h0, rfl⟩
    · rw [if_pos h1] at h; exact absurd h h1
  · rw [if_pos h0] at h; exact absurd h h0
end
end Go.Proofs.YtfmgfcddnnggeaaGreatDoor

/- What the code's divide returns: the trimmed parts of a string between separators outside of quoted parts, or ErrForm. -/
namespace Go.Proofs.YtfmgfcddnnggeaaGreatDoor
open Go.RowKit

theorem trim_seg (s : ByteArray) (x k : Nat) (w : World) (hs : s.size ≤ 100000) :
    Calls Tryz.prog 100 #[.string (s.extract x k)] w fun e w' => e = .returned (strV (trimB ((s.data.toList.drop x).take (k - x)))) ∧ Below w.heap.size w w' := by
  refine (trimA_any (s.extract x k) w (by simp; omega)).mono ?_
  rintro e w' ⟨rfl, hb⟩
  exact ⟨by rw [seg_list], hb⟩
def DivRel (s : ByteArray) (b : UInt8) (w : World) (v q st i : Value) (wr : World) : Prop :=
  ∃ (acc : List (List UInt8)) (x k : Nat) (qb : Bool), i = .int .i64 k ∧ st = .int .i64 x ∧ q = .bool qb ∧ Inv b s.data.toList acc x k qb ∧
    OwnsS w.heap.size wr v (acc.map trimB) ∧ Below w.heap.size w wr
theorem DivRel0 (s : ByteArray) (b : UInt8) (w : World) : DivRel s b w (.slice none 0 0) (.bool false) (.int .i64 0) (.int .i64 0) w :=
  ⟨[], 0, 0, false, rfl, rfl, rfl, Inv0 _ _, World.ownsRow_nil _ _ _ _, Below.refl _ _⟩

def partsO (b : UInt8) (l : List UInt8) : Option (List (List UInt8)) := if ctlS l then none else (scan b .out [] l).map (·.map trimB)

def DivPost (s : ByteArray) (b : UInt8) (w : World) (e : Ending) (w' : World) : Prop :=
  Below w.heap.size w w' ∧
  match partsO b s.data.toList with
  | none => e = .returned (.tuple #[.slice none 0 0, errForm])
  | some ls => ∃ v, e = .returned (.tuple #[v, .nilIface]) ∧ OwnsS w.heap.size w' v ls ∧ ls.length ≤ 100002

set_option maxHeartbeats 2000000 in
set_option maxRecDepth 100000 in
theorem divide_any (s : ByteArray) (b : UInt8) (w : World) (hs : s.size ≤ 100000) :
    Calls Tryz.prog 116 #[.string s, .int .u8 (b.toNat : Int)] w fun e w' => DivPost s b w e w' := by
  obtain ⟨i0, hi, hz0, hz1, hz2⟩ := info_parts Tryz.infoS
  by_cases hc : ctlS s.data.toList = true
  · go_enter Tryz.func116, Tryz.ntmps116
    go_wp2_with (go_at_call 58; refine (hasControl_any _ _ (by unfold maxLen; omega)).mono ?_; rintro e w' ⟨rfl, rfl⟩)
    go_ret2
    exact ⟨Below.refl _ _, by simp [partsO, hc, errForm]⟩
  · have hc' : ctlS s.data.toList = false := by simpa using hc
    go_enter Tryz.func116, Tryz.ntmps116
    go_wp2_with (go_at_call 58; refine (hasControl_any _ _ (by unfold maxLen; omega)).mono ?_; rintro e w' ⟨rfl, rfl⟩)
    go_loopw [6, 7, 8, 9] (fun v q st i wr => DivRel s b w v q st i wr) (fun _ _ _ i _ => s.size - (intOf i).toNat)
    case atStart => exact DivRel0 s b w
    case round =>
      obtain ⟨acc, x, k, qb, rfl, rfl, rfl, hI, hown, hB⟩ := hrel
      have hL : s.data.toList.length = s.size := by simp
      have HI := Lib.hid hI
      have HL := Lib.hid hL
      have hxk : x ≤ k := hI.1
      have hxs : x ≤ s.size := by have := hI.2.1; omega
      have hal : acc.length ≤ k := hI.2.2.2.1
      have hBs := hB.size
      have hke : k ≤ s.size + 1 := by rcases hI.2.2.1 with h | h <;> omega
      clear hI hL
      by_cases hlt : k < s.size
      · by_cases h34 : s[k].toNat = 34
        · have h34a : 34 ≤ s[k].toNat := by omega
          have h34b : s[k].toNat ≤ 34 := by omega
          clear h34
          cases qb
          all_goals
            go_wp2
            go_roundw
            case rel => exact ⟨acc, x, k + 1, _, by go_num, rfl, rfl, HI.out.quote (by rw [HL.out]; omega) (nat_of_u8 (by show s[k].toNat = 34; omega)), hown, hB⟩
            case measure => simp [intOf]; omega
        · cases qb
          · by_cases hb : s[k].toNat = b.toNat
            · have hba : b.toNat ≤ s[k].toNat := by omega
              have hbb : s[k].toNat ≤ b.toNat := by omega
              clear hb
              go_wp2_with (first
                | (go_at_call 100; refine (trim_seg s x k _ hs).mono ?_; rintro e w1 ⟨rfl, hb1⟩; have hs1 := hb1.size)
                | (at_builtin; refine wpList_append_own _ rfl _ _ 34 rfl w.heap.size 9 i0 (.string ByteArray.empty) 1 16 Tryz.underlying34 hi hz0 hz1 hz2 rfl (by decide) _ _ _ rfl ((OwnsS.below hown hb1).alloc _) ⟨w1.heap.size, 0, none⟩ 1 1 [strV (trimB ((s.data.toList.drop x).take (k - x)))] rfl rfl (cell_one_new _ _ _) (fun u hu => by simp at hu; subst hu; rfl) (by unfold maxLen; simp; omega) (by simp; omega) (by simp; omega) ?_; intro v' w2 hown' hgrow _))
              all_goals
                go_roundw
                case rel => exact ⟨acc ++ [(s.data.toList.drop x).take (k - x)], k + 1, k + 1, _, by go_num, by go_num, rfl, HI.out.cut (by rw [HL.out]; omega) (nat_of_u8 (by show s[k].toNat = b.toNat; omega)) (fun h => h34 (congrArg UInt8.toNat h)), by rw [List.map_append]; exact OwnsS.snoc hown', below_append hB hBs hb1 hown hgrow⟩
                case measure => simp [intOf]; omega
            · go_wp2
              all_goals
                go_roundw
                case rel => exact ⟨acc, x, k + 1, _, by go_num, rfl, rfl, HI.out.other (by rw [HL.out]; omega) (fun h => h34 (congrArg UInt8.toNat h)) (fun h => by cases h) (fun _ h => hb (congrArg UInt8.toNat h)), hown, hB⟩
                case measure => simp [intOf]; omega
          · by_cases h92 : s[k].toNat = 92
            · have h92a : 92 ≤ s[k].toNat := by omega
              have h92b : s[k].toNat ≤ 92 := by omega
              clear h92 h34
              go_wp2
              go_roundw
              case rel => exact ⟨acc, x, k + 2, _, by go_num, rfl, rfl, HI.out.escape (by rw [HL.out]; omega) (nat_of_u8 (by show s[k].toNat = 92; omega)), hown, hB⟩
              case measure => simp [intOf]; omega
            · go_wp2
              all_goals
                go_roundw
                case rel => exact ⟨acc, x, k + 1, _, by go_num, rfl, rfl, HI.out.other (by rw [HL.out]; omega) (fun h => h34 (congrArg UInt8.toNat h)) (fun _ h => h92 (congrArg UInt8.toNat h)) (fun h => by cases h), hown, hB⟩
                case measure => simp [intOf]; omega
      · cases qb
        · go_wp2_with (first
            | (go_at_call 100; refine (trim_seg s x s.size _ hs).mono ?_; rintro e w1 ⟨rfl, hb1⟩; have hs1 := hb1.size)
            | (at_builtin; refine wpList_append_own _ rfl _ _ 34 rfl w.heap.size 9 i0 (.string ByteArray.empty) 1 16 Tryz.underlying34 hi hz0 hz1 hz2 rfl (by decide) _ _ _ rfl ((OwnsS.below hown hb1).alloc _) ⟨w1.heap.size, 0, none⟩ 1 1 [strV (trimB ((s.data.toList.drop x).take (s.size - x)))] rfl rfl (cell_one_new _ _ _) (fun u hu => by simp at hu; subst hu; rfl) (by unfold maxLen; simp; omega) (by simp; omega) (by simp; omega) ?_; intro v' w2 hown' hgrow _))
          go_ret2
          refine ⟨below_append hB hBs hb1 hown hgrow, ?_⟩
          have hp : partsO b s.data.toList = some ((acc ++ [s.data.toList.drop x]).map trimB) := by
            simp [partsO, hc', HI.out.done (by rw [HL.out]; omega)]
          rw [hp]
          refine ⟨v', rfl, ?_, by simp; omega⟩
          rw [List.map_append]
          rw [List.take_of_length_le (by simp)] at hown'
          exact OwnsS.snoc hown'
        · go_wp2
          go_ret2
          exact ⟨hB, by simp [partsO, hc', HI.out.open' (by rw [HL.out]; omega), errForm]⟩
end Go.Proofs.YtfmgfcddnnggeaaGreatDoor
