/- What vary.isBlank, withoutControls and normalized return. -/
import Derived.Test.YtbmbcdbldbjddaaGreatDoorVyWords
import Derived.Test.YtbmbcdbldbjddaaGreatDoorBytes
import Derived.Test.YtbmbcdbldbjddaaGreatDoorFGet
import Derived.Shelf.Strings.FieldsFuncAny
namespace Go.Proofs.YtbmbcdbldbjddaaGreatDoor
open Go.RowKit

set_option maxHeartbeats 1000000 in
set_option maxRecDepth 100000 in
theorem blank_pays (w : World) : PredAtRunes Tryz.prog 48 #[] isBr w := by
  intro W x hx _
  show Calls Tryz.prog 48 #[.int .i32 (x : Int)] W _
  by_cases h1 : x = 32
  · subst h1
    go_enter Tryz.func48, Tryz.ntmps48
    go_wp2
    go_ret
    exact ⟨rfl, 0, rfl⟩
  · have e1 : ((x : Int) == 32) = false := by simp; omega
    by_cases h2 : x = 9
    · subst h2
      go_enter Tryz.func48, Tryz.ntmps48
      go_wp2
      go_ret
      exact ⟨rfl, 0, rfl⟩
    · have e2 : ((x : Int) == 9) = false := by simp; omega
      have e3 : isBr x = false := decide_eq_false (by omega)
      rw [e3]
      go_enter Tryz.func48, Tryz.ntmps48
      go_wp2
      go_ret
      exact ⟨rfl, 0, rfl⟩
theorem words_any (s : ByteArray) (w : World) (hs : s.size ≤ 4294967296) :
    Calls Tryz.prog 47 #[.string s, .func (.func 48) #[] #[]] w fun e w' => ∃ v, e = .returned v ∧ OwnsS w.heap.size w' v (wdL s.data.toList) ∧ Below w.heap.size w w' := by
  refine (Any.strings_FieldsFunc_runes Tryz.lays229 48 #[] (enters_of Tryz.func48 (by kernel_rfl) rfl) isBr s w hs (blank_pays w) (by kernel_rfl) (by kernel_rfl)).mono ?_
  rintro e w' ⟨A, rfl, _, hO, hB⟩
  have e1 : (Lib.goFieldsP isBr s).map Value.string = (wdL s.data.toList).map strV := by
    rw [← fields_words, List.map_map]
    refine List.map_congr_left fun x _ => ?_
    show Value.string x = .string (strB x.data.toList)
    rw [strB_of]
  have e2 : (Lib.goFieldsP isBr s).length = (wdL s.data.toList).length := by rw [← fields_words, List.length_map]
  rw [e1, e2] at hO
  exact ⟨_, by rw [e2], hO, hB⟩
/-- strings.Join, whatever stands between. -/
theorem joinG_any (v : Value) (ls : List (List UInt8)) (sep : ByteArray) (B : Nat) (w : World) (hO : OwnsS B w v ls) (hn : ls.length ≤ 100000000) (hz : (Lib.join ls sep.data.toList).length ≤ 1000000000) :
    Calls Tryz.prog 28 #[v, .string sep] w fun e w' => e = .returned (.string (strB (Lib.join ls sep.data.toList))) ∧ Below w.heap.size w w' := by
  rcases hO.opens with ⟨rfl, rfl⟩ | ⟨g, cap, rfl, hcap, hgs, hc⟩
  · refine (Any.strings_Join_none Tryz.lays156 Tryz.Builder_Extra_156 none 0 sep w).mono ?_
    rintro e w' ⟨rfl, rfl⟩
    exact ⟨by rw [Lib.join_nil]; rfl, Below.refl _ _⟩
  · have hm : (ls.map strB).map (fun s : ByteArray => s.data.toList) = ls := by
      rw [List.map_map]
      conv => rhs; rw [← List.map_id ls]
      exact List.map_congr_left fun l _ => strB_list l
    have := Tryz.strings_Join g 0 cap (ls.map strB) sep w (fun j x hx => by
      rw [List.getElem?_map] at hx
      cases hj : ls[j]? with
      | none => rw [hj] at hx; cases hx
      | some l =>
        rw [hj] at hx
        simp only [Option.map_some, Option.some.injEq] at hx
        rw [Nat.zero_add, hc j l hj, hx]) hgs (by simp; omega) (by simpa using hcap) (by rw [hm]; omega)
    rw [List.length_map] at this
    refine this.mono ?_
    rintro e w' ⟨rfl, hB⟩
    rw [hm]
    exact ⟨rfl, hB⟩
theorem join_sep (ls : List (List UInt8)) (c : UInt8) : Lib.join ls [c] = match ls with | [] => [] | a :: r => a ++ r.flatMap fun v => c :: v := by
  cases ls with
  | nil => rfl
  | cons a r =>
    rw [Lib.join_cons]
    simp [Lib.joinTail, List.flatMap]
theorem join_jnB (ls : List (List UInt8)) : Lib.join ls [32] = jnB ls := by rw [join_sep]; cases ls <;> rfl
theorem join_joinV (ls : List (List UInt8)) : Lib.join ls [44] = joinV ls := by rw [join_sep]; cases ls <;> rfl
theorem ctlC_ctlB (c : UInt8) : ctlC c = if ctlB c = true then 63 else c := all_u8 (fun c => ctlC c = if ctlB c = true then 63 else c) (by decide +kernel) c

def ctlM (l : List UInt8) : List UInt8 := l.map ctlC
def ctlTo (l : List UInt8) (k j : Nat) : Int := if j < k then ((ctlC (l.getD j 0)).toNat : Int) else ((l.getD j 0).toNat : Int)
def CtlR (s : ByteArray) (w : World) (i : Value) (wr : World) : Prop :=
  ∃ k : Nat, i = .int .i64 k ∧ k ≤ s.size ∧ (∀ j, j < s.size → wr.cell? ⟨w.heap.size, j, none⟩ = some (.int .u8 (ctlTo s.data.toList k j)) ∧ wr.frozen? ⟨w.heap.size, j, none⟩ = false) ∧ Below w.heap.size w wr
theorem ctlTo_at {s : ByteArray} {k : Nat} (h : k < s.size) : ctlTo s.data.toList k k = (s[k].toNat : Int) := by
  unfold ctlTo; rw [if_neg (by omega), getD_list s k h]
theorem ctlR0 (s : ByteArray) (w : World) (cap : Nat) : CtlR s w (.int .i64 0) (w.alloc (.cells (bytesRow s cap) 5 ((bytesRow s cap).size, (bytesRow s cap).size + 1))).drew := by
  obtain ⟨k, hk, _, hc, hB⟩ := LowC0 s w cap
  refine ⟨0, rfl, Nat.zero_le _, fun j hj => ?_, hB⟩
  have hk0 : k = 0 := by simpa using hk.symm
  subst hk0
  exact hc j hj
theorem ctl_up {s : ByteArray} {w wr : World} {k : Nat} (h : k < s.size) (h1 : ctlB s[k] = true)
    (hc : ∀ j, j < s.size → wr.cell? ⟨w.heap.size, j, none⟩ = some (.int .u8 (ctlTo s.data.toList k j)) ∧ wr.frozen? ⟨w.heap.size, j, none⟩ = false)
    (hk : wr.cell? ⟨w.heap.size, k, none⟩ = some (.int .u8 (s[k].toNat : Int))) :
    ∀ j, j < s.size → (wr.setCell ⟨w.heap.size, k, none⟩ (.int .u8 63)).cell? ⟨w.heap.size, j, none⟩ = some (.int .u8 (ctlTo s.data.toList (k + 1) j)) ∧
      (wr.setCell ⟨w.heap.size, k, none⟩ (.int .u8 63)).frozen? ⟨w.heap.size, j, none⟩ = false := by
  intro j hj
  refine ⟨?_, (World.frozen?_setCell _ _ _ _).trans (hc j hj).2⟩
  by_cases e : j = k
  · subst e
    rw [World.cell?_setCell_same _ _ _ hk]
    unfold ctlTo
    rw [if_pos (by omega), getD_list s j hj, ctlC_ctlB, if_pos h1]
    rfl
  · rw [World.cell?_setCell_other _ _ _ _ (by first | (simp; done) | (simp; exact fun h => e h.symm)), (hc j hj).1]
    unfold ctlTo
    by_cases hjk : j < k
    · rw [if_pos hjk, if_pos (by omega)]
    · rw [if_neg hjk, if_neg (by omega)]
theorem ctl_not {s : ByteArray} {w wr : World} {k : Nat} (h : k < s.size) (hn : ctlB s[k] = false)
    (hc : ∀ j, j < s.size → wr.cell? ⟨w.heap.size, j, none⟩ = some (.int .u8 (ctlTo s.data.toList k j)) ∧ wr.frozen? ⟨w.heap.size, j, none⟩ = false) :
    ∀ j, j < s.size → wr.cell? ⟨w.heap.size, j, none⟩ = some (.int .u8 (ctlTo s.data.toList (k + 1) j)) ∧ wr.frozen? ⟨w.heap.size, j, none⟩ = false := by
  intro j hj
  refine ⟨?_, (hc j hj).2⟩
  rw [(hc j hj).1]
  unfold ctlTo
  by_cases hjk : j < k
  · rw [if_pos hjk, if_pos (by omega)]
  · rw [if_neg hjk]
    by_cases e : j = k
    · subst e; rw [if_pos (by omega), getD_list s j hj, ctlC_ctlB, if_neg (by simp [hn])]
    · rw [if_neg (by omega)]
theorem ctl_conv (s : ByteArray) (w wr : World) (cap : Nat)
    (hc : ∀ j, j < s.size → wr.cell? ⟨w.heap.size, j, none⟩ = some (.int .u8 (ctlTo s.data.toList s.size j)) ∧ wr.frozen? ⟨w.heap.size, j, none⟩ = false) :
    (convert 80 9 (.slice (some ⟨w.heap.size, 0, none⟩) s.size cap)).run Tryz.prog wr = .ok (.string (strB (ctlM s.data.toList))) wr := by
  have hl : (ctlM s.data.toList).length = s.size := by simp [ctlM]
  have := run_convert_bytes_back wr 80 9 5 ⟨w.heap.size, 0, none⟩ cap (ctlM s.data.toList) Tryz.underlying80 Tryz.underlying5 Tryz.underlying9 (fun j hj => by
    rw [Addr.add_lit, Nat.zero_add, (hc j (by omega)).1]
    unfold ctlTo
    rw [if_pos (by omega)]
    have hj' : j < s.data.toList.length := by rw [hl] at hj; simpa using hj
    rw [List.getD, List.getElem?_eq_getElem hj']
    simp [ctlM])
  rw [hl] at this
  exact this
set_option maxHeartbeats 2000000 in
set_option maxRecDepth 100000 in
theorem without_any (s : ByteArray) (w : World) (hs : s.size ≤ 1000000000) :
    Calls Tryz.prog 49 #[.string s] w fun e w' => e = .returned (.string (strB (ctlM s.data.toList))) ∧ Below w.heap.size w w' := by
  have hcb := fun W : World => run_bytes_of_string (P := Tryz.prog) W 9 80 5 s Tryz.underlying9 Tryz.underlying80 Tryz.underlying5
  go_enter Tryz.func49, Tryz.ntmps49
  go_wp2
  have HCB := Lib.hid hcb
  clear hcb
  go_loopw [10] (fun i wr => CtlR s w i wr) (fun i _ => s.size - (intOf i).toNat)
  case atStart => exact ctlR0 s w _
  case round =>
    obtain ⟨k, rfl, hk, hc, hB⟩ := hrel
    have HC := Lib.hid hc
    clear hc
    have hsz := hB.size
    by_cases hlt : k < s.size
    · have hcell : wr.cell? ⟨w.heap.size, k, none⟩ = some (.int .u8 (s[k].toNat : Int)) := by rw [(HC.out k hlt).1, ctlTo_at hlt]
      have hfz := (HC.out k hlt).2
      cases h1 : ctlB s[k] with
      | true =>
        have HR := Lib.hid (ctl_up hlt h1 HC.out hcell)
        have HI := Lib.hid (fun (w : World) => isControl_any s[k] w)
        rw [h1] at HI
        clear h1
        go_wp2_with fail
        refine (HI.out _).mono ?_
        rintro e w2 ⟨rfl, rfl⟩
        go_wp2_with fail
        go_roundw
        case rel => exact ⟨k + 1, by go_num, by omega, HR.out, hB.setCell (p := ⟨w.heap.size, k, none⟩) (Nat.le_refl _) _⟩
        case measure => simp [intOf]; omega
      | false =>
        have HR := Lib.hid (ctl_not hlt h1 HC.out)
        have HI := Lib.hid (fun (w : World) => isControl_any s[k] w)
        rw [h1] at HI
        clear h1
        go_wp2_with fail
        refine (HI.out _).mono ?_
        rintro e w2 ⟨rfl, rfl⟩
        go_wp2_with fail
        go_roundw
        case rel => exact ⟨k + 1, by go_num, by omega, HR.out, hB⟩
        case measure => simp [intOf]; omega
    · obtain rfl : k = s.size := by omega
      have hcv := ctl_conv s w wr (grownCap w s.size 0 5) HC.out
      go_wp2
      go_ret
      exact ⟨rfl, hB⟩
theorem jn_len (l : List UInt8) : (jnB (wdL l)).length ≤ l.length := by
  have h := norm_len l
  rw [norm_words, List.length_map] at h
  exact h
def NrR (vs : List (List UInt8)) (w : World) (v i : Value) (wr : World) : Prop :=
  ∃ k : Nat, i = .int .i64 k ∧ k ≤ vs.length ∧ OwnsS w.heap.size wr v ((vs.take k).map normV) ∧ Below w.heap.size w wr
theorem nr_step {vs : List (List UInt8)} {k : Nat} {p : List UInt8} (h : vs[k]? = some p) : (vs.take (k + 1)).map normV = (vs.take k).map normV ++ [normV p] := by rw [take_more h]; simp
theorem wd_len (l : List UInt8) : (wdL l).length ≤ l.length := by
  have h1 : ∀ ws : List (List UInt8), (∀ w ∈ ws, w ≠ []) → ws.length ≤ (jnB ws).length := by
    intro ws h
    cases ws with
    | nil => simp
    | cons a r =>
      have ha := List.length_pos_iff.mpr (h a (List.mem_cons_self ..))
      have hr : r.length ≤ (r.flatMap fun w => 32 :: w).length := by
        clear h ha
        induction r with
        | nil => simp
        | cons b t ih => simp only [List.flatMap_cons, List.length_append, List.length_cons]; omega
      simp only [jnB, List.length_append, List.length_cons]
      omega
  exact Nat.le_trans (h1 _ fun w hw => (wdL_ok l w hw).1) (jn_len l)
set_option maxHeartbeats 4000000 in
set_option maxRecDepth 100000 in
theorem normalized_any (va : Value) (vs : List (List UInt8)) (w : World) (ha : ReadsS w va vs) (hl : vs.length ≤ 1000000) (hb : ∀ v ∈ vs, v.length ≤ 1000000) (hz : (joinV (vs.map normV)).length ≤ 100000000) :
    Calls Tryz.prog 27 #[va] w fun e w' => e = .returned (.string (strB (joinV (vs.map normV)))) ∧ Below w.heap.size w w' := by
  obtain ⟨i0, hi, hz0, hz1, hz2⟩ := info_parts Tryz.infoS
  obtain ⟨ao, cap, rfl, hc⟩ := ha
  have HC := Lib.hid hc
  have HBig := Lib.hid hb
  have HJ := Lib.hid (fun (v : Value) (w' : World) (B : Nat) (hO : OwnsS B w' v (vs.map normV)) => joinG_any v (vs.map normV) ⟨#[44]⟩ B w' hO (by simp; omega) (by show (Lib.join _ [44]).length ≤ _; rw [join_joinV]; omega))
  clear hc hb hz
  go_enter Tryz.func27, Tryz.ntmps27
  go_wp2_with fail
  go_loopw [3, 9] (fun v i wr => NrR vs w v i wr) (fun _ i _ => vs.length - (intOf i).toNat)
  case atStart => exact ⟨0, rfl, Nat.zero_le _, World.ownsRow_nil _ _ _ _, Below.refl _ _⟩
  case round =>
    obtain ⟨k, rfl, hk, hO, hBr⟩ := hrel
    have hbr := hBr.size
    by_cases hlt : k < vs.length
    · obtain ⟨p, hp⟩ : ∃ p, vs[k]? = some p := ⟨vs[k], by simp [hlt]⟩
      obtain ⟨g, off, rfl, hg1, h1⟩ := HC.out k p hp
      have hc1 : wr.cell? ⟨g, off + k, none⟩ = some (.string (strB p)) := (hBr.cell (p := ⟨g, off + k, none⟩) hg1).trans h1
      have hpl := HBig.out p (List.mem_of_getElem? hp)
      have HS := Lib.hid (nr_step hp)
      have hnl : ((vs.take k).map normV).length ≤ 1000000 := by simp; omega
      have HW := Lib.hid (fun (w : World) => words_any (strB p) w (by rw [strB_size]; omega))
      have HN := Lib.hid (fun (v : Value) (w' : World) (B : Nat) (hO : OwnsS B w' v (wdL p)) => joinG_any v (wdL p) ⟨#[32]⟩ B w' hO (by have := wd_len p; omega) (by show (Lib.join _ [32]).length ≤ _; rw [join_jnB]; have := jn_len p; omega))
      have HT := Lib.hid (fun (w : World) => without_any (strB (jnB (wdL p))) w (by rw [strB_size]; have := jn_len p; omega))
      rw [strB_list] at HW HT
      have hx : ctlM (jnB (wdL p)) = normV p := (norm_ctl p).symm
      rw [hx] at HT
      have e32 : Lib.join (wdL p) (⟨#[32]⟩ : ByteArray).data.toList = jnB (wdL p) := join_jnB _
      rw [e32] at HN
      clear hx e32 hp h1
      generalize normV p = np at *
      generalize wdL p = wp at *
      go_wp2_with fail
      refine (HW.out _).mono ?_
      rintro e w2 ⟨v2, rfl, hO2, hB2⟩
      have HB2 := Lib.hid hB2
      have hs2 := hB2.size
      go_wp2_with fail
      refine (HN.out _ _ _ hO2).mono ?_
      rintro e w3 ⟨rfl, hB3⟩
      have HB3 := Lib.hid (HB2.out.trans (hB3.mono hs2))
      clear hB3 hB2 hO2
      go_wp2_with fail
      refine (HT.out _).mono ?_
      rintro e w4 ⟨rfl, hB4⟩
      have HB4 := Lib.hid (HB3.out.trans (hB4.mono HB3.out.size))
      have hs4 := HB4.out.size
      have hO4 := OwnsS.below hO HB4.out
      clear hB4
      go_wp2_with (at_builtin; refine wpList_append_own _ rfl _ _ 25 rfl w.heap.size 9 i0 (.string ByteArray.empty) 1 16 Tryz.underlying25 hi hz0 hz1 hz2 rfl (by decide) _ _ _ rfl (hO4.alloc _) ⟨w4.heap.size, 0, none⟩ 1 1 [strV np] rfl rfl (cell_one_new _ _ _) (fun u hu => by simp at hu; subst hu; rfl) (by unfold maxLen; omega) (by omega) (by simp; omega) ?_; intro v' w5 hown' hgrow _)
      go_roundw
      case rel => exact ⟨k + 1, by go_num, by omega, by rw [HS.out]; exact OwnsS.snoc hown', below_append hBr hbr HB4.out hO hgrow⟩
      case measure => simp [intOf]; omega
    · have htk : vs.take k = vs := List.take_of_length_le (by omega)
      rw [htk] at hO
      have e44 : Lib.join (vs.map normV) (⟨#[44]⟩ : ByteArray).data.toList = joinV (vs.map normV) := join_joinV _
      rw [e44] at HJ
      obtain ⟨nv, hnv⟩ : ∃ nv, vs.map normV = nv := ⟨_, rfl⟩
      rw [hnv] at HJ hO
      have HNV := Lib.hid hnv
      clear hnv e44
      go_wp2_with fail
      refine (HJ.out _ _ _ hO).mono ?_
      rintro e w2 ⟨rfl, hB2⟩
      go_wp2_with fail
      go_ret
      exact ⟨by rw [HNV.out]; rfl, hBr.trans (hB2.mono hbr)⟩
end Go.Proofs.YtbmbcdbldbjddaaGreatDoor
