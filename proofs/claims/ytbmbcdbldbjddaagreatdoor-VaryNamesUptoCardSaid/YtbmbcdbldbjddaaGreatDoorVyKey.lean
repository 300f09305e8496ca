/- What vary.Key returns: the text of the selected fields. -/
import Derived.Test.YtbmbcdbldbjddaaGreatDoorVyNorm
import Derived.Test.YtbmbcdbldbjddaaGreatDoorQuote
import Derived.Test.YtbmbcdbldbjddaaGreatDoorFSmall
namespace Go.Proofs.YtbmbcdbldbjddaaGreatDoor
open Go.RowKit

/-- Names as the statements give them: at most 500 bytes of names and names together. -/
structure FitN (ns : List (List UInt8)) : Prop where
  len : ns.length ≤ 500
  each : ∀ n ∈ ns, n.length ≤ 500
/-- Fields as the statements give them, also with more blanks, also with one more. -/
structure FitK (ps : Flds) : Prop where
  len : ps.length ≤ 3000
  tot : totL ps ≤ 30000
theorem FitK.each {ps : Flds} (h : FitK ps) : ∀ p ∈ ps, p.1.length + p.2.length ≤ 30000 := fun _ hp => Nat.le_trans (tot_mem hp) h.tot
def sumL (ls : List (List UInt8)) : Nat := (ls.map List.length).sum
theorem sumL_mem {ls : List (List UInt8)} {l : List UInt8} (h : l ∈ ls) : l.length ≤ sumL ls := by
  induction ls with
  | nil => cases h
  | cons a r ih =>
    have e : sumL (a :: r) = a.length + sumL r := rfl
    rcases List.mem_cons.mp h with x | x
    · subst x; omega
    · have := ih x; omega
theorem joinV_len (ls : List (List UInt8)) : (joinV ls).length ≤ sumL ls + ls.length := by
  have h : ∀ r : List (List UInt8), (r.flatMap fun v => 44 :: v).length = sumL r + r.length := by
    intro r
    induction r with
    | nil => rfl
    | cons b t ih =>
      have e : sumL (b :: t) = b.length + sumL t := rfl
      rw [List.flatMap_cons, List.length_append, ih, List.length_cons, List.length_cons, e]; omega
  cases ls with
  | nil => simp [joinV]
  | cons a r =>
    have e : sumL (a :: r) = a.length + sumL r := rfl
    simp only [joinV, List.length_append, List.length_cons, h, e]
    omega
theorem sum_norm (ls : List (List UInt8)) : sumL (ls.map normV) ≤ sumL ls := by
  induction ls with
  | nil => exact Nat.le_refl _
  | cons a r ih =>
    have e1 : sumL (a :: r) = a.length + sumL r := rfl
    have e2 : sumL ((a :: r).map normV) = (normV a).length + sumL (r.map normV) := rfl
    have := norm_len a
    omega
theorem sum_all (ps : Flds) (n : List UInt8) : sumL (allL ps n) ≤ totL ps ∧ (allL ps n).length ≤ ps.length := by
  induction ps with
  | nil => exact ⟨Nat.le_refl _, Nat.le_refl _⟩
  | cons p r ih =>
    have e : totL (p :: r) = p.1.length + p.2.length + totL r := rfl
    unfold allL at *
    rw [List.filter_cons]
    by_cases h : ofN n p = true
    · rw [if_pos h, List.map_cons]
      have e1 : sumL (p.2 :: (r.filter (ofN n)).map (·.2)) = p.2.length + sumL ((r.filter (ofN n)).map (·.2)) := rfl
      rw [e1, List.length_cons, List.length_cons]
      omega
    · rw [if_neg h, List.length_cons]
      omega
theorem val_len {ps : Flds} (h : FitK ps) (n : List UInt8) : (joinV ((allL ps n).map normV)).length ≤ 33000 := by
  have h1 := joinV_len ((allL ps n).map normV)
  have h2 := sum_norm (allL ps n)
  have h3 := sum_all ps n
  have h4 := h.len
  have h5 := h.tot
  rw [List.length_map] at h1
  omega
theorem quo_len (l : List UInt8) : (quoS l).length ≤ 2 * l.length + 2 := by
  have := escS_le l
  simp [quoS]; omega
/-- A part of the text: a name, and its value. -/
def partK (ps : Flds) (n : List UInt8) : List UInt8 := n ++ optK (valV ps n)
theorem part_len {ps : Flds} (h : FitK ps) {n : List UInt8} (hn : n.length ≤ 500) : (partK ps n).length ≤ 70000 := by
  unfold partK valV
  have h1 := val_len h n
  rw [List.length_append]
  by_cases ha : allL ps n = []
  · rw [if_pos ha]; simp [optK]; omega
  · rw [if_neg ha]
    have := quo_len (joinV ((allL ps n).map normV))
    simp only [optK, List.length_cons]
    omega
theorem part_none {ps : Flds} {n : List UInt8} (h : allL ps n = []) : partK ps n = n := by unfold partK valV; rw [if_pos h]; simp [optK]
theorem part_some {ps : Flds} {n : List UInt8} (h : allL ps n ≠ []) : partK ps n = n ++ 61 :: quoS (joinV ((allL ps n).map normV)) := by unfold partK valV; rw [if_neg h]; rfl
theorem join_key (ns : List (List UInt8)) (ps : Flds) : Lib.join (ns.map (partK ps)) [38] = keyL ns ps := by
  rw [join_sep]
  cases ns with
  | nil => rfl
  | cons a r =>
    show partK ps a ++ (r.map (partK ps)).flatMap (fun v => 38 :: v) = _
    rw [List.flatMap_map]
    rfl
theorem key_len {ns : List (List UInt8)} {ps : Flds} (hn : FitN ns) (hf : FitK ps) : (keyL ns ps).length ≤ 36000000 := by
  have h1 : ∀ r : List (List UInt8), (∀ n ∈ r, n.length ≤ 500) → (r.flatMap fun m => 38 :: partK ps m).length ≤ r.length * 70001 := by
    intro r
    induction r with
    | nil => intro _; simp
    | cons a t ih =>
      intro h
      have h2 := ih fun n hn => h n (List.mem_cons_of_mem _ hn)
      have h3 := part_len hf (h a (List.mem_cons_self ..))
      rw [List.flatMap_cons, List.length_append, List.length_cons, List.length_cons]
      omega
  have hl := hn.len
  cases ns with
  | nil => simp [keyL]
  | cons a r =>
    have h2 := h1 r fun n hm => hn.each n (List.mem_cons_of_mem _ hm)
    have h3 := part_len hf (hn.each a (List.mem_cons_self ..))
    have e : keyL (a :: r) ps = partK ps a ++ r.flatMap (fun m => 38 :: partK ps m) := rfl
    rw [e, List.length_append]
    rw [List.length_cons] at hl
    omega
theorem joinV_ctl (ps : Flds) (n : List UInt8) : ctlS (joinV ((allL ps n).map normV)) = false := by
  have h : ∀ c ∈ joinV ((allL ps n).map normV), 32 ≤ c.toNat ∧ c ≠ 127 := joinV_ok fun v hv => by obtain ⟨x, _, rfl⟩ := List.mem_map.mp hv; exact norm_ok x
  unfold ctlS
  rw [List.any_eq_false]
  intro c hc
  obtain ⟨h1, h2⟩ := h c hc
  have h3 : c.toNat ≠ 127 := fun e => h2 (UInt8.toNat_inj.mp e)
  simp [ctlB]
  omega
theorem eq_app (n q : List UInt8) : strB n ++ ((⟨#[61]⟩ : ByteArray) ++ strB q) = strB (n ++ 61 :: q) := by apply ByteArray.ext; simp [strB]
/-- All the values of a name, as a slice that the call makes. -/
theorem allK_any (fv : Value) (ps : Flds) (n : List UInt8) (w : World) (hr : ReadsQ w fv ps) (hf : FitK ps) (hn : n.length ≤ 1000000) :
    Calls Tryz.prog 15 #[fv, .string (strB n)] w fun e w' => ∃ a c, e = .returned (.slice a (allL ps n).length c) ∧ ReadsS w' (.slice a (allL ps n).length c) (allL ps n) ∧ Below w.heap.size w w' := by
  have h1 := hf.len
  refine (all_any fv ps (strB n) w hr (by rw [strB_size]; omega) (by omega) (fun p hp => by have := hf.each p hp; omega)).mono ?_
  rw [strB_list]
  rintro e w' ⟨v, rfl, hO, hB⟩
  have hR := hO.reads
  obtain ⟨a, c, rfl, _⟩ := id hR
  exact ⟨a, c, rfl, hR, hB⟩
theorem normK_any (va : Value) (ps : Flds) (n : List UInt8) (w : World) (ha : ReadsS w va (allL ps n)) (hf : FitK ps) :
    Calls Tryz.prog 27 #[va] w fun e w' => e = .returned (.string (strB (joinV ((allL ps n).map normV)))) ∧ Below w.heap.size w w' := by
  have h1 := val_len hf n
  have h2 := sum_all ps n
  have h3 := hf.len
  have h4 := hf.tot
  exact normalized_any va (allL ps n) w ha (by omega) (fun v hv => by have := sumL_mem hv; omega) (by omega)
def KyR (ns : List (List UInt8)) (ps : Flds) (w : World) (v i : Value) (wr : World) : Prop :=
  ∃ k : Nat, i = .int .i64 k ∧ k ≤ ns.length ∧ OwnsS w.heap.size wr v ((ns.take k).map (partK ps)) ∧ Below w.heap.size w wr
theorem ky_step {ns : List (List UInt8)} {ps : Flds} {k : Nat} {p : List UInt8} (h : ns[k]? = some p) : (ns.take (k + 1)).map (partK ps) = (ns.take k).map (partK ps) ++ [partK ps p] := by rw [take_more h]; simp
set_option maxHeartbeats 8000000 in
set_option maxRecDepth 100000 in
theorem key_any (va : Value) (ns : List (List UInt8)) (fv : Value) (ps : Flds) (w : World) (ha : ReadsS w va ns) (hr : ReadsQ w fv ps) (hn : FitN ns) (hf : FitK ps) :
    Calls Tryz.prog 12 #[va, fv] w fun e w' => e = .returned (.string (strB (keyL ns ps))) ∧ Below w.heap.size w w' := by
  obtain ⟨i0, hi, hz0, hz1, hz2⟩ := info_parts Tryz.infoS
  obtain ⟨ao, cap, rfl, hc⟩ := ha
  have HC := Lib.hid hc
  have HR := Lib.hid hr
  have HN := Lib.hid hn
  have HF := Lib.hid hf
  have hnl := hn.len
  have HJ := Lib.hid (fun (v : Value) (w' : World) (B : Nat) (hO : OwnsS B w' v (ns.map (partK ps))) => joinG_any v (ns.map (partK ps)) ⟨#[38]⟩ B w' hO (by simp; omega) (by show (Lib.join _ [38]).length ≤ _; rw [join_key]; have := key_len hn hf; omega))
  clear hc hr hn hf
  go_enter Tryz.func12, Tryz.ntmps12
  go_wp2_with fail
  go_loopw [5, 14] (fun v i wr => KyR ns ps w v i wr) (fun _ i _ => ns.length - (intOf i).toNat)
  case atStart => exact ⟨0, rfl, Nat.zero_le _, World.ownsRow_nil _ _ _ _, Below.refl _ _⟩
  case round =>
    obtain ⟨k, rfl, hk, hO, hBr⟩ := hrel
    have hbr := hBr.size
    by_cases hlt : k < ns.length
    · obtain ⟨p, hp⟩ : ∃ p, ns[k]? = some p := ⟨ns[k], by simp [hlt]⟩
      obtain ⟨g, off, rfl, hg1, h1⟩ := HC.out k p hp
      have hc1 : wr.cell? ⟨g, off + k, none⟩ = some (.string (strB p)) := (hBr.cell (p := ⟨g, off + k, none⟩) hg1).trans h1
      have hpl := HN.out.each p (List.mem_of_getElem? hp)
      have HS := Lib.hid (ky_step (ps := ps) hp)
      have hpk : ((ns.take k).map (partK ps)).length ≤ 1000000 := by simp; omega
      have HA := Lib.hid (allK_any fv ps p wr (HR.out.below hBr) HF.out (by omega))
      have HBr := Lib.hid hBr
      clear hp h1 hBr
      by_cases he : allL ps p = []
      · have HE := Lib.hid (part_none he)
        rw [he] at HA
        clear he
        go_wp2_with fail
        refine HA.out.mono ?_
        rintro e w2 ⟨a2, c2, rfl, _, hB2⟩
        have hs2 := hB2.size
        have hO4 := OwnsS.below hO hB2
        go_wp2_with (at_builtin; refine wpList_append_own _ rfl _ _ 25 rfl w.heap.size 9 i0 (.string ByteArray.empty) 1 16 Tryz.underlying25 hi hz0 hz1 hz2 rfl (by decide) _ _ _ rfl (hO4.alloc _) ⟨w2.heap.size, 0, none⟩ 1 1 [strV p] rfl rfl (cell_one_new _ _ _) (fun u hu => by simp at hu; subst hu; rfl) (by unfold maxLen; omega) (by omega) (by simp; omega) ?_; intro v' w5 hown' hgrow _)
        go_roundw
        case rel => exact ⟨k + 1, by go_num, by omega, by rw [HS.out]; exact OwnsS.snoc (by rw [HE.out]; exact hown'), below_append HBr.out hbr hB2 hO hgrow⟩
        case measure => simp [intOf]; omega
      · have HE := Lib.hid (part_some he)
        have hgt : 0 < (allL ps p).length := List.length_pos_iff.mpr he
        have HNm := Lib.hid (fun (va : Value) (w : World) (ha : ReadsS w va (allL ps p)) => normK_any va ps p w ha HF.out)
        have HQ := Lib.hid (fun (w : World) => quote_good (strB (joinV ((allL ps p).map normV))) w (by rw [strB_size]; have := val_len HF.out p; omega) (by rw [strB_list]; exact joinV_ctl ps p))
        rw [strB_list] at HQ
        have hql : (quoS (joinV ((allL ps p).map normV))).length ≤ 100000 := by have := quo_len (joinV ((allL ps p).map normV)); have := val_len HF.out p; omega
        clear he
        generalize joinV ((allL ps p).map normV) = jv at *
        generalize allL ps p = lv at *
        have HX := Lib.hid (eq_app p (quoS jv))
        have hq2 := strB_size (quoS jv)
        have hq3 : ((⟨#[61]⟩ : ByteArray) ++ strB (quoS jv)).size ≤ 200000 := by rw [ByteArray.size_append, hq2]; show 1 + _ ≤ _; omega
        have hp3 : (strB p).size ≤ 1000 := by rw [strB_size]; omega
        generalize quoS jv = qv at *
        go_wp2_with fail
        refine HA.out.mono ?_
        rintro e w2 ⟨a2, c2, rfl, hR2, hB2⟩
        have HR2 := Lib.hid hR2
        have HB2 := Lib.hid hB2
        have hs2 := hB2.size
        clear hR2 hB2
        go_wp2_with fail
        refine (HNm.out _ _ HR2.out).mono ?_
        rintro e w3 ⟨rfl, hB3⟩
        have HB3 := Lib.hid (HB2.out.trans (hB3.mono hs2))
        clear hB3 HB2 HR2
        go_wp2_with fail
        refine (HQ.out _).mono ?_
        rintro e w4 ⟨rfl, hB4⟩
        have HB4 := Lib.hid (HB3.out.trans (hB4.mono HB3.out.size))
        have hs4 := HB4.out.size
        have hO4 := OwnsS.below hO HB4.out
        clear hB4 HB3
        go_wp2_with (at_builtin; refine wpList_append_own _ rfl _ _ 25 rfl w.heap.size 9 i0 (.string ByteArray.empty) 1 16 Tryz.underlying25 hi hz0 hz1 hz2 rfl (by decide) _ _ _ rfl (hO4.alloc _) ⟨w4.heap.size, 0, none⟩ 1 1 [.string (strB p ++ ((⟨#[61]⟩ : ByteArray) ++ strB qv))] rfl rfl (cell_one_new _ _ _) (fun u hu => by simp at hu; subst hu; rfl) (by unfold maxLen; omega) (by omega) (by simp; omega) ?_; intro v' w5 hown' hgrow _)
        rw [HX.out] at hown'
        go_roundw
        case rel => exact ⟨k + 1, by go_num, by omega, by rw [HS.out]; exact OwnsS.snoc (by rw [HE.out]; exact hown'), below_append HBr.out hbr HB4.out hO hgrow⟩
        case measure => simp [intOf]; omega
    · have htk : ns.take k = ns := List.take_of_length_le (by omega)
      rw [htk] at hO
      have e38 : Lib.join (ns.map (partK ps)) (⟨#[38]⟩ : ByteArray).data.toList = keyL ns ps := join_key _ _
      rw [e38] at HJ
      obtain ⟨nv, hnv⟩ : ∃ nv, ns.map (partK ps) = nv := ⟨_, rfl⟩
      rw [hnv] at HJ hO
      obtain ⟨kv, hkv⟩ : ∃ kv, keyL ns ps = kv := ⟨_, rfl⟩
      rw [hkv] at HJ
      have HKV := Lib.hid hkv
      clear hnv hkv e38
      go_wp2_with fail
      refine (HJ.out _ _ _ hO).mono ?_
      rintro e w2 ⟨rfl, hB2⟩
      go_wp2_with fail
      go_ret
      exact ⟨by rw [HKV.out]; rfl, hBr.trans (hB2.mono hbr)⟩
end Go.Proofs.YtbmbcdbldbjddaaGreatDoor
