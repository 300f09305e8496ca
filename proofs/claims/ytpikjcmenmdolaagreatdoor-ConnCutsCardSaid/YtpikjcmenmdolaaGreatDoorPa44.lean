import Derived.Test.YtpikjcmenmdolaaGreatDoorPa9
import Derived.Test.YtpikjcmenmdolaaGreatDoorPa3
import Derived.Test.YtpikjcmenmdolaaGreatDoorPa22
import Derived.Test.YtpikjcmenmdolaaGreatDoorPa43
/- What the reference's Of returns. -/
namespace Go.Proofs.YtpikjcmenmdolaaGreatDoor
open Go.RowKit

set_option maxHeartbeats 400000 in
set_option maxRecDepth 100000 in
theorem of_any (a b n : List UInt8) (w : World) (ha : a.length ≤ 1000000000) (hn : n.length ≤ 1000000000) :
    Calls Tryz.prog 85 #[.agg #[.string (strB a), .string (strB b)], .string (strB n)] w fun e w' => e = .returned (.bool (ofN n (a, b))) ∧ Below w.heap.size w w' := by
  have za : (strB a).size ≤ 1000000000 := by rw [strB_size]; exact ha
  have zn : (strB n).size ≤ 1000000000 := by rw [strB_size]; exact hn
  have L1 := fun w => refLower_any (strB a) w za
  have L2 := fun w => refLower_any (strB n) w zn
  rw [strB_list] at L1 L2
  by_cases h : lowS a = lowS n
  · have heq := toList_same h
    have ho : ofN n (a, b) = true := decide_eq_true h
    rw [ho]
    clear h ho
    go_enter Tryz.func85, Tryz.ntmps85
    go_wp2_with fail
    refine (L1 _).mono ?_
    rintro e w1 ⟨rfl, hB⟩
    have hB' := below_pair' hB
    clear hB
    go_wp2_with fail
    refine (L2 _).mono ?_
    rintro e w2 ⟨rfl, hB2⟩
    go_wp2_with fail
    go_ret
    exact ⟨by first | rfl | simp, hB'.trans (hB2.mono hB'.size)⟩
  · have heq := toList_other h
    have ho : ofN n (a, b) = false := decide_eq_false h
    rw [ho]
    clear h ho
    go_enter Tryz.func85, Tryz.ntmps85
    go_wp2_with fail
    refine (L1 _).mono ?_
    rintro e w1 ⟨rfl, hB⟩
    have hB' := below_pair' hB
    clear hB
    go_wp2_with fail
    refine (L2 _).mono ?_
    rintro e w2 ⟨rfl, hB2⟩
    go_wp2_with fail
    go_ret
    exact ⟨by first | rfl | simp, hB'.trans (hB2.mono hB'.size)⟩

end Go.Proofs.YtpikjcmenmdolaaGreatDoor

/- What the reference's alnum, Cut and Host return. -/
namespace Go.Proofs.YtpikjcmenmdolaaGreatDoor
open Go.RowKit

set_option maxHeartbeats 400000 in
theorem refAlnum_any (c : UInt8) (w : World) :
    Calls Tryz.prog 117 #[.int .u8 (c.toNat : Int)] w fun e w' => e = .returned (.bool (alnB c)) ∧ w = w' := by
  go_enter Tryz.func117, Tryz.ntmps117
  go_wp2
  all_goals
    go_ret
    refine ⟨ret_bool ?_, rfl⟩
    rw [Bool.eq_iff_iff]
    simp [alnB] at *
    try omega
/-- k bytes are read; the parts so far are out; the next part begins at x. -/
def CutTo (c : UInt8) (s : ByteArray) (x k : Nat) (out : List (List UInt8)) : Prop :=
  cutL c s.data.toList = out ++ cutL c (s.data.toList.drop x) ∧ c ∉ (s.data.toList.drop x).take (k - x) ∧ x ≤ k ∧ k ≤ s.size ∧ out.length ≤ k
theorem cutTo0 (c : UInt8) (s : ByteArray) : CutTo c s 0 0 [] := by
  refine ⟨?_, ?_, Nat.le_refl _, Nat.zero_le _, Nat.le_refl _⟩
  · rw [List.drop_zero]; rfl
  · rw [Nat.sub_zero, List.take_zero]; simp
theorem take_drop_snoc (s : ByteArray) (x k : Nat) (hx : x ≤ k) (hk : k < s.size) : (s.data.toList.drop x).take (k + 1 - x) = (s.data.toList.drop x).take (k - x) ++ [s[k]] := by
  rw [show k + 1 - x = (k - x) + 1 by omega, List.take_succ_eq_append_getElem (by rw [List.length_drop, Array.length_toList]; show k - x < s.size - x; omega)]
  rw [List.getElem_drop]
  congr 2
  simp only [show x + (k - x) = k by omega]; rfl
theorem cutTo_other {c : UInt8} {s : ByteArray} {x k : Nat} {out : List (List UInt8)} (h : CutTo c s x k out) (hk : k < s.size) (hc : s[k].toNat ≠ c.toNat) : CutTo c s x (k + 1) out := by
  obtain ⟨h1, h2, h3, h4, h5⟩ := h
  refine ⟨h1, ?_, by omega, by omega, by omega⟩
  rw [take_drop_snoc s x k h3 hk, List.mem_append, not_or]
  exact ⟨h2, by simp; intro e; exact hc (by rw [e])⟩
theorem cutTo_sep {c : UInt8} {s : ByteArray} {x k : Nat} {out : List (List UInt8)} (h : CutTo c s x k out) (hk : k < s.size) (hc : s[k].toNat = c.toNat) : CutTo c s (k + 1) (k + 1) (out ++ [(s.data.toList.drop x).take (k - x)]) := by
  obtain ⟨h1, h2, h3, h4, h5⟩ := h
  have e : s[k] = c := nat_of_u8 hc
  refine ⟨?_, by simp, Nat.le_refl _, by omega, by simp; omega⟩
  have hd : s.data.toList.drop x = (s.data.toList.drop x).take (k - x) ++ c :: s.data.toList.drop (k + 1) := by
    have h6 := List.take_append_drop (k - x) (s.data.toList.drop x)
    rw [List.drop_drop, show x + (k - x) = k by omega] at h6
    have h7 : s.data.toList.drop k = s[k] :: s.data.toList.drop (k + 1) := by
      rw [List.drop_eq_getElem_cons (by simpa using hk)]; rfl
    rw [h7, e] at h6
    exact h6.symm
  rw [h1, hd, cutL_app, cutL_none h2, ← hd]; simp
theorem cutTo_end {c : UInt8} {s : ByteArray} {x k : Nat} {out : List (List UInt8)} (h : CutTo c s x k out) (hk : s.size ≤ k) : cutL c s.data.toList = out ++ [s.data.toList.drop x] := by
  obtain ⟨h1, h2, h3, h4, h5⟩ := h
  rw [List.take_of_length_le (by rw [List.length_drop, Array.length_toList]; show s.size - x ≤ k - x; omega)] at h2
  rw [h1, cutL_none h2]
def CutRel (c : UInt8) (s : ByteArray) (w : World) (u f i : Value) (wr : World) : Prop :=
  ∃ (x k : Nat) (out : List (List UInt8)), f = .int .i64 x ∧ i = .int .i64 k ∧ CutTo c s x k out ∧ OwnsS w.heap.size wr u out ∧ Below w.heap.size w wr
theorem cutRel0 (c : UInt8) (s : ByteArray) (w : World) : CutRel c s w (.slice none 0 0) (.int .i64 0) (.int .i64 0) w :=
  ⟨0, 0, [], rfl, rfl, cutTo0 c s, World.ownsRow_nil _ _ _ _, Below.refl _ _⟩
theorem strV_seg (s : ByteArray) (x k : Nat) : Value.string (s.extract x k) = strV ((s.data.toList.drop x).take (k - x)) := by
  show _ = Value.string (strB _); rw [← seg_list, strB_of]
set_option maxHeartbeats 4000000 in
set_option maxRecDepth 100000 in
theorem refCut_any (c : UInt8) (s : ByteArray) (w : World) (hs : s.size ≤ 10000000) :
    Calls Tryz.prog 116 #[.string s, .int .u8 (c.toNat : Int)] w fun e w' => ∃ v, e = .returned v ∧ OwnsS w.heap.size w' v (cutL c s.data.toList) ∧ Below w.heap.size w w' := by
  obtain ⟨i0, hi, hz0, hz1, hz2⟩ := info_parts Tryz.infoS
  go_enter Tryz.func116, Tryz.ntmps116
  go_wp2
  go_loopw [5, 6, 10] (fun u f i wr => CutRel c s w u f i wr) (fun _ _ i _ => s.size - (intOf i).toNat)
  case atStart => exact cutRel0 c s w
  case round =>
    obtain ⟨x, k, out, rfl, rfl, hC, hu, hB⟩ := hrel
    have hsz := hB.size
    have HC := Lib.hid hC
    obtain ⟨_, _, hxk, hks, hol⟩ := HC.out
    clear hC
    by_cases hlt : k < s.size
    · by_cases hc : s[k].toNat = c.toNat
      · have hca : ((s[k].toNat : Int) == (c.toNat : Int)) = true := by rw [hc]; exact beq_self_eq_true _
        have HN := Lib.hid (cutTo_sep HC.out hlt hc)
        have hseg := strV_seg s x k
        have HS := Lib.hid hseg
        clear hc hseg
        go_wp2_with (at_builtin; refine wpList_append_own _ rfl _ _ 22 rfl w.heap.size 9 i0 (.string ByteArray.empty) 1 16 Tryz.underlying22 hi hz0 hz1 hz2 rfl (by decide) _ _ _ rfl (World.ownsRow.alloc hu _) ⟨wr.heap.size, 0, none⟩ 1 1 [.string (s.extract x k)] rfl rfl (cell_one_new _ _ _) (fun u hu => by simp at hu; subst hu; rfl) (by unfold maxLen; omega) (by omega) (by simp; omega) ?_; intro v' w2 hown' hgrow _)
        go_roundw
        case rel => exact ⟨k + 1, k + 1, _, by go_num, by go_num, HN.out, by rw [HS.out] at hown'; exact OwnsS.snoc hown', below_append hB hsz (Below.refl _ _) hu hgrow⟩
        case measure => simp [intOf]; omega
      · have hca : ((s[k].toNat : Int) == (c.toNat : Int)) = false := by simp; omega
        have HN := Lib.hid (cutTo_other HC.out hlt hc)
        clear hc
        go_wp2
        go_roundw
        case rel => exact ⟨x, k + 1, out, rfl, by go_num, HN.out, hu, hB⟩
        case measure => simp [intOf]; omega
    · have HE := Lib.hid (cutTo_end HC.out (by omega))
      have hseg : Value.string (s.extract x s.size) = strV (s.data.toList.drop x) := by
        rw [strV_seg, List.take_of_length_le (by rw [List.length_drop, Array.length_toList]; exact Nat.le_refl _)]
      have HS := Lib.hid hseg
      clear hseg
      go_wp2_with (at_builtin; refine wpList_append_own _ rfl _ _ 22 rfl w.heap.size 9 i0 (.string ByteArray.empty) 1 16 Tryz.underlying22 hi hz0 hz1 hz2 rfl (by decide) _ _ _ rfl (World.ownsRow.alloc hu _) ⟨wr.heap.size, 0, none⟩ 1 1 [.string (s.extract x s.size)] rfl rfl (cell_one_new _ _ _) (fun u hu => by simp at hu; subst hu; rfl) (by unfold maxLen; omega) (by omega) (by simp; omega) ?_; intro v' w2 hown' hgrow _)
      go_ret
      exact ⟨_, rfl, by rw [HE.out]; rw [HS.out] at hown'; exact OwnsS.snoc hown', below_append hB hsz (Below.refl _ _) hu hgrow⟩
def refHostV (l : List UInt8) : Value := match hostO l with
  | none => .tuple #[.string (strB []), .bool false]
  | some h => .tuple #[.string (strB h), .bool true]
theorem refHostV_no {l : List UInt8} (h : hostO l = none) : refHostV l = .tuple #[.string (strB []), .bool false] := by unfold refHostV; rw [h]
theorem refHostV_yes {l h : List UInt8} (e : hostO l = some h) : refHostV l = .tuple #[.string (strB h), .bool true] := by unfold refHostV; rw [e]
set_option maxHeartbeats 8000000 in
set_option maxRecDepth 100000 in
theorem refHost_any (s : ByteArray) (w : World) (hs : s.size ≤ 1000000) :
    Calls Tryz.prog 86 #[.string s] w fun e w' => e = .returned (refHostV s.data.toList) ∧ Below w.heap.size w w' := by
  have hsz : s.data.toList.length = s.size := by rw [Array.length_toList]; rfl
  have HSZ := Lib.hid hsz
  clear hsz
  go_enter Tryz.func86, Tryz.ntmps86
  go_wp2_with fail
  refine (refCut_any 46 s _ (by omega)).mono ?_
  rintro e w1 ⟨v, rfl, hv, hB⟩
  have hle := cutL_len 46 s.data.toList
  have hle' : (cutL 46 s.data.toList).length ≤ 1000001 := by rw [HSZ.out] at hle; omega
  clear hle
  rcases hv.open' with ⟨rfl, he⟩ | ⟨g, cap, rfl, hBg, hgs, hcells⟩
  · exact absurd he (cutL_ne 46 _)
  have HPL := Lib.hid (fun l hl => cutL_part_le 46 s.data.toList l hl)
  generalize hls : cutL 46 s.data.toList = ls at *
  have HLS := Lib.hid hls
  have HC := Lib.hid hcells
  clear hls hcells hv
  go_wp2_with fail
  go_loop [12] (fun i => ∃ k : Nat, k ≤ ls.length ∧ i = .int .i64 k ∧ lblTo ls k) (fun i => ls.length - (intOf i).toNat)
  case atStart => exact ⟨0, by omega, rfl, by simp [lblTo]⟩
  case round =>
    obtain ⟨k, hk, rfl, hn⟩ := hrel
    by_cases hlt : k < ls.length
    · obtain ⟨t, ht⟩ : ∃ t : ByteArray, ls[k]? = some t.data.toList := by
        obtain ⟨l, hl⟩ : ∃ l, ls[k]? = some l := ⟨ls[k], by simp [hlt]⟩
        exact ⟨strB l, by rw [strB_list]; exact hl⟩
      have hcell : w1.cell? ⟨g, k, none⟩ = some (.string t) := by
        have := HC.out k _ ht; rw [strB_of] at this; exact this
      have hll : t.size ≤ 1000000 := by
        have := HPL.out _ (List.mem_of_getElem? ht)
        rw [HSZ.out, Array.length_toList] at this
        have h' : t.size ≤ s.size := this
        omega
      have HT := Lib.hid ht
      clear ht
      have HBAD := Lib.hid (fun (h : lblB t.data.toList = false) => refHostV_no (l := s.data.toList) (hostO_bad (s := t.data.toList) (by rw [HLS.out]; exact List.mem_of_getElem? HT.out) h))
      by_cases hz : t.size = 0
      · have HR := Lib.hid (HBAD.out (lbl_nil hz))
        have hz1 : t.size < 1 := by omega
        clear hz
        go_wp2
        go_ret2
        exact ⟨by rw [HR.out]; rfl, hB⟩
      · have hz' : 0 < t.size := by omega
        by_cases h63 : 63 < t.size
        · have HR := Lib.hid (HBAD.out (lbl_long h63))
          go_wp2
          go_ret2
          exact ⟨by rw [HR.out]; rfl, hB⟩
        · by_cases h0 : t[0].toNat = 45
          · have HR := Lib.hid (HBAD.out (lbl_head hz' h0))
            have h0' : ((t[0].toNat : Int) == 45) = true := by rw [h0]; rfl
            clear h0
            go_wp2
            go_ret2
            exact ⟨by rw [HR.out]; rfl, hB⟩
          · have h0' : ((t[0].toNat : Int) == 45) = false := by simp; omega
            by_cases h1 : (t[t.size - 1]'(by omega)).toNat = 45
            · have HR := Lib.hid (HBAD.out (lbl_last hz' h1))
              have h1' : (((t[t.size - 1]'(by omega)).toNat : Int) == 45) = true := by rw [h1]; rfl
              clear h1 h0
              go_wp2
              go_ret2
              exact ⟨by rw [HR.out]; rfl, hB⟩
            · have HRest := Lib.hid (lbl_rest hz' (by omega) h0 h1)
              have h1' : (((t[t.size - 1]'(by omega)).toNat : Int) == 45) = false := by simp; omega
              clear h1 h0
              go_wp2
              go_loop [45] (fun i => ∃ j : Nat, j ≤ t.size ∧ i = .int .i64 j ∧ okTo lblC t j) (fun i => t.size - (intOf i).toNat)
              case atStart => exact ⟨0, by omega, rfl, okTo0 _ t⟩
              case round =>
                obtain ⟨j, hj, rfl, hjn⟩ := hrel
                by_cases hjt : j < t.size
                · by_cases ha : alnB t[j] = true
                  · have HL := Lib.hid (lblC_of (Or.inl ha))
                    go_wp2_with (go_at_call 117; refine (refAlnum_any _ _).mono ?_; rintro e w' ⟨rfl, rfl⟩; rw [ha])
                    go_round
                    case rel => exact ⟨j + 1, by omega, by go_num, okTo_step hjt hjn HL.out⟩
                    case measure => simp [intOf]; omega
                  · have ha' : alnB t[j] = false := by simpa using ha
                    clear ha
                    by_cases h45 : t[j].toNat = 45
                    · have HL := Lib.hid (lblC_of (Or.inr h45))
                      have h45' : ((t[j].toNat : Int) != 45) = false := by rw [h45]; rfl
                      clear h45
                      go_wp2_with (go_at_call 117; refine (refAlnum_any _ _).mono ?_; rintro e w' ⟨rfl, rfl⟩; rw [ha'])
                      go_round
                      case rel => exact ⟨j + 1, by omega, by go_num, okTo_step hjt hjn HL.out⟩
                      case measure => simp [intOf]; omega
                    · have HR := Lib.hid (HBAD.out (by rw [HRest.out]; exact okTo_no hjt (lblC_not ha' h45)))
                      have h45' : ((t[j].toNat : Int) != 45) = true := by simp; omega
                      clear h45
                      go_wp2_with (go_at_call 117; refine (refAlnum_any _ _).mono ?_; rintro e w' ⟨rfl, rfl⟩; rw [ha'])
                      go_ret2
                      exact ⟨by rw [HR.out]; rfl, hB⟩
                · have HL := Lib.hid (show lblB t.data.toList = true by rw [HRest.out, okTo_end (by omega) hjn])
                  go_wp2
                  go_round
                  case rel => exact ⟨k + 1, by omega, by go_num, lblTo_step HT.out hn HL.out⟩
                  case measure => simp [intOf]; omega
    · have hall := lblTo_end (by omega) hn
      by_cases h100 : 100 < s.size
      · have HR := Lib.hid (refHostV_no (hostO_long (l := s.data.toList) (by rw [HSZ.out]; exact h100)))
        clear hall
        go_wp2
        go_ret2
        exact ⟨by rw [HR.out]; rfl, hB⟩
      · have HR := Lib.hid (refHostV_yes (hostO_good (l := s.data.toList) (by rw [HSZ.out]; omega) (by rw [HLS.out]; exact hall)))
        clear hall
        go_wp2_with (go_at_call 89; refine (refLower_any _ _ (by omega)).mono ?_; rintro e w2 ⟨rfl, hB2⟩)
        go_ret2
        exact ⟨by rw [HR.out]; rfl, hB.trans (hB2.mono hB.size)⟩
end Go.Proofs.YtpikjcmenmdolaaGreatDoor

/- The reference's hosted. -/
namespace Go.Proofs.YtpikjcmenmdolaaGreatDoor
open Go.RowKit

section
variable {hs : List UInt8 → Option (List UInt8)} {lw : List UInt8 → List UInt8}
theorem hostF_app : ∀ (a b : Fs), hostF hs lw (a ++ b) = (hostF hs lw a).bind fun p => (hostF hs lw b).map fun q => (p.1 ++ q.1, p.2 + q.2) := by
  intro a
  induction a with
  | nil => intro b; simp [hostF]
  | cons f r ih =>
    intro b
    rw [List.cons_append, hostF, hostF, ih]
    by_cases hf : lw f.1 = hostN
    · rw [if_pos hf, if_pos hf]
      cases hs f.2 <;> cases hostF hs lw r <;> cases hostF hs lw b <;> simp
      omega
    · rw [if_neg hf, if_neg hf]
      cases hostF hs lw r <;> cases hostF hs lw b <;> simp
theorem hostF_len : ∀ (a : Fs) (q : Fs × Nat), hostF hs lw a = some q → q.1.length = a.length ∧ q.2 ≤ a.length := by
  intro a
  induction a with
  | nil => intro q h; simp [hostF] at h; subst h; simp
  | cons f r ih =>
    intro q h
    rw [hostF] at h
    cases e : hostF hs lw r with
    | none =>
      rw [e] at h
      by_cases hf : lw f.1 = hostN
      · rw [if_pos hf] at h; cases hs f.2 <;> simp at h
      · rw [if_neg hf] at h; simp at h
    | some p =>
      rw [e] at h
      obtain ⟨h1, h2⟩ := ih p e
      by_cases hf : lw f.1 = hostN
      · rw [if_pos hf] at h
        cases e2 : hs f.2 with
        | none => rw [e2] at h; simp at h
        | some y => rw [e2] at h; simp at h; subst h; simp; omega
      · rw [if_neg hf] at h; simp at h; subst h; simp; omega
end
/-- k fields are looked at: they are acc with their hosts, of which there are n. -/
def HostedTo (ps : Fs) (k : Nat) (acc : Fs) (n : Nat) : Prop := hostF hostO lowS (ps.take k) = some (acc, n)
theorem hostedTo0 (ps : Fs) : HostedTo ps 0 [] 0 := rfl
theorem hostedTo_other {ps acc : Fs} {k n : Nat} {p : List UInt8 × List UInt8} (h : HostedTo ps k acc n) (hp : ps[k]? = some p) (ho : lowS p.1 ≠ hostN) : HostedTo ps (k + 1) (acc ++ [p]) n := by
  unfold HostedTo at *
  rw [take_more hp, hostF_app, h]
  show Option.map _ (if lowS p.1 = hostN then _ else _) = _
  rw [if_neg ho]; rfl
theorem hostedTo_host {ps acc : Fs} {k n : Nat} {p : List UInt8 × List UInt8} {y : List UInt8} (h : HostedTo ps k acc n) (hp : ps[k]? = some p) (ho : lowS p.1 = hostN) (hy : hostO p.2 = some y) : HostedTo ps (k + 1) (acc ++ [(p.1, y)]) (n + 1) := by
  unfold HostedTo at *
  rw [take_more hp, hostF_app, h]
  show Option.map _ (if lowS p.1 = hostN then _ else _) = _
  rw [if_pos ho, hy]; rfl
theorem hostedTo_bad {ps : Fs} {k : Nat} {p : List UInt8 × List UInt8} (hp : ps[k]? = some p) (ho : lowS p.1 = hostN) (hy : hostO p.2 = none) : hosted hostO lowS ps = none := by
  have : hostF hostO lowS ps = none := hostF_none ps ⟨p.2, by
    unfold allL
    exact List.mem_map.2 ⟨p, List.mem_filter.2 ⟨List.mem_of_getElem? hp, by rw [ofN_host]; simpa using ho⟩, rfl⟩, hy⟩
  unfold hosted; rw [this]; rfl
theorem hostedTo_end {ps acc : Fs} {k n : Nat} (h : HostedTo ps k acc n) (hk : ps.length ≤ k) : hosted hostO lowS ps = if n = 1 then some acc else none := by
  unfold HostedTo at h
  rw [List.take_of_length_le hk] at h
  unfold hosted; rw [h]; rfl
def HostedPost (ps : Fs) (w : World) (e : Ending) (w' : World) : Prop :=
  ∃ v, e = .returned (.tuple #[v, .bool (hosted hostO lowS ps).isSome]) ∧ (∃ a n c, v = .slice a n c) ∧ (∀ q, hosted hostO lowS ps = some q → OwnsP 91 w.heap.size w' v q) ∧ Below w.heap.size w w'
theorem OwnsP.isSlice {T : TypeId} {B : Nat} {w : World} {v : Value} {ps : Fs} (h : OwnsP T B w v ps) : ∃ a n c, v = .slice a n c := by
  obtain ⟨ao, cap, rfl, _⟩ := h.reads; exact ⟨_, _, _, rfl⟩
set_option maxHeartbeats 8000000 in
set_option maxRecDepth 100000 in
theorem refHosted_any (v : Value) (ps : Fs) (w : World) (hr : ReadsQ w v ps) (hl : ps.length ≤ 1000) (hb : ∀ p ∈ ps, p.1.length + p.2.length ≤ 1000000) :
    Calls Tryz.prog 60 #[v] w (HostedPost ps w) := by
  obtain ⟨i0, hi, hz0, hz1, hz2⟩ := info_parts Tryz.infoG
  obtain ⟨ao, cap, rfl, hc⟩ := hr
  have HC := Lib.hid hc
  have HBig := Lib.hid hb
  clear hc hb
  go_enter Tryz.func60, Tryz.ntmps60
  go_wp2_with fail
  go_loopw [4, 5, 6] (fun u c i wr => ∃ (k n : Nat) (acc : Fs), i = .int .i64 k ∧ c = .int .i64 n ∧ k ≤ ps.length ∧ n ≤ k ∧ acc.length = k ∧ HostedTo ps k acc n ∧ OwnsP 91 w.heap.size wr u acc ∧ Below w.heap.size w wr) (fun _ _ i _ => ps.length - (intOf i).toNat)
  case atStart => exact ⟨0, 0, [], rfl, rfl, Nat.zero_le _, Nat.le_refl _, rfl, hostedTo0 _, OwnsP.nil _ _ _, Below.refl _ _⟩
  case round =>
    obtain ⟨k, n, acc, rfl, rfl, hk, hnk, hal, hn, hO, hBr⟩ := hrel
    have hbr := hBr.size
    have HN := Lib.hid hn
    have hall : acc.length ≤ k := by omega
    have HAL := Lib.hid hal
    clear hn hal
    by_cases hlt : k < ps.length
    · obtain ⟨p, hp⟩ : ∃ p, ps[k]? = some p := ⟨ps[k], by simp [hlt]⟩
      obtain ⟨g, off, rfl, hg1, h1, h2⟩ := HC.out k p hp
      have hc1 : wr.cell? ⟨g, off + k * 2, none⟩ = some (.string (strB p.1)) := (hBr.cell (p := ⟨g, off + k * 2, none⟩) hg1).trans h1
      have hc2 : wr.cell? ⟨g, off + k * 2 + 1, none⟩ = some (.string (strB p.2)) := (hBr.cell (p := ⟨g, off + k * 2 + 1, none⟩) hg1).trans h2
      have hpl := HBig.out p (List.mem_of_getElem? hp)
      have OF := fun w => of_any p.1 p.2 hostN w (by omega) (by decide)
      have HP := Lib.hid hp
      clear hp h1 h2
      by_cases ho : lowS p.1 = hostN
      · have hof : ofN hostN (p.1, p.2) = true := by rw [ofN_host]; simpa using ho
        rw [hof] at OF
        have RH := Lib.hid (fun w => refHost_any (strB p.2) w (by rw [strB_size]; omega))
        rw [strB_list] at RH
        cases hh : hostO p.2 with
        | none =>
          have HE := Lib.hid (hostedTo_bad HP.out ho hh)
          rw [refHostV_no hh] at RH
          clear hof ho hh
          go_wp2_with fail
          refine (OF _).mono ?_
          rintro e w2 ⟨rfl, hB⟩
          obtain ⟨b0, b1, bf0, bf1, bz⟩ := box_kept wr hB
          go_wp2_with fail
          refine (RH.out _).mono ?_
          rintro e w3 ⟨rfl, hB3⟩
          go_wp2_with fail
          go_ret2
          exact ⟨_, by rw [HE.out]; rfl, ⟨_, _, _, rfl⟩, (fun q hq => by rw [HE.out] at hq; cases hq), hBr.trans (((below_new wr _).trans ((hB.trans (hB3.mono hB.size)).mono (by simp))).mono hbr)⟩
        | some y =>
          have HE := Lib.hid (hostedTo_host HN.out HP.out ho hh)
          rw [refHostV_yes hh] at RH
          clear hof ho hh
          go_wp2_with fail
          refine (OF _).mono ?_
          rintro e w2 ⟨rfl, hB⟩
          obtain ⟨b0, b1, bf0, bf1, bz⟩ := box_kept wr hB
          go_wp2_with fail
          refine (RH.out _).mono ?_
          rintro e w3 ⟨rfl, hB3⟩
          have hB4 := hB.trans (hB3.mono hB.size)
          obtain ⟨d0, d1, df0, df1, dz⟩ := box_kept wr hB4
          clear b0 b1 bf0 bf1 bz
          have hB5 : Below wr.heap.size wr (w3.setCell ⟨wr.heap.size, 1, none⟩ (.string (strB y))) := ((below_new wr _).trans (hB4.mono (by simp))).setCell (p := ⟨wr.heap.size, 1, none⟩) (Nat.le_refl _) _
          have hO3 := OwnsP.below hO ((below_new wr _).trans (hB4.mono (by simp)))
          have hO2 : OwnsP 91 w.heap.size (w3.setCell ⟨wr.heap.size, 1, none⟩ (.string (strB y))) u4 acc := ownsRow_setCell_other hO3 (fun hq => by have := (World.ownsRow.lt hO _ hq).2; simp at this) _
          have hz5 := hB5.size
          clear hO3
          go_wp2_with (at_builtin; go_must (refine wpList_append_own _ rfl _ _ 74 rfl w.heap.size 91 i0 (.agg #[.string ByteArray.empty, .string ByteArray.empty]) 2 32 Tryz.underlying74 hi hz0 hz1 hz2 rfl (by decide) _ _ _ rfl (World.ownsRow.alloc hO2 _) ⟨_, 0, none⟩ 1 1 [strV p.1, strV y] rfl rfl (two_newS _ p.1 y _ _ (by simp)) (fun u hu => by simp at hu; rcases hu with rfl | rfl <;> rfl) (by unfold maxLen; omega) (by omega) (by simp; omega) ?_); intro v' w6 hown' hgrow _)
          go_roundw
          case rel => exact ⟨k + 1, n + 1, _, by go_num, by go_num, by omega, by omega, by rw [List.length_append, HAL.out]; rfl, HE.out, OwnsP.snoc (p := (p.1, y)) hown', below_appendP hBr hbr hB5 hO hgrow⟩
          case measure => simp [intOf]; omega
      · have hof : ofN hostN (p.1, p.2) = false := by rw [ofN_host]; simpa using ho
        rw [hof] at OF
        have HE := Lib.hid (hostedTo_other HN.out HP.out ho)
        clear hof ho
        go_wp2_with fail
        refine (OF _).mono ?_
        rintro e w2 ⟨rfl, hB⟩
        obtain ⟨b0, b1, bf0, bf1, bz⟩ := box_kept wr hB
        have hB' := (below_new wr _).trans (hB.mono (by simp))
        have hO2 := OwnsP.below hO hB'
        have hz2' := hB'.size
        go_wp2_with (at_builtin; go_must (refine wpList_append_own _ rfl _ _ 74 rfl w.heap.size 91 i0 (.agg #[.string ByteArray.empty, .string ByteArray.empty]) 2 32 Tryz.underlying74 hi hz0 hz1 hz2 rfl (by decide) _ _ _ rfl (World.ownsRow.alloc hO2 _) ⟨_, 0, none⟩ 1 1 [strV p.1, strV p.2] rfl rfl (two_newG _ p.1 p.2 _) (fun u hu => by simp at hu; rcases hu with rfl | rfl <;> rfl) (by unfold maxLen; omega) (by omega) (by simp; omega) ?_); intro v' w6 hown' hgrow _)
        go_roundw
        case rel => exact ⟨k + 1, n, _, by go_num, rfl, by omega, by omega, by rw [List.length_append, HAL.out]; rfl, HE.out, OwnsP.snoc (p := p) hown', below_appendP hBr hbr hB' hO hgrow⟩
        case measure => simp [intOf]; omega
    · have HE := Lib.hid (hostedTo_end HN.out (by omega))
      obtain ⟨ao2, n2, cp2, rfl⟩ := hO.isSlice
      by_cases h1 : n = 1
      · have q : ((n : Int) == 1) = true := by rw [h1]; rfl
        have HE2 := Lib.hid (show hosted hostO lowS ps = some acc by rw [HE.out, if_pos h1])
        clear h1
        go_wp2_with fail
        go_ret2
        exact ⟨_, by rw [HE2.out]; rfl, ⟨_, _, _, rfl⟩, (fun q hq => by rw [HE2.out] at hq; rw [← Option.some.inj hq]; exact hO), hBr⟩
      · have q : ((n : Int) == 1) = false := by simp; omega
        have HE2 := Lib.hid (show hosted hostO lowS ps = none by rw [HE.out, if_neg h1])
        clear h1
        go_wp2_with fail
        go_ret2
        exact ⟨_, by rw [HE2.out]; rfl, ⟨_, _, _, rfl⟩, (fun q hq => by rw [HE2.out] at hq; cases hq), hBr⟩
end Go.Proofs.YtpikjcmenmdolaaGreatDoor
