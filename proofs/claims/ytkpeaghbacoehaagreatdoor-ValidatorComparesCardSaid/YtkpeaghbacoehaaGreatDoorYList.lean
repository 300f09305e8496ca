/- What WriteTag, Strong, Weak, readList and ReadTags return. -/
import Derived.Test.YtkpeaghbacoehaaGreatDoorYCut
import Derived.Test.YtkpeaghbacoehaaGreatDoorTrimA
namespace Go.Proofs.YtkpeaghbacoehaaGreatDoor
open Go.RowKit

set_option maxHeartbeats 1000000 in
theorem writeTag_any (t : Tg) (w : World) (ht : t.2.length ≤ 1000000) :
    Calls Tryz.prog 12 #[tgV t] w fun e w' => e = .returned (texO t) ∧ Below w.heap.size w w' := by
  obtain ⟨k, a⟩ := t
  have ht' : a.length ≤ 1000000 := ht
  have HT := Lib.hid (fun (w : World) => isText_any (strB a) w (by rw [strB_size]; omega))
  rw [strB_list] at HT
  have HR := Lib.hid (show texO (k, a) = if txtB a = true then .tuple #[strV (texL (k, a)), .nilIface] else .tuple #[strV [], errY] from rfl)
  have hsz : (strB a).size = a.length := strB_size a
  have hgo : ∀ x : Bool, txtB a = x → Calls Tryz.prog 12 #[tgV (k, a)] w fun e w' => e = .returned (texO (k, a)) ∧ Below w.heap.size w w' := by
    intro x hx
    rw [hx] at HT HR
    clear hx
    cases x
    · have HR2 := Lib.hid (show texO (k, a) = .tuple #[strV [], errY] by rw [HR.out]; rfl)
      go_enter Tryz.func12, Tryz.ntmps12
      go_wp2_with fail
      refine (HT.out _).mono ?_
      rintro e w' ⟨rfl, rfl⟩
      go_wp2_with fail
      go_ret2
      exact ⟨by first | (rw [HR2.out]; rfl) | rw [HR2.out], below_new _ _⟩
    · have HR2 := Lib.hid (show texO (k, a) = .tuple #[strV (texL (k, a)), .nilIface] by rw [HR.out]; rfl)
      cases k
      · have HE := Lib.hid (show (⟨#[34]⟩ : ByteArray) ++ strB a ++ ⟨#[34]⟩ = strB (texL (false, a)) by apply strB_ext; simp [strB, texL])
        go_enter Tryz.func12, Tryz.ntmps12
        go_wp2_with fail
        refine (HT.out _).mono ?_
        rintro e w' ⟨rfl, rfl⟩
        go_wp2_with fail
        go_ret2
        exact ⟨by rw [HR2.out]; show _ = Ending.returned (.tuple #[.string (strB (texL (false, a))), .nilIface]); rw [← HE.out]; rfl, below_new _ _⟩
      · have HE := Lib.hid (show (⟨#[87, 47]⟩ : ByteArray) ++ (⟨#[34]⟩ ++ strB a ++ ⟨#[34]⟩) = strB (texL (true, a)) by apply strB_ext; simp [strB, texL])
        go_enter Tryz.func12, Tryz.ntmps12
        go_wp2_with fail
        refine (HT.out _).mono ?_
        rintro e w' ⟨rfl, rfl⟩
        go_wp2_with fail
        go_ret2
        exact ⟨by rw [HR2.out]; show _ = Ending.returned (.tuple #[.string (strB (texL (true, a))), .nilIface]); rw [← HE.out]; rfl, below_new _ _⟩
  exact hgo _ rfl
theorem below_newY (w : World) (o p : Obj) : Below w.heap.size w ((w.alloc o).alloc p) := (below_new w o).alloc (by simp) p
theorem same_strB (a b : List UInt8) : ((strB a).toList == (strB b).toList) = decide (a = b) := by
  rw [ByteArray.toList_eq, ByteArray.toList_eq, strB_list, strB_list]
  by_cases h : a = b
  · subst h; simp
  · simp [h]
set_option maxHeartbeats 1000000 in
theorem weak_any (t u : Tg) (w : World) :
    Calls Tryz.prog 22 #[tgV t, tgV u] w fun e w' => e = .returned (.bool (sameT false t u)) ∧ Below w.heap.size w w' := by
  obtain ⟨k, a⟩ := t
  obtain ⟨j, b⟩ := u
  have hs := same_strB a b
  go_enter Tryz.func22, Tryz.ntmps22
  go_wp2
  go_ret
  exact ⟨by simp [sameT], below_newY _ _ _⟩
set_option maxHeartbeats 1000000 in
theorem strong_any (t u : Tg) (w : World) :
    Calls Tryz.prog 21 #[tgV t, tgV u] w fun e w' => e = .returned (.bool (sameT true t u)) ∧ Below w.heap.size w w' := by
  obtain ⟨k, a⟩ := t
  obtain ⟨j, b⟩ := u
  have hs := same_strB a b
  cases k <;> cases j
  all_goals
    go_enter Tryz.func21, Tryz.ntmps21
    go_wp2
    go_ret
    exact ⟨by simp [sameT], below_newY _ _ _⟩

theorem trim_head {r : List UInt8} {c : UInt8} {x : List UInt8} (h : trimB r = c :: x) : blank c = false := by
  rw [trimB_eq] at h
  cases e : tL r with
  | nil => rw [e] at h; cases h
  | cons d y =>
    rw [e, tR_cons_ne (tL_head e)] at h
    simp only [List.cons.injEq] at h
    rw [← h.1]; exact tL_head e
theorem new_tg2 (w : World) (o : Obj) (x : Bool) (y : List UInt8) (T : TypeId) : ∀ j u, [Value.bool x, strV y][j]? = some u → ((w.alloc o).alloc (.cells #[.bool x, strV y] T)).cell? ((⟨w.heap.size + 1, 0, none⟩ : Addr).add j) = some u := by
  have e : w.heap.size + 1 = (w.alloc o).heap.size := by simp
  rw [e]; exact new_tg (w.alloc o) x y T
def TagsPost (T : TypeId) (l : List UInt8) (w : World) (e : Ending) (w' : World) : Prop :=
  Below w.heap.size w w' ∧
  match lstL l [] with
  | none => e = .returned (.tuple #[.slice none 0 0, errY])
  | some ts => ∃ v, e = .returned (.tuple #[v, .nilIface]) ∧ OwnsT T w.heap.size w' v ts ∧ ts.length ≤ l.length
theorem tagsPost_none {T : TypeId} {l : List UInt8} {w w' : World} {e : Ending} (hB : Below w.heap.size w w') (hR : lstL l [] = none) (he : e = .returned (.tuple #[.slice none 0 0, errY])) : TagsPost T l w e w' := ⟨hB, by rw [hR]; exact he⟩
theorem tagsPost_some {T : TypeId} {l : List UInt8} {w w' : World} {e : Ending} {v : Value} {ts : List Tg} (hB : Below w.heap.size w w') (hR : lstL l [] = some ts) (he : e = .returned (.tuple #[v, .nilIface])) (hO : OwnsT T w.heap.size w' v ts) (hl : ts.length ≤ l.length) : TagsPost T l w e w' := ⟨hB, by rw [hR]; exact ⟨v, he, hO, hl⟩⟩
def TRel (T : TypeId) (l : List UInt8) (w : World) (v r : Value) (wr : World) : Prop :=
  ∃ (acc : List Tg) (x : List UInt8), r = .string (strB x) ∧ (∀ c y, x = c :: y → blank c = false) ∧ lstL x acc = lstL l [] ∧ acc.length + x.length ≤ l.length ∧ OwnsT T w.heap.size wr v acc ∧ Below w.heap.size w wr
theorem cutC_any (l : List UInt8) (b : Bool) (w : World) (h : [44].isPrefixOf l = b) : Calls Tryz.prog 55 #[.string (strB l), .string ⟨#[44]⟩] w fun e w' => e = .returned (.tuple #[.string (strB (if b then l.drop 1 else l)), .bool b]) ∧ w = w' := by
  refine (cutPre_any (strB l) ⟨#[44]⟩ w (b := b) (by rw [strB_list]; exact h)).mono ?_
  rintro e w' ⟨rfl, rfl⟩
  rw [strB_list]
  exact ⟨rfl, rfl⟩
theorem cutTL_len {l : List UInt8} {t : Tg} {r : List UInt8} (h : cutTL l = some (t, r)) : r.length + 2 ≤ l.length := by
  obtain ⟨_, rfl⟩ := cutTL_some h
  obtain ⟨k, a⟩ := t
  cases k <;> simp [texL] <;> omega
theorem Tryz.infoT : (Tryz.prog.info? 29).map (fun i => (i.zero, i.size, i.bytes)) = some (some (.agg #[.bool false, .string ByteArray.empty]), 2, 24) := by kernel_rfl
theorem trimS_any (l : List UInt8) (w : World) (hl : l.length ≤ 1000000) : Calls Tryz.prog 38 #[.string (strB l)] w fun e w' => e = .returned (.string (strB (trimB l))) ∧ Below w.heap.size w w' := by
  refine (trimA_any (strB l) w (by rw [strB_size]; omega)).mono ?_
  rintro e w' ⟨rfl, hb⟩
  rw [strB_list]; exact ⟨rfl, hb⟩
set_option maxHeartbeats 8000000 in
set_option maxRecDepth 100000 in
theorem readList_any (l : List UInt8) (w : World) (hM : MaxIs w) (hl : l.length ≤ 1000000) :
    Calls Tryz.prog 39 #[.string (strB l)] w fun e w' => TagsPost 29 l w e w' := by
  obtain ⟨i0, hi, hz0, hz1, hz2⟩ := info_tag Tryz.infoT
  have HM := Lib.hid hM
  have htl := trimB_le l
  clear hM
  go_enter Tryz.func39, Tryz.ntmps39
  go_wp2_with fail
  refine (trimS_any l _ hl).mono ?_
  rintro e w1 ⟨rfl, hB1⟩
  have HB1 := Lib.hid hB1
  have hb1 := hB1.size
  clear hB1
  go_wp2_with fail
  go_loopw [4, 5] (fun v r wr => TRel 29 l w v r wr) (fun _ r _ => lenV r)
  case atStart => exact ⟨[], trimB l, rfl, fun c y h => trim_head h, lstL_trim l [], by simpa using htl, OwnsT.nil _ _ _, HB1.out⟩
  case round =>
    obtain ⟨acc, x, rfl, hhead, hlst, hlen, hO, hBr⟩ := hrel
    have hbr := hBr.size
    have HBR := Lib.hid hBr
    have HL := Lib.hid hlst
    have HO := Lib.hid hO
    clear hBr hlst hO
    cases x with
    | nil =>
      have hE := empty_yes (l := []) rfl
      have hE' : (strB []).toList = [] := by rw [ByteArray.toList_eq]; rfl
      clear hhead
      rw [lstL_nil] at HL
      by_cases ha : acc = []
      · subst ha
        have HR := Lib.hid (show lstL l [] = none from HL.out.symm)
        obtain ⟨ao, cap, rfl, _⟩ := HO.out.reads
        go_wp2
        go_ret2
        exact tagsPost_none HBR.out HR.out rfl
      · have HR := Lib.hid (show lstL l [] = some acc by rw [← HL.out]; unfold finT; rw [if_neg ha])
        have hpos : 0 < acc.length := List.length_pos_iff.mpr ha
        obtain ⟨ao, cap, rfl, _⟩ := HO.out.reads
        clear ha
        go_wp2
        go_ret2
        exact tagsPost_some HBR.out HR.out rfl HO.out (by omega)
    | cons c y =>
      have hb0 := hhead c y rfl
      have HB0 := Lib.hid hb0
      clear hhead hb0
      have hE := empty_no (l := c :: y) (by simp)
      have hEl : (strB (c :: y)).toList = c :: y := by rw [ByteArray.toList_eq, strB_list]
      have ez : (strB (c :: y)).size = y.length + 1 := strB_size _
      have e0 : (strB (c :: y))[0]'(by omega) = c := rfl
      simp only [List.length_cons] at hlen
      by_cases hc : c = 44
      · subst hc
        have n0 : (((44 : UInt8).toNat : Int) != 44) = false := by decide
        have HC := Lib.hid (fun w => cutC_any (44 :: y) true w rfl)
        have HN := Lib.hid ((lstL_comma y acc).symm.trans HL.out)
        have hty := trimB_le y
        have HT := Lib.hid (fun w => trimS_any y w (by omega))
        go_wp2_with fail
        refine (HC.out _).mono ?_
        rintro e w' ⟨rfl, rfl⟩
        go_wp2_with fail
        refine (HT.out _).mono ?_
        rintro e w2 ⟨rfl, hB2⟩
        go_wp2_with fail
        go_roundw
        case rel => exact ⟨acc, trimB y, rfl, fun c y h => trim_head h, HN.out, by omega, HO.out.below hB2, HBR.out.trans (hB2.mono hbr)⟩
        case measure => rw [lenV_s, lenV_s]; simp only [List.length_cons]; omega
      · have n0 : ((c.toNat : Int) != 44) = true := by
          have : c.toNat ≠ 44 := fun h => hc (UInt8.toNat_inj.mp h)
          simp; omega
        have HC := Lib.hid (fun (w : World) (hM : MaxIs w) => cutTag_any (c :: y) w hM (by simp only [List.length_cons]; omega))
        have HM2 := Lib.hid (HM.out.below HBR.out)
        cases hq : cutTL (c :: y) with
        | none =>
          rw [hq] at HC
          have HR := Lib.hid ((HL.out.symm.trans (lstL_no HB0.out hc hq acc)))
          clear hq hc
          unfold cutV at HC
          go_wp2_with fail
          refine (HC.out _ HM2.out).mono ?_
          rintro e w2 ⟨rfl, hB2⟩
          have hb2 := hB2.size
          have HW := Lib.hid (HBR.out.trans (hB2.mono hbr))
          clear hB2
          go_wp2_with fail
          go_ret2
          exact tagsPost_none (HW.out.alloc (by omega) _) HR.out rfl
        | some p =>
          obtain ⟨t, r⟩ := p
          obtain ⟨k, a⟩ := t
          rw [hq] at HC
          have hrl := cutTL_len hq
          simp only [List.length_cons] at hrl
          have HQ := Lib.hid hq
          clear hq hc
          unfold cutV at HC
          have hfl := flatT_len acc
          have htr := trimB_le r
          have HT := Lib.hid (fun w => trimS_any r w (by omega))
          go_wp2_with fail
          refine (HC.out _ HM2.out).mono ?_
          rintro e w2 ⟨rfl, hB2⟩
          have hb2 := hB2.size
          have HB2 := Lib.hid hB2
          obtain ⟨c0, c1, f0, f1, hN⟩ := twoT_new w2 k a 29
          have hO4 := (HO.out.below hB2).below (below_new w2 (.cells #[.bool k, .string (strB a)] 29))
          clear hB2
          go_wp2_with (at_builtin; go_must (refine wpList_append_own _ rfl _ _ 42 rfl w.heap.size 29 i0 (.agg #[.bool false, .string ByteArray.empty]) 2 24 Tryz.underlying42 hi hz0 hz1 hz2 rfl (by decide) _ _ _ rfl (World.ownsRow.alloc hO4 _) ⟨w2.heap.size + 1, 0, none⟩ 1 1 [.bool k, strV a] rfl rfl (new_tg2 w2 _ k a _) (fun u hu => by simp at hu; rcases hu with rfl | rfl <;> rfl) (by unfold maxLen; omega) (by omega) (by simp; omega) ?_); intro v' w5 hown' hgrow _)
          refine (HT.out _).mono ?_
          rintro e w6 ⟨rfl, hB6⟩
          have hO5 := OwnsT.snoc (p := (k, a)) hown'
          have hB5 := below_appendT HBR.out hbr (HB2.out.alloc hb2 _) HO.out hgrow
          have hb5 := hB5.size
          have HO6 := Lib.hid (hO5.below hB6)
          have HB6 := Lib.hid (hB5.trans (hB6.mono hb5))
          clear hown' hgrow hO5 hB5 hB6 hO4
          have hap : (acc ++ [(k, a)]).length = acc.length + 1 := by simp
          rcases hz : trimB r with _ | ⟨d, z⟩
          · have hE2 : (strB []).toList = [] := by rw [ByteArray.toList_eq]; rfl
            have HC2 := Lib.hid (fun w => cutC_any [] false w rfl)
            have HT2 := Lib.hid (fun w => trimS_any [] w (by simp))
            have HN := Lib.hid ((lstL_last HQ.out hz acc).symm.trans HL.out)
            clear hz
            go_wp2_with fail
            refine (HC2.out _).mono ?_
            rintro e w' ⟨rfl, rfl⟩
            go_wp2_with fail
            refine (HT2.out _).mono ?_
            rintro e w7 ⟨rfl, hB7⟩
            go_wp2_with fail
            go_roundw
            case rel => exact ⟨acc ++ [(k, a)], trimB [], rfl, fun c y h => trim_head h, (lstL_trim [] _).trans HN.out, by rw [hap]; show _ + 0 ≤ _; omega, HO6.out.below hB7, HB6.out.trans (hB7.mono HB6.out.size)⟩
            case measure => rw [lenV_s, lenV_s]; show 0 < _; simp
          · by_cases hd : d = 44
            · subst hd
              have hzl := congrArg List.length hz
              simp only [List.length_cons] at hzl
              have HC2 := Lib.hid (fun w => cutC_any (44 :: z) true w rfl)
              have htz := trimB_le z
              have HT2 := Lib.hid (fun w => trimS_any z w (by omega))
              have HN := Lib.hid ((lstL_more HQ.out hz acc).symm.trans HL.out)
              clear hz
              go_wp2_with fail
              refine (HC2.out _).mono ?_
              rintro e w' ⟨rfl, rfl⟩
              go_wp2_with fail
              refine (HT2.out _).mono ?_
              rintro e w7 ⟨rfl, hB7⟩
              go_wp2_with fail
              go_roundw
              case rel => exact ⟨acc ++ [(k, a)], trimB z, rfl, fun c y h => trim_head h, HN.out, by rw [hap]; omega, HO6.out.below hB7, HB6.out.trans (hB7.mono HB6.out.size)⟩
              case measure => rw [lenV_s, lenV_s]; simp only [List.length_cons]; omega
            · have HC2 := Lib.hid (fun w => cutC_any (d :: z) false w (by
                have : (44 == d) = false := by simpa using fun h => hd h.symm
                simp [List.isPrefixOf, this]))
              have hE2 : (strB (d :: z)).toList = d :: z := by rw [ByteArray.toList_eq, strB_list]
              have HR := Lib.hid (HL.out.symm.trans (lstL_bad HQ.out hz hd acc))
              clear hz hd
              go_wp2_with fail
              refine (HC2.out _).mono ?_
              rintro e w' ⟨rfl, rfl⟩
              go_wp2_with fail
              go_ret2
              exact tagsPost_none HB6.out HR.out rfl
end Go.Proofs.YtkpeaghbacoehaaGreatDoor
