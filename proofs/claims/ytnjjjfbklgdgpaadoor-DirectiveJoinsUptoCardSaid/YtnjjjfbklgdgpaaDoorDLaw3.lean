/- DirectiveJoins: the walk. -/
import Derived.Test.YtnjjjfbklgdgpaaDoorDFew
import Derived.Test.YtnjjjfbklgdgpaaDoorDOn
import Derived.Test.YtnjjjfbklgdgpaaDoorDList
import Derived.Test.YtnjjjfbklgdgpaaDoorDFewOf
import Derived.Test.YtnjjjfbklgdgpaaDoorJApp
import Derived.Test.YtnjjjfbklgdgpaaDoorRefList
import Derived.Deep.RegionHeld3
namespace Go.Proofs.YtnjjjfbklgdgpaaDoor
open Go.RowKit

theorem joinC_len : ∀ vs : List (List UInt8), (joinC vs).length ≤ vs.length + totV vs := by
  intro vs
  induction vs with
  | nil => simp [joinC]
  | cons v r ih =>
    cases r with
    | nil => simp [joinC, totV]
    | cons u q =>
      show (v ++ 44 :: joinC (u :: q)).length ≤ _
      rw [List.length_append, List.length_cons]
      have e : totV (v :: u :: q) = v.length + totV (u :: q) := rfl
      rw [e, List.length_cons]
      omega
theorem join_s0 (v : List UInt8) : (⟨#[]⟩ : ByteArray) ++ strB v = strB v := by apply strB_ext; simp [strB]
theorem join_s1 (a v : List UInt8) : strB a ++ ⟨#[44]⟩ ++ strB v = strB (a ++ 44 :: v) := by apply strB_ext; simp [strB]
def JoinR (vs : List (List UInt8)) (w : World) (u b i : Value) (wr : World) : Prop :=
  ∃ k : Nat, i = .int .i64 k ∧ k ≤ vs.length ∧ u = .string (strB (joinC (vs.take k))) ∧ OwnsS w.heap.size wr b (vs.take k).reverse ∧ (∀ v ∈ vs.take k, listO v ≠ none) ∧ Below w.heap.size w wr
set_option maxHeartbeats 16000000 in
set_option maxRecDepth 100000 in
theorem joins_walk (vv : Value) (vs : List (List UInt8)) (w : World) (hM : MaxIs w) (hr : ReadsS w vv vs) (hs : Sane vv) (hb : vs.length + totV vs ≤ 1048576) :
    Calls Tryd.prog 6 #[vv] w fun e w' => e = .returned (.bool true) ∧ Below w.heap.size w w' := by
  have HR := Lib.hid hr
  have HM := Lib.hid hM
  have HLg := Lib.hid (fun (w : World) (hr : ReadsS w vv vs) => large_any vv vs w hr hb)
  clear hM hb hs
  cases hl : largeV vs with
  | true =>
    clear hr
    rw [hl] at HLg
    go_enter Tryd.func6, Tryd.ntmps6
    go_wp2_with fail
    refine (HLg.out _ HR.out).mono ?_
    rintro e w' ⟨rfl, rfl⟩
    go_wp2_with fail
    refine (HLg.out _ HR.out).mono ?_
    rintro e w' ⟨rfl, rfl⟩
    go_wp2_with fail
    go_ret
    exact ⟨rfl, Below.refl _ _⟩
  | false =>
    rw [hl] at HLg
    obtain ⟨h1, h2, h3⟩ := few_ofV hl
    have H3 := Lib.hid h3
    clear hl h3
    obtain ⟨ao, cap, rfl, hc⟩ := hr
    have HC := Lib.hid hc
    clear hc
    go_enter Tryd.func6, Tryd.ntmps6
    go_wp2_with fail
    refine (HLg.out _ HR.out).mono ?_
    rintro e w' ⟨rfl, rfl⟩
    go_wp2_with fail
    refine (awake11_any _ HM.out).mono ?_
    rintro e w1 ⟨rfl, hB1⟩
    have HB1 := Lib.hid hB1
    clear hB1 HLg
    go_wp2_with fail
    go_loopw [3, 4, 20] (fun u b i wr => JoinR vs w u b i wr) (fun _ _ i _ => vs.length - (intOf i).toNat)
    case atStart => exact ⟨0, rfl, Nat.zero_le _, rfl, ⟨rfl, .inl ⟨rfl, rfl⟩⟩, by simp, HB1.out⟩
    case round =>
      obtain ⟨k, rfl, hk, rfl, hO, hn, hB⟩ := hrel
      have hbr := hB.size
      have HN := Lib.hid hn
      have HO := Lib.hid hO
      clear hn hO HB1
      have htl := List.length_take_le k vs
      by_cases hlt : k < vs.length
      · obtain ⟨v, hv⟩ : ∃ v, vs[k]? = some v := ⟨vs[k], by simp [hlt]⟩
        obtain ⟨g, off, rfl, hg, hcl⟩ := HC.out k v hv
        have hcell : wr.cell? ⟨g, off + k, none⟩ = some (.string (strB v)) := (hB.cell (p := ⟨g, off + k, none⟩) hg).trans hcl
        have hvl := H3.out v (List.mem_of_getElem? hv)
        have hvz : (strB v).size = v.length := strB_size v
        have HT := Lib.hid (show vs.take (k + 1) = vs.take k ++ [v] by rw [List.take_add_one, hv]; rfl)
        have RL := Lib.hid (fun W => refList_any (strB v) W (by rw [strB_size]; omega))
        clear hv hcl
        cases hlo : listO v with
        | none =>
          have HLO := Lib.hid hlo
          clear hlo
          go_wp2_with fail
          refine (RL.out _).mono ?_
          rintro e w2 ⟨hB2, he⟩
          rw [strB_list, HLO.out] at he
          subst he
          go_wp2_with fail
          go_ret
          exact ⟨rfl, hB.trans (hB2.mono hbr)⟩
        | some ls =>
          have HLO := Lib.hid hlo
          clear hlo
          have HST := Lib.hid (show ∀ x ∈ vs.take (k + 1), listO x ≠ none by
            intro x hx
            rw [HT.out] at hx
            rcases List.mem_append.1 hx with h | h
            · exact HN.out x h
            · obtain rfl := List.mem_singleton.1 h; rw [HLO.out]; simp)
          have HREV := Lib.hid (show (vs.take (k + 1)).reverse = [v] ++ (vs.take k).reverse by rw [HT.out, List.reverse_append]; rfl)
          have hrl : (vs.take k).reverse.length ≤ 3000 := by rw [List.length_reverse]; omega
          rcases Nat.eq_zero_or_pos k with hk0 | hk0
          · subst hk0
            have hcell0 : wr.cell? ⟨g, off, none⟩ = some (.string (strB v)) := hcell
            have hz0 : (strB (joinC [])).size = 0 := rfl
            have HJ := Lib.hid (show joinC (vs.take (0 + 1)) = v by rw [HT.out]; rfl)
            go_wp2_with fail
            refine (RL.out _).mono ?_
            rintro e w2 ⟨hB2, he⟩
            rw [strB_list, HLO.out] at he
            obtain ⟨lv, rfl, _, _⟩ := he
            have hb2 := hB2.size
            have HO2 := Lib.hid (HO.out.below hB2)
            have HBB := Lib.hid (hB.trans (hB2.mono hbr))
            clear hB2
            go_wp2_with (at_builtin; refine wpList_appendS (ms := (vs.take 0).reverse) rfl _ _ rfl (.slice (some ⟨w2.heap.size, 0, none⟩) 1 1) _ rfl rfl (own_lit1 w2 v) (HO2.out.reads.below (below_new w2 _)) (saneS HO2.out) (by simp) (by simp) ?_; intro v' w4 hO4 hgrow)
            go_roundw
            case rel => exact ⟨0 + 1, by go_num, by omega, by rw [HJ.out]; exact congrArg Value.string (by first | exact join_s0 v | (show _ = _; rw [← join_s0 v]; rfl)), by rw [HREV.out]; exact OwnsS.mono (Nat.le_trans hbr hb2) hO4, HST.out, HBB.out.trans ((below_appendS (below_new w2 _) (by simp) (own_lit1 w2 v) hgrow).mono (Nat.le_trans hbr hb2))⟩
            case measure => simp [intOf]; omega
          · have HJ := Lib.hid (show joinC (vs.take (k + 1)) = joinC (vs.take k) ++ 44 :: v by
              rw [HT.out]; refine joinC_snoc _ _ ?_
              intro h; have := congrArg List.length h; rw [List.length_take, List.length_nil] at this; omega)
            have hjl := joinC_len (vs.take k)
            have htt := totV_take vs k
            generalize hjk : joinC (vs.take k) = jk at *
            clear hjk
            have hz0 : (strB jk).size = jk.length := strB_size jk
            have hkp : decide ((k : Int) > 0) = true := by simp; omega
            go_wp2_with fail
            refine (RL.out _).mono ?_
            rintro e w2 ⟨hB2, he⟩
            rw [strB_list, HLO.out] at he
            obtain ⟨lv, rfl, _, _⟩ := he
            have hb2 := hB2.size
            have HO2 := Lib.hid (HO.out.below hB2)
            have HBB := Lib.hid (hB.trans (hB2.mono hbr))
            clear hB2
            go_wp2_with (at_builtin; refine wpList_appendS (ms := (vs.take k).reverse) rfl _ _ rfl (.slice (some ⟨w2.heap.size, 0, none⟩) 1 1) _ rfl rfl (own_lit1 w2 v) (HO2.out.reads.below (below_new w2 _)) (saneS HO2.out) (by rw [List.length_singleton]; omega) (by simp) ?_; intro v' w4 hO4 hgrow)
            go_roundw
            case rel => exact ⟨k + 1, by go_num, by omega, by rw [HJ.out]; exact congrArg Value.string (join_s1 jk v), by rw [HREV.out]; exact OwnsS.mono (Nat.le_trans hbr hb2) hO4, HST.out, HBB.out.trans ((below_appendS (below_new w2 _) (by simp) (own_lit1 w2 v) hgrow).mono (Nat.le_trans hbr hb2))⟩
            case measure => simp [intOf]; omega
      · have htk : vs.take k = vs := List.take_of_length_le (by omega)
        rw [htk] at HO HN ⊢
        have HPJ := Lib.hid (parse_joinC HN.out)
        have HPR := Lib.hid (parse_reverse vs)
        have hjl := joinC_len vs
        have H4 := Lib.hid (show ∀ x ∈ vs.reverse, x.length ≤ 90000 from fun x hx => by have := H3.out x (List.mem_reverse.1 hx); omega)
        have hrl : vs.reverse.length ≤ 3000 := by rw [List.length_reverse]; exact h1
        clear htk HN
        generalize joinC vs = jv at *
        generalize vs.reverse = rs at *
        have HBr := Lib.hid hB
        clear hB
        go_wp2_with fail
        refine (fields11_any _ vs _ (HR.out.below HBr.out) (by omega)).mono ?_
        rintro e w2 ⟨v, rfl, hO2, hB2⟩
        have HB2 := Lib.hid (HBr.out.trans (hB2.mono HBr.out.size))
        have HF2 := Lib.hid hO2
        have HO2 := Lib.hid (OwnsS.below HO.out hB2)
        clear hO2 hB2 HO HBr
        go_wp2_with fail
        refine (parseF_any _ vs _ HF2.out (HM.out.below HB2.out) (by omega) (fun x hx => by have := H3.out x hx; omega)).mono ?_
        rintro e w3 ⟨rfl, hB3⟩
        have HB3 := Lib.hid (HB2.out.trans (hB3.mono HB2.out.size))
        have HO3 := Lib.hid (OwnsS.below HO2.out hB3)
        clear hB3 HF2 HO2 HB2
        generalize parseD vs = D at *
        have HN3 := Lib.hid (dvB_new w3 D 28)
        have HB4 := Lib.hid (HB3.out.alloc HB3.out.size (.cells (dvC D) 28))
        have HO4 := Lib.hid (OwnsS.below HO3.out (below_new w3 (.cells (dvC D) 28)))
        obtain ⟨N, hNe⟩ : ∃ N, N = w3.heap.size := ⟨_, rfl⟩
        go_upto_region 17 with fail
        change Code.wp _ _ _ _ (w3.alloc (.cells (dvC D) 28))
        generalize w3.alloc (.cells (dvC D) 28) = W4 at *
        rw [← hNe] at HN3 ⊢
        have hS0 : OnS N D w W4.drew := (⟨HN3.out, HB4.out⟩ : OnS N D w W4).below (Below.refl _ _).drew
        have hOb := OwnsS.below HO4.out (Below.refl W4.heap.size W4).drew
        clear HN3 HB4 HO4 HO3 HB3 hNe
        refine wp_region_held_drew (S := (fun w' => w'.cell? ⟨N, 0, none⟩ = some (.bool D.ns) ∧ w'.cell? ⟨N, 1, none⟩ = some (.bool D.nc) ∧ w'.cell? ⟨N, 2, none⟩ = some (.bool D.pr) ∧ w'.cell? ⟨N, 3, none⟩ = some (.bool D.pu) ∧ w'.cell? ⟨N, 4, none⟩ = some (.bool D.mr) ∧ w'.cell? ⟨N, 5, none⟩ = some (.bool D.oc) ∧ w'.cell? ⟨N, 6, none⟩ = some (.int .i64 D.ma) ∧ w'.cell? ⟨N, 7, none⟩ = some (.int .i64 D.sa) ∧ w'.cell? ⟨N, 8, none⟩ = some (.int .i64 D.ws) ∧ w'.cell? ⟨N, 9, none⟩ = some (.int .i64 D.oe) ∧ w'.cell? ⟨N, 10, none⟩ = some (.int .i64 D.ms) ∧ w'.cell? ⟨N, 11, none⟩ = some (.int .i64 D.mf) ∧ OnS N D w w')) (by kernel_rfl) (onS_all hS0) (fun hHeld => ?_)
        generalize W4.drew = V0 at *
        refine wpAnyH_take (i := 0) (oi := { dst := some 47, op := _, type := _, pos := _, after := _, guard := _ }) (v := ?_) rfl (by kernel_rfl) (by kernel_rfl) (by kernel_rfl) (fun _ _ _ h => h) (Or.inl ⟨by rfl, ?_⟩) (by assumption) ?_
        rotate_left
        focus (intro w hSw; (try dsimp only at hSw); first | (go_simp; done) | (go_simp; with_reducible rfl))
        (try simp only [Act.put, List.setIfInBounds_toArray, List.set_cons_zero, List.set_cons_succ])
        refine wpAnyH_take (i := 4) (oi := { dst := some 51, op := _, type := _, pos := _, after := _, guard := _ }) (v := dvV D) rfl (by kernel_rfl) (by kernel_rfl) (by kernel_rfl) (fun _ _ _ h => h) (Or.inl ⟨by rfl, ?_⟩) (by assumption) ?_
        focus (intro w hSw; (try dsimp only at hSw); first | (go_simp; done) | (go_simp; with_reducible rfl))
        (try simp only [Act.put, List.setIfInBounds_toArray, List.set_cons_zero, List.set_cons_succ])
        have hO0 := own_lit1 V0 jv
        have hb0 := below_new V0 (.cells #[.string (strB jv)] 9)
        refine wpAnyH_ready (rs := [1]) (by kernel_rfl) (by simp) ?_
        refine AllReadyH.cons (o := { dst := some 48, op := _, type := _, pos := _, after := _, guard := _ }) rfl (fun K hK => ?_) AllReadyH.nil
        go_simp
        have hS1 := hS0.below hb0
        have hOb1 := OwnsS.below hOb hb0
        refine hK.out _ _ (onS_all hS1) (fun hH1 => ?_)
        clear hK K hHeld hS0 hOb hb0
        (try simp only [Act.put, List.setIfInBounds_toArray, List.set_cons_zero, List.set_cons_succ])
        change wpAnyH _ _ _ _ _ _ _ _ (V0.alloc (.cells #[.string (strB jv)] 9))
        generalize V0.alloc (.cells #[.string (strB jv)] 9) = V1 at *
        refine wpAnyH_ready (rs := [2]) (by kernel_rfl) (by simp) ?_
        refine AllReadyH.cons (o := { dst := some 49, op := _, type := _, pos := _, after := _, guard := _ }) rfl (fun K hK => ?_) AllReadyH.nil
        go_simp
        refine (fields11_any _ [jv] _ hO0.reads (by simp)).mono ?_
        rintro en V2 ⟨v2, rfl, hO2, hBc⟩
        have hS2 := hS1.below hBc
        have hOb2 := OwnsS.below hOb1 hBc
        refine hK.out _ _ (onS_all hS2) (fun hH2 => ?_)
        clear hK K hH1 hS1 hBc hOb1 hO0
        (try simp only [Act.put, List.setIfInBounds_toArray, List.set_cons_zero, List.set_cons_succ])
        refine wpAnyH_ready (rs := [3]) (by kernel_rfl) (by simp) ?_
        refine AllReadyH.cons (o := { dst := some 50, op := _, type := _, pos := _, after := _, guard := _ }) rfl (fun K hK => ?_) AllReadyH.nil
        go_simp
        refine (parseF_any _ [jv] _ hO2 (HM.out.below hS2.l) (by simp) (by intro y hy; obtain rfl := List.mem_singleton.1 hy; omega)).mono ?_
        rintro en V3 ⟨rfl, hBc⟩
        rw [HPJ.out]
        have hS3 := hS2.below hBc
        have hOb3 := OwnsS.below hOb2 hBc
        refine hK.out _ _ (onS_all hS3) (fun hH3 => ?_)
        clear hK K hH2 hS2 hBc hOb2 hO2
        (try simp only [Act.put, List.setIfInBounds_toArray, List.set_cons_zero, List.set_cons_succ])
        refine wpAnyH_take (i := 5) (oi := { dst := some 52, op := _, type := _, pos := _, after := _, guard := _ }) (v := ?_) rfl (by kernel_rfl) (by kernel_rfl) (by kernel_rfl) (fun _ _ _ h => h) (Or.inl ⟨by rfl, ?_⟩) (by assumption) ?_
        rotate_left
        focus (intro w hSw; (try dsimp only at hSw); first | (go_simp; done) | (go_simp; with_reducible rfl))
        (try simp only [Act.put, List.setIfInBounds_toArray, List.set_cons_zero, List.set_cons_succ])
        refine wpAnyH_take (i := 6) (oi := { dst := some 53, op := _, type := _, pos := _, after := _, guard := _ }) (v := ?_) rfl (by kernel_rfl) (by kernel_rfl) (by kernel_rfl) (fun _ _ _ h => h) (Or.inl ⟨by rfl, ?_⟩) (by assumption) ?_
        rotate_left
        focus (intro w hSw; (try dsimp only at hSw); first | (go_simp; done) | (go_simp; with_reducible rfl))
        (try simp only [Act.put, List.setIfInBounds_toArray, List.set_cons_zero, List.set_cons_succ])
        refine wpAnyH_take (i := 7) (oi := { dst := some 54, op := _, type := _, pos := _, after := _, guard := _ }) (v := ?_) rfl (by kernel_rfl) (by kernel_rfl) (by kernel_rfl) (fun _ _ _ h => h) (Or.inl ⟨by rfl, ?_⟩) (by assumption) ?_
        rotate_left
        focus (intro w hSw; (try dsimp only at hSw); first | (go_simp; done) | (go_simp; with_reducible rfl))
        (try simp only [Act.put, List.setIfInBounds_toArray, List.set_cons_zero, List.set_cons_succ])
        refine wpAnyH_take (i := 10) (oi := { dst := some 57, op := _, type := _, pos := _, after := _, guard := _ }) (v := dvV D) rfl (by kernel_rfl) (by kernel_rfl) (by kernel_rfl) (fun _ _ _ h => h) (Or.inl ⟨by rfl, ?_⟩) (by assumption) ?_
        focus (intro w hSw; (try dsimp only at hSw); first | (go_simp; done) | (go_simp; with_reducible rfl))
        (try simp only [Act.put, List.setIfInBounds_toArray, List.set_cons_zero, List.set_cons_succ])
        refine wpAnyH_ready (rs := [8]) (by kernel_rfl) (by simp) ?_
        refine AllReadyH.cons (o := { dst := some 55, op := _, type := _, pos := _, after := _, guard := _ }) rfl (fun K hK => ?_) AllReadyH.nil
        go_simp
        refine (fields11_any _ rs _ hOb3.reads (by omega)).mono ?_
        rintro en V4 ⟨v4, rfl, hO4, hBc⟩
        have hS4 := hS3.below hBc
        refine hK.out _ _ (onS_all hS4) (fun hH4 => ?_)
        clear hK K hH3 hS3 hBc hOb3
        (try simp only [Act.put, List.setIfInBounds_toArray, List.set_cons_zero, List.set_cons_succ])
        refine wpAnyH_ready (rs := [9]) (by kernel_rfl) (by simp) ?_
        refine AllReadyH.cons (o := { dst := some 56, op := _, type := _, pos := _, after := _, guard := _ }) rfl (fun K hK => ?_) AllReadyH.nil
        go_simp
        refine (parseF_any _ rs _ hO4 (HM.out.below hS4.l) (by omega) H4.out).mono ?_
        rintro en V5 ⟨rfl, hBc⟩
        rw [HPR.out]
        have hS5 := hS4.below hBc
        refine hK.out _ _ (onS_all hS5) (fun hH5 => ?_)
        clear hK K hH4 hS4 hBc hO4
        (try simp only [Act.put, List.setIfInBounds_toArray, List.set_cons_zero, List.set_cons_succ])
        refine wpAnyH_take (i := 11) (oi := { dst := some 58, op := _, type := _, pos := _, after := _, guard := _ }) (v := ?_) rfl (by kernel_rfl) (by kernel_rfl) (by kernel_rfl) (fun _ _ _ h => h) (Or.inl ⟨by rfl, ?_⟩) (by assumption) ?_
        rotate_left
        focus (intro w hSw; (try dsimp only at hSw); first | (go_simp; done) | (go_simp; with_reducible rfl))
        (try simp only [Act.put, List.setIfInBounds_toArray, List.set_cons_zero, List.set_cons_succ])
        refine wpAnyH_take (i := 12) (oi := { dst := some 59, op := _, type := _, pos := _, after := _, guard := _ }) (v := ?_) rfl (by kernel_rfl) (by kernel_rfl) (by kernel_rfl) (fun _ _ _ h => h) (Or.inl ⟨by rfl, ?_⟩) (by assumption) ?_
        rotate_left
        focus (intro w hSw; (try dsimp only at hSw); first | (go_simp; done) | (go_simp; with_reducible rfl))
        (try simp only [Act.put, List.setIfInBounds_toArray, List.set_cons_zero, List.set_cons_succ])
        refine wpAnyH_take (i := 13) (oi := { dst := some 2, op := _, type := _, pos := _, after := _, guard := _ }) (v := ?_) rfl (by kernel_rfl) (by kernel_rfl) (by kernel_rfl) (fun _ _ _ h => h) (Or.inl ⟨by rfl, ?_⟩) (by assumption) ?_
        rotate_left
        focus (intro w hSw; (try dsimp only at hSw); first | (go_simp; done) | (go_simp; with_reducible rfl))
        (try simp only [Act.put, List.setIfInBounds_toArray, List.set_cons_zero, List.set_cons_succ])
        refine wpAnyH_done (by kernel_rfl) ?_ _
        (try simp only [Exit.inBlock, Exit.then])
        (try go_wp2_with fail)
        go_ret
        exact ⟨rfl, hS5.l⟩
end Go.Proofs.YtnjjjfbklgdgpaaDoor
