/- What the statements do with values: an append in a region that draws its order; DirectiveBroken: the walk. -/
import Derived.Test.YtnjjjfbklgdgpaaDoorDFew
import Derived.Test.YtnjjjfbklgdgpaaDoorDOn
import Derived.Test.YtnjjjfbklgdgpaaDoorDList
import Derived.Test.YtnjjjfbklgdgpaaDoorDFewOf
import Derived.Test.YtnjjjfbklgdgpaaDoorJApp
import Derived.Deep.RegionHeld3
namespace Go.Proofs.YtnjjjfbklgdgpaaDoor
open Go.RowKit

/-- An append of strings that are read to a slice that the call made, at one operation. -/
theorem wp_appendD {B : Nat} {w : World} {o : Oper} {a : Act} {K : Act → World → Prop} {Q : Exit → Act → World → Prop} (s x : Operand)
    (ho : o.op = .call { callee := .builtin .append, args := #[s, x], argTypes := #[22, 22] }) (v v2 : Value) (hs : a.eval s = v) (hx : a.eval x = v2) {ls ms : List (List UInt8)} (hown : OwnsS B w v ls) (hr : ReadsS w v2 ms) (hp : Sane v2)
    (hn : ls.length + ms.length ≤ 100000) (hB : B ≤ w.heap.size) (h : ∀ v' w', OwnsS B w' v' (ls ++ ms) → w.grownBy w' v.ownBlock → K (a.put o.dst v') w') : o.wp Tryd.prog a w K Q := by
  obtain ⟨i0, hi, hz0, hz1, hz2⟩ := info_parts Tryd.infoS
  obtain ⟨ao, cap, rfl, hc⟩ := hr
  cases ao with
  | none =>
    have hm : ms = [] := by
      cases ms with
      | nil => rfl
      | cons m r => obtain ⟨g, off, ha, _⟩ := hc 0 m rfl; cases ha
    subst hm
    obtain rfl := (hp _ _ _ rfl).2 rfl
    have hrun := run_append_owned_none (P := Tryd.prog) (w := w) B 22 o.type 9 i0 1 Tryd.underlying22 hi v ls.length (ls.map strV) hown
    unfold Oper.wp
    simp [execOp, ho, resolve, invoke, builtin, hs, hx, hrun, Result.andThen]
    exact h v w (by rw [List.append_nil]; exact hown) ⟨rfl, rfl, rfl, Nat.le_refl _, fun _ _ _ => rfl⟩
  | some ad =>
    refine wp_append_own w s x 22 ho B 9 i0 _ 1 16 Tryd.underlying22 hi hz0 hz1 hz2 rfl (by decide) v ls.length (ls.map strV) hs hown ad ms.length cap (ms.map strV) hx (by simp) (fun j u hj => ?_) (fun u hu => ?_) (by unfold maxLen; omega) (by omega) hB
      fun v' w' h1 h2 _ => h v' w' (own_appS h1) h2
    · rw [List.getElem?_map] at hj
      cases hm : ms[j]? with
      | none => rw [hm] at hj; cases hj
      | some m =>
        rw [hm] at hj
        simp only [Option.map_some, Option.some.injEq] at hj
        obtain ⟨g, off, ha, _, h1⟩ := hc j m hm
        obtain rfl : ad = ⟨g, off, none⟩ := Option.some.inj ha
        rw [Addr.add_lit, ← hj]; exact h1
    · obtain ⟨m, _, rfl⟩ := List.mem_map.mp hu; rfl
theorem brok_strB (t : List UInt8) : (⟨#[112, 117, 98, 108, 105, 99, 44, 32, 109, 97, 120, 45, 97, 103, 101, 61, 34, 49]⟩ : ByteArray) ++ strB t = strB (brokP ++ 34 :: 49 :: t) := by apply strB_ext; simp [strB, brokP]
set_option maxHeartbeats 16000000 in
set_option maxRecDepth 100000 in
theorem broken_walk (vv : Value) (vs : List (List UInt8)) (tx : ByteArray) (w : World) (hM : MaxIs w) (hr : ReadsS w vv vs) (hs : Sane vv) (hb : vs.length + totV vs ≤ 1048576) (ht : tx.size ≤ 1048576) :
    Calls Tryd.prog 8 #[vv, .string tx] w fun e w' => e = .returned (.bool true) ∧ Below w.heap.size w w' := by
  obtain ⟨t, rfl⟩ : ∃ t, tx = strB t := ⟨tx.data.toList, (strB_of tx).symm⟩
  have htz : (strB t).size = t.length := strB_size t
  have HR := Lib.hid hr
  have HSa := Lib.hid hs
  have HM := Lib.hid hM
  have HLg := Lib.hid (fun (w : World) (hr : ReadsS w vv vs) => large_any vv vs w hr hb)
  clear hr hM hb hs
  cases hl : largeV vs with
  | true =>
    rw [hl] at HLg
    go_enter Tryd.func8, Tryd.ntmps8
    go_wp2_with fail
    refine (HLg.out _ HR.out).mono ?_
    rintro e w' ⟨rfl, rfl⟩
    go_wp2_with fail
    refine (HLg.out _ HR.out).mono ?_
    rintro e w' ⟨rfl, rfl⟩
    go_wp2_with fail
    go_ret
    exact ⟨rfl, Below.refl _ _⟩
  | false =>
    rw [hl] at HLg
    obtain ⟨h1, h2, h3⟩ := few_ofV hl
    have H3 := Lib.hid h3
    clear hl h3
    by_cases h100 : 100 < t.length
    · go_enter Tryd.func8, Tryd.ntmps8
      go_wp2_with fail
      refine (HLg.out _ HR.out).mono ?_
      rintro e w' ⟨rfl, rfl⟩
      go_wp2_with fail
      refine (HLg.out _ HR.out).mono ?_
      rintro e w' ⟨rfl, rfl⟩
      go_wp2_with fail
      go_ret
      exact ⟨rfl, Below.refl _ _⟩
    · go_enter Tryd.func8, Tryd.ntmps8
      go_wp2_with fail
      refine (HLg.out _ HR.out).mono ?_
      rintro e w' ⟨rfl, rfl⟩
      go_wp2_with fail
      refine (awake11_any _ HM.out).mono ?_
      rintro e w1 ⟨rfl, hB1⟩
      have HB1 := Lib.hid hB1
      clear hB1
      go_wp2_with fail
      go_loopw [28] (fun i wr => wr = w1 ∧ ∃ k : Nat, i = .int .i64 k ∧ k ≤ t.length ∧ ∀ c ∈ t.take k, c ≠ 34 ∧ c ≠ 92) (fun i _ => t.length - (intOf i).toNat)
      case atStart => exact ⟨rfl, 0, rfl, Nat.zero_le _, by simp⟩
      case round =>
        obtain ⟨hwr, k, rfl, hk, hn⟩ := hrel
        subst hwr
        have HN := Lib.hid hn
        clear hn
        by_cases hlt : k < t.length
        · have hg : (strB t)[k]'(by omega) = t[k] := rfl
          by_cases c34 : t[k] = 34
          · have hz : ((t[k].toNat : Int) == 34) = true := by rw [c34]; rfl
            clear c34
            go_wp2
            go_ret
            exact ⟨rfl, HB1.out⟩
          · have hz : ((t[k].toNat : Int) == 34) = false := by
              simp; intro h; exact c34 (UInt8.toNat_inj.mp (by show t[k].toNat = 34; omega))
            by_cases c92 : t[k] = 92
            · have hz2 : ((t[k].toNat : Int) == 92) = true := by rw [c92]; rfl
              clear c92 c34
              go_wp2
              go_ret
              exact ⟨rfl, HB1.out⟩
            · have hz2 : ((t[k].toNat : Int) == 92) = false := by
                simp; intro h; exact c92 (UInt8.toNat_inj.mp (by show t[k].toNat = 92; omega))
              have HST := Lib.hid (show ∀ c ∈ t.take (k + 1), c ≠ 34 ∧ c ≠ 92 by
                intro c hc
                rw [List.take_succ_eq_append_getElem hlt] at hc
                rcases List.mem_append.1 hc with h | h
                · exact HN.out c h
                · obtain rfl := List.mem_singleton.1 h; exact ⟨c34, c92⟩)
              clear c34 c92
              go_wp2
              go_roundw
              case rel => exact ⟨by first | rfl | trivial, k + 1, by go_num, by omega, HST.out⟩
              case measure => simp [intOf]; omega
        · have htk : t.take k = t := List.take_of_length_le (by omega)
          have HX := Lib.hid (show parseD ((brokP ++ 34 :: 49 :: t) :: vs) = { parseD vs with ns := true } by rw [parse_cons]; exact val_broken _ t (by rw [← htk]; exact HN.out))
          have HBS := Lib.hid (brok_strB t)
          have hbl : (brokP ++ 34 :: 49 :: t).length = 18 + t.length := by simp [brokP]; omega
          have hbz : (strB (brokP ++ 34 :: 49 :: t)).size = 18 + t.length := by rw [strB_size, hbl]
          clear htk
          go_wp2_with fail
          refine (fields11_any _ vs _ (HR.out.below HB1.out) (by omega)).mono ?_
          rintro e w2 ⟨v, rfl, hO2, hB2⟩
          have HB2 := Lib.hid (HB1.out.trans (hB2.mono HB1.out.size))
          have HO2 := Lib.hid hO2
          clear hO2 hB2
          go_wp2_with fail
          refine (parseF_any _ vs _ HO2.out (HM.out.below HB2.out) (by omega) (fun x hx => by have := H3.out x hx; omega)).mono ?_
          rintro e w3 ⟨rfl, hB3⟩
          have HB3 := Lib.hid (HB2.out.trans (hB3.mono HB2.out.size))
          clear hB3 HO2
          generalize parseD vs = D at *
          have HN3 := Lib.hid (dvB_new w3 D 28)
          have HB4 := Lib.hid (HB3.out.alloc HB3.out.size (.cells (dvC D) 28))
          have hz4 : (w3.alloc (.cells (dvC D) 28)).heap.size = w3.heap.size + 1 := by simp
          go_upto_region 10 with fail
          change Code.wp _ _ _ _ (w3.alloc (.cells (dvC D) 28))
          generalize w3.alloc (.cells (dvC D) 28) = W4 at *
          have hNw : w.heap.size ≤ w3.heap.size := HB3.out.size
          have HN5 := Lib.hid (HN3.out.set0 true)
          have HB5 := Lib.hid (HB4.out.setCell (p := ⟨w3.heap.size, 0, none⟩) hNw (.bool true))
          have hz5 : (W4.setCell ⟨w3.heap.size, 0, none⟩ (.bool true)).heap.size = w3.heap.size + 1 := by simpa using hz4
          obtain ⟨c0, c1, c2, c3, c4, c5, c6, c7, c8, c9, c10, c11, fr, lt⟩ := HN3.out
          have f0 := fr 0
          clear c1 c2 c3 c4 c5 c6 c7 c8 c9 c10 c11 fr
          go_upto_region 11 with fail
          generalize W4.setCell ⟨w3.heap.size, 0, none⟩ (.bool true) = W5 at *
          clear c0 f0 lt hz4 HN3 HB4
          obtain ⟨x, hx⟩ : ∃ x : Dv, x = { D with ns := true } := ⟨_, rfl⟩
          rw [← hx] at HX HN5
          clear hx
          go_upto_region 12 with fail
          rw [HBS.out]
          generalize hbt : brokP ++ 34 :: 49 :: t = bt at *
          have hS0 : OnS w3.heap.size x w W5.drew := (⟨HN5.out, HB5.out⟩ : OnS w3.heap.size x w W5).below (Below.refl _ _).drew
          have hRR := (HR.out.below HB5.out).below (Below.refl W5.heap.size W5).drew
          clear HN5 HB5 hz5
          refine wp_region_held_drew (S := (fun w' => w'.cell? ⟨w3.heap.size, 0, none⟩ = some (.bool x.ns) ∧ w'.cell? ⟨w3.heap.size, 1, none⟩ = some (.bool x.nc) ∧ w'.cell? ⟨w3.heap.size, 2, none⟩ = some (.bool x.pr) ∧ w'.cell? ⟨w3.heap.size, 3, none⟩ = some (.bool x.pu) ∧ w'.cell? ⟨w3.heap.size, 4, none⟩ = some (.bool x.mr) ∧ w'.cell? ⟨w3.heap.size, 5, none⟩ = some (.bool x.oc) ∧ w'.cell? ⟨w3.heap.size, 6, none⟩ = some (.int .i64 x.ma) ∧ w'.cell? ⟨w3.heap.size, 7, none⟩ = some (.int .i64 x.sa) ∧ w'.cell? ⟨w3.heap.size, 8, none⟩ = some (.int .i64 x.ws) ∧ w'.cell? ⟨w3.heap.size, 9, none⟩ = some (.int .i64 x.oe) ∧ w'.cell? ⟨w3.heap.size, 10, none⟩ = some (.int .i64 x.ms) ∧ w'.cell? ⟨w3.heap.size, 11, none⟩ = some (.int .i64 x.mf) ∧ OnS w3.heap.size x w w')) (by kernel_rfl) (onS_all hS0) (fun hHeld => ?_)
          generalize W5.drew = V0 at *
          refine wpAnyH_take (i := 0) (oi := { dst := some 48, op := _, type := _, pos := _, after := _, guard := _ }) (v := ?_) rfl (by kernel_rfl) (by kernel_rfl) (by kernel_rfl) (fun _ _ _ h => h) (Or.inl ⟨by rfl, ?_⟩) (by assumption) ?_
          rotate_left
          focus (intro w hSw; (try dsimp only at hSw); first | (go_simp; done) | (go_simp; with_reducible rfl))
          (try simp only [Act.put, List.setIfInBounds_toArray, List.set_cons_zero, List.set_cons_succ])
          refine wpAnyH_take (i := 2) (oi := { dst := some 50, op := _, type := _, pos := _, after := _, guard := _ }) (v := ?_) rfl (by kernel_rfl) (by kernel_rfl) (by kernel_rfl) (fun _ _ _ h => h) (Or.inl ⟨by rfl, ?_⟩) (by assumption) ?_
          rotate_left
          focus (intro w hSw; (try dsimp only at hSw); first | (go_simp; done) | (go_simp; with_reducible rfl))
          (try simp only [Act.put, List.setIfInBounds_toArray, List.set_cons_zero, List.set_cons_succ])
          refine wpAnyH_take (i := 6) (oi := { dst := some 54, op := _, type := _, pos := _, after := _, guard := _ }) (v := dvV x) rfl (by kernel_rfl) (by kernel_rfl) (by kernel_rfl) (fun _ _ _ h => h) (Or.inl ⟨by rfl, ?_⟩) (by assumption) ?_
          focus (intro w hSw; (try dsimp only at hSw); first | (go_simp; done) | (go_simp; with_reducible rfl))
          (try simp only [Act.put, List.setIfInBounds_toArray, List.set_cons_zero, List.set_cons_succ])
          have hO0 := own_lit1 V0 bt
          have hb0 := below_new V0 (.cells #[.string (strB bt)] 9)
          refine wpAnyH_ready (rs := [1]) (by kernel_rfl) (by simp) ?_
          refine AllReadyH.cons (o := { dst := some 49, op := _, type := _, pos := _, after := _, guard := _ }) rfl (fun K hK => ?_) AllReadyH.nil
          go_simp
          have hS1 := hS0.below hb0
          refine hK.out _ _ (onS_all hS1) (fun hH1 => ?_)
          clear hK K hHeld
          (try simp only [Act.put, List.setIfInBounds_toArray, List.set_cons_zero, List.set_cons_succ])
          change wpAnyH _ _ _ _ _ _ _ _ (V0.alloc (.cells #[.string (strB bt)] 9))
          generalize V0.alloc (.cells #[.string (strB bt)] 9) = V1 at *
          refine wpAnyH_ready (rs := [3]) (by kernel_rfl) (by simp) ?_
          refine AllReadyH.cons (o := { dst := some 51, op := _, type := _, pos := _, after := _, guard := _ }) rfl (fun K hK => ?_) AllReadyH.nil
          rw [if_pos (by rfl)]
          refine wp_appendD _ _ rfl (.slice (some ⟨V0.heap.size, 0, none⟩) 1 1) vv rfl rfl hO0 (hRR.below hb0) HSa.out (by simp; omega) hb0.size (fun v' V2 hO2 hgrow => ?_)
          have hb2 := below_appendS hb0 hb0.size hO0 hgrow
          have hS2 := hS0.below hb2
          refine hK.out _ _ (onS_all hS2) (fun hH2 => ?_)
          clear hK K hH1 hS1
          (try simp only [Act.put, List.setIfInBounds_toArray, List.set_cons_zero, List.set_cons_succ])
          refine wpAnyH_ready (rs := [4]) (by kernel_rfl) (by simp) ?_
          refine AllReadyH.cons (o := { dst := some 52, op := _, type := _, pos := _, after := _, guard := _ }) rfl (fun K hK => ?_) AllReadyH.nil
          go_simp
          refine (fields11_any _ (bt :: vs) _ hO2.reads (by simp; omega)).mono ?_
          rintro en V3 ⟨v3, rfl, hO3, hBc⟩
          have hS3 := hS2.below hBc
          refine hK.out _ _ (onS_all hS3) (fun hH3 => ?_)
          clear hK K hH2 hS2 hBc
          (try simp only [Act.put, List.setIfInBounds_toArray, List.set_cons_zero, List.set_cons_succ])
          refine wpAnyH_ready (rs := [5]) (by kernel_rfl) (by simp) ?_
          refine AllReadyH.cons (o := { dst := some 53, op := _, type := _, pos := _, after := _, guard := _ }) rfl (fun K hK => ?_) AllReadyH.nil
          go_simp
          refine (parseF_any _ (bt :: vs) _ hO3 (HM.out.below hS3.l) (by simp; omega) (by intro y hy; rcases List.mem_cons.1 hy with e | e; (rw [e, hbl]; omega); (have := H3.out y e; omega))).mono ?_
          rintro en V4 ⟨rfl, hBc⟩
          rw [HX.out]
          have hS4 := hS3.below hBc
          refine hK.out _ _ (onS_all hS4) (fun hH4 => ?_)
          clear hK K hH3 hS3 hBc
          (try simp only [Act.put, List.setIfInBounds_toArray, List.set_cons_zero, List.set_cons_succ])
          refine wpAnyH_take (i := 7) (oi := { dst := some 55, op := _, type := _, pos := _, after := _, guard := _ }) (v := ?_) rfl (by kernel_rfl) (by kernel_rfl) (by kernel_rfl) (fun _ _ _ h => h) (Or.inl ⟨by rfl, ?_⟩) (by assumption) ?_
          rotate_left
          focus (intro w hSw; (try dsimp only at hSw); first | (go_simp; done) | (go_simp; with_reducible rfl))
          (try simp only [Act.put, List.setIfInBounds_toArray, List.set_cons_zero, List.set_cons_succ])
          refine wpAnyH_take (i := 8) (oi := { dst := some 4, op := _, type := _, pos := _, after := _, guard := _ }) (v := ?_) rfl (by kernel_rfl) (by kernel_rfl) (by kernel_rfl) (fun _ _ _ h => h) (Or.inl ⟨by rfl, ?_⟩) (by assumption) ?_
          rotate_left
          focus (intro w hSw; (try dsimp only at hSw); first | (go_simp; done) | (go_simp; with_reducible rfl))
          (try simp only [Act.put, List.setIfInBounds_toArray, List.set_cons_zero, List.set_cons_succ])
          refine wpAnyH_done (by kernel_rfl) ?_ _
          (try simp only [Exit.inBlock, Exit.then])
          (try go_wp2_with fail)
          go_ret
          exact ⟨rfl, hS4.l⟩
end Go.Proofs.YtnjjjfbklgdgpaaDoor
