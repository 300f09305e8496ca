/- DirectiveCases: the walk. -/
import Derived.Test.YtnjjjfbklgdgpaaDoorDFew
import Derived.Test.YtnjjjfbklgdgpaaDoorDOn
import Derived.Test.YtnjjjfbklgdgpaaDoorDUpper
import Derived.Test.YtnjjjfbklgdgpaaDoorDFewOf
import Derived.Test.YtnjjjfbklgdgpaaDoorJApp
import Derived.Deep.RegionHeld3
import Derived.Maps.AppendAt
namespace Go.Proofs.YtnjjjfbklgdgpaaDoor
open Go.RowKit

/-- The blocks of two slices differ. -/
def Dis (a b : Value) : Prop := a.ownBlock = none ∨ b.ownBlock = none ∨ a.ownBlock ≠ b.ownBlock
theorem Dis.ne {a b : Value} (h : Dis a b) : b.ownBlock = none ∨ b.ownBlock ≠ a.ownBlock := by
  rcases h with h | h | h
  · rw [h]; cases hb : b.ownBlock with
    | none => exact .inl rfl
    | some k => exact .inr (by simp)
  · exact .inl h
  · exact .inr (Ne.symm h)
theorem Dis.symm {a b : Value} (h : Dis a b) : Dis b a := by
  rcases h with h | h | h
  · exact .inr (.inl h)
  · exact .inl h
  · exact .inr (.inr (Ne.symm h))
theorem dis_grow {B : Nat} {w1 w2 : World} {l m l' : Value} {ms : List (List UInt8)} (hm : OwnsS B w1 m ms) (hd : Dis l m) (hg : w1.grownBy w2 l.ownBlock) (hat : l'.ownBlock = l.ownBlock ∨ l'.ownBlock = some w1.heap.size) : OwnsS B w2 m ms ∧ Dis l' m := by
  refine ⟨World.ownsRow.kept hm hg hd.ne, ?_⟩
  rcases hat with h | h
  · rcases hd with e | e | e
    · exact .inl (h.trans e)
    · exact .inr (.inl e)
    · exact .inr (.inr (by rw [h]; exact e))
  · cases hb : m.ownBlock with
    | none => exact .inr (.inl hb)
    | some k =>
      have := (World.ownsRow.lt hm k hb).2
      refine .inr (.inr ?_)
      rw [h, hb]
      intro e; have := Option.some.inj e; omega
/-- An append of strings that are read to a slice that the call made; which block the end has. -/
theorem wpList_appendD {B : Nat} {w : World} {ops : Array Oper} {rest : List Oper} {o : Oper} {a : Act} {Q : Exit → Act → World → Prop} (hgd : o.guard = none) (s x : Operand)
    (ho : o.op = .call { callee := .builtin .append, args := #[s, x], argTypes := #[22, 22] }) (v : Value) (ad : Addr) (c : Nat) (hs : a.eval s = v) {ls ms : List (List UInt8)} (hx : a.eval x = .slice (some ad) ms.length c) (hown : OwnsS B w v ls) (hr : ReadsS w (.slice (some ad) ms.length c) ms)
    (hn : ls.length + ms.length ≤ 100000) (hB : B ≤ w.heap.size) (h : ∀ v' w', OwnsS B w' v' (ls ++ ms) → w.grownBy w' v.ownBlock → (v'.ownBlock = v.ownBlock ∨ v'.ownBlock = some w.heap.size) → wpList Tryd.prog ops Q rest (a.put o.dst v') w') :
    wpList Tryd.prog ops Q (o :: rest) a w := by
  obtain ⟨i0, hi, hz0, hz1, hz2⟩ := info_parts Tryd.infoS
  obtain ⟨ao, cap, he, hc⟩ := hr
  obtain ⟨rfl, _, rfl⟩ := Value.slice.inj he
  refine wpList_append_own_at w hgd s x 22 ho B 9 i0 _ 1 16 Tryd.underlying22 hi hz0 hz1 hz2 rfl (by decide) v ls.length (ls.map strV) hs hown ad ms.length c (ms.map strV) hx (by simp) (fun j u hj => ?_) (fun u hu => ?_) (by unfold maxLen; omega) (by omega) hB
    fun v' w' h1 h2 _ h4 => h v' w' (own_appS h1) h2 h4
  · rw [List.getElem?_map] at hj
    cases hm : ms[j]? with
    | none => rw [hm] at hj; cases hj
    | some m =>
      rw [hm] at hj
      simp only [Option.map_some, Option.some.injEq] at hj
      obtain ⟨g, off, ha, _, h1⟩ := hc j m hm
      obtain rfl : ad = ⟨g, off, none⟩ := Option.some.inj ha
      rw [Addr.add_lit, ← hj]; exact h1
  · obtain ⟨m, _, rfl⟩ := List.mem_map.mp hu; rfl
theorem moreV_len : ∀ vs : List (List UInt8), (moreV vs).length = 2 * vs.length := by
  intro vs
  induction vs with
  | nil => rfl
  | cons v r ih =>
    show ([more0 ++ 44 :: v, immL] ++ moreV r).length = _
    simp only [List.length_append, ih, List.length_cons, List.length_nil]
    omega
theorem moreV_snoc (vs : List (List UInt8)) (v : List UInt8) : moreV (vs ++ [v]) = moreV vs ++ [more0 ++ 44 :: v, immL] := by simp [moreV]
theorem more_strB (v : List UInt8) : (⟨#[120, 45, 109, 111, 114, 101, 61, 34, 97, 44, 32, 110, 111, 45, 115, 116, 111, 114, 101, 34, 32, 44]⟩ : ByteArray) ++ strB v = strB (more0 ++ 44 :: v) := by apply strB_ext; simp [strB, more0]
theorem own_moreD (W : World) (v : List UInt8) : OwnsS W.heap.size (W.alloc (.cells #[.string ((⟨#[120, 45, 109, 111, 114, 101, 61, 34, 97, 44, 32, 110, 111, 45, 115, 116, 111, 114, 101, 34, 32, 44]⟩ : ByteArray) ++ strB v), .string ⟨#[105, 109, 109, 117, 116, 97, 98, 108, 101]⟩] 9)) (.slice (some ⟨W.heap.size, 0, none⟩) 2 2) [more0 ++ 44 :: v, immL] := by
  rw [more_strB]
  exact own_lit W #[.string (strB (more0 ++ 44 :: v)), .string (strB immL)] _ 1 2 (by decide) rfl
theorem up_size (v : List UInt8) : (strB (upS v)).size = v.length := by rw [strB_size, upS_len]
def CaseR (vs : List (List UInt8)) (w : World) (l m i : Value) (wr : World) : Prop :=
  ∃ k : Nat, i = .int .i64 k ∧ k ≤ vs.length ∧ OwnsS w.heap.size wr l ((vs.take k).map upS) ∧ OwnsS w.heap.size wr m (moreV (vs.take k)) ∧ Dis l m ∧ Below w.heap.size w wr
set_option maxHeartbeats 16000000 in
set_option maxRecDepth 100000 in
theorem cases_walk (vv : Value) (vs : List (List UInt8)) (w : World) (hM : MaxIs w) (hr : ReadsS w vv vs) (hs : Sane vv) (hb : vs.length + totV vs ≤ 1048576) :
    Calls Tryd.prog 7 #[vv] w fun e w' => e = .returned (.bool true) ∧ Below w.heap.size w w' := by
  have HR := Lib.hid hr
  have HM := Lib.hid hM
  have HLg := Lib.hid (fun (w : World) (hr : ReadsS w vv vs) => large_any vv vs w hr hb)
  clear hM hb hs
  cases hl : largeV vs with
  | true =>
    clear hr
    rw [hl] at HLg
    go_enter Tryd.func7, Tryd.ntmps7
    go_wp2_with fail
    refine (HLg.out _ HR.out).mono ?_
    rintro e w' ⟨rfl, rfl⟩
    go_wp2_with fail
    refine (HLg.out _ HR.out).mono ?_
    rintro e w' ⟨rfl, rfl⟩
    go_wp2_with fail
    go_ret
    exact ⟨rfl, Below.refl _ _⟩
  | false =>
    rw [hl] at HLg
    obtain ⟨h1, h2, h3⟩ := few_ofV hl
    have H3 := Lib.hid h3
    clear hl h3
    obtain ⟨ao, cap, rfl, hc⟩ := hr
    have HC := Lib.hid hc
    clear hc
    go_enter Tryd.func7, Tryd.ntmps7
    go_wp2_with fail
    refine (HLg.out _ HR.out).mono ?_
    rintro e w' ⟨rfl, rfl⟩
    go_wp2_with fail
    refine (awake11_any _ HM.out).mono ?_
    rintro e w1 ⟨rfl, hB1⟩
    have HB1 := Lib.hid hB1
    clear hB1 HLg
    go_wp2_with fail
    go_loopw [3, 4, 18] (fun l m i wr => CaseR vs w l m i wr) (fun _ _ i _ => vs.length - (intOf i).toNat)
    case atStart => exact ⟨0, rfl, Nat.zero_le _, ⟨rfl, .inl ⟨rfl, rfl⟩⟩, ⟨rfl, .inl ⟨rfl, rfl⟩⟩, .inl rfl, HB1.out⟩
    case round =>
      obtain ⟨k, rfl, hk, hO, hP, hd, hB⟩ := hrel
      have hbr := hB.size
      have HO := Lib.hid hO
      have HP := Lib.hid hP
      have HD := Lib.hid hd
      clear hO hP hd HB1
      have htl := List.length_take_le k vs
      have hml := moreV_len (vs.take k)
      have hul : ((vs.take k).map upS).length ≤ 3000 := by rw [List.length_map]; omega
      by_cases hlt : k < vs.length
      · obtain ⟨v, hv⟩ : ∃ v, vs[k]? = some v := ⟨vs[k], by simp [hlt]⟩
        obtain ⟨g, off, rfl, hg, hcl⟩ := HC.out k v hv
        have hcell : wr.cell? ⟨g, off + k, none⟩ = some (.string (strB v)) := (hB.cell (p := ⟨g, off + k, none⟩) hg).trans hcl
        have hvl := H3.out v (List.mem_of_getElem? hv)
        have hvz : (strB v).size = v.length := strB_size v
        have HT := Lib.hid (show vs.take (k + 1) = vs.take k ++ [v] by rw [List.take_add_one, hv]; rfl)
        have U := Lib.hid (fun W => upper_any (strB v) W (by rw [strB_size]; omega))
        rw [strB_list] at U
        clear hv hcl
        go_wp2_with fail
        refine (U.out _).mono ?_
        rintro e w2 ⟨rfl, hB2⟩
        have hb2 := hB2.size
        have hbw := Nat.le_trans hbr hb2
        have HO2 := Lib.hid ((HO.out.below hB2).below (below_new w2 (.cells #[.string (strB (upS v))] 9)))
        have HP2 := Lib.hid ((HP.out.below hB2).below (below_new w2 (.cells #[.string (strB (upS v))] 9)))
        have HBB := Lib.hid ((hB.trans (hB2.mono hbr)).trans ((below_new w2 (.cells #[.string (strB (upS v))] 9)).mono hbw))
        have HL2 := Lib.hid (own_lit1 w2 (upS v)).reads
        have hz2 : (w2.alloc (.cells #[.string (strB (upS v))] 9)).heap.size = w2.heap.size + 1 := by simp
        clear hB2
        go_wp2_with (first
          | (at_builtin; refine wpList_appendD (ms := [upS v]) rfl _ _ rfl _ ⟨w2.heap.size, 0, none⟩ 1 rfl rfl HO2.out HL2.out (by rw [List.length_singleton]; omega) (by omega) ?_; intro l4 w4 hO4 hg4 hat4; have HG4 := Lib.hid (dis_grow HP2.out HD.out hg4 hat4); have HB4 := Lib.hid (below_appendS HBB.out (by omega) HO2.out hg4); have hb4 := hg4.size; have HO4 := Lib.hid hO4; clear hO4 hg4 hat4 HO2 HP2 HBB HL2; have HO5 := Lib.hid (HO4.out.below (below_new w4 (.cells #[.string ((⟨#[120, 45, 109, 111, 114, 101, 61, 34, 97, 44, 32, 110, 111, 45, 115, 116, 111, 114, 101, 34, 32, 44]⟩ : ByteArray) ++ strB v), .string ⟨#[105, 109, 109, 117, 116, 97, 98, 108, 101]⟩] 9))); have HP5 := Lib.hid (HG4.out.1.below (below_new w4 (.cells #[.string ((⟨#[120, 45, 109, 111, 114, 101, 61, 34, 97, 44, 32, 110, 111, 45, 115, 116, 111, 114, 101, 34, 32, 44]⟩ : ByteArray) ++ strB v), .string ⟨#[105, 109, 109, 117, 116, 97, 98, 108, 101]⟩] 9))); have HB5 := Lib.hid (HB4.out.alloc (by omega) (.cells #[.string ((⟨#[120, 45, 109, 111, 114, 101, 61, 34, 97, 44, 32, 110, 111, 45, 115, 116, 111, 114, 101, 34, 32, 44]⟩ : ByteArray) ++ strB v), .string ⟨#[105, 109, 109, 117, 116, 97, 98, 108, 101]⟩] 9)); have HL5 := Lib.hid (own_moreD w4 v).reads; have hz5 : (w4.alloc (.cells #[.string ((⟨#[120, 45, 109, 111, 114, 101, 61, 34, 97, 44, 32, 110, 111, 45, 115, 116, 111, 114, 101, 34, 32, 44]⟩ : ByteArray) ++ strB v), .string ⟨#[105, 109, 109, 117, 116, 97, 98, 108, 101]⟩] 9)).heap.size = w4.heap.size + 1 := by simp)
          | (at_builtin; refine wpList_appendD (ms := [more0 ++ 44 :: v, immL]) rfl _ _ rfl _ ⟨w4.heap.size, 0, none⟩ 2 rfl rfl HP5.out HL5.out (by show _ + 2 ≤ _; omega) (by omega) ?_; intro m6 w6 hO6 hg6 hat6; have HG6 := Lib.hid (dis_grow HO5.out HG4.out.2.symm hg6 hat6); have HB6 := Lib.hid (below_appendS HB5.out (by omega) HP5.out hg6); have HO6 := Lib.hid hO6; clear hO6 hg6 hat6))
        go_roundw
        case rel => exact ⟨k + 1, by go_num, by omega, by rw [HT.out, List.map_append]; exact HG6.out.1, by rw [HT.out, moreV_snoc]; exact HO6.out, HG6.out.2.symm, HB6.out⟩
        case measure => simp [intOf]; omega
      · have htk : vs.take k = vs := List.take_of_length_le (by omega)
        rw [htk] at HO HP hul hml
        have HPU := Lib.hid (up_parse vs)
        have HPM := Lib.hid (parse_more vs)
        have H4 := Lib.hid (show ∀ x ∈ vs.map upS, x.length ≤ 90000 from fun x hx => by
          obtain ⟨y, hy, rfl⟩ := List.mem_map.1 hx
          have := H3.out y hy; rw [upS_len]; omega)
        have H5 := Lib.hid (show ∀ x ∈ moreV vs, x.length ≤ 90000 from fun x hx => by
          obtain ⟨y, hy, hx⟩ := List.mem_flatMap.1 hx
          have := H3.out y hy
          rcases List.mem_cons.1 hx with e | e
          · subst e
            have : more0.length = 21 := rfl
            rw [List.length_append, List.length_cons]; omega
          · obtain rfl := List.mem_singleton.1 e
            decide)
        clear htk HD
        generalize vs.map upS = us at *
        generalize moreV vs = ms at *
        have HBr := Lib.hid hB
        clear hB
        go_wp2_with fail
        refine (fields11_any _ vs _ (HR.out.below HBr.out) (by omega)).mono ?_
        rintro e w2 ⟨v, rfl, hO2, hB2⟩
        have HB2 := Lib.hid (HBr.out.trans (hB2.mono HBr.out.size))
        have HF2 := Lib.hid hO2
        have HO2 := Lib.hid (OwnsS.below HO.out hB2)
        have HP2 := Lib.hid (OwnsS.below HP.out hB2)
        clear hO2 hB2 HO HP HBr
        go_wp2_with fail
        refine (parseF_any _ vs _ HF2.out (HM.out.below HB2.out) (by omega) (fun x hx => by have := H3.out x hx; omega)).mono ?_
        rintro e w3 ⟨rfl, hB3⟩
        have HB3 := Lib.hid (HB2.out.trans (hB3.mono HB2.out.size))
        have HO3 := Lib.hid (OwnsS.below HO2.out hB3)
        have HP3 := Lib.hid (OwnsS.below HP2.out hB3)
        clear hB3 HF2 HO2 HP2 HB2
        generalize parseD vs = D at *
        have HN3 := Lib.hid (dvB_new w3 D 28)
        have HB4 := Lib.hid (HB3.out.alloc HB3.out.size (.cells (dvC D) 28))
        have HO4 := Lib.hid (OwnsS.below HO3.out (below_new w3 (.cells (dvC D) 28)))
        have HP4 := Lib.hid (OwnsS.below HP3.out (below_new w3 (.cells (dvC D) 28)))
        obtain ⟨N, hNe⟩ : ∃ N, N = w3.heap.size := ⟨_, rfl⟩
        go_upto_region 11 with fail
        change Code.wp _ _ _ _ (w3.alloc (.cells (dvC D) 28))
        generalize w3.alloc (.cells (dvC D) 28) = W4 at *
        rw [← hNe] at HN3 ⊢
        have hS0 : OnS N D w W4.drew := (⟨HN3.out, HB4.out⟩ : OnS N D w W4).below (Below.refl _ _).drew
        have hOb := OwnsS.below HO4.out (Below.refl W4.heap.size W4).drew
        have hPb := OwnsS.below HP4.out (Below.refl W4.heap.size W4).drew
        clear HN3 HB4 HO4 HO3 HP4 HP3 HB3 hNe
        refine wp_region_held_drew (S := (fun w' => w'.cell? ⟨N, 0, none⟩ = some (.bool D.ns) ∧ w'.cell? ⟨N, 1, none⟩ = some (.bool D.nc) ∧ w'.cell? ⟨N, 2, none⟩ = some (.bool D.pr) ∧ w'.cell? ⟨N, 3, none⟩ = some (.bool D.pu) ∧ w'.cell? ⟨N, 4, none⟩ = some (.bool D.mr) ∧ w'.cell? ⟨N, 5, none⟩ = some (.bool D.oc) ∧ w'.cell? ⟨N, 6, none⟩ = some (.int .i64 D.ma) ∧ w'.cell? ⟨N, 7, none⟩ = some (.int .i64 D.sa) ∧ w'.cell? ⟨N, 8, none⟩ = some (.int .i64 D.ws) ∧ w'.cell? ⟨N, 9, none⟩ = some (.int .i64 D.oe) ∧ w'.cell? ⟨N, 10, none⟩ = some (.int .i64 D.ms) ∧ w'.cell? ⟨N, 11, none⟩ = some (.int .i64 D.mf) ∧ OnS N D w w')) (by kernel_rfl) (onS_all hS0) (fun hHeld => ?_)
        generalize W4.drew = V0 at *
        refine wpAnyH_take (i := 0) (oi := { dst := some 36, op := _, type := _, pos := _, after := _, guard := _ }) (v := ?_) rfl (by kernel_rfl) (by kernel_rfl) (by kernel_rfl) (fun _ _ _ h => h) (Or.inl ⟨by rfl, ?_⟩) (by assumption) ?_
        rotate_left
        focus (intro w hSw; (try dsimp only at hSw); first | (go_simp; done) | (go_simp; with_reducible rfl))
        (try simp only [Act.put, List.setIfInBounds_toArray, List.set_cons_zero, List.set_cons_succ])
        refine wpAnyH_take (i := 3) (oi := { dst := some 39, op := _, type := _, pos := _, after := _, guard := _ }) (v := dvV D) rfl (by kernel_rfl) (by kernel_rfl) (by kernel_rfl) (fun _ _ _ h => h) (Or.inl ⟨by rfl, ?_⟩) (by assumption) ?_
        focus (intro w hSw; (try dsimp only at hSw); first | (go_simp; done) | (go_simp; with_reducible rfl))
        (try simp only [Act.put, List.setIfInBounds_toArray, List.set_cons_zero, List.set_cons_succ])
        refine wpAnyH_ready (rs := [1]) (by kernel_rfl) (by simp) ?_
        refine AllReadyH.cons (o := { dst := some 37, op := _, type := _, pos := _, after := _, guard := _ }) rfl (fun K hK => ?_) AllReadyH.nil
        go_simp
        refine (fields11_any _ us _ hOb.reads (by omega)).mono ?_
        rintro en V1 ⟨v1, rfl, hO1, hBc⟩
        have hS1 := hS0.below hBc
        have hPb1 := OwnsS.below hPb hBc
        refine hK.out _ _ (onS_all hS1) (fun hH1 => ?_)
        clear hK K hHeld hS0 hBc hOb hPb
        (try simp only [Act.put, List.setIfInBounds_toArray, List.set_cons_zero, List.set_cons_succ])
        refine wpAnyH_ready (rs := [2]) (by kernel_rfl) (by simp) ?_
        refine AllReadyH.cons (o := { dst := some 38, op := _, type := _, pos := _, after := _, guard := _ }) rfl (fun K hK => ?_) AllReadyH.nil
        go_simp
        refine (parseF_any _ us _ hO1 (HM.out.below hS1.l) (by omega) H4.out).mono ?_
        rintro en V2 ⟨rfl, hBc⟩
        rw [HPU.out]
        have hS2 := hS1.below hBc
        have hPb2 := OwnsS.below hPb1 hBc
        refine hK.out _ _ (onS_all hS2) (fun hH2 => ?_)
        clear hK K hH1 hS1 hBc hPb1 hO1
        (try simp only [Act.put, List.setIfInBounds_toArray, List.set_cons_zero, List.set_cons_succ])
        refine wpAnyH_take (i := 4) (oi := { dst := some 40, op := _, type := _, pos := _, after := _, guard := _ }) (v := ?_) rfl (by kernel_rfl) (by kernel_rfl) (by kernel_rfl) (fun _ _ _ h => h) (Or.inl ⟨by rfl, ?_⟩) (by assumption) ?_
        rotate_left
        focus (intro w hSw; (try dsimp only at hSw); first | (go_simp; done) | (go_simp; with_reducible rfl))
        (try simp only [Act.put, List.setIfInBounds_toArray, List.set_cons_zero, List.set_cons_succ])
        refine wpAnyH_take (i := 5) (oi := { dst := some 41, op := _, type := _, pos := _, after := _, guard := _ }) (v := ?_) rfl (by kernel_rfl) (by kernel_rfl) (by kernel_rfl) (fun _ _ _ h => h) (Or.inl ⟨by rfl, ?_⟩) (by assumption) ?_
        rotate_left
        focus (intro w hSw; (try dsimp only at hSw); first | (go_simp; done) | (go_simp; with_reducible rfl))
        (try simp only [Act.put, List.setIfInBounds_toArray, List.set_cons_zero, List.set_cons_succ])
        refine wpAnyH_take (i := 6) (oi := { dst := some 42, op := _, type := _, pos := _, after := _, guard := _ }) (v := ?_) rfl (by kernel_rfl) (by kernel_rfl) (by kernel_rfl) (fun _ _ _ h => h) (Or.inl ⟨by rfl, ?_⟩) (by assumption) ?_
        rotate_left
        focus (intro w hSw; (try dsimp only at hSw); first | (go_simp; done) | (go_simp; with_reducible rfl))
        (try simp only [Act.put, List.setIfInBounds_toArray, List.set_cons_zero, List.set_cons_succ])
        refine wpAnyH_take (i := 9) (oi := { dst := some 45, op := _, type := _, pos := _, after := _, guard := _ }) (v := dvV D) rfl (by kernel_rfl) (by kernel_rfl) (by kernel_rfl) (fun _ _ _ h => h) (Or.inl ⟨by rfl, ?_⟩) (by assumption) ?_
        focus (intro w hSw; (try dsimp only at hSw); first | (go_simp; done) | (go_simp; with_reducible rfl))
        (try simp only [Act.put, List.setIfInBounds_toArray, List.set_cons_zero, List.set_cons_succ])
        refine wpAnyH_ready (rs := [7]) (by kernel_rfl) (by simp) ?_
        refine AllReadyH.cons (o := { dst := some 43, op := _, type := _, pos := _, after := _, guard := _ }) rfl (fun K hK => ?_) AllReadyH.nil
        go_simp
        refine (fields11_any _ ms _ hPb2.reads (by omega)).mono ?_
        rintro en V3 ⟨v3, rfl, hO3, hBc⟩
        have hS3 := hS2.below hBc
        refine hK.out _ _ (onS_all hS3) (fun hH3 => ?_)
        clear hK K hH2 hS2 hBc hPb2
        (try simp only [Act.put, List.setIfInBounds_toArray, List.set_cons_zero, List.set_cons_succ])
        refine wpAnyH_ready (rs := [8]) (by kernel_rfl) (by simp) ?_
        refine AllReadyH.cons (o := { dst := some 44, op := _, type := _, pos := _, after := _, guard := _ }) rfl (fun K hK => ?_) AllReadyH.nil
        go_simp
        refine (parseF_any _ ms _ hO3 (HM.out.below hS3.l) (by omega) H5.out).mono ?_
        rintro en V4 ⟨rfl, hBc⟩
        rw [HPM.out]
        have hS4 := hS3.below hBc
        refine hK.out _ _ (onS_all hS4) (fun hH4 => ?_)
        clear hK K hH3 hS3 hBc hO3
        (try simp only [Act.put, List.setIfInBounds_toArray, List.set_cons_zero, List.set_cons_succ])
        refine wpAnyH_take (i := 10) (oi := { dst := some 46, op := _, type := _, pos := _, after := _, guard := _ }) (v := ?_) rfl (by kernel_rfl) (by kernel_rfl) (by kernel_rfl) (fun _ _ _ h => h) (Or.inl ⟨by rfl, ?_⟩) (by assumption) ?_
        rotate_left
        focus (intro w hSw; (try dsimp only at hSw); first | (go_simp; done) | (go_simp; with_reducible rfl))
        (try simp only [Act.put, List.setIfInBounds_toArray, List.set_cons_zero, List.set_cons_succ])
        refine wpAnyH_take (i := 11) (oi := { dst := some 47, op := _, type := _, pos := _, after := _, guard := _ }) (v := ?_) rfl (by kernel_rfl) (by kernel_rfl) (by kernel_rfl) (fun _ _ _ h => h) (Or.inl ⟨by rfl, ?_⟩) (by assumption) ?_
        rotate_left
        focus (intro w hSw; (try dsimp only at hSw); first | (go_simp; done) | (go_simp; with_reducible rfl))
        (try simp only [Act.put, List.setIfInBounds_toArray, List.set_cons_zero, List.set_cons_succ])
        refine wpAnyH_take (i := 12) (oi := { dst := some 2, op := _, type := _, pos := _, after := _, guard := _ }) (v := ?_) rfl (by kernel_rfl) (by kernel_rfl) (by kernel_rfl) (fun _ _ _ h => h) (Or.inl ⟨by rfl, ?_⟩) (by assumption) ?_
        rotate_left
        focus (intro w hSw; (try dsimp only at hSw); first | (go_simp; done) | (go_simp; with_reducible rfl))
        (try simp only [Act.put, List.setIfInBounds_toArray, List.set_cons_zero, List.set_cons_succ])
        refine wpAnyH_done (by kernel_rfl) ?_ _
        (try simp only [Exit.inBlock, Exit.then])
        (try go_wp2_with fail)
        go_ret
        exact ⟨rfl, hS4.l⟩
end Go.Proofs.YtnjjjfbklgdgpaaDoor
