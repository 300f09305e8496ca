import Derived.Test.YtdpadeopebndeaaDoorPqKSpoiltCard1
/- ChunkedSpoilt: the walk, where what % 5 is one of: 2. -/
namespace Go.Proofs.YtdpadeopebndeaaDoor
open Go.RowKit

set_option maxHeartbeats 16000000 in
set_option maxRecDepth 100000 in
theorem ck_spoilt_walk2 (v0 v1 : Value) (a b : List UInt8) (c : Nat) (w : World) (hM : HasMax w) (hD : HasDb w) (h0 : ReadsD w v0 a) (h1 : ReadsD w v1 b) (la : a.length ≤ 140737488355328) (lb : b.length ≤ 140737488355328) (hc : c < 256) (hcs : c % 5 = 2) :
    Calls Tryd.prog 3 #[v0, v1, .int .u8 (c : Int)] w fun e w' => e = .returned (.bool true) ∧ Below w.heap.size w w' := by
  have HM := Lib.hid hM
  have HD := Lib.hid hD
  have H0 := Lib.hid h0
  have H1 := Lib.hid h1
  obtain ⟨ao0, cap0, rfl, _⟩ := h0
  obtain ⟨ao1, cap1, rfl, _⟩ := h1
  clear hM hD
  go_enter Tryd.func3, Tryd.ntmps3
  go_wp2_with fail
  refine (awake7_any _ HM.out).mono ?_
  rintro e w1 ⟨rfl, hB1⟩
  by_cases hbig : 12000 < a.length + b.length
  · go_wp2_with fail
    refine (awake7_any _ (HM.out.below hB1)).mono ?_
    rintro e w2 ⟨rfl, hB2⟩
    go_wp2_with fail
    go_ret
    exact ⟨rfl, hB1.trans (hB2.mono hB1.size)⟩
  by_cases hb0 : b = []
  · subst hb0
    go_wp2_with fail
    refine (awake7_any _ (HM.out.below hB1)).mono ?_
    rintro e w2 ⟨rfl, hB2⟩
    go_wp2_with fail
    go_ret
    exact ⟨rfl, hB1.trans (hB2.mono hB1.size)⟩
  have hbp : 0 < b.length := List.length_pos_iff.2 hb0
  have hne : ((b.length : Int) == 0) = false := by simp; omega
  have hnb : decide (12000 < (a.length : Int) + (b.length : Int)) = false := decide_eq_false (by omega)
  go_wp2_with fail
  refine (chunk_any _ b w1 (H1.out.below hB1) (by omega) (HD.out.below hB1)).mono ?_
  rintro e w2 ⟨v7, rfl, hO7, hB2⟩
  have hcl := chunkL_size hb0
  have hx6 := hexT_len 6 b.length (by omega)
  have HO7 := Lib.hid hO7
  obtain ⟨g7, c7, rfl, hc7a, hc7b⟩ := own_form4 hO7 (by intro h; rw [h] at hcl; simp at hcl)
  obtain ⟨m8, hm8⟩ : ∃ m, m = (hexT b.length).length := ⟨_, rfl⟩
  obtain ⟨n7, hn7⟩ : ∃ n, n = (chunkL b).length := ⟨_, rfl⟩
  rw [← hn7] at hc7a ⊢
  rw [← hm8] at hcl hx6
  rw [← hn7] at hcl
  have e8 : (n7 : Int) - (b.length : Int) - 4 = (m8 : Int) := by omega
  have hn7b : n7 ≤ 20000 := by omega
  have HCL := Lib.hid hcl
  have HN7 := Lib.hid hn7
  have HM8 := Lib.hid hm8
  have hB12 := hB1.trans (hB2.mono hB1.size)
  have HB12 := Lib.hid hB12
  have hown : OwnB w2.heap.size (w2.alloc (.cells #[] 5)) (.slice (some ⟨w2.heap.size, 0, none⟩) 0 0) [] := World.ownsRow_made w2 #[] 0 (Nat.le_refl _) (Nat.zero_le _) (by simp)
  have hN := below_new w2 (.cells #[] 5)
  have HN := Lib.hid hN
  have hBn := hB12.trans (hN.mono hB12.size)
  have HBn := Lib.hid hBn
  have HOwn := Lib.hid hown
  clear hB1 hB2 hO7 hown hcl hn7 hm8 hN
  go_wp2_with fail
  refine (chunk_any _ a _ (H0.out.below hBn) (by omega) (HD.out.below hBn)).mono ?_
  rintro e w3 ⟨v45, rfl, hO45, hB3⟩
  have HO45 := Lib.hid hO45
  have hOw3 := HOwn.out.below hB3
  have HOw3 := Lib.hid hOw3
  have hal : (chunkL a).length ≤ 20000 := by
    by_cases ha0 : a = []
    · subst ha0; decide
    · have := chunkL_size ha0
      have := hexT_len 6 a.length (by omega)
      omega
  have hs3 := hB3.size
  have hz2 : (w2.alloc (.cells #[] 5)).heap.size = w2.heap.size + 1 := by simp
  obtain ⟨g45, c45, rfl⟩ := hO45.isSlice
  have HB3 := Lib.hid hB3
  clear hO45 hOw3 hB3 hB12 hBn
  obtain ⟨q, hq⟩ : ∃ q, q = c % 5 := ⟨_, rfl⟩
  have hq5 : q < 5 := by omega
  have erem : (c : Int) % 5 = (q : Int) := by omega
  go_upto_region 7 with (at_builtin; refine wpList_appendA (by rfl) _ _ (by rfl) _ _ (by rfl) (by rfl) HOw3.out HO45.out.reads (by simp; omega) (by omega) ?_; intro v9 w4 hO9 hgrow9 hat9; rw [List.nil_append] at hO9; have HO9 := Lib.hid hO9; have HG9 := Lib.hid hgrow9; obtain ⟨g9, c9, rfl⟩ := hO9.isSlice; clear hO9 hgrow9 hat9)
  have B24 : Below w2.heap.size w2 w4 := (HN.out.trans (HB3.out.mono (by omega))).grown HG9.out (by omega) (fun k hk => by simp [Value.ownBlock] at hk; omega)
  have R7 := HO7.out.reads.below B24
  rw [← HN7.out] at R7
  have HR7 := Lib.hid R7
  have HB24 := Lib.hid B24
  have hs24 := B24.size
  have HP := Lib.hid (show hexT b.length ++ 13 :: 10 :: (b ++ [13, 10]) = chunkL b by unfold chunkL; rw [if_neg hb0])
  clear R7 B24
  go_cut [50] (fun u50 wx => u50 = .int .u8 (q : Int) ∧ w4 = wx)
  case first =>
    go_wp2_with fail
    rw [erem]
    go_meet
    exact ⟨rfl, rfl⟩
  case rest =>
  obtain ⟨rfl, rfl⟩ := hcut
  have HQ := Lib.hid erem
  have hqs : q = 2 := by omega
  clear erem hq hc hcs
  apply_assumption
  go_cut [9, 10] (fun u9 u10 wx => SpR w2 a b q u9 u10 wx)
  case first =>
    clear HQ
    obtain rfl : q = 2 := by omega
    · skip
      go_upto_region 17 with fail
      have hOV := HO9.out.below (Below.refl w4.heap.size w4).drew
      have hBV := HB24.out.drew
      have hsV : w2.heap.size ≤ w4.drew.heap.size := hs24
      have hn7g : m8 + 4 + b.length = n7 := by have := HCL.out; omega
      have hmn : m8 ≤ n7 := by omega
      have hmn2 : m8 + 2 ≤ n7 := by omega
      have hmc : m8 ≤ c7 := by omega
      have hmc2 : m8 + 2 ≤ c7 := by omega
      have hcm : ¬ c7 = m8 := by omega
      have hcm2 : ¬ c7 = m8 + 2 := by omega
      have hcn2 : ¬ c7 = n7 - 2 := by omega
      have hwa : IntKind.i64.wrap ((n7 : Int) - 2) = (n7 : Int) - 2 := IntWalk.i64_in _ (by omega)
      have hwb : IntKind.i64.wrap ((m8 : Int) + 2) = (m8 : Int) + 2 := IntWalk.i64_in _ (by omega)
      have hta : ((n7 : Int) - 2).toNat = n7 - 2 := by omega
      have htb : ((m8 : Int) + 2).toNat = m8 + 2 := by omega
      have hii : (2 : Int) ≤ (n7 : Int) := by omega
      have hia : (0 : Int) ≤ (n7 : Int) - 2 := by omega
      have hib : (n7 : Int) - 2 ≤ (c7 : Int) := by omega
      have hic : (n7 : Int) - 2 ≤ (n7 : Int) := by omega
      have hid : (0 : Int) ≤ (m8 : Int) + 2 := by omega
      have hie : (m8 : Int) + 2 ≤ (n7 : Int) := by omega
      refine wp_region_held_drew (S := fun _ => True) (by kernel_rfl) trivial (fun hHeld => ?_)
      clear hHeld
      generalize w4.drew = V at *
      refine wpAnyH_take (i := 0) (oi := { dst := some 106, op := _, type := _, pos := _, after := _, guard := _ }) (v := ?_) rfl (by kernel_rfl) (by kernel_rfl) (by kernel_rfl) (fun _ _ _ h => h) (Or.inl ⟨by rfl, ?_⟩) trivial ?_
      rotate_left
      focus (intro w hSw; first | (go_simp; done) | (go_simp; with_reducible rfl))
      (try simp only [Act.put, List.setIfInBounds_toArray, List.set_cons_zero, List.set_cons_succ])
      refine wpAnyH_take (i := 1) (oi := { dst := some 107, op := _, type := _, pos := _, after := _, guard := _ }) (v := ?_) rfl (by kernel_rfl) (by kernel_rfl) (by kernel_rfl) (fun _ _ _ h => h) (Or.inl ⟨by rfl, ?_⟩) trivial ?_
      rotate_left
      focus (intro w hSw; first | (go_simp; done) | (go_simp; with_reducible rfl))
      (try simp only [Act.put, List.setIfInBounds_toArray, List.set_cons_zero, List.set_cons_succ])
      refine wpAnyH_take (i := 2) (oi := { dst := some 108, op := _, type := _, pos := _, after := _, guard := _ }) (v := ?_) rfl (by kernel_rfl) (by kernel_rfl) (by kernel_rfl) (fun _ _ _ h => h) (Or.inl ⟨by rfl, ?_⟩) trivial ?_
      rotate_left
      focus (intro w hSw; first | (go_simp; done) | (go_simp; with_reducible rfl))
      (try simp only [Act.put, List.setIfInBounds_toArray, List.set_cons_zero, List.set_cons_succ])
      refine wpAnyH_take (i := 3) (oi := { dst := some 109, op := _, type := _, pos := _, after := _, guard := _ }) (v := ?_) rfl (by kernel_rfl) (by kernel_rfl) (by kernel_rfl) (fun _ _ _ h => h) (Or.inl ⟨by rfl, ?_⟩) trivial ?_
      rotate_left
      focus (intro w hSw; first | (go_simp; done) | (go_simp; with_reducible rfl))
      (try simp only [Act.put, List.setIfInBounds_toArray, List.set_cons_zero, List.set_cons_succ])
      refine wpAnyH_take (i := 7) (oi := { dst := some 113, op := _, type := _, pos := _, after := _, guard := _ }) (v := ?_) rfl (by kernel_rfl) (by kernel_rfl) (by kernel_rfl) (fun _ _ _ h => h) (Or.inl ⟨by rfl, ?_⟩) trivial ?_
      rotate_left
      focus (intro w hSw; first | (go_simp; done) | (go_simp; with_reducible rfl))
      (try simp only [Act.put, List.setIfInBounds_toArray, List.set_cons_zero, List.set_cons_succ])
      refine wpAnyH_take (i := 8) (oi := { dst := some 114, op := _, type := _, pos := _, after := _, guard := _ }) (v := ?_) rfl (by kernel_rfl) (by kernel_rfl) (by kernel_rfl) (fun _ _ _ h => h) (Or.inl ⟨by rfl, ?_⟩) trivial ?_
      rotate_left
      focus (intro w hSw; first | (go_simp; done) | (go_simp; with_reducible rfl))
      (try simp only [Act.put, List.setIfInBounds_toArray, List.set_cons_zero, List.set_cons_succ])
      refine wpAnyH_take (i := 9) (oi := { dst := some 115, op := _, type := _, pos := _, after := _, guard := _ }) (v := ?_) rfl (by kernel_rfl) (by kernel_rfl) (by kernel_rfl) (fun _ _ _ h => h) (Or.inl ⟨by rfl, ?_⟩) trivial ?_
      rotate_left
      focus (intro w hSw; first | (go_simp; done) | (go_simp; with_reducible rfl))
      (try simp only [Act.put, List.setIfInBounds_toArray, List.set_cons_zero, List.set_cons_succ])
      clear hii hmc hmc2 hcm hcm2 hcn2 hwa hwb hta htb hia hib hic hid hie
      have hC1 : ∀ W, Below w2.heap.size w2 W → ReadsD W (.slice (some ⟨g7, 0, none⟩) (m8) c7) (((chunkL b).drop 0).take (m8)) := fun W h => by
        have R := HO7.out.reads.below h
        rw [← HN7.out] at R
        exact reads_cutB R 0 (m8) c7 (by have := HN7.out; omega) (by omega) hc7b
      have hC2 : ∀ W, Below w2.heap.size w2 W → ReadsD W (.slice (some ⟨g7, m8, none⟩) (n7 - (m8)) (c7 - (m8))) ((chunkL b).drop (m8)) := fun W h => by
        have R := HO7.out.reads.below h
        rw [← HN7.out] at R
        have h2 := reads_cutB R (m8) (n7 - (m8)) (c7 - (m8)) (by have := HN7.out; omega) (by omega) (by omega)
        rw [Nat.zero_add, List.take_of_length_le (by rw [List.length_drop]; have := HN7.out; omega)] at h2
        exact h2
      have hx1 : (((chunkL b).drop 0).take (m8)).length ≤ 20000 := by rw [List.length_take]; omega
      have hx2 : ((chunkL b).drop (m8)).length ≤ 20000 := by rw [List.length_drop]; have := HN7.out; omega
      have hxs : chunkL a ++ ((chunkL b).drop 0).take (m8) ++ [32] ++ (chunkL b).drop (m8) = chunkL a ++ spoilL 2 b := by
        rw [List.append_assoc, List.append_assoc, ← List.append_assoc ((List.drop 0 (chunkL b)).take _), List.drop_zero]
        exact congrArg (chunkL a ++ ·) (spoil_2 hb0 HM8.out)
      generalize ((chunkL b).drop 0).take (m8) = x1 at *
      generalize (chunkL b).drop (m8) = x2 at *
      refine wpAnyH_ready (rs := [4, 5]) (by kernel_rfl) (by simp) ?_
      refine AllReadyH.cons (o := { dst := some 110, op := _, type := _, pos := _, after := _, guard := _ }) rfl (fun K hK => ?_) ?_
      · rw [if_pos (by rfl)]
        refine wp_appendA _ _ rfl _ _ rfl rfl hOV (hC1 V hBV) (by omega) hsV (fun v10 V1 hO10 hg10 _ => ?_)
        have hB1 := hBV.grown hg10 hsV (fun k hk => (World.ownsRow.lt hOV k hk).1)
        refine hK.out _ _ trivial (fun _ => ?_)
        clear hK K
        (try simp only [Act.put, List.setIfInBounds_toArray, List.set_cons_zero, List.set_cons_succ])
        refine wpAnyH_ready (rs := [5]) (by kernel_rfl) (by simp) ?_
        refine AllReadyH.cons (o := { dst := some 111, op := _, type := _, pos := _, after := _, guard := _ }) rfl (fun K hK => ?_) AllReadyH.nil
        go_simp
        have hL : ReadsD (V1.alloc (.cells #[.int .u8 32] 5)) (.slice (some ⟨V1.heap.size, 0, none⟩) 1 1) [32] := readsK_lit V1 [32] (0, 0) (by decide)
        have hO1 := hO10.below (below_new V1 (.cells #[.int .u8 32] 5))
        have hB2 := hB1.alloc hB1.size (.cells #[.int .u8 32] 5)
        refine hK.out _ _ trivial (fun _ => ?_)
        clear hK K
        (try simp only [Act.put, List.setIfInBounds_toArray, List.set_cons_zero, List.set_cons_succ])
        change wpAnyH _ _ _ _ _ _ _ _ (V1.alloc (.cells #[.int .u8 32] 5))
        generalize V1.alloc (.cells #[.int .u8 32] 5) = V2 at *
        refine wpAnyH_ready (rs := [6]) (by kernel_rfl) (by simp) ?_
        refine AllReadyH.cons (o := { dst := some 112, op := _, type := _, pos := _, after := _, guard := _ }) rfl (fun K hK => ?_) AllReadyH.nil
        rw [if_pos (by rfl)]
        refine wp_appendA _ _ rfl _ _ rfl rfl hO1 hL (by simp; omega) hB2.size (fun v11 V3 hO11 hg11 _ => ?_)
        have hB3 := hB2.grown hg11 hB2.size (fun k hk => (World.ownsRow.lt hO1 k hk).1)
        refine hK.out _ _ trivial (fun _ => ?_)
        clear hK K
        (try simp only [Act.put, List.setIfInBounds_toArray, List.set_cons_zero, List.set_cons_succ])
        refine wpAnyH_ready (rs := [10]) (by kernel_rfl) (by simp) ?_
        refine AllReadyH.cons (o := { dst := some 116, op := _, type := _, pos := _, after := _, guard := _ }) rfl (fun K hK => ?_) AllReadyH.nil
        rw [if_pos (by rfl)]
        refine wp_appendA _ _ rfl _ _ rfl rfl hO11 (hC2 V3 hB3) (by simp; omega) hB3.size (fun v12 V4 hO12 hg12 _ => ?_)
        have hB4 := hB3.grown hg12 hB3.size (fun k hk => (World.ownsRow.lt hO11 k hk).1)
        refine hK.out _ _ trivial (fun _ => ?_)
        clear hK K
        (try simp only [Act.put, List.setIfInBounds_toArray, List.set_cons_zero, List.set_cons_succ])
        refine wpAnyH_take (i := 11) (oi := { dst := some 9, op := _, type := _, pos := _, after := _, guard := _ }) (v := ?_) rfl (by kernel_rfl) (by kernel_rfl) (by kernel_rfl) (fun _ _ _ h => h) (Or.inl ⟨by rfl, ?_⟩) trivial ?_
        rotate_left
        focus (intro w hSw; first | (go_simp; done) | (go_simp; with_reducible rfl))
        (try simp only [Act.put, List.setIfInBounds_toArray, List.set_cons_zero, List.set_cons_succ])
        refine wpAnyH_done (by kernel_rfl) ?_ _
        (try simp only [Exit.then])
        rw [hxs] at hO12
        go_wp2_with fail
        rw [show ((chunkL a).length : Int) + (m8 : Int) = (((chunkL a).length + spoilN 2 b : Nat) : Int) by have := HCL.out; have := HM8.out; unfold spoilN; simp; omega]
        go_meet
        exact ⟨hO12, rfl, hB4⟩
      · refine AllReadyH.cons (o := { dst := some 111, op := _, type := _, pos := _, after := _, guard := _ }) rfl (fun K hK => ?_) AllReadyH.nil
        go_simp
        have hL0 : ReadsD (V.alloc (.cells #[.int .u8 32] 5)) (.slice (some ⟨V.heap.size, 0, none⟩) 1 1) [32] := readsK_lit V [32] (0, 0) (by decide)
        have hO0 := hOV.below (below_new V (.cells #[.int .u8 32] 5))
        have hB1 := hBV.alloc hBV.size (.cells #[.int .u8 32] 5)
        have hlt0 := fun k hk => (World.ownsRow.lt hOV k hk).2
        refine hK.out _ _ trivial (fun _ => ?_)
        clear hK K
        (try simp only [Act.put, List.setIfInBounds_toArray, List.set_cons_zero, List.set_cons_succ])
        change wpAnyH _ _ _ _ _ _ _ _ (V.alloc (.cells #[.int .u8 32] 5))
        generalize V.alloc (.cells #[.int .u8 32] 5) = V1 at *
        refine wpAnyH_ready (rs := [4]) (by kernel_rfl) (by simp) ?_
        refine AllReadyH.cons (o := { dst := some 110, op := _, type := _, pos := _, after := _, guard := _ }) rfl (fun K hK => ?_) AllReadyH.nil
        rw [if_pos (by rfl)]
        refine wp_appendA _ _ rfl _ _ rfl rfl hO0 (hC1 V1 hB1) (by omega) hB1.size (fun v10 V2 hO1 hg10 _ => ?_)
        have hB2 := hB1.grown hg10 hB1.size (fun k hk => (World.ownsRow.lt hO0 k hk).1)
        have hL := hL0.only (Only.grown hg10 (X := fun k => Value.ownBlock _ = some k) (fun k hk => .inl hk)) (fun k hk h => by simp [Value.ownBlock] at hk; have := hlt0 k h; omega)
        refine hK.out _ _ trivial (fun _ => ?_)
        clear hK K
        (try simp only [Act.put, List.setIfInBounds_toArray, List.set_cons_zero, List.set_cons_succ])
        refine wpAnyH_ready (rs := [6]) (by kernel_rfl) (by simp) ?_
        refine AllReadyH.cons (o := { dst := some 112, op := _, type := _, pos := _, after := _, guard := _ }) rfl (fun K hK => ?_) AllReadyH.nil
        rw [if_pos (by rfl)]
        refine wp_appendA _ _ rfl _ _ rfl rfl hO1 hL (by simp; omega) hB2.size (fun v11 V3 hO11 hg11 _ => ?_)
        have hB3 := hB2.grown hg11 hB2.size (fun k hk => (World.ownsRow.lt hO1 k hk).1)
        refine hK.out _ _ trivial (fun _ => ?_)
        clear hK K
        (try simp only [Act.put, List.setIfInBounds_toArray, List.set_cons_zero, List.set_cons_succ])
        refine wpAnyH_ready (rs := [10]) (by kernel_rfl) (by simp) ?_
        refine AllReadyH.cons (o := { dst := some 116, op := _, type := _, pos := _, after := _, guard := _ }) rfl (fun K hK => ?_) AllReadyH.nil
        rw [if_pos (by rfl)]
        refine wp_appendA _ _ rfl _ _ rfl rfl hO11 (hC2 V3 hB3) (by simp; omega) hB3.size (fun v12 V4 hO12 hg12 _ => ?_)
        have hB4 := hB3.grown hg12 hB3.size (fun k hk => (World.ownsRow.lt hO11 k hk).1)
        refine hK.out _ _ trivial (fun _ => ?_)
        clear hK K
        (try simp only [Act.put, List.setIfInBounds_toArray, List.set_cons_zero, List.set_cons_succ])
        refine wpAnyH_take (i := 11) (oi := { dst := some 9, op := _, type := _, pos := _, after := _, guard := _ }) (v := ?_) rfl (by kernel_rfl) (by kernel_rfl) (by kernel_rfl) (fun _ _ _ h => h) (Or.inl ⟨by rfl, ?_⟩) trivial ?_
        rotate_left
        focus (intro w hSw; first | (go_simp; done) | (go_simp; with_reducible rfl))
        (try simp only [Act.put, List.setIfInBounds_toArray, List.set_cons_zero, List.set_cons_succ])
        refine wpAnyH_done (by kernel_rfl) ?_ _
        (try simp only [Exit.then])
        rw [hxs] at hO12
        go_wp2_with fail
        rw [show ((chunkL a).length : Int) + (m8 : Int) = (((chunkL a).length + spoilN 2 b : Nat) : Int) by have := HCL.out; have := HM8.out; unfold spoilN; simp; omega]
        go_meet
        exact ⟨hO12, rfl, hB4⟩
  case rest =>
    obtain ⟨hO, rfl, hB⟩ := hcut
    obtain ⟨hw1, hw2, hw3⟩ := wrD_spoilt hb0 (a := a) (by omega) q
    have hok := wrD_ok (chunkL a ++ spoilL q b) ok_new
    have hll : (chunkL a ++ spoilL q b).length ≤ 100000 := by have h1 := spoil_len q b; have h2 := hexT_len 6 b.length (by omega); rw [List.length_append]; omega
    obtain ⟨g9, c9, rfl⟩ := hO.isSlice
    have HO := Lib.hid hO
    have HB := Lib.hid hB
    have hlo := fun k hk => (World.ownsRow.lt hO k hk).2
    have HLO := Lib.hid hlo
    clear hO hB hlo HOw3 HO45 HOwn HB3 HBn HB24 HR7 HG9 HO9 HN
    go_wp2_with fail
    refine (new_any wc).mono ?_
    rintro e w7 ⟨rfl, hDc, hB7, hs7⟩
    have hMc : HasMax wc := HM.out.below (HB12.out.trans (HB.out.mono HB12.out.size))
    have hW := decWrite_any _ (chunkL a ++ spoilL q b) w7 hDc ((MaxB.of hMc).to hB7) ok_new (HO.out.below hB7).reads (fun _ k hk h => by have := HLO.out k hk; omega) (by omega)
    unfold WritePost at hW
    rw [hw3, hw1] at hW
    have HW := Lib.hid hW
    have hB7x := hB7.mono (Nat.le_refl _)
    have HB7 := Lib.hid (HB.out.trans (hB7.mono HB.out.size))
    have hP7 : wc.heap.size < w7.heap.size := by omega
    clear hW hDc hB7
    generalize (wrD Dc.new (chunkL a ++ spoilL q b)).1 = s1 at *
    generalize (chunkL a).length + spoilN q b = nt at *
    generalize chunkL a ++ spoilL q b = lin at *
    obtain ⟨lw, hlw⟩ : ∃ l, l = a ++ spoilD q b := ⟨_, rfl⟩
    rw [← hlw] at HW
    have HLW := Lib.hid hlw
    clear hlw
    have hMP := (MaxB.of hMc).to hB7x
    have HMP := Lib.hid hMP
    clear hMP hB7x hMc
    obtain ⟨P, hPe⟩ : ∃ P, P = wc.heap.size := ⟨_, rfl⟩
    rw [← hPe] at HW HMP ⊢
    have hP2 : w2.heap.size ≤ P := by have := HB.out.size; omega
    rw [← hPe] at hP7
    clear hPe hs7 HLO HO HB
    go_wp2_with fail
    refine HW.out.mono ?_
    rintro e w8 ⟨v12, X, rfl, hD8, hX8, hO8, ho8, hv8⟩
    rw [show errV 33 = .iface 32 (.int .i64 33) from rfl]
    have B8 := HB7.out.trans (hO8.to (B := w2.heap.size) (fun j hj => by omega) (by omega))
    have BW8 := HB12.out.trans (B8.mono HB12.out.size)
    have HMP8 := Lib.hid (HMP.out.to (hO8.to (B := P) (fun j hj => by omega) (by omega)))
    have hX8b : ∀ i, X i → P ≤ i := fun i h => by have := hX8 i h; omega
    have hX8c : ∀ i, X i → i < w8.heap.size := fun i h => (hD8.lt.2.2 i h).2
    have hs8 := hO8.size
    have HD8 := Lib.hid hD8
    have Ho8 := Lib.hid ho8
    have Hv8 := Lib.hid hv8
    have HX8b := Lib.hid hX8b
    have HX8c := Lib.hid hX8c
    have HB8 := Lib.hid B8
    have HBW8 := Lib.hid BW8
    have HA8 := Lib.hid (H0.out.below (BW8.trans ((below_new w8 (.cells #[] 5)).mono BW8.size)))
    have HE8 := Lib.hid (show OwnB w8.heap.size (w8.alloc (.cells #[] 5)) (.slice (some ⟨w8.heap.size, 0, none⟩) 0 0) [] from World.ownsRow_made w8 #[] 0 (Nat.le_refl _) (Nat.zero_le _) (by simp))
    obtain ⟨a12, c12, rfl⟩ := ho8.isSlice
    clear hD8 hX8 hO8 ho8 hv8 hX8b hX8c B8 BW8 HW HMP
    go_upto_region 25 with (at_builtin; refine wpList_appendA (by rfl) _ _ (by rfl) _ _ (by rfl) (by rfl) HE8.out HA8.out (by simp; omega) (by simp) ?_; intro v15 w9 hO9 hgrow9 hat9; rw [List.nil_append] at hO9; have HO15 := Lib.hid hO9; have HB89 := Lib.hid ((below_new w8 (.cells #[] 5)).grown hgrow9 (by simp) (fun k hk => by simp [Value.ownBlock] at hk; omega)); obtain ⟨a15, c15, rfl⟩ := hO9.isSlice; clear hO9 hgrow9 hat9)
    have hs9 := HB89.out.size
    have HB9 := Lib.hid (H1.out.below (HBW8.out.trans (HB89.out.mono HBW8.out.size)))
    go_cut [154] (fun u wx => u = .bool (decide (q = 0 ∨ 2 < q)) ∧ w9 = wx)
    case first =>
      have HQ' := HQ.out
      by_cases h0 : q = 0
      · have f0 : ((c : Int) % 5 == 0) = true := by rw [beq_iff_eq, HQ']; omega
        have HH := Lib.hid (show decide (q = 0 ∨ 2 < q) = true from decide_eq_true (.inl h0))
        clear HQ' h0
        go_wp2_with fail
        go_meet
        exact ⟨by rw [HH.out], rfl⟩
      · have f0 : ((c : Int) % 5 == 0) = false := by rw [beq_eq_false_iff_ne, HQ']; omega
        by_cases h2 : 2 < q
        · have f2 : decide ((2 : Int) < (c : Int) % 5) = true := by rw [decide_eq_true_iff, HQ']; omega
          have HH := Lib.hid (show decide (q = 0 ∨ 2 < q) = true from decide_eq_true (.inr h2))
          clear HQ' h0 h2
          go_wp2_with fail
          go_meet
          exact ⟨by rw [HH.out], rfl⟩
        · have f2 : decide ((2 : Int) < (c : Int) % 5) = false := by rw [decide_eq_false_iff_not, HQ']; omega
          have HH := Lib.hid (show decide (q = 0 ∨ 2 < q) = false from decide_eq_false (by omega))
          clear HQ' h0 h2
          go_wp2_with fail
          go_meet
          exact ⟨by rw [HH.out], rfl⟩
    case rest =>
    obtain ⟨rfl, rfl⟩ := hcut
    apply_assumption
    go_cut [15] (fun u15 wx => OwnB w8.heap.size wx u15 lw ∧ Below w8.heap.size w8 wx)
    case first =>
      by_cases h0 : q = 0 ∨ 2 < q
      · rw [decide_eq_true h0]
        have HSD := Lib.hid (show spoilD q b = b by unfold spoilD; rw [if_pos h0])
        clear h0
        go_wp2_with (at_builtin; refine wpList_appendA (by rfl) _ _ (by rfl) _ _ (by rfl) (by rfl) HO15.out HB9.out (by omega) (by omega) ?_; intro v16 w10 hO10 hgrow10 hat10; have HO16 := Lib.hid hO10; have HB10 := Lib.hid (HB89.out.grown hgrow10 hs9 (fun k hk => (World.ownsRow.lt HO15.out k hk).1)); clear hO10 hgrow10 hat10)
        go_meet
        exact ⟨by rw [HLW.out, HSD.out]; exact HO16.out, HB10.out⟩
      · rw [decide_eq_false h0]
        have HSD := Lib.hid (show spoilD q b = [] by unfold spoilD; rw [if_neg h0])
        clear h0
        go_wp2_with fail
        go_meet
        exact ⟨by rw [HLW.out, HSD.out, List.append_nil]; exact HO15.out, HB89.out⟩
    case rest =>
      obtain ⟨hO, hB⟩ := hcut
      clear HLW HO15 HB89 HB9 hs9 HE8 HA8 HQ
      obtain ⟨b15, d15, rfl⟩ := hO.isSlice
      rename World => wr
      have HO15 := Lib.hid hO
      have hlo := fun k hk => (World.ownsRow.lt hO k hk).1
      have HLO := Lib.hid hlo
      have HR := Lib.hid hB
      have hs10 := hB.size
      have HD10 := Lib.hid (HD8.out.below hB)
      have HMP10 := Lib.hid (HMP8.out.to (hB.mono (by omega)))
      have Ho10 := Lib.hid (Ho8.out.below hB)
      clear hO hB hlo HD8 HMP8 Ho8
      have HL := Lib.hid (readsK_lit wr [48, 13, 10, 13, 10] (5, 6) (by decide))
      have HN := Lib.hid (below_new wr (.cells (Lib.byteCells [48, 13, 10, 13, 10]).toArray 5 (5, 6)))
      have kc := fun (w : World) (C : Array Value) (n c : Nat) => Lib.run_convert_bytes_const (P := Tryd.prog) w 22 5 C n c Tryd.underlying22 Tryd.underlying5
      have hW2 := decWrite_any _ [48, 13, 10, 13, 10] _ (HD10.out.below HN.out) (HMP10.out.to (HN.out.mono (by omega))) hok HL.out (fun _ k hk h => by have := HX8c.out k h; simp [Value.ownBlock] at hk; omega) (by decide)
      unfold WritePost at hW2
      rw [wrD_stop (.inl (by omega)) _, hw1] at hW2
      have HW2 := Lib.hid hW2
      clear hW2
      go_wp2_with fail
      refine HW2.out.mono ?_
      rintro e w11 ⟨v16, X2, rfl, hD11, hX11, hO11, ho11, hv11⟩
      have hn0 : v16 = .slice none 0 0 ∨ True := .inr trivial
      obtain ⟨a16, c16, rfl⟩ := ho11.isSlice
      have DN := done_any w11 hD11
      rw [decide_eq_false hw2] at DN
      have HDN := Lib.hid DN
      have hOw : OwnB w7.heap.size w11 _ _ := ((Ho10.out.below HN.out).only hO11 (fun k hk h => Hv8.out k hk h))
      have hOv : OwnB w8.heap.size w11 _ _ := ((HO15.out.below HN.out).only hO11 (fun k hk h => by have := HX8c.out k h; have := HLO.out k hk; omega))
      have BY := bytes7_any _ _ _ _ w11 hOw.reads hOv.reads
      rw [decide_eq_true rfl] at BY
      have HBY := Lib.hid BY
      have hB11 := ((HB8.out.trans (HR.out.mono (by omega))).trans (HN.out.mono (by omega))).trans (hO11.to (B := w2.heap.size) (fun k hk => by have := HX8b.out k hk; omega) (by have := HN.out.size; omega))
      have HB11 := Lib.hid (HB12.out.trans (hB11.mono HB12.out.size))
      clear hD11 hX11 hO11 ho11 hv11 hOw hOv BY DN hn0 hB11 kc
      go_wp2_with fail
      refine (is_errno 33 (by decide) _).mono ?_
      rintro e w' ⟨rfl, rfl⟩
      go_wp2_with fail
      refine HBY.out.mono ?_
      rintro e w' ⟨rfl, rfl⟩
      go_wp2_with fail
      refine HDN.out.mono ?_
      rintro e w' ⟨rfl, rfl⟩
      go_wp2_with fail
      rw [show errV 33 = .iface 32 (.int .i64 33) from rfl]
      refine (is_errno 33 (by decide) _).mono ?_
      rintro e w' ⟨rfl, rfl⟩
      go_wp2_with fail
      go_ret
      exact ⟨rfl, HB11.out⟩
end Go.Proofs.YtdpadeopebndeaaDoor

