import Derived.Test.YtieolalohindgaaGreatDoorPa43
import Derived.Deep.DeepCutAuto
/- PolicyTruth: the walk. -/
namespace Go.Proofs.YtieolalohindgaaGreatDoor
open Go.RowKit

theorem only6 (w : World) (P : Nat) (v0 v1 v2 v3 v4 v5 : Value) : Only (· = P) w ((((((w.setCell ⟨P, 0, none⟩ v0).setCell ⟨P, 1, none⟩ v1).setCell ⟨P, 2, none⟩ v2).setCell ⟨P, 3, none⟩ v3).setCell ⟨P, 4, none⟩ v4).setCell ⟨P, 5, none⟩ v5) :=
  ((((((Only.refl (· = P) w).trans' (Only.set (X := (· = P)) rfl _ 0 _)).trans' (Only.set (X := (· = P)) rfl _ 1 _)).trans' (Only.set (X := (· = P)) rfl _ 2 _)).trans' (Only.set (X := (· = P)) rfl _ 3 _)).trans' (Only.set (X := (· = P)) rfl _ 4 _)).trans' (Only.set (X := (· = P)) rfl _ 5 _)
theorem LiB.only {X : Nat → Prop} {N : Nat} {w w' : World} {m g l c k : Int} {sl : Bool} {z : Int} (h : LiB N w m g l c k sl z) (hb : Only X w w') (hx : ¬ X N) : LiB N w' m g l c k sl z :=
  ⟨(hb.cell (p := ⟨N, 0, none⟩) h.lt hx).trans h.c0, (hb.cell (p := ⟨N, 1, none⟩) h.lt hx).trans h.c1, (hb.cell (p := ⟨N, 2, none⟩) h.lt hx).trans h.c2, (hb.cell (p := ⟨N, 3, none⟩) h.lt hx).trans h.c3, (hb.cell (p := ⟨N, 4, none⟩) h.lt hx).trans h.c4, (hb.cell (p := ⟨N, 5, none⟩) h.lt hx).trans h.c5, (hb.cell (p := ⟨N, 6, none⟩) h.lt hx).trans h.c6, fun j => (hb.frozen (p := ⟨N, j, none⟩) h.lt hx).trans (h.fr j), Nat.lt_of_lt_of_le h.lt hb.size⟩
theorem TmB.only {X : Nat → Prop} {N : Nat} {w w' : World} {x y u : Int} (h : TmB N w x y u) (hb : Only X w w') (hx : ¬ X N) : TmB N w' x y u :=
  ⟨(hb.cell (p := ⟨N, 0, none⟩) h.lt hx).trans h.c0, (hb.cell (p := ⟨N, 1, none⟩) h.lt hx).trans h.c1, (hb.cell (p := ⟨N, 2, none⟩) h.lt hx).trans h.c2, fun j => (hb.frozen (p := ⟨N, j, none⟩) h.lt hx).trans (h.fr j), Nat.lt_of_lt_of_le h.lt hb.size⟩
/-- The blocks of the arguments, and what else is as it was. -/
structure TrS (N : Nat) (q : Dv) (m g l c k : Int) (sl : Bool) (z : Int) (w w' : World) : Prop where
  d : DvB N w' q
  x : LiB (N + 1) w' m g l c k sl z
  l : Below w.heap.size w w'
theorem TrS.below {N : Nat} {q : Dv} {m g l c k : Int} {sl : Bool} {z : Int} {w w1 w2 : World} (h : TrS N q m g l c k sl z w w1) (hb : Below w1.heap.size w1 w2) : TrS N q m g l c k sl z w w2 := ⟨h.d.below hb, h.x.below hb, h.l.trans (hb.mono h.l.size)⟩
theorem TrS.set {N P : Nat} {q : Dv} {m g l c k : Int} {sl : Bool} {z : Int} {w w1 : World} (h : TrS N q m g l c k sl z w w1) (h1 : N + 1 < P) (h2 : w.heap.size ≤ P) (v0 v1 v2 v3 v4 v5 : Value) : TrS N q m g l c k sl z w ((((((w1.setCell ⟨P, 0, none⟩ v0).setCell ⟨P, 1, none⟩ v1).setCell ⟨P, 2, none⟩ v2).setCell ⟨P, 3, none⟩ v3).setCell ⟨P, 4, none⟩ v4).setCell ⟨P, 5, none⟩ v5) :=
  ⟨h.d.only (only6 w1 P v0 v1 v2 v3 v4 v5) (fun e => by omega), h.x.only (only6 w1 P v0 v1 v2 v3 v4 v5) (fun e => by omega), below_st h.l h2 _ _ _ _ _ _⟩
/-- With the times' block. -/
def TuS (N K : Nat) (q : Dv) (m g l c k : Int) (sl : Bool) (z : Int) (x y u : Int) (w w' : World) : Prop :=
  w'.cell? ⟨K, 0, none⟩ = some (.int .i64 x) ∧ w'.cell? ⟨K, 1, none⟩ = some (.int .i64 y) ∧ w'.cell? ⟨K, 2, none⟩ = some (.int .i64 u) ∧ TmB K w' x y u ∧ TrS N q m g l c k sl z w w'
theorem tuS_mk {N K : Nat} {q : Dv} {m g l c k : Int} {sl : Bool} {z : Int} {x y u : Int} {w w' : World} (h : TmB K w' x y u) (h' : TrS N q m g l c k sl z w w') : TuS N K q m g l c k sl z x y u w w' := ⟨h.c0, h.c1, h.c2, h, h'⟩
set_option maxHeartbeats 8000000 in
set_option maxRecDepth 100000 in
theorem po_truth_walk (fv : Value) (ps : Flds) (q : Dv) (m g l c k : Int) (sl : Bool) (z : Int) (w : World) (hE : EnvL w) (hr : ReadsQ w fv ps) (hq : FitD q) (hu : 2 * ps.length + totL ps ≤ 3000000) (hm : 0 ≤ m ∧ m ≤ 65535) (hg : 0 ≤ g ∧ g ≤ 65535) (hl : 0 ≤ l ∧ l ≤ 65535) (hc : 0 ≤ c ∧ c ≤ 255) (hk : 0 ≤ k ∧ k ≤ 255) :
    Calls Tryz.prog 5 #[fv, dvV q, (.agg #[.int .u16 m, .int .u16 g, .int .u16 l, .int .u8 c, .int .u8 k, .bool sl, .int .i64 z])] w fun e w' => e = .returned (.bool true) ∧ Below w.heap.size w w' := by
  have HLg := Lib.hid (fun (w : World) (hr : ReadsQ w fv ps) => poLarge_any fv ps w hr (by omega))
  have HAw := Lib.hid (fun (w : World) (hE : EnvL w) => awake17_any w hE)
  have HMo := Lib.hid (fun (w : World) => moments_any m g l c k sl z hm hg hl hc hk w)
  have HPr := Lib.hid (fun (w : World) => program_any q w)
  have q0 := Int.mul_nonneg hl.1 (show 0 ≤ 1 + c by omega)
  have q1 := mono_r hl.2 (show 0 ≤ 1 + c by omega)
  have hold := sn_old z k sl 5000 (5000 + m) (5000 + m + g) (5000 + m + g + l * (1 + c)) hk (by omega) (by omega) (by omega) (by omega) (by omega)
  have hob : 0 ≤ 5000 + m + g + l * (1 + c) - (5000 + m) ∧ 5000 + m + g + l * (1 + c) - (5000 + m) ≤ 100000000 := by omega
  generalize 5000 + m + g + l * (1 + c) - (5000 + m) = old at *
  generalize sn17 z k sl 5000 = S at *
  generalize sn17 z k sl (5000 + m + g) = R at *
  generalize sn17 z k sl (5000 + m + g + l * (1 + c)) = now at *
  have HE := Lib.hid hE
  have HR := Lib.hid hr
  clear q0 q1
  have hx := LiB.new (w.alloc (.cells (dvC q) 28)) m g l c k sl z 51
  have e1 : (w.alloc (.cells (dvC q) 28)).heap.size = w.heap.size + 1 := by simp
  rw [e1] at hx
  have HS := Lib.hid (TrS.mk ((dvB_new w q 28).below (below_new _ (.cells #[.int .u16 m, .int .u16 g, .int .u16 l, .int .u8 c, .int .u8 k, .bool sl, .int .i64 z] 51))) hx ((below_new w (.cells (dvC q) 28)).alloc (by simp) (.cells #[.int .u16 m, .int .u16 g, .int .u16 l, .int .u8 c, .int .u8 k, .bool sl, .int .i64 z] 51)))
  clear hx e1
  generalize hlg : poLargeB ps = lg at *
  cases lg with
  | true =>
    clear hlg hold
    go_enter Tryz.func5, Tryz.ntmps5
    go_upto_region 1 with fail
    change Code.wp _ _ _ _ ((w.alloc (.cells (dvC q) 28)).alloc (.cells #[.int .u16 m, .int .u16 g, .int .u16 l, .int .u8 c, .int .u8 k, .bool sl, .int .i64 z] 51))
    generalize ((w.alloc (.cells (dvC q) 28)).alloc (.cells #[.int .u16 m, .int .u16 g, .int .u16 l, .int .u8 c, .int .u8 k, .bool sl, .int .i64 z] 51)) = W at *
    go_wp2_with fail
    refine (HLg.out _ (HR.out.below HS.out.l)).mono ?_
    rintro e w1 ⟨rfl, hB⟩
    have HS1 := Lib.hid (HS.out.below hB)
    clear hB HS
    go_wp2_with fail
    refine (HLg.out _ (HR.out.below HS1.out.l)).mono ?_
    rintro e w2 ⟨rfl, hB⟩
    have HS2 := Lib.hid (HS1.out.below hB)
    clear hB HS1
    go_wp2_with fail
    go_ret
    exact ⟨rfl, HS2.out.l⟩
  | false =>
    have hfit := poFitL hlg
    clear hlg
    obtain ⟨dd, de, dl, hf⟩ := fldP_ex hfit
    have HJ := Lib.hid (fun (v : Value) (w : World) (hr : ReadsQ w v ps) (hE : EnvL w) => judge_any 200 v ps S R (-1) true q now z dd de dl w hr hq hf hE)
    have HO := Lib.hid (fun (v : Value) (w : World) (hr : ReadsQ w v ps) (hE : EnvL w) => lfOf_any 200 v ps dd de dl w hr hf.fit hf.d hf.e hf.l hE)
    have HOn := Lib.hid (fun (v : Value) (w : World) (hr : ReadsQ w v ps) (hE : EnvL w) => onErr_any 200 v ps S R (-1) true now z dd de dl w hr hf hE)
    have HLi := Lib.hid (fun (v : Value) (w : World) (hr : ReadsQ w v ps) (hE : EnvL w) => limit_any 200 v ps S R (-1) true dd de dl w hr hf hE)
    have HFi := Lib.hid (fun (w : World) (hr : ReadsQ w fv ps) => fields_any fv ps w hr hfit.len hfit.each6)
    unfold lifV at HJ HOn HLi
    generalize parseD (allL ps nCC) = D at *
    generalize hasF ps nEX = x at *
    generalize (ofV 200 D x dd de dl).2 = kX at *
    generalize (ofV 200 D x dd de dl).1 = X at *
    generalize whiV ps = Y at *
    generalize oneV ps = Z at *
    generalize normD q = Q at *
    generalize okA S R now = ok at *
    generalize topA S (-1) now z = U at *
    have h1 := fun h => truth_one (ok := ok) (d := D) (q := Q) (life := X) (wl := Y) (hi := U) (hv := true) (old := old) h (fun _ => hold)
    have h2 := fun h => truth_two (ok := ok) (d := D) (q := Q) (life := X) (wl := Y) (on := Z) (hi := U) (hv := true) (old := old) h (fun _ => hold)
    have h3 := fun h => truth_on (ok := ok) (d := D) (life := X) (wl := Y) (on := Z) (hi := U) (old := old) h (fun _ => hold)
    have hbd := jdg_bd ok D Q X Y U true
    generalize jdgV ok D Q X Y U true = V at *
    generalize onV ok D X Z U = On at *
    generalize limV D X Y Z = Lm at *
    clear hr hq hf hE hfit hold
    go_enter Tryz.func5, Tryz.ntmps5
    go_upto_region 1 with fail
    change Code.wp _ _ _ _ ((w.alloc (.cells (dvC q) 28)).alloc (.cells #[.int .u16 m, .int .u16 g, .int .u16 l, .int .u8 c, .int .u8 k, .bool sl, .int .i64 z] 51))
    generalize ((w.alloc (.cells (dvC q) 28)).alloc (.cells #[.int .u16 m, .int .u16 g, .int .u16 l, .int .u8 c, .int .u8 k, .bool sl, .int .i64 z] 51)) = W at *
    go_wp2_with fail
    refine (HLg.out _ (HR.out.below HS.out.l)).mono ?_
    rintro e w1 ⟨rfl, hB⟩
    have HS1 := Lib.hid (HS.out.below hB)
    clear hB HS
    go_wp2_with fail
    refine (HAw.out _ (HE.out.below HS1.out.l)).mono ?_
    rintro e w2 ⟨rfl, hB⟩
    have HS2 := Lib.hid (HS1.out.below hB)
    clear hB HS1
    obtain ⟨x0, x1, x2, x3, x4, x5, x6, _, _⟩ := HS2.out.x
    go_wp2_with fail
    refine (HMo.out _).mono ?_
    rintro e w3 ⟨rfl, hB⟩
    have b3 := below_new w3 (.cells #[.int .i64 S, .int .i64 R, .int .i64 (-1)] 36)
    have HS3 := Lib.hid ((HS2.out.below hB).below b3)
    have HK3 := Lib.hid (TmB.new w3 S R (-1) 36)
    have hwK := HS2.out.l.size
    have hxl := HS2.out.x.lt
    have hB3 := hB.size
    clear x0 x1 x2 x3 x4 x5 x6 hB b3 HS2
    go_upto_region 6 with fail
    change Code.wp _ _ _ _ (w3.alloc (.cells #[.int .i64 S, .int .i64 R, .int .i64 (-1)] 36))
    have hK0 : w.heap.size + 1 < w3.heap.size := by omega
    clear hwK hxl hB3
    generalize w3.heap.size = K at *
    generalize (w3.alloc (.cells #[.int .i64 S, .int .i64 R, .int .i64 (-1)] 36)) = W3 at *
    go_cut [11] (fun u11 wx => ∃ M va vc, u11 = .pointer (some ⟨M, 0, none⟩) ∧ StB M wx 200 (.slice va ps.length vc) S R (-1) true ∧ ReadsQ wx (.slice va ps.length vc) ps ∧ TrS w.heap.size q m g l c k sl z w wx)
    case first =>
      refine wp_region_held_drew (S := TuS w.heap.size K q m g l c k sl z S R (-1) w) (by kernel_rfl) (tuS_mk (HK3.out.below (Below.refl W3.heap.size W3).drew) (HS3.out.below (Below.refl W3.heap.size W3).drew)) (fun h0 => ?_)
      have hA := And.intro h0.2.2.2.1 h0.2.2.2.2
      clear HS3 HK3
      generalize W3.drew = V0 at *
      refine wpAnyH_take (i := 0) (oi := { dst := some 33, op := _, type := _, pos := _, after := _, guard := _ }) (v := ?_) rfl (by kernel_rfl) (by kernel_rfl) (by kernel_rfl) (fun _ _ _ h => h) (Or.inl ⟨by rfl, ?_⟩) (by assumption) ?_
      rotate_left
      focus (intro w hSw; (try dsimp only at hSw); first | (go_simp; done) | (go_simp; with_reducible rfl))
      (try simp only [Act.put, List.setIfInBounds_toArray, List.set_cons_zero, List.set_cons_succ])
      refine wpAnyH_take (i := 2) (oi := { dst := some 35, op := _, type := _, pos := _, after := _, guard := _ }) (v := ?_) rfl (by kernel_rfl) (by kernel_rfl) (by kernel_rfl) (fun _ _ _ h => h) (Or.inl ⟨by rfl, ?_⟩) (by assumption) ?_
      rotate_left
      focus (intro w hSw; obtain ⟨k0, k1, k2, _, _⟩ := hSw; first | (go_simp; done) | (go_simp; with_reducible rfl))
      (try simp only [Act.put, List.setIfInBounds_toArray, List.set_cons_zero, List.set_cons_succ])
      refine wpAnyH_ready (rs := [1, 4]) (by kernel_rfl) (by simp) ?_
      refine AllReadyH.cons (o := { dst := some 34, op := _, type := _, pos := _, after := _, guard := _ }) rfl (fun K2 hK2 => ?_) (AllReadyH.cons (o := { dst := some 11, op := _, type := _, pos := _, after := _, guard := _ }) rfl (fun K2 hK2 => ?_) AllReadyH.nil)
      · go_simp
        refine (HFi.out _ (HR.out.below hA.2.l)).mono ?_
        rintro e V1 ⟨v, rfl, hO, hB⟩
        obtain ⟨va, vc, hve, _⟩ := hO.q
        subst hve
        have hA := And.intro (hA.1.below hB) (hA.2.below hB)
        have hR2 := hO.q
        refine hK2.out _ _ (tuS_mk hA.1 hA.2) (fun _ => ?_)
        clear hK2 K2 hB
        (try simp only [Act.put, List.setIfInBounds_toArray, List.set_cons_zero, List.set_cons_succ])
        refine wpAnyH_take (i := 3) (oi := { dst := some 36, op := _, type := _, pos := _, after := _, guard := _ }) (v := ?_) rfl (by kernel_rfl) (by kernel_rfl) (by kernel_rfl) (fun _ _ _ h => h) (Or.inl ⟨by rfl, ?_⟩) (by assumption) ?_
        rotate_left
        focus (intro w hSw; (try dsimp only at hSw); first | (go_simp; done) | (go_simp; with_reducible rfl))
        (try simp only [Act.put, List.setIfInBounds_toArray, List.set_cons_zero, List.set_cons_succ])
        refine wpAnyH_ready (rs := [4]) (by kernel_rfl) (by simp) ?_
        refine AllReadyH.cons (o := { dst := some 11, op := _, type := _, pos := _, after := _, guard := _ }) rfl (fun K2 hK2 => ?_) AllReadyH.nil
        go_simp
        have hA1 := hA.1.below (below_new V1 (.cells (stC 0 (.slice none 0 0) 0 0 0 false) 38))
        have hA2 := hA.2.below (below_new V1 (.cells (stC 0 (.slice none 0 0) 0 0 0 false) 38))
        have hX := StB.new V1 0 (.slice none 0 0) 0 0 0 false 38
        have hF := (farQ_new hR2 (Nat.le_refl _)).below (below_new V1 (.cells (stC 0 (.slice none 0 0) 0 0 0 false) 38))
        have hP := hA.2.l.size
        have hP2 := hA.1.lt
        have hP3 := hA.2.x.lt
        clear hA
        refine hK2.out _ _ (tuS_mk hA1 hA2) (fun _ => ?_)
        clear hK2 K2
        (try simp only [Act.put, List.setIfInBounds_toArray, List.set_cons_zero, List.set_cons_succ])
        change wpAnyH _ _ _ _ _ _ _ _ (V1.alloc (.cells (stC 0 (.slice none 0 0) 0 0 0 false) 38))
        have hA := And.intro hA1 hA2
        clear hA1 hA2
        generalize V1.heap.size = P at *
        generalize V1.alloc (.cells (stC 0 (.slice none 0 0) 0 0 0 false) 38) = V2 at *
        have hXs := hX
        obtain ⟨y0, y1, y2, y3, y4, y5, yf, yl⟩ := hX
        refine wpAnyH_ready (rs := [5]) (by kernel_rfl) (by simp) ?_
        refine AllReadyH.cons (o := { dst := none, op := _, type := _, pos := _, after := _, guard := _ }) rfl (fun K2 hK2 => ?_) AllReadyH.nil
        go_simp
        have hA2 := hA.2.set (P := P) (by omega) (by omega) (.int .i64 200) ((.slice va ps.length vc)) (.int .i64 S) (.int .i64 R) (.int .i64 (-1)) (.bool true)
        have hA1 := hA.1.only (only6 V2 P (.int .i64 200) ((.slice va ps.length vc)) (.int .i64 S) (.int .i64 R) (.int .i64 (-1)) (.bool true)) (fun e => by omega)
        have hF2 := hF.set (only6 V2 P (.int .i64 200) ((.slice va ps.length vc)) (.int .i64 S) (.int .i64 R) (.int .i64 (-1)) (.bool true))
        have hX2 := hXs.set 200 (.slice va ps.length vc) S R (-1) true
        refine hK2.out _ _ (tuS_mk hA1 hA2) (fun _ => ?_)
        clear hK2 K2 y0 y1 y2 y3 y4 y5 yf yl hXs
        (try simp only [Act.put, List.setIfInBounds_toArray, List.set_cons_zero, List.set_cons_succ])
        refine wpAnyH_done (by kernel_rfl) ?_ _
        (try go_wp2_with fail)
        go_meet
        exact ⟨P, va, vc, rfl, hX2, hF2.q, hA2⟩
      · go_simp
        have hA1 := hA.1.below (below_new V0 (.cells (stC 0 (.slice none 0 0) 0 0 0 false) 38))
        have hA2 := hA.2.below (below_new V0 (.cells (stC 0 (.slice none 0 0) 0 0 0 false) 38))
        have hX := StB.new V0 0 (.slice none 0 0) 0 0 0 false 38
        have hP := hA.2.l.size
        have hP2 := hA.1.lt
        have hP3 := hA.2.x.lt
        clear hA
        refine hK2.out _ _ (tuS_mk hA1 hA2) (fun _ => ?_)
        clear hK2 K2
        (try simp only [Act.put, List.setIfInBounds_toArray, List.set_cons_zero, List.set_cons_succ])
        change wpAnyH _ _ _ _ _ _ _ _ (V0.alloc (.cells (stC 0 (.slice none 0 0) 0 0 0 false) 38))
        have hA := And.intro hA1 hA2
        clear hA1 hA2
        generalize V0.heap.size = P at *
        generalize V0.alloc (.cells (stC 0 (.slice none 0 0) 0 0 0 false) 38) = V1 at *
        refine wpAnyH_ready (rs := [1]) (by kernel_rfl) (by simp) ?_
        refine AllReadyH.cons (o := { dst := some 34, op := _, type := _, pos := _, after := _, guard := _ }) rfl (fun K2 hK2 => ?_) AllReadyH.nil
        go_simp
        refine (HFi.out _ (HR.out.below hA.2.l)).mono ?_
        rintro e V2 ⟨v, rfl, hO, hB⟩
        obtain ⟨va, vc, hve, _⟩ := hO.q
        subst hve
        have hA := And.intro (hA.1.below hB) (hA.2.below hB)
        have hF := farQ_own hO (show P < V1.heap.size from hX.lt)
        have hX := hX.below hB
        refine hK2.out _ _ (tuS_mk hA.1 hA.2) (fun _ => ?_)
        clear hK2 K2 hB
        (try simp only [Act.put, List.setIfInBounds_toArray, List.set_cons_zero, List.set_cons_succ])
        refine wpAnyH_take (i := 3) (oi := { dst := some 36, op := _, type := _, pos := _, after := _, guard := _ }) (v := ?_) rfl (by kernel_rfl) (by kernel_rfl) (by kernel_rfl) (fun _ _ _ h => h) (Or.inl ⟨by rfl, ?_⟩) (by assumption) ?_
        rotate_left
        focus (intro w hSw; (try dsimp only at hSw); first | (go_simp; done) | (go_simp; with_reducible rfl))
        (try simp only [Act.put, List.setIfInBounds_toArray, List.set_cons_zero, List.set_cons_succ])
        have hXs := hX
        obtain ⟨y0, y1, y2, y3, y4, y5, yf, yl⟩ := hX
        refine wpAnyH_ready (rs := [5]) (by kernel_rfl) (by simp) ?_
        refine AllReadyH.cons (o := { dst := none, op := _, type := _, pos := _, after := _, guard := _ }) rfl (fun K2 hK2 => ?_) AllReadyH.nil
        go_simp
        have hA2 := hA.2.set (P := P) (by omega) (by omega) (.int .i64 200) ((.slice va ps.length vc)) (.int .i64 S) (.int .i64 R) (.int .i64 (-1)) (.bool true)
        have hA1 := hA.1.only (only6 V2 P (.int .i64 200) ((.slice va ps.length vc)) (.int .i64 S) (.int .i64 R) (.int .i64 (-1)) (.bool true)) (fun e => by omega)
        have hF2 := hF.set (only6 V2 P (.int .i64 200) ((.slice va ps.length vc)) (.int .i64 S) (.int .i64 R) (.int .i64 (-1)) (.bool true))
        have hX2 := hXs.set 200 (.slice va ps.length vc) S R (-1) true
        refine hK2.out _ _ (tuS_mk hA1 hA2) (fun _ => ?_)
        clear hK2 K2 y0 y1 y2 y3 y4 y5 yf yl hXs
        (try simp only [Act.put, List.setIfInBounds_toArray, List.set_cons_zero, List.set_cons_succ])
        refine wpAnyH_done (by kernel_rfl) ?_ _
        (try go_wp2_with fail)
        go_meet
        exact ⟨P, va, vc, rfl, hX2, hF2.q, hA2⟩
    case rest =>
      obtain ⟨M, va, vc, rfl, hM, hRv, hS⟩ := hcut
      have HM := Lib.hid hM
      have HV := Lib.hid hRv
      have HT := Lib.hid hS
      clear hM hRv hS
      go_upto_region 7 with fail
      have bD := (Below.refl wc.heap.size wc).drew
      have hM0 := HM.out.below bD
      have hV0 := HV.out.below bD
      have hT0 := HT.out.below bD
      refine wp_region_held_drew (S := fun w' => w'.cell? ⟨M, 0, none⟩ = some (.int .i64 200) ∧ w'.cell? ⟨M, 1, none⟩ = some ((.slice va ps.length vc)) ∧ w'.cell? ⟨M, 2, none⟩ = some (.int .i64 S) ∧ w'.cell? ⟨M, 3, none⟩ = some (.int .i64 R) ∧ w'.cell? ⟨M, 4, none⟩ = some (.int .i64 (-1)) ∧ w'.cell? ⟨M, 5, none⟩ = some (.bool true) ∧ w'.cell? ⟨w.heap.size, 0, none⟩ = some (.bool q.ns) ∧ w'.cell? ⟨w.heap.size, 1, none⟩ = some (.bool q.nc) ∧ w'.cell? ⟨w.heap.size, 2, none⟩ = some (.bool q.pr) ∧ w'.cell? ⟨w.heap.size, 3, none⟩ = some (.bool q.pu) ∧ w'.cell? ⟨w.heap.size, 4, none⟩ = some (.bool q.mr) ∧ w'.cell? ⟨w.heap.size, 5, none⟩ = some (.bool q.oc) ∧ w'.cell? ⟨w.heap.size, 6, none⟩ = some (.int .i64 q.ma) ∧ w'.cell? ⟨w.heap.size, 7, none⟩ = some (.int .i64 q.sa) ∧ w'.cell? ⟨w.heap.size, 8, none⟩ = some (.int .i64 q.ws) ∧ w'.cell? ⟨w.heap.size, 9, none⟩ = some (.int .i64 q.oe) ∧ w'.cell? ⟨w.heap.size, 10, none⟩ = some (.int .i64 q.ms) ∧ w'.cell? ⟨w.heap.size, 11, none⟩ = some (.int .i64 q.mf) ∧ w'.cell? ⟨w.heap.size + 1, 6, none⟩ = some (.int .i64 z) ∧ StB M w' 200 (.slice va ps.length vc) S R (-1) true ∧ ReadsQ w' (.slice va ps.length vc) ps ∧ TrS w.heap.size q m g l c k sl z w w') (by kernel_rfl) (⟨hM0.c0, hM0.c1, hM0.c2, hM0.c3, hM0.c4, hM0.c5, hT0.d.c0, hT0.d.c1, hT0.d.c2, hT0.d.c3, hT0.d.c4, hT0.d.c5, hT0.d.c6, hT0.d.c7, hT0.d.c8, hT0.d.c9, hT0.d.c10, hT0.d.c11, hT0.x.c6, hM0, hV0, hT0⟩) (fun h0 => ?_)
      clear hM0 hV0 hT0 bD
      refine wpAnyH_take (i := 0) (oi := { dst := some 37, op := _, type := _, pos := _, after := _, guard := _ }) (v := ?_) rfl (by kernel_rfl) (by kernel_rfl) (by kernel_rfl) (fun _ _ _ h => h) (Or.inl ⟨by rfl, ?_⟩) (by assumption) ?_
      rotate_left
      focus (intro w hSw; (try dsimp only at hSw); first | (go_simp; done) | (go_simp; with_reducible rfl))
      (try simp only [Act.put, List.setIfInBounds_toArray, List.set_cons_zero, List.set_cons_succ])
      refine wpAnyH_take (i := 1) (oi := { dst := some 38, op := _, type := _, pos := _, after := _, guard := _ }) (v := ?_) rfl (by kernel_rfl) (by kernel_rfl) (by kernel_rfl) (fun _ _ _ h => h) (Or.inl ⟨by rfl, ?_⟩) (by assumption) ?_
      rotate_left
      focus (intro w hSw; (try dsimp only at hSw); first | (go_simp; done) | (go_simp; with_reducible rfl))
      (try simp only [Act.put, List.setIfInBounds_toArray, List.set_cons_zero, List.set_cons_succ])
      refine wpAnyH_take (i := 3) (oi := { dst := some 40, op := _, type := _, pos := _, after := _, guard := _ }) (v := ?_) rfl (by kernel_rfl) (by kernel_rfl) (by kernel_rfl) (fun _ _ _ h => h) (Or.inl ⟨by rfl, ?_⟩) (by assumption) ?_
      rotate_left
      focus (intro w hSw; (try dsimp only at hSw); first | (go_simp; done) | (go_simp; with_reducible rfl))
      (try simp only [Act.put, List.setIfInBounds_toArray, List.set_cons_zero, List.set_cons_succ])
      refine wpAnyH_take (i := 4) (oi := { dst := some 41, op := _, type := _, pos := _, after := _, guard := _ }) (v := ?_) rfl (by kernel_rfl) (by kernel_rfl) (by kernel_rfl) (fun _ _ _ h => h) (Or.inl ⟨by rfl, ?_⟩) (by assumption) ?_
      rotate_left
      focus (intro w hSw; (try dsimp only at hSw); first | (go_simp; done) | (go_simp; with_reducible rfl))
      (try simp only [Act.put, List.setIfInBounds_toArray, List.set_cons_zero, List.set_cons_succ])
      refine wpAnyH_take (i := 5) (oi := { dst := some 42, op := _, type := _, pos := _, after := _, guard := _ }) (v := ?_) rfl (by kernel_rfl) (by kernel_rfl) (by kernel_rfl) (fun _ _ _ h => h) (Or.inl ⟨by rfl, ?_⟩) (by assumption) ?_
      rotate_left
      focus (intro w hSw; (try dsimp only at hSw); first | (go_simp; done) | (go_simp; with_reducible rfl))
      (try simp only [Act.put, List.setIfInBounds_toArray, List.set_cons_zero, List.set_cons_succ])
      refine wpAnyH_ready (rs := [2]) (by kernel_rfl) (by simp) ?_
      refine AllReadyH.cons (o := { dst := some 39, op := _, type := _, pos := _, after := _, guard := _ }) rfl (fun K hK => ?_) AllReadyH.nil
      go_simp
      refine (HPr.out _).mono ?_
      rintro e w6 ⟨rfl, hB6⟩
      have m1 := StB.below h0.2.2.2.2.2.2.2.2.2.2.2.2.2.2.2.2.2.2.2.1 hB6
      have v1 := ReadsQ.below h0.2.2.2.2.2.2.2.2.2.2.2.2.2.2.2.2.2.2.2.2.1 hB6
      have t1 := TrS.below h0.2.2.2.2.2.2.2.2.2.2.2.2.2.2.2.2.2.2.2.2.2 hB6
      refine hK.out _ _ (⟨m1.c0, m1.c1, m1.c2, m1.c3, m1.c4, m1.c5, t1.d.c0, t1.d.c1, t1.d.c2, t1.d.c3, t1.d.c4, t1.d.c5, t1.d.c6, t1.d.c7, t1.d.c8, t1.d.c9, t1.d.c10, t1.d.c11, t1.x.c6, m1, v1, t1⟩) (fun h6 => ?_)
      clear hK K m1 v1 t1 hB6
      (try simp only [Act.put, List.setIfInBounds_toArray, List.set_cons_zero, List.set_cons_succ])
      refine wpAnyH_ready (rs := [6]) (by kernel_rfl) (by simp) ?_
      refine AllReadyH.cons (o := { dst := some 43, op := _, type := _, pos := _, after := _, guard := _ }) rfl (fun K hK => ?_) AllReadyH.nil
      go_simp
      refine (HJ.out _ _ h6.2.2.2.2.2.2.2.2.2.2.2.2.2.2.2.2.2.2.2.2.1 (HE.out.below h6.2.2.2.2.2.2.2.2.2.2.2.2.2.2.2.2.2.2.2.2.2.l)).mono ?_
      rintro e w7 ⟨rfl, hB7⟩
      have m1 := StB.below h6.2.2.2.2.2.2.2.2.2.2.2.2.2.2.2.2.2.2.2.1 hB7
      have v1 := ReadsQ.below h6.2.2.2.2.2.2.2.2.2.2.2.2.2.2.2.2.2.2.2.2.1 hB7
      have t1 := TrS.below h6.2.2.2.2.2.2.2.2.2.2.2.2.2.2.2.2.2.2.2.2.2 hB7
      refine hK.out _ _ (⟨m1.c0, m1.c1, m1.c2, m1.c3, m1.c4, m1.c5, t1.d.c0, t1.d.c1, t1.d.c2, t1.d.c3, t1.d.c4, t1.d.c5, t1.d.c6, t1.d.c7, t1.d.c8, t1.d.c9, t1.d.c10, t1.d.c11, t1.x.c6, m1, v1, t1⟩) (fun h7 => ?_)
      clear hK K m1 v1 t1 hB7
      (try simp only [Act.put, List.setIfInBounds_toArray, List.set_cons_zero, List.set_cons_succ])
      refine wpAnyH_take (i := 7) (oi := { dst := some 12, op := _, type := _, pos := _, after := _, guard := _ }) (v := ?_) rfl (by kernel_rfl) (by kernel_rfl) (by kernel_rfl) (fun _ _ _ h => h) (Or.inl ⟨by rfl, ?_⟩) (by assumption) ?_
      rotate_left
      focus (intro w hSw; (try dsimp only at hSw); first | (go_simp; done) | (go_simp; with_reducible rfl))
      (try simp only [Act.put, List.setIfInBounds_toArray, List.set_cons_zero, List.set_cons_succ])
      refine wpAnyH_done (by kernel_rfl) ?_ _
      (try simp only [Exit.then])
      have HM7 := Lib.hid h7.2.2.2.2.2.2.2.2.2.2.2.2.2.2.2.2.2.2.2.1
      have HV7 := Lib.hid h7.2.2.2.2.2.2.2.2.2.2.2.2.2.2.2.2.2.2.2.2.1
      have HT7 := Lib.hid h7.2.2.2.2.2.2.2.2.2.2.2.2.2.2.2.2.2.2.2.2.2
      clear h7 h6 h0 HM HV HT
      obtain ⟨c0, c1, c2, c3, c4, c5, _, _⟩ := HM7.out
      go_wp2_with fail
      refine (HLi.out _ _ HV7.out (HE.out.below HT7.out.l)).mono ?_
      rintro e w8 ⟨rfl, hB⟩
      have HM8 := Lib.hid (HM7.out.below hB)
      have HV8 := Lib.hid (HV7.out.below hB)
      have HT8 := Lib.hid (HT7.out.below hB)
      clear c0 c1 c2 c3 c4 c5 hB HM7 HV7 HT7
      obtain ⟨c0, c1, c2, c3, c4, c5, _, _⟩ := HM8.out
      go_wp2_with fail
      refine (HO.out _ _ HV8.out (HE.out.below HT8.out.l)).mono ?_
      rintro e w9 ⟨rfl, hB⟩
      have HM9 := Lib.hid (HM8.out.below hB)
      have HV9 := Lib.hid (HV8.out.below hB)
      have HT9 := Lib.hid (HT8.out.below hB)
      clear c0 c1 c2 c3 c4 c5 hB HM8 HV8 HT8
      cases On with
      | true =>
        have h3 := h3 rfl
        by_cases hv1 : V = 1
        · have h1 := h1 hv1
          subst hv1
          clear h2 hbd
          have x6 := HT9.out.x.c6
          obtain ⟨c0, c1, c2, c3, c4, c5, _, _⟩ := HM9.out
          go_wp2_with fail
          refine (HOn.out _ _ HV9.out (HE.out.below HT9.out.l)).mono ?_
          rintro e w10 ⟨rfl, hB⟩
          have HM10 := Lib.hid (HM9.out.below hB)
          have HV10 := Lib.hid (HV9.out.below hB)
          have HT10 := Lib.hid (HT9.out.below hB)
          clear c0 c1 c2 c3 c4 c5 hB HM9 HV9 HT9
          clear x6
          go_wp2_with fail
          all_goals
            go_ret
            exact ⟨by first | rfl | simp [*], HT10.out.l⟩
        · have e1 : (V == 1) = false := by simpa using hv1
          clear h1
          by_cases hv2 : V = 2
          · have h2 := h2 hv2
            subst hv2
            clear hbd
            have x6 := HT9.out.x.c6
            obtain ⟨c0, c1, c2, c3, c4, c5, _, _⟩ := HM9.out
            go_wp2_with fail
            refine (HOn.out _ _ HV9.out (HE.out.below HT9.out.l)).mono ?_
            rintro e w10 ⟨rfl, hB⟩
            have HM10 := Lib.hid (HM9.out.below hB)
            have HV10 := Lib.hid (HV9.out.below hB)
            have HT10 := Lib.hid (HT9.out.below hB)
            clear c0 c1 c2 c3 c4 c5 hB HM9 HV9 HT9
            clear x6
            go_wp2_with fail
            all_goals
              go_ret
              exact ⟨by first | rfl | simp [*], HT10.out.l⟩
          · have e2 : (V == 2) = false := by simpa using hv2
            clear h2 hbd
            have x6 := HT9.out.x.c6
            obtain ⟨c0, c1, c2, c3, c4, c5, _, _⟩ := HM9.out
            go_wp2_with fail
            refine (HOn.out _ _ HV9.out (HE.out.below HT9.out.l)).mono ?_
            rintro e w10 ⟨rfl, hB⟩
            have HM10 := Lib.hid (HM9.out.below hB)
            have HV10 := Lib.hid (HV9.out.below hB)
            have HT10 := Lib.hid (HT9.out.below hB)
            clear c0 c1 c2 c3 c4 c5 hB HM9 HV9 HT9
            clear x6
            go_wp2_with fail
            all_goals
              go_ret
              exact ⟨by first | rfl | simp [*], HT10.out.l⟩
      | false =>
        clear h3
        by_cases hv1 : V = 1
        · have h1 := h1 hv1
          subst hv1
          clear h2 hbd
          have x6 := HT9.out.x.c6
          obtain ⟨c0, c1, c2, c3, c4, c5, _, _⟩ := HM9.out
          go_wp2_with fail
          refine (HOn.out _ _ HV9.out (HE.out.below HT9.out.l)).mono ?_
          rintro e w10 ⟨rfl, hB⟩
          have HM10 := Lib.hid (HM9.out.below hB)
          have HV10 := Lib.hid (HV9.out.below hB)
          have HT10 := Lib.hid (HT9.out.below hB)
          clear c0 c1 c2 c3 c4 c5 hB HM9 HV9 HT9
          clear x6
          go_wp2_with fail
          all_goals
            go_ret
            exact ⟨by first | rfl | simp [*], HT10.out.l⟩
        · have e1 : (V == 1) = false := by simpa using hv1
          clear h1
          by_cases hv2 : V = 2
          · have h2 := h2 hv2
            subst hv2
            clear hbd
            have x6 := HT9.out.x.c6
            obtain ⟨c0, c1, c2, c3, c4, c5, _, _⟩ := HM9.out
            go_wp2_with fail
            refine (HOn.out _ _ HV9.out (HE.out.below HT9.out.l)).mono ?_
            rintro e w10 ⟨rfl, hB⟩
            have HM10 := Lib.hid (HM9.out.below hB)
            have HV10 := Lib.hid (HV9.out.below hB)
            have HT10 := Lib.hid (HT9.out.below hB)
            clear c0 c1 c2 c3 c4 c5 hB HM9 HV9 HT9
            clear x6
            go_wp2_with fail
            all_goals
              go_ret
              exact ⟨by first | rfl | simp [*], HT10.out.l⟩
          · have e2 : (V == 2) = false := by simpa using hv2
            clear h2 hbd
            have x6 := HT9.out.x.c6
            obtain ⟨c0, c1, c2, c3, c4, c5, _, _⟩ := HM9.out
            go_wp2_with fail
            refine (HOn.out _ _ HV9.out (HE.out.below HT9.out.l)).mono ?_
            rintro e w10 ⟨rfl, hB⟩
            have HM10 := Lib.hid (HM9.out.below hB)
            have HV10 := Lib.hid (HV9.out.below hB)
            have HT10 := Lib.hid (HT9.out.below hB)
            clear c0 c1 c2 c3 c4 c5 hB HM9 HV9 HT9
            clear x6
            go_wp2_with fail
            all_goals
              go_ret
              exact ⟨by first | rfl | simp [*], HT10.out.l⟩
end Go.Proofs.YtieolalohindgaaGreatDoor
