import Derived.Test.YtieolalohindgaaGreatDoorPa21
import Derived.Test.YtieolalohindgaaGreatDoorPa41
import Derived.Test.YtieolalohindgaaGreatDoorPa3
import Derived.Test.YtieolalohindgaaGreatDoorPa20
/- What OnError and Limit return. -/
namespace Go.Proofs.YtieolalohindgaaGreatDoor
open Go.RowKit

/-- The two blocks: the stored response and the terms. -/
structure OeS (N R : Nat) (st : Int) (fv : Value) (s r a : Int) (b : Bool) (d : Dv) (x y z : Int) (w w' : World) : Prop where
  a : StB N w' st fv s r a b
  c : TeB R w' d x y z
  l : Below w.heap.size w w'
theorem OeS.below {N R : Nat} {st : Int} {fv : Value} {s r a : Int} {b : Bool} {d : Dv} {x y z : Int} {w w1 w2 : World} (h : OeS N R st fv s r a b d x y z w w1) (hb : Below w1.heap.size w1 w2) : OeS N R st fv s r a b d x y z w w2 :=
  ⟨h.a.below hb, h.c.below hb, h.l.trans (hb.mono h.l.size)⟩
theorem retJ {x y : Int} (h : y = x) : Ending.returned (.int .i64 x) = .returned (.int .i64 y) := by rw [h]
set_option maxHeartbeats 8000000 in
set_option maxRecDepth 100000 in
theorem limit_any (st : Int) (fv : Value) (ps : Flds) (s r a : Int) (b : Bool) (dd de dl : Option Nat) (w : World) (hr : ReadsQ w fv ps) (hf : FldP ps dd de dl) (hE : EnvL w) :
    Calls Tryz.prog 18 #[stV st fv s r a b] w fun e w' => e = .returned (.int .i64 (limV (parseD (allL ps nCC)) (lifV st ps dd de dl) (whiV ps) (oneV ps))) ∧ Below w.heap.size w w' := by
  have HT := Lib.hid (fun (w : World) (hr : ReadsQ w fv ps) (hE : EnvL w) => terms_any st fv ps s r a b dd de dl w hr hf hE)
  have hX := lifV_bd hf st
  have hY := whiV_bd ps
  have hZ := oneV_bd ps
  have HE := Lib.hid hE
  have HR := Lib.hid hr
  generalize lifV st ps dd de dl = X at *
  generalize whiV ps = Y at *
  generalize oneV ps = Z at *
  generalize parseD (allL ps nCC) = D at *
  clear hr hf hE
  have HB := Lib.hid (below_new w (.cells (stC st fv s r a b) 38))
  have HS := Lib.hid (StB.new w st fv s r a b 38)
  generalize hV : limV D X Y Z = V
  generalize hn : D.nc = nc
  have HN := Lib.hid hn
  unfold limV at hV
  rw [hn] at hV
  clear hn
  go_enter Tryz.func18, Tryz.ntmps18
  go_upto_region 1 with fail
  change Code.wp _ _ _ _ (w.alloc (.cells (stC st fv s r a b) 38))
  generalize (w.alloc (.cells (stC st fv s r a b) 38)) = W at *
  obtain ⟨c0, c1, c2, c3, c4, c5, fr, lt⟩ := HS.out
  go_wp2_with fail
  refine (HT.out _ (HR.out.below HB.out) (HE.out.below HB.out)).mono ?_
  rintro e w3 ⟨rfl, hB3⟩
  have HJ := Lib.hid (OeS.mk (N := w.heap.size) (R := w3.heap.size) ((HS.out.below hB3).below (below_new w3 (.cells (teC D X Y Z) 75))) (TeB.new w3 D X Y Z 75) ((HB.out.trans (hB3.mono HB.out.size)).alloc (HB.out.trans (hB3.mono HB.out.size)).size _))
  clear c0 c1 c2 c3 c4 c5 fr lt hB3 HS HB
  go_upto_region 2 with fail
  change Code.wp _ _ _ _ (w3.alloc (.cells (teC D X Y Z) 75))
  generalize w3.heap.size = R at *
  generalize (w3.alloc (.cells (teC D X Y Z) 75)) = W3 at *
  have r1 := HJ.out.c.c1
  rw [HN.out] at r1
  have r12 := HJ.out.c.c12
  have r13 := HJ.out.c.c13
  have r14 := HJ.out.c.c14
  clear HN
  cases nc with
  | true =>
    have hv : V = 0 := hV.symm.trans (if_pos rfl)
    clear hV
    go_wp2_with fail
    go_ret
    exact ⟨retJ hv, HJ.out.l⟩
  | false =>
    have hv : V = X + max Y Z := hV.symm.trans (if_neg (by simp))
    clear hV
    have hmx : 0 ≤ max Y Z ∧ max Y Z ≤ 2147483647000 := by omega
    go_wp2_with fail
    all_goals
      go_ret
      exact ⟨retJ (by first | exact hv | (rw [hv]; omega)), HJ.out.l⟩
set_option maxHeartbeats 8000000 in
set_option maxRecDepth 100000 in
theorem onErr_any (st : Int) (fv : Value) (ps : Flds) (s r a : Int) (b : Bool) (n p : Int) (dd de dl : Option Nat) (w : World) (hr : ReadsQ w fv ps) (hf : FldP ps dd de dl) (hE : EnvL w) :
    Calls Tryz.prog 16 #[stV st fv s r a b, .int .i64 n, .int .i64 p] w fun e w' => e = .returned (.bool (onV (okA s r n) (parseD (allL ps nCC)) (lifV st ps dd de dl) (oneV ps) (topA s a n p))) ∧ Below w.heap.size w w' := by
  have HT := Lib.hid (fun (w : World) (hr : ReadsQ w fv ps) (hE : EnvL w) => terms_any st fv ps s r a b dd de dl w hr hf hE)
  have hX := lifV_bd hf st
  have hY := whiV_bd ps
  have hZ := oneV_bd ps
  have HE := Lib.hid hE
  have HR := Lib.hid hr
  generalize lifV st ps dd de dl = X at *
  generalize whiV ps = Y at *
  generalize oneV ps = Z at *
  generalize parseD (allL ps nCC) = D at *
  clear hr hf hE
  have HB := Lib.hid (below_new w (.cells (stC st fv s r a b) 38))
  have HS := Lib.hid (StB.new w st fv s r a b 38)
  have HA := Lib.hid (fun (w : World) => at_any s r a n p w)
  have htop := fun h => (top_bd (s := s) (r := r) (a := a) (n := n) (p := p) h).2.2
  generalize hV : onV (okA s r n) D X Z (topA s a n p) = V
  generalize hn : D.nc = nc
  have HN := Lib.hid hn
  unfold onV at hV
  rw [hn] at hV
  clear hn
  cases hok : okA s r n with
  | false =>
    rw [atV_no hok] at HA
    rw [hok, Bool.false_and, Bool.false_and] at hV
    subst hV
    clear hok htop
    go_enter Tryz.func16, Tryz.ntmps16
    go_upto_region 1 with fail
    change Code.wp _ _ _ _ (w.alloc (.cells (stC st fv s r a b) 38))
    generalize (w.alloc (.cells (stC st fv s r a b) 38)) = W at *
    obtain ⟨c0, c1, c2, c3, c4, c5, fr, lt⟩ := HS.out
    go_wp2_with fail
    refine (HT.out _ (HR.out.below HB.out) (HE.out.below HB.out)).mono ?_
    rintro e w3 ⟨rfl, hB3⟩
    have HJ := Lib.hid (OeS.mk (N := w.heap.size) (R := w3.heap.size) ((HS.out.below hB3).below (below_new w3 (.cells (teC D X Y Z) 75))) (TeB.new w3 D X Y Z 75) ((HB.out.trans (hB3.mono HB.out.size)).alloc (HB.out.trans (hB3.mono HB.out.size)).size _))
    clear c0 c1 c2 c3 c4 c5 fr lt hB3 HS HB
    go_upto_region 2 with fail
    change Code.wp _ _ _ _ (w3.alloc (.cells (teC D X Y Z) 75))
    generalize w3.heap.size = R at *
    generalize (w3.alloc (.cells (teC D X Y Z) 75)) = W3 at *
    obtain ⟨c0, c1, c2, c3, c4, c5, fr, lt⟩ := HJ.out.a
    go_wp2_with fail
    refine (HA.out _).mono ?_
    rintro e w4 ⟨rfl, hG4⟩
    have HJ4 := Lib.hid (HJ.out.below hG4.below)
    clear c0 c1 c2 c3 c4 c5 fr lt hG4 HJ
    have r1 := HJ4.out.c.c1
    rw [HN.out] at r1
    have r12 := HJ4.out.c.c12
    have r14 := HJ4.out.c.c14
    clear HN
    go_wp2_with fail
    go_ret
    exact ⟨rfl, HJ4.out.l⟩
  | true =>
    rw [atV_yes hok] at HA
    rw [hok, Bool.true_and] at hV
    have HV := Lib.hid hV
    clear hV
    have htop := htop hok
    clear hok
    generalize topA s a n p = U at *
    generalize lowA r n p = L at *
    go_enter Tryz.func16, Tryz.ntmps16
    go_upto_region 1 with fail
    change Code.wp _ _ _ _ (w.alloc (.cells (stC st fv s r a b) 38))
    generalize (w.alloc (.cells (stC st fv s r a b) 38)) = W at *
    obtain ⟨c0, c1, c2, c3, c4, c5, fr, lt⟩ := HS.out
    go_wp2_with fail
    refine (HT.out _ (HR.out.below HB.out) (HE.out.below HB.out)).mono ?_
    rintro e w3 ⟨rfl, hB3⟩
    have HJ := Lib.hid (OeS.mk (N := w.heap.size) (R := w3.heap.size) ((HS.out.below hB3).below (below_new w3 (.cells (teC D X Y Z) 75))) (TeB.new w3 D X Y Z 75) ((HB.out.trans (hB3.mono HB.out.size)).alloc (HB.out.trans (hB3.mono HB.out.size)).size _))
    clear c0 c1 c2 c3 c4 c5 fr lt hB3 HS HB
    go_upto_region 2 with fail
    change Code.wp _ _ _ _ (w3.alloc (.cells (teC D X Y Z) 75))
    generalize w3.heap.size = R at *
    generalize (w3.alloc (.cells (teC D X Y Z) 75)) = W3 at *
    obtain ⟨c0, c1, c2, c3, c4, c5, fr, lt⟩ := HJ.out.a
    go_wp2_with fail
    refine (HA.out _).mono ?_
    rintro e w4 ⟨rfl, hG4⟩
    have HJ4 := Lib.hid (HJ.out.below hG4.below)
    clear c0 c1 c2 c3 c4 c5 fr lt hG4 HJ
    have r1 := HJ4.out.c.c1
    rw [HN.out] at r1
    have r12 := HJ4.out.c.c12
    have r14 := HJ4.out.c.c14
    clear HN
    cases nc with
    | true =>
      have hv : V = false := by rw [← HV.out]; rfl
      clear HV
      subst hv
      go_wp2_with fail
      go_ret
      exact ⟨by first | rfl | exact retB (decide_eq_false (by omega)) | exact retB (decide_eq_true (by omega)), HJ4.out.l⟩
    | false =>
      by_cases hu : U < X + Z
      · have hv : V = true := by rw [← HV.out]; rw [decide_eq_true hu]; rfl
        clear HV
        subst hv
        go_wp2_with fail
        go_ret
        exact ⟨by first | rfl | exact retB (decide_eq_false (by omega)) | exact retB (decide_eq_true (by omega)), HJ4.out.l⟩
      · have hv : V = false := by rw [← HV.out]; rw [decide_eq_false hu]; rfl
        clear HV
        subst hv
        go_wp2_with fail
        go_ret
        exact ⟨by first | rfl | exact retB (decide_eq_false (by omega)) | exact retB (decide_eq_true (by omega)), HJ4.out.l⟩
end Go.Proofs.YtieolalohindgaaGreatDoor

/- Slices of fields that a call made, as slices that are read; appending one field. -/
namespace Go.Proofs.YtieolalohindgaaGreatDoor
open Go.RowKit

theorem ReadsP.q {w : World} {v : Value} {ps : Flds} (h : ReadsP w v ps) : ReadsQ w v ps := by
  obtain ⟨ao, cap, rfl, hc⟩ := h
  refine ⟨ao, cap, rfl, fun j p hj => ?_⟩
  obtain ⟨g, h1, h2, h3, h4⟩ := hc j p hj
  exact ⟨g, 0, h1, h2, by rw [Nat.zero_add]; exact h3, by rw [Nat.zero_add]; exact h4⟩
theorem OwnsP.q {T : TypeId} {B : Nat} {w : World} {v : Value} {ps : Flds} (h : OwnsP T B w v ps) : ReadsQ w v ps := h.reads.q
/-- A slice's length is within its room; a slice that is nil has none. -/
def Sane (v : Value) : Prop := ∀ a n c, v = .slice a n c → n ≤ c ∧ (a = none → c = 0)
theorem OwnsP.sane {T : TypeId} {B : Nat} {w : World} {v : Value} {ps : Flds} (h : OwnsP T B w v ps) : Sane v := by
  rcases h with ⟨hl, ⟨hv, hn⟩ | ⟨g, cap, cur, hv, hb, hg, hn, _⟩⟩
  · intro a n c e; rw [hv] at e; cases e; exact ⟨Nat.le_refl _, fun _ => rfl⟩
  · intro a n c e; rw [hv] at e; cases e; exact ⟨hn, fun h => by cases h⟩
theorem Tryz.infoF : (Tryz.prog.info? 72).map (fun i => (i.zero, i.size, i.bytes)) = some (some (.agg #[.string ByteArray.empty, .string ByteArray.empty]), 2, 32) := by kernel_rfl
theorem own_more {T : TypeId} {B : Nat} {w : World} {v : Value} {ps : Flds} {k : Nat} {p : List UInt8 × List UInt8} (hp : ps[k]? = some p)
    (h : w.ownsRow B T 2 v ((ps.take k).length + 1) (flatP (ps.take k) ++ [strV p.1, strV p.2])) : OwnsP T B w v (ps.take (k + 1)) := by
  have := OwnsP.snoc h
  rw [take_more hp]; exact this
theorem two_new (W : World) (a b : List UInt8) (T : TypeId) : ∀ (j : Nat) (u : Value), [strV a, strV b][j]? = some u →
    (W.alloc (.cells #[.string (strB a), .string (strB b)] T)).cell? ((⟨W.heap.size, 0, none⟩ : Addr).add j) = some u := by
  intro j u h
  rw [Addr.add_lit, Nat.zero_add, World.cell?_alloc_at _ _ _ _ rfl]
  match j, h with
  | 0, h => simpa using h
  | 1, h => simpa using h
  | j + 2, h => simp at h
theorem two_new' (W : World) (a b : List UInt8) (T T' : TypeId) : ∀ (j : Nat) (u : Value), [strV a, strV b][j]? = some u →
    ((W.alloc (.cells #[.string (strB a), .string (strB b)] T)).alloc (.cells #[.string (strB a), .string (strB b)] T')).cell? ((⟨W.heap.size + 1, 0, none⟩ : Addr).add j) = some u := by
  intro j u h
  have := two_new (W.alloc (.cells #[.string (strB a), .string (strB b)] T)) a b T' j u h
  simpa using this

end Go.Proofs.YtieolalohindgaaGreatDoor

/- What small and Fields return, for every list of the reference's fields. -/
namespace Go.Proofs.YtieolalohindgaaGreatDoor
open Go.RowKit

/-- How many bytes the names and values of a list have. -/
def totL (ps : Flds) : Nat := ps.foldr (fun p n => p.1.length + p.2.length + n) 0
def smallB (ps : Flds) : Bool := decide (ps.length ≤ 70 ∧ totL ps ≤ 6000)
theorem tot_app (ps qs : Flds) : totL (ps ++ qs) = totL ps + totL qs := by
  induction ps with
  | nil => simp [totL]
  | cons p r ih => unfold totL at *; rw [List.cons_append, List.foldr_cons, List.foldr_cons, ih]; omega
theorem tot_more {ps : Flds} {k : Nat} {p : List UInt8 × List UInt8} (h : ps[k]? = some p) : totL (ps.take (k + 1)) = totL (ps.take k) + (p.1.length + p.2.length) := by
  rw [take_more h, tot_app]; simp [totL]
theorem tot_le {ps : Flds} {M : Nat} (hb : ∀ p ∈ ps, p.1.length ≤ M ∧ p.2.length ≤ M) (k : Nat) : totL (ps.take k) ≤ k * (M + M) := by
  induction k with
  | zero => simp [totL]
  | succ k ih =>
    cases hp : ps[k]? with
    | none =>
      have e : ps.take (k + 1) = ps.take k := by rw [List.take_add_one, hp]; simp
      rw [e]; exact Nat.le_trans ih (Nat.mul_le_mul_right _ (Nat.le_succ k))
    | some p =>
      rw [tot_more hp, Nat.succ_mul]
      have := hb p (List.mem_of_getElem? hp)
      omega
theorem tot_mem {ps : Flds} {p : List UInt8 × List UInt8} (h : p ∈ ps) : p.1.length + p.2.length ≤ totL ps := by
  induction ps with
  | nil => cases h
  | cons q r ih =>
    have e : totL (q :: r) = q.1.length + q.2.length + totL r := rfl
    rcases List.mem_cons.1 h with rfl | h
    · omega
    · have := ih h; omega
/-- What a small list is: few fields, and none is long. -/
theorem small_yes {ps : Flds} (h : smallB ps = true) : ps.length ≤ 70 ∧ ∀ p ∈ ps, p.1.length + p.2.length ≤ 6000 := by
  have := of_decide_eq_true h
  exact ⟨this.1, fun p hp => Nat.le_trans (tot_mem hp) this.2⟩

set_option maxHeartbeats 2000000 in
set_option maxRecDepth 100000 in
theorem fields_any (lv : Value) (ps : Flds) (w : World) (hr : ReadsQ w lv ps) (hl : ps.length ≤ 10000) (hb : ∀ p ∈ ps, p.1.length + p.2.length ≤ 1000000) :
    Calls Tryz.prog 21 #[lv] w fun e w' => ∃ v, e = .returned v ∧ OwnsP 72 w.heap.size w' v ps ∧ Below w.heap.size w w' := by
  obtain ⟨i0, hi, hz0, hz1, hz2⟩ := info_parts Tryz.infoF
  obtain ⟨ao, cap, rfl, hc⟩ := hr
  have HC := Lib.hid hc
  have HBig := Lib.hid hb
  clear hc hb
  go_enter Tryz.func21, Tryz.ntmps21
  go_wp2_with fail
  go_loopw [3, 8] (fun v i wr => ∃ k : Nat, i = .int .i64 k ∧ k ≤ ps.length ∧ OwnsP 72 w.heap.size wr v (ps.take k) ∧ Below w.heap.size w wr) (fun _ i _ => ps.length - (intOf i).toNat)
  case atStart => exact ⟨0, rfl, Nat.zero_le _, OwnsP.nil _ _ _, Below.refl _ _⟩
  case round =>
    obtain ⟨k, rfl, hk, hO, hBr⟩ := hrel
    have hbr := hBr.size
    by_cases hlt : k < ps.length
    · obtain ⟨p, hp⟩ : ∃ p, ps[k]? = some p := ⟨ps[k], by simp [hlt]⟩
      obtain ⟨g, off, rfl, hg1, h1, h2⟩ := HC.out k p hp
      have hc1 : wr.cell? ⟨g, off + k * 2, none⟩ = some (.string (strB p.1)) := (hBr.cell (p := ⟨g, off + k * 2, none⟩) hg1).trans h1
      have hc2 : wr.cell? ⟨g, off + k * 2 + 1, none⟩ = some (.string (strB p.2)) := (hBr.cell (p := ⟨g, off + k * 2 + 1, none⟩) hg1).trans h2
      have HP := Lib.hid hp
      clear hp h1 h2
      have hlen : (ps.take k).length = k := by simp; omega
      have HLen := Lib.hid hlen
      clear hlen
      go_wp2_with (at_builtin; refine wpList_append_own _ rfl _ _ 35 rfl w.heap.size 72 i0 (.agg #[.string ByteArray.empty, .string ByteArray.empty]) 2 32 Tryz.underlying35 hi hz0 hz1 hz2 rfl (by decide) _ _ _ rfl ((World.ownsRow.alloc hO _).alloc _) ⟨wr.heap.size + 1, 0, none⟩ 1 1 [strV p.1, strV p.2] rfl rfl (two_new' wr p.1 p.2 _ _) (fun u hu => by simp at hu; rcases hu with rfl | rfl <;> rfl) (by rw [HLen.out]; unfold maxLen; omega) (by rw [HLen.out]; omega) (by simp; omega) ?_; intro v' w4 hown' hgrow _)
      go_roundw
      case rel => exact ⟨k + 1, by go_num, by omega, own_more HP.out hown', below_appendP hBr hbr (below_new wr _) hO hgrow⟩
      case measure => simp [intOf]; omega
    · have htk : ps.take k = ps := List.take_of_length_le (by omega)
      rw [htk] at hO
      go_wp2_with fail
      go_ret
      exact ⟨_, rfl, hO, hBr⟩
end Go.Proofs.YtieolalohindgaaGreatDoor
