/- A length beside a coding, and a coding beside a length, among the fields of a request: refused, and ambiguous. -/
import Derived.Test.YthjkneifffdglaaDoorJLaw2
import Derived.Test.YthjkneifffdglaaDoorJApp
import Derived.Test.YthjkneifffdglaaDoorFAll
import Derived.Test.YthjkneifffdglaaDoorIs
namespace Go.Proofs.YthjkneifffdglaaDoor
open Go.RowKit

theorem flatF_get : ∀ (ps : Flds) (j : Nat) (u : Value), (flatP ps)[j]? = some u → ∃ i p, ps[i]? = some p ∧ ((j = i * 2 ∧ u = strV p.1) ∨ (j = i * 2 + 1 ∧ u = strV p.2)) := by
  intro ps
  induction ps with
  | nil => intro j u h; simp [flatP] at h
  | cons q r ih =>
    intro j u h
    have e : flatP (q :: r) = strV q.1 :: strV q.2 :: flatP r := rfl
    rw [e] at h
    match j, h with
    | 0, h => simp at h; exact ⟨0, q, rfl, .inl ⟨rfl, h.symm⟩⟩
    | 1, h => simp at h; exact ⟨0, q, rfl, .inr ⟨rfl, h.symm⟩⟩
    | j + 2, h =>
      obtain ⟨i, p, hi, hc⟩ := ih j u (by simpa using h)
      exact ⟨i + 1, p, by simpa using hi, by rcases hc with ⟨rfl, hu⟩ | ⟨rfl, hu⟩
                                             · exact .inl ⟨by omega, hu⟩
                                             · exact .inr ⟨by omega, hu⟩⟩
theorem flatF_one (ps : Flds) : ∀ u ∈ flatP ps, u.oneCell' = true := by
  intro u hu
  obtain ⟨j, hj⟩ := List.getElem?_of_mem hu
  obtain ⟨i, p, _, h | h⟩ := flatF_get ps j u hj <;> rw [h.2] <;> rfl
theorem readsF_src {w : World} {ad : Addr} {n cap : Nat} {ps : Flds} (h : ReadsQ w (.slice (some ad) n cap) ps) : n = ps.length ∧ ∀ j u, (flatP ps)[j]? = some u → w.cell? (ad.add j) = some u := by
  obtain ⟨ao, c, hv, hc⟩ := h
  simp only [Value.slice.injEq] at hv
  obtain ⟨rfl, rfl, rfl⟩ := hv
  refine ⟨rfl, fun j u hj => ?_⟩
  obtain ⟨i, p, hi, hu⟩ := flatF_get ps j u hj
  obtain ⟨g, off, ha, _, h1, h2⟩ := hc i p hi
  obtain rfl : ad = ⟨g, off, none⟩ := Option.some.inj ha
  rcases hu with ⟨rfl, rfl⟩ | ⟨rfl, rfl⟩
  · rw [Addr.add_lit]; exact h1
  · rw [Addr.add_lit, ← Nat.add_assoc]; exact h2
theorem readsF_none {w : World} {n cap : Nat} {ps : Flds} (h : ReadsQ w (.slice none n cap) ps) : ps = [] ∧ n = 0 := by
  obtain ⟨ao, c, hv, hc⟩ := h
  simp only [Value.slice.injEq] at hv
  obtain ⟨rfl, rfl, rfl⟩ := hv
  cases ps with
  | nil => exact ⟨rfl, rfl⟩
  | cons p r => obtain ⟨g, off, ha, _⟩ := hc 0 p rfl; cases ha
theorem own_appF {T : TypeId} {B : Nat} {w : World} {v : Value} {ps qs : Flds} (h : w.ownsRow B T 2 v (ps.length + qs.length) (flatP ps ++ flatP qs)) : OwnsP T B w v (ps ++ qs) := by
  unfold OwnsP
  have e : flatP (ps ++ qs) = flatP ps ++ flatP qs := by simp [flatP]
  rw [e, List.length_append]; exact h
/-- An append of fields that are read to a slice of fields that the call made. -/
theorem wpList_appendF {B : Nat} {w : World} {ops : Array Oper} {rest : List Oper} {o : Oper} {a : Act} {Q : Exit → Act → World → Prop} (hw : Region.wanted o (yielded ops a.tmps) = true) (s x : Operand)
    (ho : o.op = .call { callee := .builtin .append, args := #[s, x], argTypes := #[34, 34] }) (v v2 : Value) (hs : a.eval s = v) (hx : a.eval x = v2) {ps qs : Flds} (hown : OwnsP 57 B w v ps) (hr : ReadsQ w v2 qs) (hp : Sane v2)
    (hn : ps.length + qs.length ≤ 100000) (hB : B ≤ w.heap.size) (h : ∀ v' w', OwnsP 57 B w' v' (ps ++ qs) → w.grownBy w' v.ownBlock → wpList Tryd.prog ops Q rest (a.put o.dst v') w') :
    wpList Tryd.prog ops Q (o :: rest) a w := by
  obtain ⟨i0, hi, hz0, hz1, hz2⟩ := info_parts Tryd.infoF
  refine BigFrame.wpList_want hw fun K hK => ?_
  obtain ⟨ao, cap, rfl, hc⟩ := id hr
  cases ao with
  | none =>
    obtain ⟨rfl, _⟩ := readsF_none hr
    obtain rfl := (hp _ _ _ rfl).2 rfl
    have hrun := run_append_owned_none (P := Tryd.prog) (w := w) B 34 o.type 57 i0 2 Tryd.underlying34 hi v ps.length (flatP ps) hown
    unfold Oper.wp
    simp [execOp, ho, resolve, invoke, builtin, hs, hx, hrun, Result.andThen]
    exact hK _ _ (h v w (by rw [List.append_nil]; exact hown) ⟨rfl, rfl, rfl, Nat.le_refl _, fun _ _ _ => rfl⟩)
  | some ad =>
    obtain ⟨_, hs'⟩ := readsF_src hr
    exact wp_append_own w s x 34 ho B 57 i0 _ 2 32 Tryd.underlying34 hi hz0 hz1 hz2 rfl (by decide) v ps.length (flatP ps) hs hown ad qs.length cap (flatP qs) hx (flatP_len qs) hs' (flatF_one qs) (by unfold maxLen; omega) (by omega) hB
      fun v' w' h1 h2 _ => hK _ _ (h v' w' (own_appF h1) h2)
theorem below_appendF {T : TypeId} {B : Nat} {a w w2 : World} {v : Value} {ps : Flds} (hB : Below B a w) (hBs : B ≤ w.heap.size) (hown : OwnsP T B w v ps) (hgrow : w.grownBy w2 v.ownBlock) : Below B a w2 :=
  hB.grown hgrow hBs (fun q hq => (World.ownsRow.lt hown q hq).1)
/-- What stands before a place in a slice that is read, and what stands from it on. -/
theorem reads_pre {w : World} {g cap : Nat} {ps : Flds} (k : Nat) (hk : k ≤ ps.length) (h : ReadsQ w (.slice (some ⟨g, 0, none⟩) ps.length cap) ps) : ReadsQ w (.slice (some ⟨g, 0, none⟩) k cap) (ps.take k) := by
  obtain ⟨ao, c, hv, hc⟩ := h
  simp only [Value.slice.injEq] at hv
  obtain ⟨rfl, _, rfl⟩ := hv
  refine ⟨_, cap, by rw [List.length_take, Nat.min_eq_left hk], fun j p hj => ?_⟩
  have hjk : j < k := by have := (List.getElem?_eq_some_iff.mp hj).1; rw [List.length_take] at this; omega
  rw [List.getElem?_take_of_lt hjk] at hj
  exact hc j p hj
theorem reads_post {w : World} {g cap c2 : Nat} {ps : Flds} (k : Nat) (_hk : k ≤ ps.length) (h : ReadsQ w (.slice (some ⟨g, 0, none⟩) ps.length cap) ps) : ReadsQ w (.slice (some ⟨g, k * 2, none⟩) (ps.length - k) c2) (ps.drop k) := by
  obtain ⟨ao, c, hv, hc⟩ := h
  simp only [Value.slice.injEq] at hv
  obtain ⟨rfl, _, rfl⟩ := hv
  refine ⟨_, c2, by rw [List.length_drop], fun j p hj => ?_⟩
  rw [List.getElem?_drop] at hj
  obtain ⟨g', off, ha, h1, h2, h3⟩ := hc (k + j) p hj
  simp only [Option.some.injEq, Addr.mk.injEq, and_true] at ha
  obtain ⟨rfl, rfl⟩ := ha
  refine ⟨g, k * 2, rfl, h1, ?_, ?_⟩
  · rw [← h2]; congr 2; omega
  · rw [← h3]; congr 2; omega

def CLN : List UInt8 := [67, 111, 110, 116, 101, 110, 116, 45, 76, 101, 110, 103, 116, 104]
def TEN : List UInt8 := [84, 114, 97, 110, 115, 102, 101, 114, 45, 69, 110, 99, 111, 100, 105, 110, 103]
/-- The fields with one more at a place. -/
def insF (ps : Flds) (k : Nat) (p : List UInt8 × List UInt8) : Flds := ps.take k ++ [p] ++ ps.drop k
theorem all_ins_yes {ps : Flds} {k : Nat} {p : List UInt8 × List UInt8} {n : List UInt8} (h : ofN n p = true) (h0 : allL ps n = []) : allL (insF ps k p) n = [p.2] := by
  have h1 : allL (ps.take k) n = [] ∧ allL (ps.drop k) n = [] := by
    have := all_app (ps.take k) (ps.drop k) n
    rw [List.take_append_drop, h0] at this
    exact List.append_eq_nil_iff.1 this.symm
  unfold insF
  rw [all_app, all_app, h1.1, h1.2]
  unfold allL; simp [h]
theorem all_ins_no {ps : Flds} {k : Nat} {p : List UInt8 × List UInt8} {n : List UInt8} (h : ofN n p = false) : allL (insF ps k p) n = allL ps n := by
  unfold insF
  rw [all_app, all_app]
  have e : allL [p] n = [] := by unfold allL; simp [h]
  rw [e, List.append_nil, ← all_app, List.take_append_drop]
theorem ins_fits {ps : Flds} {k : Nat} {p : List UInt8 × List UInt8} (h : ps.length ≤ 80 ∧ totL ps ≤ 4000) (hp : p.1.length + p.2.length ≤ 100) : Fits (insF ps k p) := by
  have e : totL ps = totL (ps.take k) + totL (ps.drop k) := by rw [← tot_app, List.take_append_drop]
  refine ⟨?_, ?_⟩
  · unfold insF; simp; omega
  · unfold insF; rw [tot_app, tot_app]
    have : totL [p] = p.1.length + p.2.length := by simp [totL]
    omega
/-- Two digits. -/
def dig2 (n : Nat) : List UInt8 := [UInt8.ofNat (48 + n / 10 % 10), UInt8.ofNat (48 + n % 10)]
theorem dig2_num (n : Nat) : ∃ m, numO (dig2 n) = some m := by
  refine ⟨fnV (dig2 n), ?_⟩
  unfold numO
  rw [if_pos]
  refine ⟨by simp [dig2], by simp [dig2], ?_⟩
  simp only [dig2, List.all_cons, List.all_nil, Bool.and_true, Bool.and_eq_true]
  have h1 : n / 10 % 10 < 10 := Nat.mod_lt _ (by decide)
  have h2 : n % 10 < 10 := Nat.mod_lt _ (by decide)
  have hf : ∀ x : Nat, x < 10 → fdB (UInt8.ofNat (48 + x)) = true := by
    intro x hx
    have e : (UInt8.ofNat (48 + x)).toNat = 48 + x := by rw [UInt8.toNat_ofNat']; omega
    unfold fdB
    rw [e, Bool.and_eq_true, decide_eq_true_eq, decide_eq_true_eq]; omega
  exact ⟨hf _ h1, hf _ h2⟩
theorem smug_length {ps : Flds} {k n z : Nat} (h : ofO 1 (lsF ps) (csF ps) = (0, 3, z)) : ofO 1 (lsF (insF ps k (CLN, dig2 n))) (csF (insF ps k (CLN, dig2 n))) = (31, 0, 0) ∧ lenP (insF ps k (CLN, dig2 n)) true ≠ lenP (insF ps k (CLN, dig2 n)) false := by
  obtain ⟨m, hm⟩ := dig2_num n
  obtain ⟨h1, h2, h3, h4⟩ := ofS_smuggle_length (ls := lsF ps) (cs := csF ps) h hm
  have e1 : lsF (insF ps k (CLN, dig2 n)) = [dig2 n] := all_ins_yes (by show decide (lowS CLN = lowS clN) = true; decide) h1
  have e2 : csF (insF ps k (CLN, dig2 n)) = csF ps := all_ins_no (by show decide (lowS CLN = lowS teN) = false; decide)
  refine ⟨?_, ?_⟩
  · rw [e1, e2]; exact h2
  · unfold lenP; rw [e1, e2, h3, h4]; simp
theorem smug_coding {ps : Flds} {k z : Nat} (h : ofO 1 (lsF ps) (csF ps) = (0, 2, z)) : ofO 1 (lsF (insF ps k (TEN, chunkedL))) (csF (insF ps k (TEN, chunkedL))) = (31, 0, 0) ∧ lenP (insF ps k (TEN, chunkedL)) true ≠ lenP (insF ps k (TEN, chunkedL)) false := by
  obtain ⟨h1, h2, h3, h4⟩ := ofS_smuggle_coding (ls := lsF ps) (cs := csF ps) h
  have e1 : csF (insF ps k (TEN, chunkedL)) = [chunkedL] := all_ins_yes (by show decide (lowS TEN = lowS teN) = true; decide) h1
  have e2 : lsF (insF ps k (TEN, chunkedL)) = lsF ps := all_ins_no (by show decide (lowS TEN = lowS clN) = false; decide)
  refine ⟨?_, ?_⟩
  · rw [e1, e2]; exact h2
  · unfold lenP; rw [e1, e2, h3, h4]; simp
theorem reads_nilq {w : World} {ao : Option Addr} {c : Nat} {ps : Flds} {k : Nat} (h : ps.length ≤ k) : ReadsQ w (.slice ao (ps.length - k) c) (ps.drop k) := by
  refine ⟨ao, c, by rw [List.length_drop], fun j p hj => ?_⟩
  rw [List.drop_of_length_le h] at hj
  simp at hj
theorem sane_cut {a : Addr} {k c : Nat} (h : (k : Int) ≤ (c : Int)) : Sane (.slice (some a) k c) := fun x n m e => by cases e; exact ⟨by omega, fun h => by cases h⟩
theorem conv_two (n : Nat) (W : World) :
    (convert 55 9 (.slice (some ⟨W.heap.size, 0, none⟩) 2 2)).run Tryd.prog (W.alloc (.cells #[.int .u8 (48 + (n : Int) / 10 % 10), .int .u8 (48 + (n : Int) % 10)] 5)) = .ok (.string (strB (dig2 n))) (W.alloc (.cells #[.int .u8 (48 + (n : Int) / 10 % 10), .int .u8 (48 + (n : Int) % 10)] 5)) :=
  run_convert_bytes_back _ _ _ 5 ⟨W.heap.size, 0, none⟩ 2 (dig2 n) Tryd.underlying55 Tryd.underlying5 Tryd.underlying9 (fun j hj => by
    have e : ∀ x : Nat, x < 10 → ((UInt8.ofNat (48 + x)).toNat : Int) = 48 + (x : Int) := by
      intro x hx
      rw [UInt8.toNat_ofNat']; omega
    have h1 := e (n / 10 % 10) (Nat.mod_lt _ (by decide))
    have h2 := e (n % 10) (Nat.mod_lt _ (by decide))
    rw [Addr.add_lit, Nat.zero_add, World.cell?_alloc_at _ _ _ _ rfl]
    match j, hj with
    | 0, _ => show some (Value.int .u8 (48 + (n : Int) / 10 % 10)) = some (.int .u8 ((UInt8.ofNat (48 + n / 10 % 10)).toNat : Int)); rw [h1]; simp
    | 1, _ => show some (Value.int .u8 (48 + (n : Int) % 10)) = some (.int .u8 ((UInt8.ofNat (48 + n % 10)).toNat : Int)); rw [h2]; simp
    | j + 2, hj => exact absurd hj (by simp [dig2]))
set_option maxHeartbeats 4000000 in
set_option maxRecDepth 100000 in
theorem fr_smuggles_walk (m t : List UInt8) (v : Value) (ps : List (List UInt8 × List UInt8)) (at8 n16 : Nat) (w : World) (hM : HasMax w)
    (hg : m.length ≤ 140737488355328 ∧ t.length ≤ 140737488355328 ∧ ReadsQ w v ps ∧ ps.length ≤ maxLen ∧ (∀ q ∈ ps, q.1.length ≤ 140737488355328 ∧ q.2.length ≤ 140737488355328)) (ha : at8 < 256) (hn16 : n16 < 65536) :
    Calls Tryd.prog 6 #[.agg #[.string (strB m), .string (strB t), v], .int .u8 (at8 : Int), .int .u16 (n16 : Int)] w fun e w' => e = .returned (.bool true) ∧ Below w.heap.size w w' := by
  obtain ⟨hm, ht, hr, hpl, hpb⟩ := hg
  have HR := Lib.hid hr
  have HM := Lib.hid hM
  have F := Lib.hid (fun W (hr : ReadsQ W v ps) => fits6_any v ps W hr (by unfold maxLen at hpl; omega) hpb)
  obtain ⟨ao, cap, rfl, hc⟩ := hr
  have hB0 : Below w.heap.size w (w.alloc (.cells #[.string (strB m), .string (strB t), .slice ao ps.length cap] 24)) := below_new _ _
  clear hc hpl hpb hM
  go_enter Tryd.func6, Tryd.ntmps6
  go_wp2_with fail
  refine (awake6_any _).mono ?_
  rintro e w1 ⟨rfl, hB1⟩
  obtain ⟨b0, b1, b2, bz⟩ := trio_kept w hB1
  have hBx := hB0.trans (hB1.mono hB0.size)
  go_wp2_with fail
  refine (F.out _ (HR.out.below hBx)).mono ?_
  rintro e w2 ⟨rfl, hB2⟩
  have hB12 := hB1.trans (hB2.mono hB1.size)
  have hBy := hB0.trans (hB12.mono hB0.size)
  clear b0 b1 b2 bz hB1 hB2 hBx
  obtain ⟨b0, b1, b2, bz⟩ := trio_kept w hB12
  cases hfit : fits6B ps with
  | false =>
    go_wp2_with fail
    refine (awake6_any _).mono ?_
    rintro e w3 ⟨rfl, hB3⟩
    go_wp2_with fail
    go_ret
    exact ⟨rfl, hBy.trans (hB3.mono hBy.size)⟩
  | true =>
    have hf := fits6_Fits hfit
    have hfe := hf.each
    have hf1 : ps.length ≤ 100 := hf.1
    have Q := Lib.hid (fun W (hr : ReadsQ W (.slice ao ps.length cap) ps) => request_any m t (.slice ao ps.length cap) ps W hr (by omega) hfe)
    have P := Lib.hid (fun v W (hr : ReadsQ W v ps) => ofRequest_any m t v ps W hr hf)
    unfold OfRes at P
    have SL := Lib.hid (fun k z (h : ofO 1 (lsF ps) (csF ps) = (0, 3, z)) => smug_length (k := k) (n := n16) h)
    have SC := Lib.hid (fun k z (h : ofO 1 (lsF ps) (csF ps) = (0, 2, z)) => smug_coding (k := k) h)
    have FI := Lib.hid (fun k p (hp : p.1.length + p.2.length ≤ 100) => ins_fits (k := k) (p := p) (fits6_yes hfit) hp)
    have AG := Lib.hid (fun k n (h : ofO 1 (lsF ps) (csF ps) = (0, k, n)) => ofS_agrees h)
    have NE : Hid (ps = [] → ofO 1 (lsF ps) (csF ps) = (0, 1, 0)) := Lib.hid fun h => by rw [h]; rfl
    generalize hr0 : ofO 1 (lsF ps) (csF ps) = r at *
    obtain ⟨c, k, n⟩ := r
    clear hf hfe hfit hr0
    go_wp2_with fail
    refine (Q.out _ (HR.out.below hBy)).mono ?_
    rintro e w3 ⟨a3, n3, c3, rfl, hO3, hB3⟩
    obtain ⟨ao3, cp3, hv3, hcc⟩ := hO3.reads
    injection hv3 with q1 q2 q3
    subst q1 q2 q3
    have HG : Hid (∀ (h : 0 < ps.length), ∃ g, a3 = some ⟨g, 0, none⟩) := Lib.hid fun h => by
      obtain ⟨g, h1, _⟩ := hcc 0 (ps[0]'h) (by simp)
      exact ⟨g, h1⟩
    have hcap : ps.length ≤ c3 := (OwnsP.sane hO3 _ _ _ rfl).1
    clear hcc
    have hBz := hBy.trans (hB3.mono hBy.size)
    have hbn := below_new w3 (.cells #[.string (strB m), .string (strB t), .slice a3 ps.length c3] 36)
    have hR3 := hO3.q.below hbn
    have P := P.out _ _ hR3
    have HO3 := Lib.hid (OwnsP.below hO3 hbn)
    have HB := Lib.hid (hBz.trans (hbn.mono hBz.size))
    have hle3 : w.heap.size ≤ w3.heap.size := hBz.size
    clear b0 b1 b2 bz hB12 hB3 hBy hO3 hBz hR3 hbn
    go_wp2_with fail
    refine P.mono ?_
    rintro e w4 ⟨rfl, hB4⟩
    obtain ⟨y0, y1, y2, yz⟩ := trio_kept w3 hB4
    have yf : w4.frozen? ⟨w3.heap.size, 2, none⟩ = false := (hB4.frozen (p := ⟨w3.heap.size, 2, none⟩) (by simp)).trans (World.frozen?_alloc_at _ _ _ _ rfl)
    have hO4 := OwnsP.below HO3.out hB4
    have HB4 := Lib.hid (HB.out.trans (hB4.mono HB.out.size))
    by_cases hc0 : c = 0
    · subst hc0
      rw [show errV 0 = .nilIface from rfl]
      by_cases hk1 : k = 1
      · have e1 : ((k : Int) == 1) = true := by rw [hk1]; rfl
        clear hk1 P
        go_wp2_with fail
        go_ret
        exact ⟨rfl, HB4.out.alloc HB4.out.size _⟩
      · have hps : 0 < ps.length := by
          cases ps with
          | nil => have := NE.out rfl; simp at this; exact absurd this.1 hk1
          | cons a b => simp
        have e1 : ((k : Int) == 1) = false := by rw [beq_eq_false_iff_ne]; omega
        obtain ⟨g, rfl⟩ := HG.out hps
        obtain ⟨_, hk1', hk3, _⟩ := AG.out k n rfl
        have hcv := conv_two n16 (w4.alloc (.cells #[.int .i64 (k : Int), .int .i64 (n : Int)] 28))
        rw [show (w4.alloc (.cells #[.int .i64 (k : Int), .int .i64 (n : Int)] 28)).heap.size = w4.heap.size + 1 by simp] at hcv
        obtain ⟨kk, hkk⟩ : ∃ kk, kk = at8 % (ps.length + 1) := ⟨_, rfl⟩
        have hkl : kk ≤ ps.length := by have := Nat.mod_lt at8 (show 0 < ps.length + 1 by omega); omega
        have hki : (at8 : Int) % ((ps.length : Int) + 1) = (kk : Int) := by rw [hkk]; simp
        have hk0 : (0 : Int) ≤ (kk : Int) := by omega
        have hkl' : (kk : Int) ≤ (ps.length : Int) := by omega
        have hkc' : (kk : Int) ≤ (c3 : Int) := by omega
        clear hkk P
        have hk23 : k = 2 ∨ k = 3 := by omega
        clear hk1 hk1' hk3
        rcases hk23 with hk2 | hk2
        · have e2 : ((k : Int) == 2) = true := by rw [hk2]; rfl
          have HSM := Lib.hid (SC.out kk n (by rw [hk2]))
          clear hk2 SC SL
          go_upto_region 10 with fail
          have hB5 : Below w4.heap.size w4 (((w4.alloc (.cells #[.int .i64 (k : Int), .int .i64 (n : Int)] 28)).alloc (.cells #[.int .u8 (48 + (n16 : Int) / 10 % 10), .int .u8 (48 + (n16 : Int) % 10)] 5)).alloc (.cells #[.string ⟨#[84, 114, 97, 110, 115, 102, 101, 114, 45, 69, 110, 99, 111, 100, 105, 110, 103]⟩, .string ⟨#[99, 104, 117, 110, 107, 101, 100]⟩] 57)) := ((below_new w4 _).alloc (by simp) _).alloc (by simp; omega) _
          have x0 : (((w4.alloc (.cells #[.int .i64 (k : Int), .int .i64 (n : Int)] 28)).alloc (.cells #[.int .u8 (48 + (n16 : Int) / 10 % 10), .int .u8 (48 + (n16 : Int) % 10)] 5)).alloc (.cells #[.string ⟨#[84, 114, 97, 110, 115, 102, 101, 114, 45, 69, 110, 99, 111, 100, 105, 110, 103]⟩, .string ⟨#[99, 104, 117, 110, 107, 101, 100]⟩] 57)).cell? ⟨w4.heap.size + 1 + 1, 0, none⟩ = some (.string (strB TEN)) := by rw [World.cell?_alloc_at _ _ _ _ (by simp)]; rfl
          have x1 : (((w4.alloc (.cells #[.int .i64 (k : Int), .int .i64 (n : Int)] 28)).alloc (.cells #[.int .u8 (48 + (n16 : Int) / 10 % 10), .int .u8 (48 + (n16 : Int) % 10)] 5)).alloc (.cells #[.string ⟨#[84, 114, 97, 110, 115, 102, 101, 114, 45, 69, 110, 99, 111, 100, 105, 110, 103]⟩, .string ⟨#[99, 104, 117, 110, 107, 101, 100]⟩] 57)).cell? ⟨w4.heap.size + 1 + 1, 1, none⟩ = some (.string (strB chunkedL)) := by rw [World.cell?_alloc_at _ _ _ _ (by simp)]; rfl
          have xz : w4.heap.size + 1 + 1 < (((w4.alloc (.cells #[.int .i64 (k : Int), .int .i64 (n : Int)] 28)).alloc (.cells #[.int .u8 (48 + (n16 : Int) / 10 % 10), .int .u8 (48 + (n16 : Int) % 10)] 5)).alloc (.cells #[.string ⟨#[84, 114, 97, 110, 115, 102, 101, 114, 45, 69, 110, 99, 111, 100, 105, 110, 103]⟩, .string ⟨#[99, 104, 117, 110, 107, 101, 100]⟩] 57)).heap.size := by simp
          generalize (((w4.alloc (.cells #[.int .i64 (k : Int), .int .i64 (n : Int)] 28)).alloc (.cells #[.int .u8 (48 + (n16 : Int) / 10 % 10), .int .u8 (48 + (n16 : Int) % 10)] 5)).alloc (.cells #[.string ⟨#[84, 114, 97, 110, 115, 102, 101, 114, 45, 69, 110, 99, 111, 100, 105, 110, 103]⟩, .string ⟨#[99, 104, 117, 110, 107, 101, 100]⟩] 57)) = W5 at *
          generalize hpp : ((TEN, chunkedL) : List UInt8 × List UInt8) = pp at *
          rw [show TEN = pp.1 by rw [← hpp]] at x0
          rw [show chunkedL = pp.2 by rw [← hpp]] at x1
          have hpl : pp.1.length + pp.2.length ≤ 100 := by rw [← hpp]; simp [TEN, chunkedL]
          clear hpp
          have z0 := (hB5.cell (p := ⟨w3.heap.size, 0, none⟩) yz).trans y0
          have z1 := (hB5.cell (p := ⟨w3.heap.size, 1, none⟩) yz).trans y1
          have z2 := (hB5.cell (p := ⟨w3.heap.size, 2, none⟩) yz).trans y2
          have zf := (hB5.frozen (p := ⟨w3.heap.size, 2, none⟩) yz).trans yf
          have zz := Nat.lt_of_lt_of_le yz hB5.size
          have hz5 := hB5.size
          have hR5 := hO4.q.below hB5
          have HP := Lib.hid (reads_pre kk hkl hR5)
          clear hO4 y0 y1 y2 yf hcv HB HO3 hB4 HG
          go_upto_region 13 with (at_builtin; refine wpList_appendF rfl _ _ rfl _ _ rfl rfl (OwnsP.nil _ W5.heap.size _) HP.out (sane_cut hkc') (by simp; omega) (Nat.le_refl _) ?_; intro v6 w6 hO6 hg6)
          have hB6 : Below W5.heap.size W5 w6 := below_appendF (Below.refl _ _) (Nat.le_refl _) (OwnsP.nil 57 W5.heap.size W5) hg6
          have u0 := (hB6.cell (p := ⟨w4.heap.size + 1 + 1, 0, none⟩) xz).trans x0
          have u1 := (hB6.cell (p := ⟨w4.heap.size + 1 + 1, 1, none⟩) xz).trans x1
          have hz6 := hB6.size
          have hn6 := below_new w6 (.cells #[.string (strB pp.1), .string (strB pp.2)] 57)
          have HO6 := Lib.hid (OwnsP.below hO6 hn6)
          have HR6 := Lib.hid (reads_new1 w6 pp.1 pp.2 57)
          have HB6 := Lib.hid (hB6.alloc hz6 (.cells #[.string (strB pp.1), .string (strB pp.2)] 57))
          clear hO6 hg6 hn6 x0 x1 hB6
          go_upto_region 14 with (at_builtin; refine wpList_appendF rfl _ _ rfl _ _ rfl rfl HO6.out HR6.out (sane_cut (by omega)) (by simp; omega) (by simp; omega) ?_; intro v7 w7 hO7 hg7)
          have hB7 : Below W5.heap.size W5 w7 := below_appendF HB6.out (by simp; omega) HO6.out hg7
          have hz7 := hB7.size
          have HO7 := Lib.hid hO7
          have HQ := Lib.hid (reads_post (c2 := c3 - kk) kk hkl (hR5.below hB7))
          have q2 := (hB7.cell (p := ⟨w3.heap.size, 2, none⟩) zz).trans z2
          clear hO7 hg7 u0 u1 HR6 HB6 HO6 HP hR5
          have HN := Lib.hid (fun (ao : Option Addr) (c : Nat) (h : c3 = kk) => reads_nilq (w := w7) (ao := ao) (c := c) (ps := ps) (k := kk) (by omega))
          by_cases hck : c3 = kk
          · have HN := Lib.hid (fun ao c => HN.out ao c hck)
            go_upto_region 15 with (at_builtin; refine wpList_appendF (qs := ps.drop kk) rfl _ _ rfl _ _ rfl rfl HO7.out (by first | exact HN.out _ _ | exact HQ.out) (sane_cut (by omega)) (by simp; omega) (by omega) ?_; intro v8 w8 hO8 hg8)
            have hB8 : Below W5.heap.size W5 w8 := below_appendF hB7 hz7 HO7.out hg8
            rw [List.nil_append] at hO8
            have hO8 : OwnsP 57 W5.heap.size w8 v8 (insF ps kk pp) := hO8
            obtain ⟨ao8, c8, rfl, _⟩ := hO8.reads
            have r0 := (hB8.cell (p := ⟨w3.heap.size, 0, none⟩) zz).trans z0
            have r1 := (hB8.cell (p := ⟨w3.heap.size, 1, none⟩) zz).trans z1
            have r2 := (hB8.cell (p := ⟨w3.heap.size, 2, none⟩) zz).trans z2
            have rf := (hB8.frozen (p := ⟨w3.heap.size, 2, none⟩) zz).trans zf
            have rz := Nat.lt_of_lt_of_le zz hB8.size
            have hne : ∀ k, (Value.slice ao8 (insF ps kk pp).length c8).ownBlock ≠ some (⟨w3.heap.size, k, none⟩ : Addr).block := fun k hq => by have := (World.ownsRow.lt hO8 _ hq).1; simp at this; omega
            have hB8w : Below w.heap.size w w8 := HB4.out.trans ((hB5.trans (hB8.mono hB5.size)).mono HB4.out.size)
            have hB9 : Below w.heap.size w (w8.setCell ⟨w3.heap.size, 2, none⟩ (.slice ao8 (insF ps kk pp).length c8)) := hB8w.setCell (p := ⟨w3.heap.size, 2, none⟩) hle3 _
            have hO9 : OwnsP 57 W5.heap.size (w8.setCell ⟨w3.heap.size, 2, none⟩ (.slice ao8 (insF ps kk pp).length c8)) (.slice ao8 (insF ps kk pp).length c8) (insF ps kk pp) := ownsRow_setCell_other hO8 (hne 2) _
            have s0 : (w8.setCell ⟨w3.heap.size, 2, none⟩ (.slice ao8 (insF ps kk pp).length c8)).cell? ⟨w3.heap.size, 0, none⟩ = some (.string (strB m)) := by rw [World.cell?_setCell_other _ _ _ _ (by simp)]; exact r0
            have s1 : (w8.setCell ⟨w3.heap.size, 2, none⟩ (.slice ao8 (insF ps kk pp).length c8)).cell? ⟨w3.heap.size, 1, none⟩ = some (.string (strB t)) := by rw [World.cell?_setCell_other _ _ _ _ (by simp)]; exact r1
            have s2 : (w8.setCell ⟨w3.heap.size, 2, none⟩ (.slice ao8 (insF ps kk pp).length c8)).cell? ⟨w3.heap.size, 2, none⟩ = some (.slice ao8 (insF ps kk pp).length c8) := World.cell?_setCell_same _ _ _ r2
            have sz : w3.heap.size < (w8.setCell ⟨w3.heap.size, 2, none⟩ (.slice ao8 (insF ps kk pp).length c8)).heap.size := by simpa using rz
            go_upto_region 16 with fail
            generalize (w8.setCell ⟨w3.heap.size, 2, none⟩ (.slice ao8 (insF ps kk pp).length c8)) = w9 at *
            have P9 := ofRequest_any m t _ _ w9 hO9.q (FI.out kk pp hpl)
            have A9 := Lib.hid (fun W (hr : ReadsQ W (.slice ao8 (insF ps kk pp).length c8) (insF ps kk pp)) hM => ambiguous_any m t (.slice ao8 (insF ps kk pp).length c8) (insF ps kk pp) W hr (FI.out kk pp hpl) hM)
            rw [HSM.out.1] at P9
            rw [show decide (lenP (insF ps kk pp) true ≠ lenP (insF ps kk pp) false) = true from decide_eq_true HSM.out.2] at A9
            have P9 : Calls Tryd.prog 12 #[.agg #[.string (strB m), .string (strB t), .slice ao8 (insF ps kk pp).length c8]] w9 (fun e w' => e = .returned (.tuple #[.agg #[.int .i64 0, .int .i64 0], .iface 59 (.int .i64 31)]) ∧ Below w9.heap.size w9 w') := P9
            have HQ9 := Lib.hid hO9.q
            have HB9 := Lib.hid hB9
            clear hO8 hO9 hB8 hB8w hB9 hne r0 r1 r2 rf rz hB5 hg8 hB7 z0 z1 z2 zf zz yz HQ HN HO7 HB4
            generalize hins : insF ps kk pp = qs at *
            clear hins
            go_wp2_with fail
            refine P9.mono ?_
            rintro e w10 ⟨rfl, hB10⟩
            have t0 := (hB10.cell (p := ⟨w3.heap.size, 0, none⟩) sz).trans s0
            have t1 := (hB10.cell (p := ⟨w3.heap.size, 1, none⟩) sz).trans s1
            have t2 := (hB10.cell (p := ⟨w3.heap.size, 2, none⟩) sz).trans s2
            have hB10w := HB9.out.trans (hB10.mono HB9.out.size)
            have A9 := A9.out w10 (HQ9.out.below hB10) (HM.out.below hB10w)
            clear s0 s1 s2 sz P9
            go_wp2_with fail
            refine (is_errno 31 (by decide) _).mono ?_
            rintro e w' ⟨rfl, rfl⟩
            go_wp2_with fail
            refine A9.mono ?_
            rintro e w11 ⟨rfl, hB11⟩
            go_wp2_with fail
            go_ret
            exact ⟨rfl, hB10w.trans (hB11.mono hB10w.size)⟩
          · go_upto_region 15 with (at_builtin; refine wpList_appendF rfl _ _ rfl _ _ rfl rfl HO7.out HQ.out (sane_cut (by omega)) (by simp; omega) (by omega) ?_; intro v8 w8 hO8 hg8)
            have hB8 : Below W5.heap.size W5 w8 := below_appendF hB7 hz7 HO7.out hg8
            rw [List.nil_append] at hO8
            have hO8 : OwnsP 57 W5.heap.size w8 v8 (insF ps kk pp) := hO8
            obtain ⟨ao8, c8, rfl, _⟩ := hO8.reads
            have r0 := (hB8.cell (p := ⟨w3.heap.size, 0, none⟩) zz).trans z0
            have r1 := (hB8.cell (p := ⟨w3.heap.size, 1, none⟩) zz).trans z1
            have r2 := (hB8.cell (p := ⟨w3.heap.size, 2, none⟩) zz).trans z2
            have rf := (hB8.frozen (p := ⟨w3.heap.size, 2, none⟩) zz).trans zf
            have rz := Nat.lt_of_lt_of_le zz hB8.size
            have hne : ∀ k, (Value.slice ao8 (insF ps kk pp).length c8).ownBlock ≠ some (⟨w3.heap.size, k, none⟩ : Addr).block := fun k hq => by have := (World.ownsRow.lt hO8 _ hq).1; simp at this; omega
            have hB8w : Below w.heap.size w w8 := HB4.out.trans ((hB5.trans (hB8.mono hB5.size)).mono HB4.out.size)
            have hB9 : Below w.heap.size w (w8.setCell ⟨w3.heap.size, 2, none⟩ (.slice ao8 (insF ps kk pp).length c8)) := hB8w.setCell (p := ⟨w3.heap.size, 2, none⟩) hle3 _
            have hO9 : OwnsP 57 W5.heap.size (w8.setCell ⟨w3.heap.size, 2, none⟩ (.slice ao8 (insF ps kk pp).length c8)) (.slice ao8 (insF ps kk pp).length c8) (insF ps kk pp) := ownsRow_setCell_other hO8 (hne 2) _
            have s0 : (w8.setCell ⟨w3.heap.size, 2, none⟩ (.slice ao8 (insF ps kk pp).length c8)).cell? ⟨w3.heap.size, 0, none⟩ = some (.string (strB m)) := by rw [World.cell?_setCell_other _ _ _ _ (by simp)]; exact r0
            have s1 : (w8.setCell ⟨w3.heap.size, 2, none⟩ (.slice ao8 (insF ps kk pp).length c8)).cell? ⟨w3.heap.size, 1, none⟩ = some (.string (strB t)) := by rw [World.cell?_setCell_other _ _ _ _ (by simp)]; exact r1
            have s2 : (w8.setCell ⟨w3.heap.size, 2, none⟩ (.slice ao8 (insF ps kk pp).length c8)).cell? ⟨w3.heap.size, 2, none⟩ = some (.slice ao8 (insF ps kk pp).length c8) := World.cell?_setCell_same _ _ _ r2
            have sz : w3.heap.size < (w8.setCell ⟨w3.heap.size, 2, none⟩ (.slice ao8 (insF ps kk pp).length c8)).heap.size := by simpa using rz
            go_upto_region 16 with fail
            generalize (w8.setCell ⟨w3.heap.size, 2, none⟩ (.slice ao8 (insF ps kk pp).length c8)) = w9 at *
            have P9 := ofRequest_any m t _ _ w9 hO9.q (FI.out kk pp hpl)
            have A9 := Lib.hid (fun W (hr : ReadsQ W (.slice ao8 (insF ps kk pp).length c8) (insF ps kk pp)) hM => ambiguous_any m t (.slice ao8 (insF ps kk pp).length c8) (insF ps kk pp) W hr (FI.out kk pp hpl) hM)
            rw [HSM.out.1] at P9
            rw [show decide (lenP (insF ps kk pp) true ≠ lenP (insF ps kk pp) false) = true from decide_eq_true HSM.out.2] at A9
            have P9 : Calls Tryd.prog 12 #[.agg #[.string (strB m), .string (strB t), .slice ao8 (insF ps kk pp).length c8]] w9 (fun e w' => e = .returned (.tuple #[.agg #[.int .i64 0, .int .i64 0], .iface 59 (.int .i64 31)]) ∧ Below w9.heap.size w9 w') := P9
            have HQ9 := Lib.hid hO9.q
            have HB9 := Lib.hid hB9
            clear hO8 hO9 hB8 hB8w hB9 hne r0 r1 r2 rf rz hB5 hg8 hB7 z0 z1 z2 zf zz yz HQ HN HO7 HB4
            generalize hins : insF ps kk pp = qs at *
            clear hins
            go_wp2_with fail
            refine P9.mono ?_
            rintro e w10 ⟨rfl, hB10⟩
            have t0 := (hB10.cell (p := ⟨w3.heap.size, 0, none⟩) sz).trans s0
            have t1 := (hB10.cell (p := ⟨w3.heap.size, 1, none⟩) sz).trans s1
            have t2 := (hB10.cell (p := ⟨w3.heap.size, 2, none⟩) sz).trans s2
            have hB10w := HB9.out.trans (hB10.mono HB9.out.size)
            have A9 := A9.out w10 (HQ9.out.below hB10) (HM.out.below hB10w)
            clear s0 s1 s2 sz P9
            go_wp2_with fail
            refine (is_errno 31 (by decide) _).mono ?_
            rintro e w' ⟨rfl, rfl⟩
            go_wp2_with fail
            refine A9.mono ?_
            rintro e w11 ⟨rfl, hB11⟩
            go_wp2_with fail
            go_ret
            exact ⟨rfl, hB10w.trans (hB11.mono hB10w.size)⟩
        · have e2 : ((k : Int) == 2) = false := by rw [hk2]; rfl
          have HSM := Lib.hid (SL.out kk n (by rw [hk2]))
          clear hk2 SC SL
          go_upto_region 10 with fail
          have hB5 : Below w4.heap.size w4 (((w4.alloc (.cells #[.int .i64 (k : Int), .int .i64 (n : Int)] 28)).alloc (.cells #[.int .u8 (48 + (n16 : Int) / 10 % 10), .int .u8 (48 + (n16 : Int) % 10)] 5)).alloc (.cells #[.string ⟨#[67, 111, 110, 116, 101, 110, 116, 45, 76, 101, 110, 103, 116, 104]⟩, .string (strB (dig2 n16))] 57)) := ((below_new w4 _).alloc (by simp) _).alloc (by simp; omega) _
          have x0 : (((w4.alloc (.cells #[.int .i64 (k : Int), .int .i64 (n : Int)] 28)).alloc (.cells #[.int .u8 (48 + (n16 : Int) / 10 % 10), .int .u8 (48 + (n16 : Int) % 10)] 5)).alloc (.cells #[.string ⟨#[67, 111, 110, 116, 101, 110, 116, 45, 76, 101, 110, 103, 116, 104]⟩, .string (strB (dig2 n16))] 57)).cell? ⟨w4.heap.size + 1 + 1, 0, none⟩ = some (.string (strB CLN)) := by rw [World.cell?_alloc_at _ _ _ _ (by simp)]; rfl
          have x1 : (((w4.alloc (.cells #[.int .i64 (k : Int), .int .i64 (n : Int)] 28)).alloc (.cells #[.int .u8 (48 + (n16 : Int) / 10 % 10), .int .u8 (48 + (n16 : Int) % 10)] 5)).alloc (.cells #[.string ⟨#[67, 111, 110, 116, 101, 110, 116, 45, 76, 101, 110, 103, 116, 104]⟩, .string (strB (dig2 n16))] 57)).cell? ⟨w4.heap.size + 1 + 1, 1, none⟩ = some (.string (strB (dig2 n16))) := by rw [World.cell?_alloc_at _ _ _ _ (by simp)]; rfl
          have xz : w4.heap.size + 1 + 1 < (((w4.alloc (.cells #[.int .i64 (k : Int), .int .i64 (n : Int)] 28)).alloc (.cells #[.int .u8 (48 + (n16 : Int) / 10 % 10), .int .u8 (48 + (n16 : Int) % 10)] 5)).alloc (.cells #[.string ⟨#[67, 111, 110, 116, 101, 110, 116, 45, 76, 101, 110, 103, 116, 104]⟩, .string (strB (dig2 n16))] 57)).heap.size := by simp
          generalize (((w4.alloc (.cells #[.int .i64 (k : Int), .int .i64 (n : Int)] 28)).alloc (.cells #[.int .u8 (48 + (n16 : Int) / 10 % 10), .int .u8 (48 + (n16 : Int) % 10)] 5)).alloc (.cells #[.string ⟨#[67, 111, 110, 116, 101, 110, 116, 45, 76, 101, 110, 103, 116, 104]⟩, .string (strB (dig2 n16))] 57)) = W5 at *
          generalize hpp : ((CLN, (dig2 n16)) : List UInt8 × List UInt8) = pp at *
          rw [show CLN = pp.1 by rw [← hpp]] at x0
          rw [show (dig2 n16) = pp.2 by rw [← hpp]] at x1
          have hpl : pp.1.length + pp.2.length ≤ 100 := by rw [← hpp]; simp [CLN, dig2]
          clear hpp
          have z0 := (hB5.cell (p := ⟨w3.heap.size, 0, none⟩) yz).trans y0
          have z1 := (hB5.cell (p := ⟨w3.heap.size, 1, none⟩) yz).trans y1
          have z2 := (hB5.cell (p := ⟨w3.heap.size, 2, none⟩) yz).trans y2
          have zf := (hB5.frozen (p := ⟨w3.heap.size, 2, none⟩) yz).trans yf
          have zz := Nat.lt_of_lt_of_le yz hB5.size
          have hz5 := hB5.size
          have hR5 := hO4.q.below hB5
          have HP := Lib.hid (reads_pre kk hkl hR5)
          clear hO4 y0 y1 y2 yf hcv HB HO3 hB4 HG
          go_upto_region 13 with (at_builtin; refine wpList_appendF rfl _ _ rfl _ _ rfl rfl (OwnsP.nil _ W5.heap.size _) HP.out (sane_cut hkc') (by simp; omega) (Nat.le_refl _) ?_; intro v6 w6 hO6 hg6)
          have hB6 : Below W5.heap.size W5 w6 := below_appendF (Below.refl _ _) (Nat.le_refl _) (OwnsP.nil 57 W5.heap.size W5) hg6
          have u0 := (hB6.cell (p := ⟨w4.heap.size + 1 + 1, 0, none⟩) xz).trans x0
          have u1 := (hB6.cell (p := ⟨w4.heap.size + 1 + 1, 1, none⟩) xz).trans x1
          have hz6 := hB6.size
          have hn6 := below_new w6 (.cells #[.string (strB pp.1), .string (strB pp.2)] 57)
          have HO6 := Lib.hid (OwnsP.below hO6 hn6)
          have HR6 := Lib.hid (reads_new1 w6 pp.1 pp.2 57)
          have HB6 := Lib.hid (hB6.alloc hz6 (.cells #[.string (strB pp.1), .string (strB pp.2)] 57))
          clear hO6 hg6 hn6 x0 x1 hB6
          go_upto_region 14 with (at_builtin; refine wpList_appendF rfl _ _ rfl _ _ rfl rfl HO6.out HR6.out (sane_cut (by omega)) (by simp; omega) (by simp; omega) ?_; intro v7 w7 hO7 hg7)
          have hB7 : Below W5.heap.size W5 w7 := below_appendF HB6.out (by simp; omega) HO6.out hg7
          have hz7 := hB7.size
          have HO7 := Lib.hid hO7
          have HQ := Lib.hid (reads_post (c2 := c3 - kk) kk hkl (hR5.below hB7))
          have q2 := (hB7.cell (p := ⟨w3.heap.size, 2, none⟩) zz).trans z2
          clear hO7 hg7 u0 u1 HR6 HB6 HO6 HP hR5
          have HN := Lib.hid (fun (ao : Option Addr) (c : Nat) (h : c3 = kk) => reads_nilq (w := w7) (ao := ao) (c := c) (ps := ps) (k := kk) (by omega))
          by_cases hck : c3 = kk
          · have HN := Lib.hid (fun ao c => HN.out ao c hck)
            go_upto_region 15 with (at_builtin; refine wpList_appendF (qs := ps.drop kk) rfl _ _ rfl _ _ rfl rfl HO7.out (by first | exact HN.out _ _ | exact HQ.out) (sane_cut (by omega)) (by simp; omega) (by omega) ?_; intro v8 w8 hO8 hg8)
            have hB8 : Below W5.heap.size W5 w8 := below_appendF hB7 hz7 HO7.out hg8
            rw [List.nil_append] at hO8
            have hO8 : OwnsP 57 W5.heap.size w8 v8 (insF ps kk pp) := hO8
            obtain ⟨ao8, c8, rfl, _⟩ := hO8.reads
            have r0 := (hB8.cell (p := ⟨w3.heap.size, 0, none⟩) zz).trans z0
            have r1 := (hB8.cell (p := ⟨w3.heap.size, 1, none⟩) zz).trans z1
            have r2 := (hB8.cell (p := ⟨w3.heap.size, 2, none⟩) zz).trans z2
            have rf := (hB8.frozen (p := ⟨w3.heap.size, 2, none⟩) zz).trans zf
            have rz := Nat.lt_of_lt_of_le zz hB8.size
            have hne : ∀ k, (Value.slice ao8 (insF ps kk pp).length c8).ownBlock ≠ some (⟨w3.heap.size, k, none⟩ : Addr).block := fun k hq => by have := (World.ownsRow.lt hO8 _ hq).1; simp at this; omega
            have hB8w : Below w.heap.size w w8 := HB4.out.trans ((hB5.trans (hB8.mono hB5.size)).mono HB4.out.size)
            have hB9 : Below w.heap.size w (w8.setCell ⟨w3.heap.size, 2, none⟩ (.slice ao8 (insF ps kk pp).length c8)) := hB8w.setCell (p := ⟨w3.heap.size, 2, none⟩) hle3 _
            have hO9 : OwnsP 57 W5.heap.size (w8.setCell ⟨w3.heap.size, 2, none⟩ (.slice ao8 (insF ps kk pp).length c8)) (.slice ao8 (insF ps kk pp).length c8) (insF ps kk pp) := ownsRow_setCell_other hO8 (hne 2) _
            have s0 : (w8.setCell ⟨w3.heap.size, 2, none⟩ (.slice ao8 (insF ps kk pp).length c8)).cell? ⟨w3.heap.size, 0, none⟩ = some (.string (strB m)) := by rw [World.cell?_setCell_other _ _ _ _ (by simp)]; exact r0
            have s1 : (w8.setCell ⟨w3.heap.size, 2, none⟩ (.slice ao8 (insF ps kk pp).length c8)).cell? ⟨w3.heap.size, 1, none⟩ = some (.string (strB t)) := by rw [World.cell?_setCell_other _ _ _ _ (by simp)]; exact r1
            have s2 : (w8.setCell ⟨w3.heap.size, 2, none⟩ (.slice ao8 (insF ps kk pp).length c8)).cell? ⟨w3.heap.size, 2, none⟩ = some (.slice ao8 (insF ps kk pp).length c8) := World.cell?_setCell_same _ _ _ r2
            have sz : w3.heap.size < (w8.setCell ⟨w3.heap.size, 2, none⟩ (.slice ao8 (insF ps kk pp).length c8)).heap.size := by simpa using rz
            go_upto_region 16 with fail
            generalize (w8.setCell ⟨w3.heap.size, 2, none⟩ (.slice ao8 (insF ps kk pp).length c8)) = w9 at *
            have P9 := ofRequest_any m t _ _ w9 hO9.q (FI.out kk pp hpl)
            have A9 := Lib.hid (fun W (hr : ReadsQ W (.slice ao8 (insF ps kk pp).length c8) (insF ps kk pp)) hM => ambiguous_any m t (.slice ao8 (insF ps kk pp).length c8) (insF ps kk pp) W hr (FI.out kk pp hpl) hM)
            rw [HSM.out.1] at P9
            rw [show decide (lenP (insF ps kk pp) true ≠ lenP (insF ps kk pp) false) = true from decide_eq_true HSM.out.2] at A9
            have P9 : Calls Tryd.prog 12 #[.agg #[.string (strB m), .string (strB t), .slice ao8 (insF ps kk pp).length c8]] w9 (fun e w' => e = .returned (.tuple #[.agg #[.int .i64 0, .int .i64 0], .iface 59 (.int .i64 31)]) ∧ Below w9.heap.size w9 w') := P9
            have HQ9 := Lib.hid hO9.q
            have HB9 := Lib.hid hB9
            clear hO8 hO9 hB8 hB8w hB9 hne r0 r1 r2 rf rz hB5 hg8 hB7 z0 z1 z2 zf zz yz HQ HN HO7 HB4
            generalize hins : insF ps kk pp = qs at *
            clear hins
            go_wp2_with fail
            refine P9.mono ?_
            rintro e w10 ⟨rfl, hB10⟩
            have t0 := (hB10.cell (p := ⟨w3.heap.size, 0, none⟩) sz).trans s0
            have t1 := (hB10.cell (p := ⟨w3.heap.size, 1, none⟩) sz).trans s1
            have t2 := (hB10.cell (p := ⟨w3.heap.size, 2, none⟩) sz).trans s2
            have hB10w := HB9.out.trans (hB10.mono HB9.out.size)
            have A9 := A9.out w10 (HQ9.out.below hB10) (HM.out.below hB10w)
            clear s0 s1 s2 sz P9
            go_wp2_with fail
            refine (is_errno 31 (by decide) _).mono ?_
            rintro e w' ⟨rfl, rfl⟩
            go_wp2_with fail
            refine A9.mono ?_
            rintro e w11 ⟨rfl, hB11⟩
            go_wp2_with fail
            go_ret
            exact ⟨rfl, hB10w.trans (hB11.mono hB10w.size)⟩
          · go_upto_region 15 with (at_builtin; refine wpList_appendF rfl _ _ rfl _ _ rfl rfl HO7.out HQ.out (sane_cut (by omega)) (by simp; omega) (by omega) ?_; intro v8 w8 hO8 hg8)
            have hB8 : Below W5.heap.size W5 w8 := below_appendF hB7 hz7 HO7.out hg8
            rw [List.nil_append] at hO8
            have hO8 : OwnsP 57 W5.heap.size w8 v8 (insF ps kk pp) := hO8
            obtain ⟨ao8, c8, rfl, _⟩ := hO8.reads
            have r0 := (hB8.cell (p := ⟨w3.heap.size, 0, none⟩) zz).trans z0
            have r1 := (hB8.cell (p := ⟨w3.heap.size, 1, none⟩) zz).trans z1
            have r2 := (hB8.cell (p := ⟨w3.heap.size, 2, none⟩) zz).trans z2
            have rf := (hB8.frozen (p := ⟨w3.heap.size, 2, none⟩) zz).trans zf
            have rz := Nat.lt_of_lt_of_le zz hB8.size
            have hne : ∀ k, (Value.slice ao8 (insF ps kk pp).length c8).ownBlock ≠ some (⟨w3.heap.size, k, none⟩ : Addr).block := fun k hq => by have := (World.ownsRow.lt hO8 _ hq).1; simp at this; omega
            have hB8w : Below w.heap.size w w8 := HB4.out.trans ((hB5.trans (hB8.mono hB5.size)).mono HB4.out.size)
            have hB9 : Below w.heap.size w (w8.setCell ⟨w3.heap.size, 2, none⟩ (.slice ao8 (insF ps kk pp).length c8)) := hB8w.setCell (p := ⟨w3.heap.size, 2, none⟩) hle3 _
            have hO9 : OwnsP 57 W5.heap.size (w8.setCell ⟨w3.heap.size, 2, none⟩ (.slice ao8 (insF ps kk pp).length c8)) (.slice ao8 (insF ps kk pp).length c8) (insF ps kk pp) := ownsRow_setCell_other hO8 (hne 2) _
            have s0 : (w8.setCell ⟨w3.heap.size, 2, none⟩ (.slice ao8 (insF ps kk pp).length c8)).cell? ⟨w3.heap.size, 0, none⟩ = some (.string (strB m)) := by rw [World.cell?_setCell_other _ _ _ _ (by simp)]; exact r0
            have s1 : (w8.setCell ⟨w3.heap.size, 2, none⟩ (.slice ao8 (insF ps kk pp).length c8)).cell? ⟨w3.heap.size, 1, none⟩ = some (.string (strB t)) := by rw [World.cell?_setCell_other _ _ _ _ (by simp)]; exact r1
            have s2 : (w8.setCell ⟨w3.heap.size, 2, none⟩ (.slice ao8 (insF ps kk pp).length c8)).cell? ⟨w3.heap.size, 2, none⟩ = some (.slice ao8 (insF ps kk pp).length c8) := World.cell?_setCell_same _ _ _ r2
            have sz : w3.heap.size < (w8.setCell ⟨w3.heap.size, 2, none⟩ (.slice ao8 (insF ps kk pp).length c8)).heap.size := by simpa using rz
            go_upto_region 16 with fail
            generalize (w8.setCell ⟨w3.heap.size, 2, none⟩ (.slice ao8 (insF ps kk pp).length c8)) = w9 at *
            have P9 := ofRequest_any m t _ _ w9 hO9.q (FI.out kk pp hpl)
            have A9 := Lib.hid (fun W (hr : ReadsQ W (.slice ao8 (insF ps kk pp).length c8) (insF ps kk pp)) hM => ambiguous_any m t (.slice ao8 (insF ps kk pp).length c8) (insF ps kk pp) W hr (FI.out kk pp hpl) hM)
            rw [HSM.out.1] at P9
            rw [show decide (lenP (insF ps kk pp) true ≠ lenP (insF ps kk pp) false) = true from decide_eq_true HSM.out.2] at A9
            have P9 : Calls Tryd.prog 12 #[.agg #[.string (strB m), .string (strB t), .slice ao8 (insF ps kk pp).length c8]] w9 (fun e w' => e = .returned (.tuple #[.agg #[.int .i64 0, .int .i64 0], .iface 59 (.int .i64 31)]) ∧ Below w9.heap.size w9 w') := P9
            have HQ9 := Lib.hid hO9.q
            have HB9 := Lib.hid hB9
            clear hO8 hO9 hB8 hB8w hB9 hne r0 r1 r2 rf rz hB5 hg8 hB7 z0 z1 z2 zf zz yz HQ HN HO7 HB4
            generalize hins : insF ps kk pp = qs at *
            clear hins
            go_wp2_with fail
            refine P9.mono ?_
            rintro e w10 ⟨rfl, hB10⟩
            have t0 := (hB10.cell (p := ⟨w3.heap.size, 0, none⟩) sz).trans s0
            have t1 := (hB10.cell (p := ⟨w3.heap.size, 1, none⟩) sz).trans s1
            have t2 := (hB10.cell (p := ⟨w3.heap.size, 2, none⟩) sz).trans s2
            have hB10w := HB9.out.trans (hB10.mono HB9.out.size)
            have A9 := A9.out w10 (HQ9.out.below hB10) (HM.out.below hB10w)
            clear s0 s1 s2 sz P9
            go_wp2_with fail
            refine (is_errno 31 (by decide) _).mono ?_
            rintro e w' ⟨rfl, rfl⟩
            go_wp2_with fail
            refine A9.mono ?_
            rintro e w11 ⟨rfl, hB11⟩
            go_wp2_with fail
            go_ret
            exact ⟨rfl, hB10w.trans (hB11.mono hB10w.size)⟩
    · rw [errV_no' hc0]
      clear P
      go_wp2_with fail
      go_ret
      exact ⟨rfl, HB4.out.alloc HB4.out.size _⟩
end Go.Proofs.YthjkneifffdglaaDoor
