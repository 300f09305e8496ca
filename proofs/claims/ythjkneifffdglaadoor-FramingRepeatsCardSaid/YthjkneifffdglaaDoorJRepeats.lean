/- FramingRepeats: for every input the statement's function returns true: appends of fields, the decimal digits, the walk. -/
import Derived.Test.YthjkneifffdglaaDoorJLaw2
import Derived.Test.YthjkneifffdglaaDoorJApp
import Derived.Test.YthjkneifffdglaaDoorFAll
import Derived.Test.YthjkneifffdglaaDoorIs
namespace Go.Proofs.YthjkneifffdglaaDoor
open Go.RowKit

theorem flatF_get : ∀ (ps : Flds) (j : Nat) (u : Value), (flatP ps)[j]? = some u → ∃ i p, ps[i]? = some p ∧ ((j = i * 2 ∧ u = strV p.1) ∨ (j = i * 2 + 1 ∧ u = strV p.2)) := by
  intro ps
  induction ps with
  | nil => intro j u h; simp [flatP] at h
  | cons q r ih =>
    intro j u h
    have e : flatP (q :: r) = strV q.1 :: strV q.2 :: flatP r := rfl
    rw [e] at h
    match j, h with
    | 0, h => simp at h; exact ⟨0, q, rfl, .inl ⟨rfl, h.symm⟩⟩
    | 1, h => simp at h; exact ⟨0, q, rfl, .inr ⟨rfl, h.symm⟩⟩
    | j + 2, h =>
      obtain ⟨i, p, hi, hc⟩ := ih j u (by simpa using h)
      exact ⟨i + 1, p, by simpa using hi, by rcases hc with ⟨rfl, hu⟩ | ⟨rfl, hu⟩
                                             · exact .inl ⟨by omega, hu⟩
                                             · exact .inr ⟨by omega, hu⟩⟩
theorem flatF_one (ps : Flds) : ∀ u ∈ flatP ps, u.oneCell' = true := by
  intro u hu
  obtain ⟨j, hj⟩ := List.getElem?_of_mem hu
  obtain ⟨i, p, _, h | h⟩ := flatF_get ps j u hj <;> rw [h.2] <;> rfl
theorem readsF_src {w : World} {ad : Addr} {n cap : Nat} {ps : Flds} (h : ReadsQ w (.slice (some ad) n cap) ps) : n = ps.length ∧ ∀ j u, (flatP ps)[j]? = some u → w.cell? (ad.add j) = some u := by
  obtain ⟨ao, c, hv, hc⟩ := h
  simp only [Value.slice.injEq] at hv
  obtain ⟨rfl, rfl, rfl⟩ := hv
  refine ⟨rfl, fun j u hj => ?_⟩
  obtain ⟨i, p, hi, hu⟩ := flatF_get ps j u hj
  obtain ⟨g, off, ha, _, h1, h2⟩ := hc i p hi
  obtain rfl : ad = ⟨g, off, none⟩ := Option.some.inj ha
  rcases hu with ⟨rfl, rfl⟩ | ⟨rfl, rfl⟩
  · rw [Addr.add_lit]; exact h1
  · rw [Addr.add_lit, ← Nat.add_assoc]; exact h2
theorem readsF_none {w : World} {n cap : Nat} {ps : Flds} (h : ReadsQ w (.slice none n cap) ps) : ps = [] ∧ n = 0 := by
  obtain ⟨ao, c, hv, hc⟩ := h
  simp only [Value.slice.injEq] at hv
  obtain ⟨rfl, rfl, rfl⟩ := hv
  cases ps with
  | nil => exact ⟨rfl, rfl⟩
  | cons p r => obtain ⟨g, off, ha, _⟩ := hc 0 p rfl; cases ha
theorem own_appF {T : TypeId} {B : Nat} {w : World} {v : Value} {ps qs : Flds} (h : w.ownsRow B T 2 v (ps.length + qs.length) (flatP ps ++ flatP qs)) : OwnsP T B w v (ps ++ qs) := by
  unfold OwnsP
  have e : flatP (ps ++ qs) = flatP ps ++ flatP qs := by simp [flatP]
  rw [e, List.length_append]; exact h
/-- An append of fields that are read to a slice of fields that the call made. -/
theorem wpList_appendF {B : Nat} {w : World} {ops : Array Oper} {rest : List Oper} {o : Oper} {a : Act} {Q : Exit → Act → World → Prop} (hw : Region.wanted o (yielded ops a.tmps) = true) (s x : Operand)
    (ho : o.op = .call { callee := .builtin .append, args := #[s, x], argTypes := #[34, 34] }) (v v2 : Value) (hs : a.eval s = v) (hx : a.eval x = v2) {ps qs : Flds} (hown : OwnsP 57 B w v ps) (hr : ReadsQ w v2 qs) (hp : Sane v2)
    (hn : ps.length + qs.length ≤ 100000) (hB : B ≤ w.heap.size) (h : ∀ v' w', OwnsP 57 B w' v' (ps ++ qs) → w.grownBy w' v.ownBlock → wpList Tryd.prog ops Q rest (a.put o.dst v') w') :
    wpList Tryd.prog ops Q (o :: rest) a w := by
  obtain ⟨i0, hi, hz0, hz1, hz2⟩ := info_parts Tryd.infoF
  refine BigFrame.wpList_want hw fun K hK => ?_
  obtain ⟨ao, cap, rfl, hc⟩ := id hr
  cases ao with
  | none =>
    obtain ⟨rfl, _⟩ := readsF_none hr
    obtain rfl := (hp _ _ _ rfl).2 rfl
    have hrun := run_append_owned_none (P := Tryd.prog) (w := w) B 34 o.type 57 i0 2 Tryd.underlying34 hi v ps.length (flatP ps) hown
    unfold Oper.wp
    simp [execOp, ho, resolve, invoke, builtin, hs, hx, hrun, Result.andThen]
    exact hK _ _ (h v w (by rw [List.append_nil]; exact hown) ⟨rfl, rfl, rfl, Nat.le_refl _, fun _ _ _ => rfl⟩)
  | some ad =>
    obtain ⟨_, hs'⟩ := readsF_src hr
    exact wp_append_own w s x 34 ho B 57 i0 _ 2 32 Tryd.underlying34 hi hz0 hz1 hz2 rfl (by decide) v ps.length (flatP ps) hs hown ad qs.length cap (flatP qs) hx (flatP_len qs) hs' (flatF_one qs) (by unfold maxLen; omega) (by omega) hB
      fun v' w' h1 h2 _ => hK _ _ (h v' w' (own_appF h1) h2)
theorem below_appendF {T : TypeId} {B : Nat} {a w w2 : World} {v : Value} {ps : Flds} (hB : Below B a w) (hBs : B ≤ w.heap.size) (hown : OwnsP T B w v ps) (hgrow : w.grownBy w2 v.ownBlock) : Below B a w2 :=
  hB.grown hgrow hBs (fun q hq => (World.ownsRow.lt hown q hq).1)
/-- What stands before a place in a slice that is read, and what stands from it on. -/
theorem reads_pre {w : World} {g cap : Nat} {ps : Flds} (k : Nat) (hk : k ≤ ps.length) (h : ReadsQ w (.slice (some ⟨g, 0, none⟩) ps.length cap) ps) : ReadsQ w (.slice (some ⟨g, 0, none⟩) k cap) (ps.take k) := by
  obtain ⟨ao, c, hv, hc⟩ := h
  simp only [Value.slice.injEq] at hv
  obtain ⟨rfl, _, rfl⟩ := hv
  refine ⟨_, cap, by rw [List.length_take, Nat.min_eq_left hk], fun j p hj => ?_⟩
  have hjk : j < k := by have := (List.getElem?_eq_some_iff.mp hj).1; rw [List.length_take] at this; omega
  rw [List.getElem?_take_of_lt hjk] at hj
  exact hc j p hj
theorem reads_post {w : World} {g cap c2 : Nat} {ps : Flds} (k : Nat) (_hk : k ≤ ps.length) (h : ReadsQ w (.slice (some ⟨g, 0, none⟩) ps.length cap) ps) : ReadsQ w (.slice (some ⟨g, k * 2, none⟩) (ps.length - k) c2) (ps.drop k) := by
  obtain ⟨ao, c, hv, hc⟩ := h
  simp only [Value.slice.injEq] at hv
  obtain ⟨rfl, _, rfl⟩ := hv
  refine ⟨_, c2, by rw [List.length_drop], fun j p hj => ?_⟩
  rw [List.getElem?_drop] at hj
  obtain ⟨g', off, ha, h1, h2, h3⟩ := hc (k + j) p hj
  simp only [Option.some.injEq, Addr.mk.injEq, and_true] at ha
  obtain ⟨rfl, rfl⟩ := ha
  refine ⟨g, k * 2, rfl, h1, ?_, ?_⟩
  · rw [← h2]; congr 2; omega
  · rw [← h3]; congr 2; omega

def digB1 (x : Nat) : UInt8 := UInt8.ofNat (48 + x)
theorem digB1_nat {x : Nat} (h : x < 10) : (digB1 x).toNat = 48 + x := by unfold digB1; rw [UInt8.toNat_ofNat']; omega
def pK (n K : Nat) : List UInt8 := if K ≤ n then [digB1 (n / K % 10)] else []
/-- The decimal digits of a number below 100000. -/
def digL (n : Nat) : List UInt8 := pK n 10000 ++ pK n 1000 ++ pK n 100 ++ pK n 10 ++ [digB1 (n % 10)]
theorem pK_yes {n K : Nat} (h : K ≤ n) : pK n K = [digB1 (n / K % 10)] := by unfold pK; rw [if_pos h]
theorem pK_no {n K : Nat} (h : ¬ K ≤ n) : pK n K = [] := by unfold pK; rw [if_neg h]
theorem fdB_dig {x : Nat} (h : x < 10) : fdB (digB1 x) = true := by
  unfold fdB
  rw [digB1_nat h, Bool.and_eq_true, decide_eq_true_eq, decide_eq_true_eq]; omega
theorem pK_all (n K : Nat) : (pK n K).all fdB = true := by
  unfold pK
  split
  · simp only [List.all_cons, List.all_nil, Bool.and_true]; exact fdB_dig (Nat.mod_lt _ (by decide))
  · rfl
theorem pK_len (n K : Nat) : (pK n K).length ≤ 1 := by unfold pK; split <;> simp
theorem digL_all (n : Nat) : (digL n).all fdB = true := by
  unfold digL
  simp only [List.all_append, pK_all, Bool.true_and, List.all_cons, List.all_nil, Bool.and_true]
  exact fdB_dig (Nat.mod_lt _ (by decide))
theorem digL_len (n : Nat) : 1 ≤ (digL n).length ∧ (digL n).length ≤ 5 := by
  have h1 := pK_len n 10000
  have h2 := pK_len n 1000
  have h3 := pK_len n 100
  have h4 := pK_len n 10
  unfold digL
  simp only [List.length_append, List.length_singleton]
  omega
theorem digL_ne (n : Nat) : digL n ≠ [] := fun h => by have := (digL_len n).1; rw [h] at this; simp at this
theorem digL_num {n : Nat} (h : n < 100000) : numO (digL n) = some n := by
  have hd := digL_len n
  unfold numO
  rw [if_pos ⟨hd.1, by omega, digL_all n⟩]
  congr 1
  have e : ∀ x : Nat, x < 10 → (digB1 x).toNat - 48 = x := fun x hx => by rw [digB1_nat hx]; omega
  have m1 := e (n / 10000 % 10) (Nat.mod_lt _ (by decide))
  have m2 := e (n / 1000 % 10) (Nat.mod_lt _ (by decide))
  have m3 := e (n / 100 % 10) (Nat.mod_lt _ (by decide))
  have m4 := e (n / 10 % 10) (Nat.mod_lt _ (by decide))
  have m5 := e (n % 10) (Nat.mod_lt _ (by decide))
  unfold digL fnV
  by_cases c1 : 10000 ≤ n
  · rw [pK_yes c1, pK_yes (by omega), pK_yes (by omega), pK_yes (by omega)]
    simp only [List.cons_append, List.nil_append, List.foldl_cons, List.foldl_nil, m1, m2, m3, m4, m5]; omega
  · rw [pK_no c1]
    by_cases c2 : 1000 ≤ n
    · rw [pK_yes c2, pK_yes (by omega), pK_yes (by omega)]
      simp only [List.cons_append, List.nil_append, List.foldl_cons, List.foldl_nil, m2, m3, m4, m5]; omega
    · rw [pK_no c2]
      by_cases c3 : 100 ≤ n
      · rw [pK_yes c3, pK_yes (by omega)]
        simp only [List.cons_append, List.nil_append, List.foldl_cons, List.foldl_nil, m3, m4, m5]; omega
      · rw [pK_no c3]
        by_cases c4 : 10 ≤ n
        · rw [pK_yes c4]
          simp only [List.cons_append, List.nil_append, List.foldl_cons, List.foldl_nil, m4, m5]; omega
        · rw [pK_no c4]
          simp only [List.nil_append, List.foldl_cons, List.foldl_nil, m5]; omega
theorem digL_inj {a b : Nat} (ha : a < 100000) (hb : b < 100000) (h : digL a = digL b) : a = b := by
  have := digL_num ha
  rw [h, digL_num hb] at this
  exact (Option.some.inj this).symm
theorem elems_reps {d : List UInt8} (hd : d.all fdB = true) (hne : d ≠ []) : ∀ {vs : List (List UInt8)}, (∀ v ∈ vs, Reps d v) → ∃ k, elemsF vs = some (List.replicate k d) ∧ (vs ≠ [] → 1 ≤ k) := by
  intro vs
  induction vs with
  | nil => intro _; exact ⟨0, rfl, fun h => absurd rfl h⟩
  | cons v r ih =>
    intro h
    obtain ⟨k, hk⟩ := reps_list hd hne (h v (by simp))
    obtain ⟨j, hj, _⟩ := ih fun x hx => h x (by simp [hx])
    refine ⟨(k + 1) + j, ?_, fun _ => by omega⟩
    rw [elemsF, hk, hj]
    show some (List.replicate (k + 1) d ++ List.replicate j d) = _
    rw [List.replicate_append_replicate]
/-- Fields that all are lengths, each of which repeats one number. -/
def RepF (d : List UInt8) (qs : Flds) : Prop := ∀ p ∈ qs, lowS p.1 = lowS clN ∧ Reps d p.2 ∧ p.1.length + p.2.length ≤ 300
theorem rep_ls : ∀ {qs : Flds}, (∀ p ∈ qs, lowS p.1 = lowS clN) → lsF qs = qs.map (·.2) ∧ csF qs = [] := by
  intro qs
  induction qs with
  | nil => intro _; exact ⟨rfl, rfl⟩
  | cons p r ih =>
    intro h
    obtain ⟨h1, h2⟩ := ih fun q hq => h q (by simp [hq])
    have hp := h p (by simp)
    have o1 : ofN clN p = true := decide_eq_true hp
    have o2 : ofN teN p = false := by unfold ofN; rw [hp]; decide
    constructor
    · show allL (p :: r) clN = _
      unfold lsF allL at h1
      unfold allL
      rw [List.filter_cons, if_pos o1, List.map_cons, List.map_cons, h1]
    · show allL (p :: r) teN = _
      unfold csF allL at h2
      unfold allL
      rw [List.filter_cons, o2]; exact h2
theorem rep_of {a : Nat} {qs : Flds} (ha : a < 100000) (h : RepF (digL a) qs) (hne : qs ≠ []) : ofO 1 (lsF qs) (csF qs) = if 65536 < a then (5, 0, 0) else (0, 2, a) := by
  obtain ⟨h1, h2⟩ := rep_ls fun p hp => (h p hp).1
  have hm : qs.map (·.2) ≠ [] := by simpa using hne
  rw [h1, h2, ofO_len hm rfl]
  obtain ⟨k, hk, hk1⟩ := elems_reps (digL_all a) (digL_ne a) (vs := qs.map (·.2)) (by intro v hv; obtain ⟨p, hp, rfl⟩ := List.mem_map.1 hv; exact (h p hp).2.1)
  have hk1 := hk1 hm
  obtain ⟨j, rfl⟩ : ∃ j, k = j + 1 := ⟨k - 1, by omega⟩
  rw [List.replicate_succ] at hk
  have hall : ∀ x ∈ digL a :: List.replicate j (digL a), x = digL a := by
    intro x hx
    rcases List.mem_cons.1 hx with rfl | hx
    · rfl
    · exact List.eq_of_mem_replicate hx
  by_cases hl : 65536 < a
  · rw [if_pos hl, len_large hk hall (digL_num ha) hl]
  · rw [if_neg hl, len_good hk hall (digL_num ha) hl]
theorem rep_mix {a b : Nat} {qs : Flds} (ha : a < 100000) (hb : b < 100000) (hab : a ≠ b) (h : RepF (digL a) qs) (hne : qs ≠ []) : ofO 1 (lsF (qs ++ [(clN, digL b)])) (csF (qs ++ [(clN, digL b)])) = (30, 0, 0) := by
  obtain ⟨h1, h2⟩ := rep_ls (qs := qs ++ [(clN, digL b)]) fun p hp => by
    rcases List.mem_append.1 hp with hp | hp
    · exact (h p hp).1
    · rw [List.mem_singleton] at hp; rw [hp]
  have hm : (qs ++ [(clN, digL b)]).map (·.2) ≠ [] := by simp
  rw [h1, h2, ofO_len hm rfl, List.map_append]
  obtain ⟨k, hk, hk1⟩ := elems_reps (digL_all a) (digL_ne a) (vs := qs.map (·.2)) (by intro v hv; obtain ⟨p, hp, rfl⟩ := List.mem_map.1 hv; exact (h p hp).2.1)
  have hk1 := hk1 (by simpa using hne)
  obtain ⟨j, hj, hj1⟩ := elems_reps (digL_all b) (digL_ne b) (vs := [digL b]) (by intro v hv; rw [List.mem_singleton] at hv; rw [hv]; exact reps_one (digL_all b))
  have hj1 := hj1 (by simp)
  obtain ⟨i, rfl⟩ : ∃ i, k = i + 1 := ⟨k - 1, by omega⟩
  have he : elemsF (qs.map (·.2) ++ [(clN, digL b)].map (·.2)) = some (digL a :: (List.replicate i (digL a) ++ List.replicate j (digL b))) := by
    rw [elems_app, hk]
    show (some (List.replicate (i + 1) (digL a))).bind (fun x => (elemsF [digL b]).map (x ++ ·)) = _
    rw [hj, List.replicate_succ]; rfl
  refine len_mix (x := digL b) he ?_ (fun h => hab (digL_inj hb ha h).symm)
  refine List.mem_cons_of_mem _ (List.mem_append_right _ ?_)
  obtain ⟨j', rfl⟩ : ∃ j', j = j' + 1 := ⟨j - 1, by omega⟩
  rw [List.replicate_succ]; simp
theorem rep_fits {d : List UInt8} {qs : Flds} (h : RepF d qs) (hl : qs.length ≤ 14) : Fits qs := by
  refine ⟨by omega, ?_⟩
  have : ∀ (qs : Flds), (∀ p ∈ qs, p.1.length + p.2.length ≤ 300) → totL qs ≤ 300 * qs.length := by
    intro qs
    induction qs with
    | nil => intro _; simp [totL]
    | cons p r ih =>
      intro h
      have h1 := ih fun q hq => h q (by simp [hq])
      have h2 := h p (by simp)
      have e : totL (p :: r) = p.1.length + p.2.length + totL r := rfl
      rw [e, List.length_cons]; omega
  have := this qs fun p hp => (h p hp).2.2
  omega
theorem conv_dig (x : Nat) (hx : x < 10) (z : Int) (hz : z = 48 + (x : Int)) (W : World) :
    (convert 55 9 (.slice (some ⟨W.heap.size, 0, none⟩) 1 1)).run Tryd.prog (W.alloc (.cells #[.int .u8 z] 5)) = .ok (.string (strB [digB1 x])) (W.alloc (.cells #[.int .u8 z] 5)) :=
  conv_one z (digB1 x) (by rw [digB1_nat hx, hz]; omega) W
theorem ret_str6 {a b : ByteArray} (h : a = b) : Ending.returned (.string a) = .returned (.string b) := by rw [h]
theorem len_snoc {O : List UInt8} {c : UInt8} (h : O.length ≤ 3) : (O ++ [c]).length ≤ 4 := by rw [List.length_append, List.length_singleton]; omega
def DigRel (n : Nat) (w : World) (o k : Value) (wr : World) : Prop :=
  Below w.heap.size w wr ∧ ∃ O : List UInt8, o = .string (strB O) ∧ O.length ≤ 4 ∧
    ((k = .int .i64 10000 ∧ O = []) ∨ (k = .int .i64 1000 ∧ O = pK n 10000) ∨ (k = .int .i64 100 ∧ O = pK n 10000 ++ pK n 1000) ∨ (k = .int .i64 10 ∧ O = pK n 10000 ++ pK n 1000 ++ pK n 100) ∨ (k = .int .i64 1 ∧ O = pK n 10000 ++ pK n 1000 ++ pK n 100 ++ pK n 10))
theorem pk_more {O : List UInt8} {n K : Nat} (h : O.length ≤ 3) : (O ++ pK n K).length ≤ 4 := by rw [List.length_append]; have := pK_len n K; omega
set_option maxHeartbeats 4000000 in
set_option maxRecDepth 100000 in
theorem digits_any (n : Nat) (w : World) (hn : n < 100000) :
    Calls Tryd.prog 23 #[.int .i64 (n : Int)] w (fun e w' => e = .returned (.string (strB (digL n))) ∧ Below w.heap.size w w') := by
  have hc0 := conv_dig (n % 10) (Nat.mod_lt _ (by decide)) (48 + (n : Int) % 10) (by simp)
  go_enter Tryd.func23, Tryd.ntmps23
  go_wp2_with fail
  go_loopw [3, 4] (fun o k wr => DigRel n w o k wr) (fun _ k _ => (intOf k).toNat)
  case atStart => exact ⟨Below.refl _ _, [], rfl, by simp, .inl ⟨rfl, rfl⟩⟩
  case round =>
    obtain ⟨hB, O, rfl, hO, hcase⟩ := hrel
    have hbz := hB.size
    have hOz : (strB O).size ≤ 4 := by rw [strB_size]; exact hO
    have HO := Lib.hid hO
    clear hO
    rcases hcase with ⟨rfl, hq⟩ | ⟨rfl, hq⟩ | ⟨rfl, hq⟩ | ⟨rfl, hq⟩ | ⟨rfl, hq⟩
    · have HQ := Lib.hid hq
      clear hq
      by_cases hk : 10000 ≤ n
      · have HP := Lib.hid (pK_yes hk)
        have hc := conv_dig (n / 10000 % 10) (Nat.mod_lt _ (by decide)) (48 + (n : Int) / 10000 % 10) (by simp)
        have hz1 : (strB [digB1 (n / 10000 % 10)]).size = 1 := strB_size _
        go_wp2_with fail
        go_roundw
        case rel => exact ⟨hB.alloc hbz _, O ++ [digB1 (n / 10000 % 10)], by rw [strB_app, strB_list], len_snoc (by rw [HQ.out]; simp), .inr (.inl ⟨by go_num, by rw [HQ.out, HP.out]; rfl⟩)⟩
        case measure => simp [intOf]
      · have HP := Lib.hid (pK_no hk)
        go_wp2_with fail
        go_roundw
        case rel => exact ⟨hB, O, rfl, HO.out, .inr (.inl ⟨by go_num, by rw [HQ.out, HP.out]⟩)⟩
        case measure => simp [intOf]
    · have HQ := Lib.hid hq
      clear hq
      by_cases hk : 1000 ≤ n
      · have HP := Lib.hid (pK_yes hk)
        have hc := conv_dig (n / 1000 % 10) (Nat.mod_lt _ (by decide)) (48 + (n : Int) / 1000 % 10) (by simp)
        have hz1 : (strB [digB1 (n / 1000 % 10)]).size = 1 := strB_size _
        go_wp2_with fail
        go_roundw
        case rel => exact ⟨hB.alloc hbz _, O ++ [digB1 (n / 1000 % 10)], by rw [strB_app, strB_list], len_snoc (by rw [HQ.out]; have := pK_len n 10000; omega), .inr (.inr (.inl ⟨by go_num, by rw [HQ.out, HP.out]⟩))⟩
        case measure => simp [intOf]
      · have HP := Lib.hid (pK_no hk)
        go_wp2_with fail
        go_roundw
        case rel => exact ⟨hB, O, rfl, HO.out, .inr (.inr (.inl ⟨by go_num, by rw [HQ.out, HP.out]; simp⟩))⟩
        case measure => simp [intOf]
    · have HQ := Lib.hid hq
      clear hq
      by_cases hk : 100 ≤ n
      · have HP := Lib.hid (pK_yes hk)
        have hc := conv_dig (n / 100 % 10) (Nat.mod_lt _ (by decide)) (48 + (n : Int) / 100 % 10) (by simp)
        have hz1 : (strB [digB1 (n / 100 % 10)]).size = 1 := strB_size _
        go_wp2_with fail
        go_roundw
        case rel => exact ⟨hB.alloc hbz _, O ++ [digB1 (n / 100 % 10)], by rw [strB_app, strB_list], len_snoc (by rw [HQ.out]; have h1 := pK_len n 10000; have h2 := pK_len n 1000; simp only [List.length_append]; omega), .inr (.inr (.inr (.inl ⟨by go_num, by rw [HQ.out, HP.out]⟩)))⟩
        case measure => simp [intOf]
      · have HP := Lib.hid (pK_no hk)
        go_wp2_with fail
        go_roundw
        case rel => exact ⟨hB, O, rfl, HO.out, .inr (.inr (.inr (.inl ⟨by go_num, by rw [HQ.out, HP.out]; simp⟩)))⟩
        case measure => simp [intOf]
    · have HQ := Lib.hid hq
      clear hq
      by_cases hk : 10 ≤ n
      · have HP := Lib.hid (pK_yes hk)
        have hc := conv_dig (n / 10 % 10) (Nat.mod_lt _ (by decide)) (48 + (n : Int) / 10 % 10) (by simp)
        have hz1 : (strB [digB1 (n / 10 % 10)]).size = 1 := strB_size _
        go_wp2_with fail
        go_roundw
        case rel => exact ⟨hB.alloc hbz _, O ++ [digB1 (n / 10 % 10)], by rw [strB_app, strB_list], len_snoc (by rw [HQ.out]; have h1 := pK_len n 10000; have h2 := pK_len n 1000; have h3 := pK_len n 100; simp only [List.length_append]; omega), .inr (.inr (.inr (.inr (⟨by go_num, by rw [HQ.out, HP.out]⟩))))⟩
        case measure => simp [intOf]
      · have HP := Lib.hid (pK_no hk)
        go_wp2_with fail
        go_roundw
        case rel => exact ⟨hB, O, rfl, HO.out, .inr (.inr (.inr (.inr (⟨by go_num, by rw [HQ.out, HP.out]; simp⟩))))⟩
        case measure => simp [intOf]
    · have HQ := Lib.hid hq
      clear hq
      have hz1 : (strB [digB1 (n % 10)]).size = 1 := strB_size _
      go_wp2_with fail
      go_ret
      refine ⟨ret_str6 ?_, hB.alloc hbz _⟩
      rw [strB_app, strB_list, HQ.out]; rfl

/-- The value v is a slice of bytes that reads as bs in the world w. -/
def ReadsU6 (w : World) (v : Value) (bs : List UInt8) : Prop :=
  ∃ ao cap, v = .slice ao bs.length cap ∧ ∀ j c, bs[j]? = some c → ∃ g off, ao = some ⟨g, off, none⟩ ∧ g < w.heap.size ∧ w.cell? ⟨g, off + j, none⟩ = some (.int .u8 (c.toNat : Int))
def RepRel (a m : Nat) (w : World) (u t i : Value) (wr : World) : Prop :=
  ∃ (k : Nat) (qs : Flds) (val : List UInt8), i = .int .i64 k ∧ k ≤ m ∧ OwnsP 57 w.heap.size wr u qs ∧ RepF (digL a) qs ∧ qs.length ≤ k ∧ t = .string (strB val) ∧ Reps (digL a) val ∧ val.length ≤ 5 + 8 * k ∧ Below w.heap.size w wr
theorem repF_snoc {d : List UInt8} {qs : Flds} {n v : List UInt8} (h : RepF d qs) (hn : lowS n = lowS clN) (hv : Reps d v) (hl : n.length + v.length ≤ 300) : RepF d (qs ++ [(n, v)]) := by
  intro p hp
  rcases List.mem_append.1 hp with hp | hp
  · exact h p hp
  · rw [List.mem_singleton] at hp; rw [hp]; exact ⟨hn, hv, hl⟩
def CLN6 : List UInt8 := [67, 111, 110, 116, 101, 110, 116, 45, 76, 101, 110, 103, 116, 104]
theorem sane_cut6 {a : Addr} {k c : Nat} (h : k ≤ c) : Sane (.slice (some a) k c) := fun x n m e => by cases e; exact ⟨h, fun h => by cases h⟩
theorem strB_nil6 : strB [] = ⟨#[]⟩ := rfl
theorem errV_pos6 {c : Nat} (h : c ≠ 0) : errV c = .iface 59 (.int .i64 c) := errV_no' h
set_option maxHeartbeats 64000000 in
set_option maxRecDepth 100000 in
theorem fr_repeats_walk (x0 : Nat) (bs : List UInt8) (vb : Value) (x2 : Nat) (w : World) (h0 : x0 < 4294967296) (hb : ReadsU6 w vb bs) (hbm : bs.length ≤ maxLen) (h2 : x2 < 4294967296) :
    Calls Tryd.prog 8 #[.int .u32 (x0 : Int), vb, .int .u32 (x2 : Int)] w fun e w' => e = .returned (.bool true) ∧ Below w.heap.size w w' := by
  unfold maxLen at hbm
  obtain ⟨ao, cap, rfl, hc⟩ := hb
  have HC := Lib.hid hc
  clear hc
  obtain ⟨a, ha⟩ : ∃ a, a = x0 % 70000 := ⟨_, rfl⟩
  obtain ⟨b, hb⟩ : ∃ b, b = x2 % 70000 := ⟨_, rfl⟩
  have hal : a < 70000 := by rw [ha]; exact Nat.mod_lt _ (by decide)
  have hbl : b < 70000 := by rw [hb]; exact Nat.mod_lt _ (by decide)
  have hai : (x0 : Int) % 70000 = (a : Int) := by rw [ha]; simp
  have hbi : (x2 : Int) % 70000 = (b : Int) := by rw [hb]; simp
  clear ha hb
  have DA := Lib.hid (fun W => digits_any a W (by omega))
  have DB := Lib.hid (fun W => digits_any b W (by omega))
  have hdl := digL_len a
  have hdz : (strB (digL a)).size ≤ 5 := by rw [strB_size]; exact hdl.2
  by_cases hbig : 12 < bs.length
  · go_enter Tryd.func8, Tryd.ntmps8
    go_wp2_with fail
    refine (awake6_any _).mono ?_
    rintro e w1 ⟨rfl, hB1⟩
    go_wp2_with fail
    refine (awake6_any _).mono ?_
    rintro e w2 ⟨rfl, hB2⟩
    go_wp2_with fail
    go_ret
    exact ⟨rfl, hB1.trans (hB2.mono hB1.size)⟩
  · go_enter Tryd.func8, Tryd.ntmps8
    go_wp2_with fail
    refine (awake6_any _).mono ?_
    rintro e w1 ⟨rfl, hB1⟩
    go_wp2_with fail
    refine (DA.out _).mono ?_
    rintro e w2 ⟨rfl, hB2⟩
    have hB12 := hB1.trans (hB2.mono hB1.size)
    clear hB1 hB2
    go_wp2_with fail
    go_loopw [9, 11, 12] (fun u t i wr => RepRel a bs.length w u t i wr) (fun _ _ i _ => bs.length - (intOf i).toNat)
    case atStart => exact ⟨0, [], digL a, rfl, Nat.zero_le _, OwnsP.nil _ _ _, by intro p hp; simp at hp, Nat.le_refl _, rfl, reps_one (digL_all a), by omega, hB12⟩
    case round =>
      obtain ⟨k, qs, val, rfl, hk, hO, hF, hql, rfl, hv, hvl, hB⟩ := hrel
      have hbz := hB.size
      have HF := Lib.hid hF
      have HV := Lib.hid hv
      have hvz : (strB val).size ≤ 200 := by rw [strB_size]; omega
      clear hF hv
      by_cases hlt : k < bs.length
      · obtain ⟨c, hcb⟩ : ∃ c, bs[k]? = some c := ⟨bs[k], by simp [hlt]⟩
        obtain ⟨g, off, rfl, hg, h1⟩ := HC.out k c hcb
        have hcell : wr.cell? ⟨g, off + k, none⟩ = some (.int .u8 (c.toNat : Int)) := (hB.cell (p := ⟨g, off + k, none⟩) hg).trans h1
        have hcu := UInt8.toNat_lt c
        clear hcb h1
        have hm3 : c.toNat % 3 = 0 ∨ c.toNat % 3 = 1 ∨ c.toNat % 3 = 2 := by omega
        rcases hm3 with hm3 | hm3 | hm3
        · have q0 : ((c.toNat : Int) % 3 == 0) = true := by rw [beq_iff_eq]; omega
          have HR := Lib.hid (reads_new1 wr clN val 57)
          have HO := Lib.hid (OwnsP.below hO (below_new wr (.cells #[.string (strB clN), .string (strB val)] 57)))
          have HB := Lib.hid (hB.alloc hbz (.cells #[.string (strB clN), .string (strB val)] 57))
          clear hm3
          go_wp2_with (at_builtin; refine wpList_appendF rfl _ _ rfl _ _ rfl rfl HO.out HR.out (sane_cut6 (Nat.le_refl 1)) (by simp; omega) (by simp; omega) ?_; intro v6 w6 hO6 hg6)
          have hB6 : Below w.heap.size w w6 := below_appendF HB.out (by simp; omega) HO.out hg6
          refine (DA.out _).mono ?_
          rintro e w7 ⟨rfl, hB7⟩
          go_wp2_with fail
          go_roundw
          case rel => exact ⟨k + 1, qs ++ [(clN, val)], digL a, by go_num, by omega, OwnsP.below hO6 hB7, repF_snoc HF.out rfl HV.out (by simp [clN]; omega), by simp; omega, rfl, reps_one (digL_all a), by omega, hB6.trans (hB7.mono hB6.size)⟩
          case measure => simp [intOf]; omega
        · have q0 : ((c.toNat : Int) % 3 == 0) = false := by rw [beq_eq_false_iff_ne]; omega
          have q1 : ((c.toNat : Int) % 3 == 1) = true := by rw [beq_iff_eq]; omega
          clear hm3
          go_wp2_with fail
          refine (DA.out _).mono ?_
          rintro e w7 ⟨rfl, hB7⟩
          go_wp2_with fail
          go_roundw
          case rel => exact ⟨k + 1, qs, val ++ 44 :: 32 :: digL a, by go_num, by omega, OwnsP.below hO hB7, HF.out, by omega, by first | rfl | congr 1, reps_comma (digL_all a) HV.out, by simp; omega, hB.trans (hB7.mono hbz)⟩
          case measure => simp [intOf]; omega
        · have q0 : ((c.toNat : Int) % 3 == 0) = false := by rw [beq_eq_false_iff_ne]; omega
          have q1 : ((c.toNat : Int) % 3 == 1) = false := by rw [beq_eq_false_iff_ne]; omega
          clear hm3
          go_wp2_with fail
          refine (DA.out _).mono ?_
          rintro e w7 ⟨rfl, hB7⟩
          go_wp2_with fail
          go_roundw
          case rel => exact ⟨k + 1, qs, val ++ 32 :: 44 :: 9 :: digL a, by go_num, by omega, OwnsP.below hO hB7, HF.out, by omega, by first | rfl | congr 1, reps_tab (digL_all a) HV.out, by simp; omega, hB.trans (hB7.mono hbz)⟩
          case measure => simp [intOf]; omega
      · have HR := Lib.hid (reads_new1 wr CLN6 val 57)
        have HO := Lib.hid (OwnsP.below hO (below_new wr (.cells #[.string (strB CLN6), .string (strB val)] 57)))
        have HB := Lib.hid (hB.alloc hbz (.cells #[.string (strB CLN6), .string (strB val)] 57))
        go_upto_region 17 with (at_builtin; refine wpList_appendF rfl _ _ rfl _ _ rfl rfl HO.out HR.out (sane_cut6 (Nat.le_refl 1)) (by simp; omega) (by simp; omega) ?_; intro v6 w6 hO6 hg6)
        have hB6 : Below w.heap.size w w6 := below_appendF HB.out (by simp; omega) HO.out hg6
        have hF6 : RepF (digL a) (qs ++ [(CLN6, val)]) := repF_snoc HF.out rfl HV.out (by simp [CLN6]; omega)
        have hl6 : (qs ++ [(CLN6, val)]).length ≤ 13 := by simp; omega
        have hne6 : qs ++ [(CLN6, val)] ≠ [] := by simp
        have hlb := digL_len b
        generalize qs ++ [(CLN6, val)] = q6 at *
        have HQ6 := Lib.hid hO6.q
        have HS6 := Lib.hid hO6.sane
        have RO := Lib.hid (rep_of (by omega) hF6 hne6)
        have RM := Lib.hid (fun (h : a ≠ b) => rep_mix (b := b) (by omega) (by omega) h hF6 hne6)
        have FT := Lib.hid (rep_fits hF6 (by omega))
        have FT2 : Hid (Fits (q6 ++ [(clN, digL b)])) := Lib.hid ⟨by simp; omega, by
          rw [tot_app]
          have h1 := (rep_fits hF6 (by omega)).2
          have h3 : totL q6 ≤ 3900 := by
            have : ∀ (qs : Flds), (∀ p ∈ qs, p.1.length + p.2.length ≤ 300) → totL qs ≤ 300 * qs.length := by
              intro qs
              induction qs with
              | nil => intro _; simp [totL]
              | cons p r ih =>
                intro h
                have h1 := ih fun q hq => h q (by simp [hq])
                have h2 := h p (by simp)
                have e : totL (p :: r) = p.1.length + p.2.length + totL r := rfl
                rw [e, List.length_cons]; omega
            have := this q6 fun p hp => (hF6 p hp).2.2
            omega
          have h2 : totL [(clN, digL b)] = clN.length + (digL b).length := by simp [totL]
          have h4 : clN.length = 14 := rfl
          omega⟩
        clear hO hO6 hg6 hF6 hne6 HR HO HB HF HV
        go_upto_region 18 with (first
          | (go_at_call 23; refine (DB.out _).mono ?_; rintro e w8 ⟨rfl, hB8⟩; have hz8 := hB8.size)
          | (at_builtin; refine wpList_appendF rfl _ _ rfl _ _ rfl rfl (OwnsP.below (OwnsP.below hO7 hB8) (below_new w8 _)) (reads_new1 w8 clN (digL b) 57) (sane_cut6 (Nat.le_refl 1)) (by simp; omega) (by simp; omega) ?_; intro v9 w9 hO9 hg9)
          | (at_builtin; refine wpList_appendF rfl _ _ rfl _ _ rfl rfl (OwnsP.nil _ w6.heap.size _) HQ6.out HS6.out (by simp; omega) (Nat.le_refl _) ?_; intro v7 w7 hO7 hg7; have hz7 := hg7.size))
        have hB7 : Below w6.heap.size w6 w7 := below_appendF (Below.refl _ _) (Nat.le_refl _) (OwnsP.nil 57 w6.heap.size w6) hg7
        have hB8' := hB7.trans (hB8.mono hB7.size)
        have hB9 : Below w6.heap.size w6 w9 := below_appendF (hB8'.alloc hB8'.size (.cells #[.string (strB clN), .string (strB (digL b))] 57)) (by simp; omega) (OwnsP.below (OwnsP.below hO7 hB8) (below_new w8 _)) hg9
        have hO9 : OwnsP 57 w6.heap.size w9 v9 (q6 ++ [(clN, digL b)]) := by simpa using hO9
        have hB9w := hB6.trans (hB9.mono hB6.size)
        obtain ⟨a6, c6, rfl, _⟩ := HQ6.out
        obtain ⟨a9, n9, c9, hv9⟩ : ∃ a n c, v9 = .slice a n c := by
          obtain ⟨ao, cap, h, _⟩ := hO9.reads
          exact ⟨_, _, _, h⟩
        subst hv9
        have P1 := ofRequest_any [] [] _ _ w9 (HQ6.out.below hB9) FT.out
        have P2 := Lib.hid (fun fv W (hr : ReadsQ W fv (q6 ++ [(clN, digL b)])) => ofRequest_any [] [] fv _ W hr FT2.out)
        unfold OfRes at P2
        rw [RO.out] at P1
        clear hB8' hg9 hg7 hO7 hB7 hB8 hB6 hB9
        clear hai hbi hdl hdz hlb h0 h2 hbm hk hql hvl hvz hlt hbz hB hB12 HC DA DB hal hbl hl6 hz7 hz8
        by_cases hlg : 65536 < a
        · rw [if_pos hlg] at P1
          have P1 : Calls Tryd.prog 12 #[.agg #[.string ⟨#[]⟩, .string ⟨#[]⟩, .slice a6 q6.length c6]] w9 (fun e w' => e = .returned (.tuple #[.agg #[.int .i64 0, .int .i64 0], .iface 59 (.int .i64 5)]) ∧ Below w9.heap.size w9 w') := P1
          go_wp2_with fail
          refine P1.mono ?_
          rintro e w10 ⟨rfl, hB10⟩
          have hBf := below_new w10 (.cells #[.int .i64 0, .int .i64 0] 28)
          have hB10w := hB9w.trans (hB10.mono hB9w.size)
          have P2 := P2.out _ _ ((hO9.q.below hB10).below hBf)
          have hB11w := hB10w.trans (hBf.mono hB10w.size)
          obtain ⟨f0, f1, _⟩ := frame_new w10 28 0 0
          have fz : w10.heap.size < (w10.alloc (.cells #[.int .i64 0, .int .i64 0] 28)).heap.size := by simp
          clear hO9 hB10 hBf hB10w hB9w P1 HQ6
          by_cases hab : a = b
          · subst hab
            clear RM
            generalize ofO 1 (lsF (q6 ++ [(clN, digL a)])) (csF (q6 ++ [(clN, digL a)])) = r2 at P2
            obtain ⟨c2, k2, n2⟩ := r2
            rw [strB_nil6] at P2
            go_wp2_with fail
            refine P2.mono ?_
            rintro e w12 ⟨rfl, hB12⟩
            have g0 := (hB12.cell (p := ⟨w10.heap.size, 0, none⟩) fz).trans f0
            have g1 := (hB12.cell (p := ⟨w10.heap.size, 1, none⟩) fz).trans f1
            have gz := Nat.lt_of_lt_of_le fz hB12.size
            have hBz := hB11w.trans (hB12.mono hB11w.size)
            clear f0 f1 fz P2
            go_wp2_with fail
            refine (is_errno 5 (by decide) _).mono ?_
            rintro e w' ⟨rfl, rfl⟩
            go_wp2_with fail
            go_ret
            exact ⟨rfl, hBz.alloc hBz.size _⟩
          · have e0 : ((a : Int) == (b : Int)) = false := by rw [beq_eq_false_iff_ne]; omega
            have e00 : ¬ (a : Int) = (b : Int) := by omega
            rw [RM.out hab] at P2
            clear RM
            have P2 : Calls Tryd.prog 12 #[.agg #[.string ⟨#[]⟩, .string ⟨#[]⟩, .slice a9 n9 c9]] (w10.alloc (.cells #[.int .i64 0, .int .i64 0] 28)) (fun e w' => e = .returned (.tuple #[.agg #[.int .i64 0, .int .i64 0], .iface 59 (.int .i64 30)]) ∧ Below (w10.alloc (.cells #[.int .i64 0, .int .i64 0] 28)).heap.size (w10.alloc (.cells #[.int .i64 0, .int .i64 0] 28)) w') := P2
            clear hab
            go_wp2_with fail
            refine P2.mono ?_
            rintro e w12 ⟨rfl, hB12⟩
            have g0 := (hB12.cell (p := ⟨w10.heap.size, 0, none⟩) fz).trans f0
            have g1 := (hB12.cell (p := ⟨w10.heap.size, 1, none⟩) fz).trans f1
            have gz := Nat.lt_of_lt_of_le fz hB12.size
            have hBz := hB11w.trans (hB12.mono hB11w.size)
            clear f0 f1 fz P2
            go_wp2_with fail
            refine (is_errno 30 (by decide) _).mono ?_
            rintro e w' ⟨rfl, rfl⟩
            go_wp2_with fail
            refine (is_errno 5 (by decide) _).mono ?_
            rintro e w' ⟨rfl, rfl⟩
            go_wp2_with fail
            go_ret
            exact ⟨rfl, hBz.alloc hBz.size _⟩
        · rw [if_neg hlg] at P1
          have P1 : Calls Tryd.prog 12 #[.agg #[.string ⟨#[]⟩, .string ⟨#[]⟩, .slice a6 q6.length c6]] w9 (fun e w' => e = .returned (.tuple #[.agg #[.int .i64 2, .int .i64 (a : Int)], .nilIface]) ∧ Below w9.heap.size w9 w') := P1
          go_wp2_with fail
          refine P1.mono ?_
          rintro e w10 ⟨rfl, hB10⟩
          have hBf := below_new w10 (.cells #[.int .i64 2, .int .i64 (a : Int)] 28)
          have hB10w := hB9w.trans (hB10.mono hB9w.size)
          have P2 := P2.out _ _ ((hO9.q.below hB10).below hBf)
          have hB11w := hB10w.trans (hBf.mono hB10w.size)
          obtain ⟨f0, f1, _⟩ := frame_new w10 28 2 (a : Int)
          have fz : w10.heap.size < (w10.alloc (.cells #[.int .i64 2, .int .i64 (a : Int)] 28)).heap.size := by simp
          clear hO9 hB10 hBf hB10w hB9w P1 HQ6
          by_cases hab : a = b
          · subst hab
            clear RM
            generalize ofO 1 (lsF (q6 ++ [(clN, digL a)])) (csF (q6 ++ [(clN, digL a)])) = r2 at P2
            obtain ⟨c2, k2, n2⟩ := r2
            rw [strB_nil6] at P2
            go_wp2_with fail
            refine P2.mono ?_
            rintro e w12 ⟨rfl, hB12⟩
            have g0 := (hB12.cell (p := ⟨w10.heap.size, 0, none⟩) fz).trans f0
            have g1 := (hB12.cell (p := ⟨w10.heap.size, 1, none⟩) fz).trans f1
            have gz := Nat.lt_of_lt_of_le fz hB12.size
            have hBz := hB11w.trans (hB12.mono hB11w.size)
            clear f0 f1 fz P2
            go_wp2_with fail
            go_ret
            exact ⟨rfl, hBz.alloc hBz.size _⟩
          · have e0 : ((a : Int) == (b : Int)) = false := by rw [beq_eq_false_iff_ne]; omega
            have e00 : ¬ (a : Int) = (b : Int) := by omega
            rw [RM.out hab] at P2
            clear RM
            have P2 : Calls Tryd.prog 12 #[.agg #[.string ⟨#[]⟩, .string ⟨#[]⟩, .slice a9 n9 c9]] (w10.alloc (.cells #[.int .i64 2, .int .i64 (a : Int)] 28)) (fun e w' => e = .returned (.tuple #[.agg #[.int .i64 0, .int .i64 0], .iface 59 (.int .i64 30)]) ∧ Below (w10.alloc (.cells #[.int .i64 2, .int .i64 (a : Int)] 28)).heap.size (w10.alloc (.cells #[.int .i64 2, .int .i64 (a : Int)] 28)) w') := P2
            clear hab
            go_wp2_with fail
            refine P2.mono ?_
            rintro e w12 ⟨rfl, hB12⟩
            have g0 := (hB12.cell (p := ⟨w10.heap.size, 0, none⟩) fz).trans f0
            have g1 := (hB12.cell (p := ⟨w10.heap.size, 1, none⟩) fz).trans f1
            have gz := Nat.lt_of_lt_of_le fz hB12.size
            have hBz := hB11w.trans (hB12.mono hB11w.size)
            clear f0 f1 fz P2
            go_wp2_with fail
            refine (is_errno 30 (by decide) _).mono ?_
            rintro e w' ⟨rfl, rfl⟩
            go_wp2_with fail
            go_ret
            exact ⟨rfl, hBz.alloc hBz.size _⟩
end Go.Proofs.YthjkneifffdglaaDoor
