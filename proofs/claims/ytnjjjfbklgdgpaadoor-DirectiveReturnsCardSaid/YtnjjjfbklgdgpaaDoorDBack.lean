/- Plain mathematics of chapter 11: the text of directives is read as the directives, normalized. -/
import Derived.Test.YtnjjjfbklgdgpaaDoorDRefFmt
import Derived.Test.YtnjjjfbklgdgpaaDoorDList
namespace Go.Proofs.YtnjjjfbklgdgpaaDoor

/-- A text without blanks, commas, quotation marks and control bytes. -/
def PlainI (t : List UInt8) : Prop := t ≠ [] ∧ ∀ c ∈ t, c ≠ 34 ∧ c ≠ 44 ∧ blank c = false ∧ ctlB c = false
theorem scan_plain : ∀ (t cur r : List UInt8), (∀ c ∈ t, c ≠ 34 ∧ c ≠ 44) → scan 44 .out cur (t ++ r) = scan 44 .out (cur ++ t) r := by
  intro t
  induction t with
  | nil => intro cur r _; simp
  | cons c t ih =>
    intro cur r h
    have hc := h c (by simp)
    rw [List.cons_append, scan, if_neg hc.1, if_neg hc.2, ih _ _ fun x hx => h x (by simp [hx])]
    simp
theorem scan_items : ∀ (r : List (List UInt8)) (t cur : List UInt8), PlainI t → (∀ u ∈ r, PlainI u) → scan 44 .out cur (getL (t :: r)) = some ((cur ++ t) :: r.map (32 :: ·)) := by
  intro r
  induction r with
  | nil =>
    intro t cur ht _
    have := scan_plain t cur [] fun c hc => ⟨(ht.2 c hc).1, (ht.2 c hc).2.1⟩
    rw [List.append_nil] at this
    show scan 44 .out cur t = _
    rw [this]; rfl
  | cons u q ih =>
    intro t cur ht h
    show scan 44 .out cur (t ++ 44 :: 32 :: getL (u :: q)) = _
    rw [scan_plain t cur _ fun c hc => ⟨(ht.2 c hc).1, (ht.2 c hc).2.1⟩, scan, if_neg (by decide), if_pos rfl, scan, if_neg (by decide), if_neg (by decide), ih u _ (h u (by simp)) fun x hx => h x (by simp [hx])]
    rfl
theorem tL_plain {t : List UInt8} (h : ∀ c ∈ t, blank c = false) : tL t = t := by
  cases t with
  | nil => rfl
  | cons c r => rw [tL_cons, if_neg (by rw [h c (by simp)]; decide)]
theorem tR_plain {t : List UInt8} (h : ∀ c ∈ t, blank c = false) : tR t = t := by
  show (tL t.reverse).reverse = t
  rw [tL_plain fun c hc => h c (List.mem_reverse.1 hc), List.reverse_reverse]
theorem trim_plain {t : List UInt8} (h : PlainI t) : trimB t = t := by
  have hb : ∀ c ∈ t, blank c = false := fun c hc => (h.2 c hc).2.2.1
  rw [trimB_eq, tL_plain hb, tR_plain hb]
theorem trim_plain32 {t : List UInt8} (h : PlainI t) : trimB (32 :: t) = t := by
  have hb : ∀ c ∈ t, blank c = false := fun c hc => (h.2 c hc).2.2.1
  rw [trimB_eq, tL_cons, if_pos (by decide), tL_plain hb, tR_plain hb]
theorem ctl_items : ∀ (ls : List (List UInt8)), (∀ u ∈ ls, PlainI u) → ctlS (getL ls) = false := by
  intro ls
  induction ls with
  | nil => intro _; rfl
  | cons t r ih =>
    intro h
    have ht : ctlS t = false := by
      unfold ctlS
      rw [List.any_eq_false]
      intro c hc
      rw [((h t (by simp)).2 c hc).2.2.2]; decide
    cases r with
    | nil => exact ht
    | cons u q =>
      show ctlS (t ++ 44 :: 32 :: getL (u :: q)) = false
      rw [ctl_app, ht, ctl_cons, ctl_cons, ih fun x hx => h x (by simp [hx])]; rfl
theorem list_items {ls : List (List UInt8)} (h : ∀ u ∈ ls, PlainI u) : listO (getL ls) = some ls := by
  cases ls with
  | nil => decide +kernel
  | cons t r =>
    rw [list_of (ctl_items _ h) (scan_items r t [] (h t (by simp)) fun x hx => h x (by simp [hx]))]
    have e : ((([] ++ t) :: r.map (32 :: ·)).map trimB) = t :: r := by
      rw [List.map_cons, List.nil_append, trim_plain (h t (by simp)), List.map_map]
      congr 1
      conv => rhs; rw [← List.map_id r]
      exact List.map_congr_left fun u hu => trim_plain32 (h u (by simp [hu]))
    rw [e]
    congr 1
    exact List.filter_eq_self.2 fun u hu => by
      have := (h u hu).1
      cases u with
      | nil => exact absurd rfl this
      | cons c q => rfl

/-! ### Digits -/
theorem dec_digit : ∀ (m : Nat), ∀ c ∈ Lib.decDigits m, 48 ≤ c.toNat ∧ c.toNat ≤ 57 := by
  intro m
  induction m using Nat.strongRecOn with
  | _ m ih =>
    intro c hc
    by_cases h : m < 10
    · rw [Lib.decDigits_one h] at hc
      obtain rfl := List.mem_singleton.1 hc
      rw [UInt8.toNat_ofNat']; omega
    · rw [Lib.decDigits, dif_neg h] at hc
      rcases List.mem_append.1 hc with h1 | h1
      · exact ih (m / 10) (by omega) c h1
      · obtain rfl := List.mem_singleton.1 h1
        rw [UInt8.toNat_ofNat']; omega
theorem numA_app : ∀ (l r : List UInt8) (n : Int), numA (l ++ r) n = (numA l n).bind (numA r) := by
  intro l
  induction l with
  | nil => intro r n; rfl
  | cons c t ih =>
    intro r n
    rw [List.cons_append, numA, numA]
    split
    · exact ih _ _
    · rfl
theorem numA_dec : ∀ (m : Nat), m ≤ 2147483647 → numA (Lib.decDigits m) 0 = some (m : Int) := by
  intro m
  induction m using Nat.strongRecOn with
  | _ m ih =>
    intro hm
    by_cases h : m < 10
    · have e : (UInt8.ofNat (48 + m)).toNat = 48 + m := by rw [UInt8.toNat_ofNat']; omega
      rw [Lib.decDigits_one h, numA, if_pos (by omega), numA, e]
      congr 1
      omega
    · have e : (UInt8.ofNat (48 + m % 10)).toNat = 48 + m % 10 := by rw [UInt8.toNat_ofNat']; omega
      rw [Lib.decDigits, dif_neg h, numA_app, ih (m / 10) (by omega) (by omega), Option.bind_some, numA, if_pos (by omega), numA, e]
      congr 1
      omega
theorem dec_nonempty (m : Nat) : Lib.decDigits m ≠ [] := by
  by_cases h : m < 10
  · rw [Lib.decDigits_one h]; simp
  · rw [Lib.decDigits, dif_neg h]; simp
theorem sec_dec {s : Int} (h1 : 0 ≤ s) (h2 : s ≤ 2147483647) : secL (decT s) = some s := by
  obtain ⟨m, rfl⟩ : ∃ m : Nat, s = m := ⟨s.toNat, by omega⟩
  have ed : decT (m : Int) = Lib.decDigits m := rfl
  have ea : argL (decT (m : Int)) = decT (m : Int) := by
    unfold argL
    rw [if_neg]
    rw [ed]
    cases hd : Lib.decDigits m with
    | nil => exact absurd hd (dec_nonempty m)
    | cons c r =>
      have := dec_digit m c (by rw [hd]; simp)
      intro e
      have e' : c = 34 := e
      rw [e'] at this
      revert this; decide
  unfold secL
  rw [ea, if_neg (by rw [ed]; exact dec_nonempty m), ed]
  exact numA_dec m (by omega)
theorem plain_time {n : List UInt8} {s : Int} (hn : PlainI n) : PlainI (timeL n s) := by
  unfold timeL
  split
  · exact hn
  · refine ⟨by simp, fun c hc => ?_⟩
    rcases List.mem_append.1 hc with h | h
    · exact hn.2 c h
    · rcases List.mem_cons.1 h with rfl | h
      · exact ⟨by decide, by decide, by decide, by decide⟩
      · have hd := dec_digit s.toNat c h
        refine ⟨fun e => ?_, fun e => ?_, ?_, ?_⟩
        · rw [e] at hd; revert hd; decide
        · rw [e] at hd; revert hd; decide
        · cases hb : blank c with
          | false => rfl
          | true => rcases (blank_iff c).1 hb with h | h <;> omega
        · unfold ctlB
          rw [decide_eq_false (by omega : ¬ c.toNat < 32), decide_eq_false (by omega : ¬ c.toNat = 127)]; rfl
def plainB (t : List UInt8) : Bool := !t.isEmpty && t.all fun c => decide (c ≠ 34) && decide (c ≠ 44) && !blank c && !ctlB c
theorem plain_of {t : List UInt8} (h : plainB t = true) : PlainI t := by
  unfold plainB at h
  rw [Bool.and_eq_true] at h
  refine ⟨fun e => by rw [e] at h; simp at h, fun c hc => ?_⟩
  have := List.all_eq_true.1 h.2 c hc
  simp only [Bool.and_eq_true, decide_eq_true_eq, Bool.not_eq_true'] at this
  exact ⟨this.1.1.1, this.1.1.2, this.1.2, this.2⟩
theorem plain_items (d : Dv) : ∀ u ∈ itemsD d, PlainI u := by
  intro u hu
  unfold itemsD at hu
  rcases List.mem_append.1 hu with h | h
  · unfold flagI at h
    obtain ⟨p, hp, rfl⟩ := List.mem_map.1 h
    have hp := (List.mem_filter.1 hp).1
    unfold flagsD at hp
    simp only [List.mem_cons, List.not_mem_nil, or_false] at hp
    rcases hp with rfl | rfl | rfl | rfl | rfl | rfl
    · exact plain_of (t := nNS) (by decide +kernel)
    · exact plain_of (t := nNC) (by decide +kernel)
    · exact plain_of (t := nPR) (by decide +kernel)
    · exact plain_of (t := nPU) (by decide +kernel)
    · exact plain_of (t := nMR) (by decide +kernel)
    · exact plain_of (t := nOC) (by decide +kernel)
  · unfold timeI at h
    obtain ⟨p, hp, rfl⟩ := List.mem_map.1 h
    have hp := (List.mem_filter.1 hp).1
    unfold timesD at hp
    simp only [List.mem_cons, List.not_mem_nil, or_false] at hp
    rcases hp with rfl | rfl | rfl | rfl | rfl | rfl
    · exact plain_time (n := nMA) (plain_of (by decide +kernel))
    · exact plain_time (n := nSA) (plain_of (by decide +kernel))
    · exact plain_time (n := nWS) (plain_of (by decide +kernel))
    · exact plain_time (n := nOE) (plain_of (by decide +kernel))
    · exact plain_time (n := nMS) (plain_of (by decide +kernel))
    · exact plain_time (n := nMF) (plain_of (by decide +kernel))
/-! ### Each item adds what it says -/
theorem elem_name {n : List UInt8} (h1 : cutE n = none) (h2 : lowS n = n) (d : Dv) : elemD d n = putD d n none := by
  unfold elemD; rw [h1]; show putD d (lowS n) none = _; rw [h2]
theorem cutE_app : ∀ (n r : List UInt8), cutE n = none → cutE (n ++ 61 :: r) = some (n, r) := by
  intro n
  induction n with
  | nil => intro r _; rfl
  | cons c t ih =>
    intro r h
    unfold cutE at h
    split at h
    · cases h
    · rename_i hc
      have ht : cutE t = none := by cases ht : cutE t with
        | none => rfl
        | some p => rw [ht] at h; cases h
      rw [List.cons_append, cutE, if_neg hc, ih r ht]; rfl
theorem elem_time {n : List UInt8} (h1 : cutE n = none) (h2 : lowS n = n) (d : Dv) (s : Int) : elemD d (n ++ 61 :: decT s) = putD d n (some (decT s)) := by
  unfold elemD; rw [cutE_app n _ h1]; show putD d (lowS n) _ = _; rw [h2]
theorem foldI_ns (d : Dv) (b : Bool) : (flagI [(nNS, b)]).foldl elemD d = { d with ns := d.ns || b } := by
  have hk : kindL nNS = 0 := by decide +kernel
  cases b with
  | false => show d = _; simp
  | true =>
    show elemD d nNS = _
    rw [elem_name (by decide +kernel) (by decide +kernel)]
    unfold putD
    rw [hk]
    show { d with ns := true } = _
    simp
theorem foldI_nc (d : Dv) (b : Bool) : (flagI [(nNC, b)]).foldl elemD d = { d with nc := d.nc || b } := by
  have hk : kindL nNC = 1 := by decide +kernel
  cases b with
  | false => show d = _; simp
  | true =>
    show elemD d nNC = _
    rw [elem_name (by decide +kernel) (by decide +kernel)]
    unfold putD
    rw [hk]
    show { d with nc := true } = _
    simp
theorem foldI_pr (d : Dv) (b : Bool) : (flagI [(nPR, b)]).foldl elemD d = { d with pr := d.pr || b } := by
  have hk : kindL nPR = 2 := by decide +kernel
  cases b with
  | false => show d = _; simp
  | true =>
    show elemD d nPR = _
    rw [elem_name (by decide +kernel) (by decide +kernel)]
    unfold putD
    rw [hk]
    show { d with pr := true } = _
    simp
theorem foldI_pu (d : Dv) (b : Bool) : (flagI [(nPU, b)]).foldl elemD d = { d with pu := d.pu || b } := by
  have hk : kindL nPU = 3 := by decide +kernel
  cases b with
  | false => show d = _; simp
  | true =>
    show elemD d nPU = _
    rw [elem_name (by decide +kernel) (by decide +kernel)]
    unfold putD
    rw [hk]
    show { d with pu := true } = _
    simp
theorem foldI_mr (d : Dv) (b : Bool) : (flagI [(nMR, b)]).foldl elemD d = { d with mr := d.mr || b } := by
  have hk : kindL nMR = 4 := by decide +kernel
  cases b with
  | false => show d = _; simp
  | true =>
    show elemD d nMR = _
    rw [elem_name (by decide +kernel) (by decide +kernel)]
    unfold putD
    rw [hk]
    show { d with mr := true } = _
    simp
theorem foldI_oc (d : Dv) (b : Bool) : (flagI [(nOC, b)]).foldl elemD d = { d with oc := d.oc || b } := by
  have hk : kindL nOC = 5 := by decide +kernel
  cases b with
  | false => show d = _; simp
  | true =>
    show elemD d nOC = _
    rw [elem_name (by decide +kernel) (by decide +kernel)]
    unfold putD
    rw [hk]
    show { d with oc := true } = _
    simp
theorem foldI_ma (d : Dv) (s : Int) (h1 : -1 ≤ s) (h2 : s ≤ 2147483647) : (timeI [(nMA, s)]).foldl elemD d = { d with ma := leastD d.ma s } := by
  have hk : kindL nMA = 6 := by decide +kernel
  by_cases hs : s = -1
  · subst hs
    show d = _
    have : leastD d.ma (-1) = d.ma := by unfold leastD; split <;> simp_all
    rw [this]
  · have ht : timeI [(nMA, s)] = [nMA ++ 61 :: decT s] := by
      unfold timeI timeL; rw [List.filter_cons_of_pos (by simpa using hs), List.filter_nil, List.map_cons, List.map_nil, if_neg (fun h => absurd h.1 (show ¬ nMA = nMS by decide +kernel))]
    rw [ht]
    rw [List.foldl_cons, List.foldl_nil]
    rw [elem_time (by decide +kernel) (by decide +kernel)]
    unfold putD
    rw [hk]
    show { d with ma := leastD d.ma ((secL (decT s)).getD 0) } = _
    rw [sec_dec (by omega) h2]; rfl
theorem foldI_sa (d : Dv) (s : Int) (h1 : -1 ≤ s) (h2 : s ≤ 2147483647) : (timeI [(nSA, s)]).foldl elemD d = { d with sa := leastD d.sa s } := by
  have hk : kindL nSA = 7 := by decide +kernel
  by_cases hs : s = -1
  · subst hs
    show d = _
    have : leastD d.sa (-1) = d.sa := by unfold leastD; split <;> simp_all
    rw [this]
  · have ht : timeI [(nSA, s)] = [nSA ++ 61 :: decT s] := by
      unfold timeI timeL; rw [List.filter_cons_of_pos (by simpa using hs), List.filter_nil, List.map_cons, List.map_nil, if_neg (fun h => absurd h.1 (show ¬ nSA = nMS by decide +kernel))]
    rw [ht]
    rw [List.foldl_cons, List.foldl_nil]
    rw [elem_time (by decide +kernel) (by decide +kernel)]
    unfold putD
    rw [hk]
    show { d with sa := leastD d.sa ((secL (decT s)).getD 0) } = _
    rw [sec_dec (by omega) h2]; rfl
theorem foldI_ws (d : Dv) (s : Int) (h1 : -1 ≤ s) (h2 : s ≤ 2147483647) : (timeI [(nWS, s)]).foldl elemD d = { d with ws := leastD d.ws s } := by
  have hk : kindL nWS = 8 := by decide +kernel
  by_cases hs : s = -1
  · subst hs
    show d = _
    have : leastD d.ws (-1) = d.ws := by unfold leastD; split <;> simp_all
    rw [this]
  · have ht : timeI [(nWS, s)] = [nWS ++ 61 :: decT s] := by
      unfold timeI timeL; rw [List.filter_cons_of_pos (by simpa using hs), List.filter_nil, List.map_cons, List.map_nil, if_neg (fun h => absurd h.1 (show ¬ nWS = nMS by decide +kernel))]
    rw [ht]
    rw [List.foldl_cons, List.foldl_nil]
    rw [elem_time (by decide +kernel) (by decide +kernel)]
    unfold putD
    rw [hk]
    show { d with ws := leastD d.ws ((secL (decT s)).getD 0) } = _
    rw [sec_dec (by omega) h2]; rfl
theorem foldI_oe (d : Dv) (s : Int) (h1 : -1 ≤ s) (h2 : s ≤ 2147483647) : (timeI [(nOE, s)]).foldl elemD d = { d with oe := leastD d.oe s } := by
  have hk : kindL nOE = 9 := by decide +kernel
  by_cases hs : s = -1
  · subst hs
    show d = _
    have : leastD d.oe (-1) = d.oe := by unfold leastD; split <;> simp_all
    rw [this]
  · have ht : timeI [(nOE, s)] = [nOE ++ 61 :: decT s] := by
      unfold timeI timeL; rw [List.filter_cons_of_pos (by simpa using hs), List.filter_nil, List.map_cons, List.map_nil, if_neg (fun h => absurd h.1 (show ¬ nOE = nMS by decide +kernel))]
    rw [ht]
    rw [List.foldl_cons, List.foldl_nil]
    rw [elem_time (by decide +kernel) (by decide +kernel)]
    unfold putD
    rw [hk]
    show { d with oe := leastD d.oe ((secL (decT s)).getD 0) } = _
    rw [sec_dec (by omega) h2]; rfl
theorem foldI_ms (d : Dv) (s : Int) (h1 : -1 ≤ s) (h2 : s ≤ 2147483647) : (timeI [(nMS, s)]).foldl elemD d = { d with ms := leastD d.ms s } := by
  have hk : kindL nMS = 10 := by decide +kernel
  by_cases hs : s = -1
  · subst hs
    show d = _
    have : leastD d.ms (-1) = d.ms := by unfold leastD; split <;> simp_all
    rw [this]
  · by_cases hm : s = 2147483647
    · subst hm
      have ht : timeI [(nMS, 2147483647)] = [nMS] := by
        unfold timeI timeL; rw [List.filter_cons_of_pos (by decide), List.filter_nil, List.map_cons, List.map_nil, if_pos ⟨rfl, rfl⟩]
      rw [ht]
      show elemD d nMS = _
      rw [elem_name (by decide +kernel) (by decide +kernel)]
      unfold putD
      rw [hk]; rfl
    · have ht : timeI [(nMS, s)] = [nMS ++ 61 :: decT s] := by
        unfold timeI timeL; rw [List.filter_cons_of_pos (by simpa using hs), List.filter_nil, List.map_cons, List.map_nil, if_neg (fun h => hm h.2)]
      rw [ht]
      rw [List.foldl_cons, List.foldl_nil]
      rw [elem_time (by decide +kernel) (by decide +kernel)]
      unfold putD
      rw [hk]
      show { d with ms := leastD d.ms ((secL (decT s)).getD 0) } = _
      rw [sec_dec (by omega) h2]; rfl
theorem foldI_mf (d : Dv) (s : Int) (h1 : -1 ≤ s) (h2 : s ≤ 2147483647) (hd : -1 ≤ d.mf) : (timeI [(nMF, s)]).foldl elemD d = { d with mf := max d.mf s } := by
  have hk : kindL nMF = 11 := by decide +kernel
  by_cases hs : s = -1
  · subst hs
    show d = _
    have : max d.mf (-1) = d.mf := by omega
    rw [this]
  · have ht : timeI [(nMF, s)] = [nMF ++ 61 :: decT s] := by
      unfold timeI timeL; rw [List.filter_cons_of_pos (by simpa using hs), List.filter_nil, List.map_cons, List.map_nil, if_neg (fun h => absurd h.1 (show ¬ nMF = nMS by decide +kernel))]
    rw [ht]
    rw [List.foldl_cons, List.foldl_nil]
    rw [elem_time (by decide +kernel) (by decide +kernel)]
    unfold putD
    rw [hk]
    show { d with mf := max d.mf ((secL (decT s)).getD 2147483647) } = _
    rw [sec_dec (by omega) h2]; rfl
theorem fold_items {x : Dv} (hx : Nor x) : (itemsD x).foldl elemD noneD = x := by
  unfold itemsD flagsD timesD
  rw [flagI6, timeI6]
  simp only [List.foldl_append]
  rw [foldI_ns, foldI_nc, foldI_pr, foldI_pu, foldI_mr, foldI_oc, foldI_ma _ _ hx.ma.1 hx.ma.2, foldI_sa _ _ hx.sa.1 hx.sa.2, foldI_ws _ _ hx.ws.1 hx.ws.2, foldI_oe _ _ hx.oe.1 hx.oe.2, foldI_ms _ _ hx.ms.1 hx.ms.2, foldI_mf _ _ hx.mf.1 hx.mf.2 (by show (-1 : Int) ≤ -1; omega)]
  have hl : ∀ s : Int, leastD (-1) s = s := fun s => by unfold leastD; rw [if_pos rfl]
  have hm := hx.mf.1
  have hmx : max (-1) x.mf = x.mf := by omega
  simp only [noneD, Bool.false_or, hl, hmx]
theorem parse_fmt (d : Dv) : parseD [fmtD d] = normD d := by
  have h : listO (fmtD d) = some (itemsD (normD d)) := list_items (plain_items (normD d))
  show valD noneD (fmtD d) = _
  unfold valD
  rw [h]
  exact fold_items (nor_norm d)
theorem fmt_norm (d : Dv) : fmtD (normD d) = fmtD d := by
  unfold fmtD
  rw [norm_id (nor_norm d)]
end Go.Proofs.YtnjjjfbklgdgpaaDoor
