import Derived.Test.YtinbdflkpbjmcaaGreatDoorPa34
import Derived.Test.YtinbdflkpbjmcaaGreatDoorPa31
import Derived.Test.YtinbdflkpbjmcaaGreatDoorPa32
import Derived.Test.YtinbdflkpbjmcaaGreatDoorPa33
/- Plain mathematics of chapter 11: the text of directives is read as the directives, normalized. -/
namespace Go.Proofs.YtinbdflkpbjmcaaGreatDoor

/-- A text without blanks, commas, quotation marks and control bytes. -/
def PlainI (t : List UInt8) : Prop := t ≠ [] ∧ ∀ c ∈ t, c ≠ 34 ∧ c ≠ 44 ∧ blank c = false ∧ ctlB c = false
theorem scan_plain : ∀ (t cur r : List UInt8), (∀ c ∈ t, c ≠ 34 ∧ c ≠ 44) → scan 44 .out cur (t ++ r) = scan 44 .out (cur ++ t) r := by
  intro t
  induction t with
  | nil => intro cur r _; simp
  | cons c t ih =>
    intro cur r h
    have hc := h c (by simp)
    rw [List.cons_append, scan, if_neg hc.1, if_neg hc.2, ih _ _ fun x hx => h x (by simp [hx])]
    simp
theorem scan_items : ∀ (r : List (List UInt8)) (t cur : List UInt8), PlainI t → (∀ u ∈ r, PlainI u) → scan 44 .out cur (getL (t :: r)) = some ((cur ++ t) :: r.map (32 :: ·)) := by
  intro r
  induction r with
  | nil =>
    intro t cur ht _
    have := scan_plain t cur [] fun c hc => ⟨(ht.2 c hc).1, (ht.2 c hc).2.1⟩
    rw [List.append_nil] at this
    show scan 44 .out cur t = _
    rw [this]; rfl
  | cons u q ih =>
    intro t cur ht h
    show scan 44 .out cur (t ++ 44 :: 32 :: getL (u :: q)) = _
    rw [scan_plain t cur _ fun c hc => ⟨(ht.2 c hc).1, (ht.2 c hc).2.1⟩, scan, if_neg (by decide), if_pos rfl, scan, if_neg (by decide), if_neg (by decide), ih u _ (h u (by simp)) fun x hx => h x (by simp [hx])]
    rfl
theorem tL_plain {t : List UInt8} (h : ∀ c ∈ t, blank c = false) : tL t = t := by
  cases t with
  | nil => rfl
  | cons c r => rw [tL_cons, if_neg (by rw [h c (by simp)]; decide)]
theorem tR_plain {t : List UInt8} (h : ∀ c ∈ t, blank c = false) : tR t = t := by
  show (tL t.reverse).reverse = t
  rw [tL_plain fun c hc => h c (List.mem_reverse.1 hc), List.reverse_reverse]
theorem trim_plain {t : List UInt8} (h : PlainI t) : trimB t = t := by
  have hb : ∀ c ∈ t, blank c = false := fun c hc => (h.2 c hc).2.2.1
  rw [trimB_eq, tL_plain hb, tR_plain hb]
theorem trim_plain32 {t : List UInt8} (h : PlainI t) : trimB (32 :: t) = t := by
  have hb : ∀ c ∈ t, blank c = false := fun c hc => (h.2 c hc).2.2.1
  rw [trimB_eq, tL_cons, if_pos (by decide), tL_plain hb, tR_plain hb]
theorem ctl_items : ∀ (ls : List (List UInt8)), (∀ u ∈ ls, PlainI u) → ctlS (getL ls) = false := by
  intro ls
  induction ls with
  | nil => intro _; rfl
  | cons t r ih =>
    intro h
    have ht : ctlS t = false := by
      unfold ctlS
      rw [List.any_eq_false]
      intro c hc
      rw [((h t (by simp)).2 c hc).2.2.2]; decide
    cases r with
    | nil => exact ht
    | cons u q =>
      show ctlS (t ++ 44 :: 32 :: getL (u :: q)) = false
      rw [ctl_app, ht, ctl_cons, ctl_cons, ih fun x hx => h x (by simp [hx])]; rfl
theorem list_items {ls : List (List UInt8)} (h : ∀ u ∈ ls, PlainI u) : listO (getL ls) = some ls := by
  cases ls with
  | nil => decide +kernel
  | cons t r =>
    rw [list_of (ctl_items _ h) (scan_items r t [] (h t (by simp)) fun x hx => h x (by simp [hx]))]
    have e : ((([] ++ t) :: r.map (32 :: ·)).map trimB) = t :: r := by
      rw [List.map_cons, List.nil_append, trim_plain (h t (by simp)), List.map_map]
      congr 1
      conv => rhs; rw [← List.map_id r]
      exact List.map_congr_left fun u hu => trim_plain32 (h u (by simp [hu]))
    rw [e]
    congr 1
    exact List.filter_eq_self.2 fun u hu => by
      have := (h u hu).1
      cases u with
      | nil => exact absurd rfl this
      | cons c q => rfl

/-! ### Digits -/
theorem dec_digit : ∀ (m : Nat), ∀ c ∈ Lib.decDigits m, 48 ≤ c.toNat ∧ c.toNat ≤ 57 := by
  intro m
  induction m using Nat.strongRecOn with
  | _ m ih =>
    intro c hc
    by_cases h : m < 10
    · rw [Lib.decDigits_one h] at hc
      obtain rfl := List.mem_singleton.1 hc
      rw [UInt8.toNat_ofNat']; omega
    · rw [Lib.decDigits, dif_neg h] at hc
      rcases List.mem_append.1 hc with h1 | h1
      · exact ih (m / 10) (by omega) c h1
      · obtain rfl := List.mem_singleton.1 h1
        rw [UInt8.toNat_ofNat']; omega
theorem numA_app : ∀ (l r : List UInt8) (n : Int), numA (l ++ r) n = (numA l n).bind (numA r) := by
  intro l
  induction l with
  | nil => intro r n; rfl
  | cons c t ih =>
    intro r n
    rw [List.cons_append, numA, numA]
    split
    · exact ih _ _
    · rfl
theorem numA_dec : ∀ (m : Nat), m ≤ 2147483647 → numA (Lib.decDigits m) 0 = some (m : Int) := by
  intro m
  induction m using Nat.strongRecOn with
  | _ m ih =>
    intro hm
    by_cases h : m < 10
    · have e : (UInt8.ofNat (48 + m)).toNat = 48 + m := by rw [UInt8.toNat_ofNat']; omega
      rw [Lib.decDigits_one h, numA, if_pos (by omega), numA, e]
      congr 1
      omega
    · have e : (UInt8.ofNat (48 + m % 10)).toNat = 48 + m % 10 := by rw [UInt8.toNat_ofNat']; omega
      rw [Lib.decDigits, dif_neg h, numA_app, ih (m / 10) (by omega) (by omega), Option.bind_some, numA, if_pos (by omega), numA, e]
      congr 1
      omega
theorem dec_nonempty (m : Nat) : Lib.decDigits m ≠ [] := by
  by_cases h : m < 10
  · rw [Lib.decDigits_one h]; simp
  · rw [Lib.decDigits, dif_neg h]; simp
theorem sec_dec {s : Int} (h1 : 0 ≤ s) (h2 : s ≤ 2147483647) : secL (decTD s) = some s := by
  obtain ⟨m, rfl⟩ : ∃ m : Nat, s = m := ⟨s.toNat, by omega⟩
  have ed : decTD (m : Int) = Lib.decDigits m := rfl
  have ea : argL (decTD (m : Int)) = decTD (m : Int) := by
    unfold argL
    rw [if_neg]
    rw [ed]
    cases hd : Lib.decDigits m with
    | nil => exact absurd hd (dec_nonempty m)
    | cons c r =>
      have := dec_digit m c (by rw [hd]; simp)
      intro e
      have e' : c = 34 := e
      rw [e'] at this
      revert this; decide
  unfold secL
  rw [ea, if_neg (by rw [ed]; exact dec_nonempty m), ed]
  exact numA_dec m (by omega)
theorem plain_time {n : List UInt8} {s : Int} (hn : PlainI n) : PlainI (timeL n s) := by
  unfold timeL
  split
  · exact hn
  · refine ⟨by simp, fun c hc => ?_⟩
    rcases List.mem_append.1 hc with h | h
    · exact hn.2 c h
    · rcases List.mem_cons.1 h with rfl | h
      · exact ⟨by decide, by decide, by decide, by decide⟩
      · have hd := dec_digit s.toNat c h
        refine ⟨fun e => ?_, fun e => ?_, ?_, ?_⟩
        · rw [e] at hd; revert hd; decide
        · rw [e] at hd; revert hd; decide
        · cases hb : blank c with
          | false => rfl
          | true => rcases (blank_iff c).1 hb with h | h <;> omega
        · unfold ctlB
          rw [decide_eq_false (by omega : ¬ c.toNat < 32), decide_eq_false (by omega : ¬ c.toNat = 127)]; rfl
def plainB (t : List UInt8) : Bool := !t.isEmpty && t.all fun c => decide (c ≠ 34) && decide (c ≠ 44) && !blank c && !ctlB c
theorem plain_of {t : List UInt8} (h : plainB t = true) : PlainI t := by
  unfold plainB at h
  rw [Bool.and_eq_true] at h
  refine ⟨fun e => by rw [e] at h; simp at h, fun c hc => ?_⟩
  have := List.all_eq_true.1 h.2 c hc
  simp only [Bool.and_eq_true, decide_eq_true_eq, Bool.not_eq_true'] at this
  exact ⟨this.1.1.1, this.1.1.2, this.1.2, this.2⟩
theorem plain_items (d : Dv) : ∀ u ∈ itemsD d, PlainI u := by
  intro u hu
  unfold itemsD at hu
  rcases List.mem_append.1 hu with h | h
  · unfold flagI at h
    obtain ⟨p, hp, rfl⟩ := List.mem_map.1 h
    have hp := (List.mem_filter.1 hp).1
    unfold flagsD at hp
    simp only [List.mem_cons, List.not_mem_nil, or_false] at hp
    rcases hp with rfl | rfl | rfl | rfl | rfl | rfl
    · exact plain_of (t := nNS) (by decide +kernel)
    · exact plain_of (t := nNC) (by decide +kernel)
    · exact plain_of (t := nPR) (by decide +kernel)
    · exact plain_of (t := nPU) (by decide +kernel)
    · exact plain_of (t := nMR) (by decide +kernel)
    · exact plain_of (t := nOC) (by decide +kernel)
  · unfold timeI at h
    obtain ⟨p, hp, rfl⟩ := List.mem_map.1 h
    have hp := (List.mem_filter.1 hp).1
    unfold timesD at hp
    simp only [List.mem_cons, List.not_mem_nil, or_false] at hp
    rcases hp with rfl | rfl | rfl | rfl | rfl | rfl
    · exact plain_time (n := nMA) (plain_of (by decide +kernel))
    · exact plain_time (n := nSA) (plain_of (by decide +kernel))
    · exact plain_time (n := nWS) (plain_of (by decide +kernel))
    · exact plain_time (n := nOE) (plain_of (by decide +kernel))
    · exact plain_time (n := nMS) (plain_of (by decide +kernel))
    · exact plain_time (n := nMF) (plain_of (by decide +kernel))
/-! ### Each item adds what it says -/
theorem elem_name {n : List UInt8} (h1 : cutE n = none) (h2 : lowS n = n) (d : Dv) : elemD d n = putD d n none := by
  unfold elemD; rw [h1]; show putD d (lowS n) none = _; rw [h2]
theorem cutE_app : ∀ (n r : List UInt8), cutE n = none → cutE (n ++ 61 :: r) = some (n, r) := by
  intro n
  induction n with
  | nil => intro r _; rfl
  | cons c t ih =>
    intro r h
    unfold cutE at h
    split at h
    · cases h
    · rename_i hc
      have ht : cutE t = none := by cases ht : cutE t with
        | none => rfl
        | some p => rw [ht] at h; cases h
      rw [List.cons_append, cutE, if_neg hc, ih r ht]; rfl
theorem elem_time {n : List UInt8} (h1 : cutE n = none) (h2 : lowS n = n) (d : Dv) (s : Int) : elemD d (n ++ 61 :: decTD s) = putD d n (some (decTD s)) := by
  unfold elemD; rw [cutE_app n _ h1]; show putD d (lowS n) _ = _; rw [h2]
theorem foldI_ns (d : Dv) (b : Bool) : (flagI [(nNS, b)]).foldl elemD d = { d with ns := d.ns || b } := by
  have hk : kindL nNS = 0 := by decide +kernel
  cases b with
  | false => show d = _; simp
  | true =>
    show elemD d nNS = _
    rw [elem_name (by decide +kernel) (by decide +kernel)]
    unfold putD
    rw [hk]
    show { d with ns := true } = _
    simp
theorem foldI_nc (d : Dv) (b : Bool) : (flagI [(nNC, b)]).foldl elemD d = { d with nc := d.nc || b } := by
  have hk : kindL nNC = 1 := by decide +kernel
  cases b with
  | false => show d = _; simp
  | true =>
    show elemD d nNC = _
    rw [elem_name (by decide +kernel) (by decide +kernel)]
    unfold putD
    rw [hk]
    show { d with nc := true } = _
    simp
theorem foldI_pr (d : Dv) (b : Bool) : (flagI [(nPR, b)]).foldl elemD d = { d with pr := d.pr || b } := by
  have hk : kindL nPR = 2 := by decide +kernel
  cases b with
  | false => show d = _; simp
  | true =>
    show elemD d nPR = _
    rw [elem_name (by decide +kernel) (by decide +kernel)]
    unfold putD
    rw [hk]
    show { d with pr := true } = _
    simp
theorem foldI_pu (d : Dv) (b : Bool) : (flagI [(nPU, b)]).foldl elemD d = { d with pu := d.pu || b } := by
  have hk : kindL nPU = 3 := by decide +kernel
  cases b with
  | false => show d = _; simp
  | true =>
    show elemD d nPU = _
    rw [elem_name (by decide +kernel) (by decide +kernel)]
    unfold putD
    rw [hk]
    show { d with pu := true } = _
    simp
theorem foldI_mr (d : Dv) (b : Bool) : (flagI [(nMR, b)]).foldl elemD d = { d with mr := d.mr || b } := by
  have hk : kindL nMR = 4 := by decide +kernel
  cases b with
  | false => show d = _; simp
  | true =>
    show elemD d nMR = _
    rw [elem_name (by decide +kernel) (by decide +kernel)]
    unfold putD
    rw [hk]
    show { d with mr := true } = _
    simp
theorem foldI_oc (d : Dv) (b : Bool) : (flagI [(nOC, b)]).foldl elemD d = { d with oc := d.oc || b } := by
  have hk : kindL nOC = 5 := by decide +kernel
  cases b with
  | false => show d = _; simp
  | true =>
    show elemD d nOC = _
    rw [elem_name (by decide +kernel) (by decide +kernel)]
    unfold putD
    rw [hk]
    show { d with oc := true } = _
    simp
theorem foldI_ma (d : Dv) (s : Int) (h1 : -1 ≤ s) (h2 : s ≤ 2147483647) : (timeI [(nMA, s)]).foldl elemD d = { d with ma := leastD d.ma s } := by
  have hk : kindL nMA = 6 := by decide +kernel
  by_cases hs : s = -1
  · subst hs
    show d = _
    have : leastD d.ma (-1) = d.ma := by unfold leastD; split <;> simp_all
    rw [this]
  · have ht : timeI [(nMA, s)] = [nMA ++ 61 :: decTD s] := by
      unfold timeI timeL; rw [List.filter_cons_of_pos (by simpa using hs), List.filter_nil, List.map_cons, List.map_nil, if_neg (fun h => absurd h.1 (show ¬ nMA = nMS by decide +kernel))]
    rw [ht]
    rw [List.foldl_cons, List.foldl_nil]
    rw [elem_time (by decide +kernel) (by decide +kernel)]
    unfold putD
    rw [hk]
    show { d with ma := leastD d.ma ((secL (decTD s)).getD 0) } = _
    rw [sec_dec (by omega) h2]; rfl
theorem foldI_sa (d : Dv) (s : Int) (h1 : -1 ≤ s) (h2 : s ≤ 2147483647) : (timeI [(nSA, s)]).foldl elemD d = { d with sa := leastD d.sa s } := by
  have hk : kindL nSA = 7 := by decide +kernel
  by_cases hs : s = -1
  · subst hs
    show d = _
    have : leastD d.sa (-1) = d.sa := by unfold leastD; split <;> simp_all
    rw [this]
  · have ht : timeI [(nSA, s)] = [nSA ++ 61 :: decTD s] := by
      unfold timeI timeL; rw [List.filter_cons_of_pos (by simpa using hs), List.filter_nil, List.map_cons, List.map_nil, if_neg (fun h => absurd h.1 (show ¬ nSA = nMS by decide +kernel))]
    rw [ht]
    rw [List.foldl_cons, List.foldl_nil]
    rw [elem_time (by decide +kernel) (by decide +kernel)]
    unfold putD
    rw [hk]
    show { d with sa := leastD d.sa ((secL (decTD s)).getD 0) } = _
    rw [sec_dec (by omega) h2]; rfl
theorem foldI_ws (d : Dv) (s : Int) (h1 : -1 ≤ s) (h2 : s ≤ 2147483647) : (timeI [(nWS, s)]).foldl elemD d = { d with ws := leastD d.ws s } := by
  have hk : kindL nWS = 8 := by decide +kernel
  by_cases hs : s = -1
  · subst hs
    show d = _
    have : leastD d.ws (-1) = d.ws := by unfold leastD; split <;> simp_all
    rw [this]
  · have ht : timeI [(nWS, s)] = [nWS ++ 61 :: decTD s] := by
      unfold timeI timeL; rw [List.filter_cons_of_pos (by simpa using hs), List.filter_nil, List.map_cons, List.map_nil, if_neg (fun h => absurd h.1 (show ¬ nWS = nMS by decide +kernel))]
    rw [ht]
    rw [List.foldl_cons, List.foldl_nil]
    rw [elem_time (by decide +kernel) (by decide +kernel)]
    unfold putD
    rw [hk]
    show { d with ws := leastD d.ws ((secL (decTD s)).getD 0) } = _
    rw [sec_dec (by omega) h2]; rfl
theorem foldI_oe (d : Dv) (s : Int) (h1 : -1 ≤ s) (h2 : s ≤ 2147483647) : (timeI [(nOE, s)]).foldl elemD d = { d with oe := leastD d.oe s } := by
  have hk : kindL nOE = 9 := by decide +kernel
  by_cases hs : s = -1
  · subst hs
    show d = _
    have : leastD d.oe (-1) = d.oe := by unfold leastD; split <;> simp_all
    rw [this]
  · have ht : timeI [(nOE, s)] = [nOE ++ 61 :: decTD s] := by
      unfold timeI timeL; rw [List.filter_cons_of_pos (by simpa using hs), List.filter_nil, List.map_cons, List.map_nil, if_neg (fun h => absurd h.1 (show ¬ nOE = nMS by decide +kernel))]
    rw [ht]
    rw [List.foldl_cons, List.foldl_nil]
    rw [elem_time (by decide +kernel) (by decide +kernel)]
    unfold putD
    rw [hk]
    show { d with oe := leastD d.oe ((secL (decTD s)).getD 0) } = _
    rw [sec_dec (by omega) h2]; rfl
theorem foldI_ms (d : Dv) (s : Int) (h1 : -1 ≤ s) (h2 : s ≤ 2147483647) : (timeI [(nMS, s)]).foldl elemD d = { d with ms := leastD d.ms s } := by
  have hk : kindL nMS = 10 := by decide +kernel
  by_cases hs : s = -1
  · subst hs
    show d = _
    have : leastD d.ms (-1) = d.ms := by unfold leastD; split <;> simp_all
    rw [this]
  · by_cases hm : s = 2147483647
    · subst hm
      have ht : timeI [(nMS, 2147483647)] = [nMS] := by
        unfold timeI timeL; rw [List.filter_cons_of_pos (by decide), List.filter_nil, List.map_cons, List.map_nil, if_pos ⟨rfl, rfl⟩]
      rw [ht]
      show elemD d nMS = _
      rw [elem_name (by decide +kernel) (by decide +kernel)]
      unfold putD
      rw [hk]; rfl
    · have ht : timeI [(nMS, s)] = [nMS ++ 61 :: decTD s] := by
        unfold timeI timeL; rw [List.filter_cons_of_pos (by simpa using hs), List.filter_nil, List.map_cons, List.map_nil, if_neg (fun h => hm h.2)]
      rw [ht]
      rw [List.foldl_cons, List.foldl_nil]
      rw [elem_time (by decide +kernel) (by decide +kernel)]
      unfold putD
      rw [hk]
      show { d with ms := leastD d.ms ((secL (decTD s)).getD 0) } = _
      rw [sec_dec (by omega) h2]; rfl
theorem foldI_mf (d : Dv) (s : Int) (h1 : -1 ≤ s) (h2 : s ≤ 2147483647) (hd : -1 ≤ d.mf) : (timeI [(nMF, s)]).foldl elemD d = { d with mf := max d.mf s } := by
  have hk : kindL nMF = 11 := by decide +kernel
  by_cases hs : s = -1
  · subst hs
    show d = _
    have : max d.mf (-1) = d.mf := by omega
    rw [this]
  · have ht : timeI [(nMF, s)] = [nMF ++ 61 :: decTD s] := by
      unfold timeI timeL; rw [List.filter_cons_of_pos (by simpa using hs), List.filter_nil, List.map_cons, List.map_nil, if_neg (fun h => absurd h.1 (show ¬ nMF = nMS by decide +kernel))]
    rw [ht]
    rw [List.foldl_cons, List.foldl_nil]
    rw [elem_time (by decide +kernel) (by decide +kernel)]
    unfold putD
    rw [hk]
    show { d with mf := max d.mf ((secL (decTD s)).getD 2147483647) } = _
    rw [sec_dec (by omega) h2]; rfl
theorem fold_items {x : Dv} (hx : Nor x) : (itemsD x).foldl elemD noneD = x := by
  unfold itemsD flagsD timesD
  rw [flagI6, timeI6]
  simp only [List.foldl_append]
  rw [foldI_ns, foldI_nc, foldI_pr, foldI_pu, foldI_mr, foldI_oc, foldI_ma _ _ hx.ma.1 hx.ma.2, foldI_sa _ _ hx.sa.1 hx.sa.2, foldI_ws _ _ hx.ws.1 hx.ws.2, foldI_oe _ _ hx.oe.1 hx.oe.2, foldI_ms _ _ hx.ms.1 hx.ms.2, foldI_mf _ _ hx.mf.1 hx.mf.2 (by show (-1 : Int) ≤ -1; omega)]
  have hl : ∀ s : Int, leastD (-1) s = s := fun s => by unfold leastD; rw [if_pos rfl]
  have hm := hx.mf.1
  have hmx : max (-1) x.mf = x.mf := by omega
  simp only [noneD, Bool.false_or, hl, hmx]
theorem parse_fmt (d : Dv) : parseD [fmtD d] = normD d := by
  have h : listO (fmtD d) = some (itemsD (normD d)) := list_items (plain_items (normD d))
  show valD noneD (fmtD d) = _
  unfold valD
  rw [h]
  exact fold_items (nor_norm d)
theorem fmt_norm (d : Dv) : fmtD (normD d) = fmtD d := by
  unfold fmtD
  rw [norm_id (nor_norm d)]
end Go.Proofs.YtinbdflkpbjmcaaGreatDoor

/- LifetimeFirst: the walk. -/
namespace Go.Proofs.YtinbdflkpbjmcaaGreatDoor
open Go.RowKit

theorem fmt_len (d : Dv) : (fmtD d).length ≤ 90000 := by
  have h1 := getL_len (itemsD (normD d)) 40 (fun l hl => by
    have h2 := rows_items (nor_norm d)
    have h3 : itemsD (normD d) = flagI (flagsD (normD d)) ++ timeI (timesD (normD d)) := rfl
    rw [h3, ← h2] at hl
    exact (flat_ok (rows_ok (nor_norm d)) l hl).2)
  have h2 : (itemsD (normD d)).length ≤ 12 := by
    unfold itemsD
    rw [List.length_append]
    have h3 := flagI_le (flagsD (normD d))
    have h4 := timeI_le (timesD (normD d))
    have h5 : (flagsD (normD d)).length = 6 := rfl
    have h6 : (timesD (normD d)).length = 6 := rfl
    omega
  have h3 : (itemsD (normD d)).length * (40 + 2) ≤ 12 * (40 + 2) := Nat.mul_le_mul_right _ h2
  unfold fmtD
  omega
def xMA (n : Int) : Dv := ⟨false, false, false, false, false, false, n, -1, -1, -1, -1, -1⟩
def xSA (n : Int) : Dv := ⟨false, false, false, false, false, false, -1, n, -1, -1, -1, -1⟩
theorem nor_xMA {n : Int} (h : 0 ≤ n) (h2 : n ≤ 65535) : Nor (xMA n) := by constructor <;> (first | exact ⟨by show -1 ≤ n; omega, by show n ≤ _; omega⟩ | exact ⟨by show (-1 : Int) ≤ -1; decide, by show (-1 : Int) ≤ 2147483647; decide⟩)
theorem nor_xSA {n : Int} (h : 0 ≤ n) (h2 : n ≤ 65535) : Nor (xSA n) := by constructor <;> (first | exact ⟨by show -1 ≤ n; omega, by show n ≤ _; omega⟩ | exact ⟨by show (-1 : Int) ≤ -1; decide, by show (-1 : Int) ≤ 2147483647; decide⟩)
theorem fit_xMA {n : Int} (h : 0 ≤ n) (h2 : n ≤ 65535) : FitD (xMA n) := (nor_xMA h h2).fit
theorem fit_xSA {n : Int} (h : 0 ≤ n) (h2 : n ≤ 65535) : FitD (xSA n) := (nor_xSA h h2).fit
def nXM : List UInt8 := [120, 45, 109, 111, 114, 101, 61, 49]
theorem val_xm (d : Dv) : valD d nXM = d := by
  unfold valD; rw [show listO nXM = some [nXM] by decide +kernel]; simp only [List.foldl_cons, List.foldl_nil]
  unfold elemD; rw [show cutE nXM = some ([120, 45, 109, 111, 114, 101], [49]) by decide +kernel]; simp only; rw [show lowS [120, 45, 109, 111, 114, 101] = [120, 45, 109, 111, 114, 101] by decide +kernel]
  unfold putD; rw [show kindL [120, 45, 109, 111, 114, 101] = 12 by decide +kernel]; rfl
theorem val_sa_other (n : Int) (h : 0 ≤ n) (h2 : n ≤ 65535) (d : Dv) : ∃ k, valD d (fmtD (xMA n)) = { d with ma := k } := by
  have hl : listO (fmtD (xMA n)) = some (itemsD (normD (xMA n))) := list_items (plain_items (normD (xMA n)))
  have hi : itemsD (normD (xMA n)) = timeI [(nMA, n)] := by
    rw [norm_id (nor_xMA h h2)]
    have e1 : flagI (flagsD (xMA n)) = [] := rfl
    have hr : List.filter (fun p : List UInt8 × Int => decide (p.2 ≠ -1)) [(nSA, -1), (nWS, -1), (nOE, -1), (nMS, -1), (nMF, -1)] = [] := rfl
    unfold itemsD
    rw [e1, List.nil_append]
    show timeI ([(nMA, n)] ++ [(nSA, -1), (nWS, -1), (nOE, -1), (nMS, -1), (nMF, -1)]) = _
    unfold timeI
    rw [List.filter_append, hr, List.append_nil]
  unfold valD
  rw [hl, hi]
  exact ⟨_, foldI_ma d n (by omega) (by omega)⟩
theorem parse_ma {n : Int} (h : 0 ≤ n) (h2 : n ≤ 65535) : parseD [fmtD (xMA n)] = xMA n := (parse_fmt _).trans (norm_id (nor_xMA h h2))
theorem parse_mx {n : Int} (h : 0 ≤ n) (h2 : n ≤ 65535) : parseD [fmtD (xMA n), nXM] = xMA n := by
  have := parse_snoc [fmtD (xMA n)] nXM
  rw [parse_ma h h2, val_xm] at this
  exact this
theorem parse_ms {n m : Int} (h : 0 ≤ n) (h2 : n ≤ 65535) (h3 : 0 ≤ m) (h4 : m ≤ 65535) : (parseD [fmtD (xMA n), fmtD (xSA m)]).sa = m := by
  rw [parse_cons, parse_fmt, norm_id (nor_xSA h3 h4)]
  obtain ⟨k, hk⟩ := val_sa_other n h h2 (xSA m)
  rw [hk]; rfl
theorem cc_other_da : lowS nCC ≠ lowS nDA := by decide +kernel
theorem cc_other_ex : lowS nCC ≠ lowS nEX := by decide +kernel
theorem cc_other_lm : lowS nCC ≠ lowS nLM := by decide +kernel
theorem fit_add {ps : Flds} {v : List UInt8} (h : FitL ps) (hl : ps.length ≤ 1000) (hv : v.length ≤ 90000) : FitL (addL ps nCC v) := by
  refine ⟨by unfold addL; simp; omega, fun p hp => ?_⟩
  unfold addL at hp
  rcases List.mem_append.1 hp with g | g
  · exact h.each p g
  · rw [List.mem_singleton.1 g]
    have : (lowS nCC).length = 13 := by decide +kernel
    show (lowS nCC).length + v.length ≤ _
    omega
theorem datF_add {ps : Flds} {v n : List UInt8} {d : Option Nat} (h : DatF ps n d) (hn : lowS nCC ≠ lowS n) : DatF (addL ps nCC v) n d := by
  unfold DatF; rw [all_add_other hn]; exact h
section
variable {S B D : Nat} {G C : Int} {a b c : List UInt8} {x y z : Int}
theorem dt_fit (h : DatesAre x y z S B D G C a b c) : FitL (dateF a b c) := fit_dt (by rw [isT_len h.ta]; decide) (by rw [isT_len h.tb]; decide) (by rw [isT_len h.tc]; decide)
/-- What Of returns of the dates and fields of cache-control behind them. -/
theorem lfOf_more (s : Int) (v : Value) (_ : DatesAre x y z S B D G C a b c) (ps : Flds) (w : World) (hr : ReadsQ w v ps) (hf : FitL ps) (hE : EnvL w) (h1 : DatF ps nDA (some S)) (h2 : DatF ps nEX (some B)) (h3 : DatF ps nLM (some D)) (E : Dv) (hp : parseD (allL ps nCC) = E) (o : Int × Int)
    (ho : ∀ q, ofV s E q (some S) (some B) (some D) = o) :
    Calls Tryz.prog 13 #[.int .i64 s, v] w fun e w' => e = .returned (.tuple #[.int .i64 o.1, .int .i64 o.2]) ∧ Below w.heap.size w w' := by
  have := lfOf_any s v ps (some S) (some B) (some D) w hr hf h1 h2 h3 hE
  rw [hp, ho] at this
  exact this
end
/-- A box of two uint16. -/
structure AgesB (M : Nat) (w : World) (n m : Int) : Prop where
  c0 : w.cell? ⟨M, 0, none⟩ = some (.int .u16 n)
  c1 : w.cell? ⟨M, 1, none⟩ = some (.int .u16 m)
  lt : M < w.heap.size
theorem AgesB.below {M : Nat} {w w' : World} {n m : Int} (h : AgesB M w n m) (hb : Below w.heap.size w w') : AgesB M w' n m :=
  ⟨(hb.cell (p := ⟨M, 0, none⟩) h.lt).trans h.c0, (hb.cell (p := ⟨M, 1, none⟩) h.lt).trans h.c1, Nat.lt_of_lt_of_le h.lt hb.size⟩
theorem AgesB.only {X : Nat → Prop} {M : Nat} {w w' : World} {n m : Int} (h : AgesB M w n m) (hb : Only X w w') (hx : ¬ X M) : AgesB M w' n m :=
  ⟨(hb.cell (p := ⟨M, 0, none⟩) h.lt hx).trans h.c0, (hb.cell (p := ⟨M, 1, none⟩) h.lt hx).trans h.c1, Nat.lt_of_lt_of_le h.lt hb.size⟩
theorem agesB_new (w : World) (n m : Int) (T : TypeId) : AgesB w.heap.size (w.alloc (.cells #[.int .u16 n, .int .u16 m] T)) n m :=
  ⟨by rw [World.cell?_alloc_at _ _ _ _ rfl]; rfl, by rw [World.cell?_alloc_at _ _ _ _ rfl]; rfl, by simp⟩
/-- What stays while the statement goes on: what was there, the box of ages, the dates. -/
structure FsI (w0 : World) (M : Nat) (n m : Int) (f : Value) (ps : Flds) (w : World) : Prop where
  b : Below w0.heap.size w0 w
  a : AgesB M w n m
  q : ReadsQ w f ps
  e : EnvL w
theorem FsI.below {w0 : World} {M : Nat} {n m : Int} {f : Value} {ps : Flds} {w w' : World} (h : FsI w0 M n m f ps w) (hb : Below w.heap.size w w') : FsI w0 M n m f ps w' :=
  ⟨h.b.trans (hb.mono h.b.size), h.a.below hb, h.q.below hb, h.e.below hb⟩
set_option maxHeartbeats 8000000 in
set_option maxRecDepth 100000 in
theorem lf_first_walk (x y z : Int) (n m : Nat) (s : Int) (w : World) (hE : EnvL w) (hn : n < 65536) (hm : m < 65536) :
    Calls Tryz.prog 7 #[.agg #[.int .i64 x, .int .i64 y, .int .i64 z], .agg #[.int .u16 n, .int .u16 m], .int .i64 s] w fun e w' => e = .returned (.bool true) ∧ Below w.heap.size w w' := by
  obtain ⟨S, B, D, G, C, a, b, c, hd⟩ := dates_ex x y z
  have HE := Lib.hid hE
  have HN := Lib.hid (box3_new w x y z 37)
  have hb00 := below_new w (.cells #[.int .i64 x, .int .i64 y, .int .i64 z] 37)
  have HB0 := Lib.hid (hb00.alloc hb00.size (.cells #[.int .u16 n, .int .u16 m] 43))
  have HA0 := Lib.hid (agesB_new (w.alloc (.cells #[.int .i64 x, .int .i64 y, .int .i64 z] 37)) n m 43)
  have HB00 := Lib.hid (below_new (w.alloc (.cells #[.int .i64 x, .int .i64 y, .int .i64 z] 37)) (.cells #[.int .u16 n, .int .u16 m] 43))
  have HD := Lib.hid (fun (w : World) (hE : EnvL w) => dated_any x y z S B D G C a b c w hE hd)
  have HAw := Lib.hid (fun (w : World) (hE : EnvL w) => lfAwake_any w hE)
  have HNo := Lib.hid (fun (w : World) => none_any w)
  have h0n : (0 : Int) ≤ n := by omega
  have h1n : (n : Int) ≤ 65535 := by omega
  have h0m : (0 : Int) ≤ m := by omega
  have h1m : (m : Int) ≤ 65535 := by omega
  have HF1 := Lib.hid (fun (w : World) (hE : EnvL w) => format_any (xMA n) w (fit_xMA h0n h1n) hE.2.env.tab)
  have HF2 := Lib.hid (fun (w : World) (hE : EnvL w) => format_any (xSA m) w (fit_xSA h0m h1m) hE.2.env.tab)
  have hl1 := fmt_len (xMA n)
  have hl2 := fmt_len (xSA m)
  have hp1 := parse_ma h0n h1n
  have hp2 := parse_mx h0n h1n
  have hp3 := parse_ms h0n h1n h0m h1m
  generalize fmtD (xMA n) = t1 at *
  generalize fmtD (xSA m) = t2 at *
  have d1 : DatF (dateF a b c) nDA (some S) := by unfold DatF; rw [dt_da]; exact hd.ta
  have d2 : DatF (dateF a b c) nEX (some B) := by unfold DatF; rw [dt_ex]; exact hd.tb
  have d3 : DatF (dateF a b c) nLM (some D) := by unfold DatF; rw [dt_lm]; exact hd.tc
  have f1 := fit_add (dt_fit hd) (by simp) hl1
  have f2 := fit_add f1 (by unfold addL; simp) (v := nXM) (by decide +kernel)
  have f3 := fit_add f1 (by unfold addL; simp) hl2
  have e1 : allL (addL (dateF a b c) nCC t1) nCC = [t1] := by rw [all_addC, dt_cc]; rfl
  have e2 : allL (addL (addL (dateF a b c) nCC t1) nCC nXM) nCC = [t1, nXM] := by rw [all_addC, e1]; rfl
  have e3 : allL (addL (addL (dateF a b c) nCC t1) nCC t2) nCC = [t1, t2] := by rw [all_addC, e1]; rfl
  have HAd1 := Lib.hid (fun (v : Value) (w : World) (hr : ReadsQ w v (dateF a b c)) => add_any v (dateF a b c) nCC t1 w hr (by decide) (by omega) (by simp))
  have HAd2 := Lib.hid (fun (v : Value) (w : World) (hr : ReadsQ w v (addL (dateF a b c) nCC t1)) => add_any v (addL (dateF a b c) nCC t1) nCC nXM w hr (by decide) (by decide) (by unfold addL; simp))
  have HAd3 := Lib.hid (fun (v : Value) (w : World) (hr : ReadsQ w v (addL (dateF a b c) nCC t1)) => add_any v (addL (dateF a b c) nCC t1) nCC t2 w hr (by decide) (by omega) (by unfold addL; simp))
  have HO1 := Lib.hid (fun (v : Value) (w : World) (hr : ReadsQ w v (addL (dateF a b c) nCC t1)) (hE : EnvL w) => lfOf_more s v hd _ w hr f1 hE (datF_add d1 cc_other_da) (datF_add d2 cc_other_ex) (datF_add d3 cc_other_lm) (xMA n) (by rw [e1]; exact hp1) (1000 * (n : Int), 2) (fun q => of_ma (by show ¬ 0 ≤ (-1 : Int); decide) h0n))
  have HO2 := Lib.hid (fun (v : Value) (w : World) (hr : ReadsQ w v (addL (addL (dateF a b c) nCC t1) nCC nXM)) (hE : EnvL w) => lfOf_more s v hd _ w hr f2 hE (datF_add (datF_add d1 cc_other_da) cc_other_da) (datF_add (datF_add d2 cc_other_ex) cc_other_ex) (datF_add (datF_add d3 cc_other_lm) cc_other_lm) (xMA n) (by rw [e2]; exact hp2) (1000 * (n : Int), 2) (fun q => of_ma (by show ¬ 0 ≤ (-1 : Int); decide) h0n))
  have HO3 := Lib.hid (fun (v : Value) (w : World) (hr : ReadsQ w v (addL (addL (dateF a b c) nCC t1) nCC t2)) (hE : EnvL w) => lfOf_more s v hd _ w hr f3 hE (datF_add (datF_add d1 cc_other_da) cc_other_da) (datF_add (datF_add d2 cc_other_ex) cc_other_ex) (datF_add (datF_add d3 cc_other_lm) cc_other_lm) (parseD [t1, t2]) (by rw [e3]) (1000 * (m : Int), 1) (fun q => (of_sa (by rw [hp3]; exact h0m)).trans (by rw [hp3])))
  clear hE hd hb00 hl1 hl2 hp1 hp2 hp3 d1 d2 d3 f1 f2 f3 e1 e2 e3
  go_enter Tryz.func7, Tryz.ntmps7
  go_upto_region 1 with fail
  obtain ⟨c0, c1, c2, hlt⟩ := HN.out
  have k0 := (HB00.out.cell (p := ⟨w.heap.size, 0, none⟩) hlt).trans c0
  have k1 := (HB00.out.cell (p := ⟨w.heap.size, 1, none⟩) hlt).trans c1
  have k2 := (HB00.out.cell (p := ⟨w.heap.size, 2, none⟩) hlt).trans c2
  clear c0 c1 c2 HN
  have hM : (w.alloc (.cells #[.int .i64 x, .int .i64 y, .int .i64 z] 37)).heap.size = w.heap.size + 1 := by simp
  rw [hM] at HA0
  change Code.wp _ _ _ _ ((w.alloc (.cells #[.int .i64 x, .int .i64 y, .int .i64 z] 37)).alloc (.cells #[.int .u16 n, .int .u16 m] 43))
  generalize ((w.alloc (.cells #[.int .i64 x, .int .i64 y, .int .i64 z] 37)).alloc (.cells #[.int .u16 n, .int .u16 m] 43)) = W at *
  clear hM hlt HB00
  go_wp2_with fail
  refine (HD.out _ (HE.out.below HB0.out)).mono ?_
  rintro e w1 ⟨p, q, r, rfl, hO, hB1⟩
  have HI1 := Lib.hid (show FsI w (w.heap.size + 1) n m (.slice p q r) (dateF a b c) w1 from ⟨HB0.out.trans (hB1.mono HB0.out.size), HA0.out.below hB1, hO.q, HE.out.below (HB0.out.trans (hB1.mono HB0.out.size))⟩)
  clear hB1 hO k0 k1 k2 HB0 HA0 HE
  go_wp2_with fail
  refine (HAw.out _ HI1.out.e).mono ?_
  rintro e w2 ⟨rfl, hB2⟩
  have HI2 := Lib.hid (HI1.out.below hB2)
  clear hB2 HI1
  go_wp2_with fail
  refine (HNo.out _).mono ?_
  rintro e w3 ⟨rfl, hB3⟩
  have HI3 := Lib.hid (HI2.out.below hB3)
  have HX3 := Lib.hid (dvB_new w3 noneD 45)
  have HB3 := Lib.hid (below_new w3 (.cells (dvC noneD) 45))
  clear hB3 HI2
  go_upto_region 5 with fail
  change Code.wp _ _ _ _ (w3.alloc (.cells (dvC noneD) 45))
  generalize (w3.alloc (.cells (dvC noneD) 45)) = W4 at *
  have a0 := (HI3.out.below HB3.out).a.c0
  have a1 := (HI3.out.below HB3.out).a.c1
  obtain ⟨c0, c1, c2, c3, c4, c5, c6, c7, c8, c9, c10, c11, fr, lt⟩ := HX3.out
  have fr6 := fr 6
  have HX4 := Lib.hid (show DvB w3.heap.size (W4.setCell ⟨w3.heap.size, 6, none⟩ (.int .i64 n)) (xMA n) from HX3.out.set6 n)
  have HB4 := Lib.hid (HB3.out.setCell (p := ⟨w3.heap.size, 6, none⟩) (Nat.le_refl _) (.int .i64 n))
  go_upto_region 6 with fail
  generalize W4.setCell ⟨w3.heap.size, 6, none⟩ (.int .i64 n) = W5 at *
  clear c0 c1 c2 c3 c4 c5 c6 c7 c8 c9 c10 c11 fr lt fr6 a0 a1 HX3 HB3
  obtain ⟨c0, c1, c2, c3, c4, c5, c6, c7, c8, c9, c10, c11, fr, lt⟩ := HX4.out
  go_wp2_with fail
  refine (HF1.out _ (HI3.out.below HB4.out).e).mono ?_
  rintro e w6 ⟨rfl, hB6⟩
  have HB6 := Lib.hid (HB4.out.trans (hB6.mono HB4.out.size))
  have HX6 := Lib.hid (HX4.out.below hB6)
  clear c0 c1 c2 c3 c4 c5 c6 c7 c8 c9 c10 c11 fr lt hB6 HX4 HB4
  go_wp2_with fail
  refine (HAd1.out _ _ (HI3.out.below HB6.out).q).mono ?_
  rintro e w7 ⟨g, rfl, hO7, hB7⟩
  have HB7 := Lib.hid (HB6.out.trans (hB7.mono HB6.out.size))
  have HX7 := Lib.hid (HX6.out.below hB7)
  have hN6 : w3.heap.size < w6.heap.size := Nat.lt_of_lt_of_le HX6.out.lt (Nat.le_refl _)
  have HG7 := Lib.hid hO7
  clear hB7 hO7 HX6 HB6
  go_wp2_with fail
  refine (HO1.out _ _ HG7.out.q (HI3.out.below HB7.out).e).mono ?_
  rintro e w8 ⟨rfl, hB8⟩
  have HB8 := Lib.hid (HB7.out.trans (hB8.mono HB7.out.size))
  have HX8 := Lib.hid (HX7.out.below hB8)
  have HG8 := Lib.hid (OwnsP.below HG7.out hB8)
  clear hB8 HX7 HB7 HG7
  have a0 := (HI3.out.below HB8.out).a.c0
  go_wp2_with fail
  refine (HAd2.out _ _ HG8.out.q).mono ?_
  rintro e w9 ⟨g2, rfl, hO9, hB9⟩
  have HB9 := Lib.hid (HB8.out.trans (hB9.mono HB8.out.size))
  have HX9 := Lib.hid (HX8.out.below hB9)
  have HG9 := Lib.hid (OwnsP.below HG8.out hB9)
  have HH9 := Lib.hid hO9.q
  clear hB9 hO9 HX8 HB8 HG8 a0
  go_wp2_with fail
  refine (HO2.out _ _ HH9.out (HI3.out.below HB9.out).e).mono ?_
  rintro e w10 ⟨rfl, hB10⟩
  have HB10 := Lib.hid (HB9.out.trans (hB10.mono HB9.out.size))
  have HX10 := Lib.hid (HX9.out.below hB10)
  have HG10 := Lib.hid (OwnsP.below HG9.out hB10)
  clear hB10 HX9 HB9 HG9 HH9
  have a1 := (HI3.out.below HB10.out).a.c1
  obtain ⟨c0, c1, c2, c3, c4, c5, c6, c7, c8, c9, c10, c11, fr, lt⟩ := HX10.out
  have fr6 := fr 6
  have fr7 := fr 7
  go_upto_region 13 with fail
  go_region
  have HX11 := Lib.hid (show DvB w3.heap.size ((w10.setCell ⟨w3.heap.size, 6, none⟩ (.int .i64 (-1))).setCell ⟨w3.heap.size, 7, none⟩ (.int .i64 m)).drew (xSA m) from ((HX10.out.set6 (-1)).set7 m).below (Below.refl _ _).drew)
  have HB11 := Lib.hid ((HB10.out.setCell (p := ⟨w3.heap.size, 6, none⟩) (Nat.le_refl _) (.int .i64 (-1))).setCell (p := ⟨w3.heap.size, 7, none⟩) (Nat.le_refl _) (.int .i64 m)).drew
  have hne : ∀ k, g.ownBlock ≠ some (⟨w3.heap.size, k, none⟩ : Addr).block := fun k hq => by have := (World.ownsRow.lt HG10.out _ hq).1; simp at this; omega
  have HG11 := Lib.hid (OwnsP.below (T := 59) (ownsRow_setCell_other (ownsRow_setCell_other HG10.out (hne 6) (.int .i64 (-1))) (hne 7) (.int .i64 m)) (Below.refl _ _).drew)
  generalize ((w10.setCell ⟨w3.heap.size, 6, none⟩ (.int .i64 (-1))).setCell ⟨w3.heap.size, 7, none⟩ (.int .i64 m)).drew = W11 at *
  clear c0 c1 c2 c3 c4 c5 c6 c7 c8 c9 c10 c11 fr lt fr6 fr7 a1 HX10 HB10 HG10 hne
  obtain ⟨c0, c1, c2, c3, c4, c5, c6, c7, c8, c9, c10, c11, fr, lt⟩ := HX11.out
  go_wp2_with fail
  refine (HF2.out _ (HI3.out.below HB11.out).e).mono ?_
  rintro e w12 ⟨rfl, hB12⟩
  have HB12 := Lib.hid (HB11.out.trans (hB12.mono HB11.out.size))
  have HG12 := Lib.hid (OwnsP.below HG11.out hB12)
  clear c0 c1 c2 c3 c4 c5 c6 c7 c8 c9 c10 c11 fr lt hB12 HX11 HB11 HG11
  go_wp2_with fail
  refine (HAd3.out _ _ HG12.out.q).mono ?_
  rintro e w13 ⟨g3, rfl, hO13, hB13⟩
  have HB13 := Lib.hid (HB12.out.trans (hB13.mono HB12.out.size))
  have HH13 := Lib.hid hO13.q
  clear hB13 hO13 HG12 HB12
  go_wp2_with fail
  refine (HO3.out _ _ HH13.out (HI3.out.below HB13.out).e).mono ?_
  rintro e w14 ⟨rfl, hB14⟩
  have HB14 := Lib.hid (HB13.out.trans (hB14.mono HB13.out.size))
  clear hB14 HB13 HH13
  have a1 := (HI3.out.below HB14.out).a.c1
  go_wp2_with fail
  go_ret
  exact ⟨retB (by simp), (HI3.out.below HB14.out).b⟩
end Go.Proofs.YtinbdflkpbjmcaaGreatDoor
