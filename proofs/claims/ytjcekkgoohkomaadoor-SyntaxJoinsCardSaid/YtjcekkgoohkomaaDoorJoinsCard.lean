/- SyntaxJoins: for every value and list the statement's function returns true: the row and the tied card, proved. -/
import Derived.Test.YtjcekkgoohkomaaDoorJoins
import Derived.Test.YtjcekkgoohkomaaDoorRow
import Derived.Deep.DeepHandedRow
import Derived.Deep.SlicePairs
import Derived.Shelf.Vars
import Derived.Carry
namespace Go.Proofs.YtjcekkgoohkomaaDoor.joins
open Go.ChangeShapes Go.WideShapes Go.ChangeAt Go.RowKit
open Go.ChangeMaps (shut_string open_string)

theorem max_len {W : World} (h : W.ShapedOpen Tryd.prog) : ∃ m, W.cell? ⟨0, 0, none⟩ = some (.int .i64 m) :=
  cell_of_shapedOpen_int (P := Tryd.prog) (g := 0) (t := 3) (zero := #[.int .i64 0]) h (of_decide_eq_true (by kernel_rfl)) (by kernel_rfl) rfl (by kernel_rfl) (by kernel_rfl) Tryd.underlying3
theorem weight_in {H : Type} {P : Program} {e : TypeId} {d : DataW H} {n : Nat} : ∀ {l : List (DataW H)}, d ∈ l → n ∈ d.weights P e → n ∈ DataW.weightsAll P e l
  | x :: r, hd, hn => by
    simp only [DataW.weightsAll, List.mem_append]
    rcases List.mem_cons.1 hd with e | e
    · subst e; exact .inl hn
    · exact .inr (weight_in e hn)
set_option maxRecDepth 100000 in
/-- A slice of the reference's parameters among the arguments. -/
theorem open_params {H : Type} {enc : TypeId × Value → H} {w : World} {v : Value} {d : DataW H} {p : List MemPlace} {base : Nat} (hv : Value.okWide Tryd.prog w .any base 45 v)
    (h : DataW.Trod enc Tryd.prog w 0 (fun _ => true) true 45 v d p) (hw : ∀ n ∈ d.weights Tryd.prog 45, n ≤ reachBytes) :
    ∃ ps : List (List UInt8 × List UInt8), ReadsQ w v ps ∧ ps.length ≤ maxLen ∧ ∀ q ∈ ps, q.1.length ≤ 140737488355328 ∧ q.2.length ≤ 140737488355328 := by
  obtain ⟨a0, len, cap, rfl⟩ := okWide_slice Tryd.underlying45 hv
  obtain ⟨fuel, hf⟩ := h
  rcases Go.Deep.open_slice_pairs Tryd.underlying45 Tryd.underlying50 (by kernel_rfl) rfl rfl (by kernel_rfl) (by kernel_rfl) (by simpa [Value.cells] using hf) with ⟨hcs, hx⟩ | ⟨a, len', cap', m, n, V0, V1, D0, D1, P0, P1, hcs, _, hl, hm, hmm, hx, hall⟩
  · simp only [List.cons.injEq, Value.slice.injEq, and_true] at hcs
    obtain ⟨rfl, rfl, rfl⟩ := hcs
    exact ⟨[], ⟨none, 0, rfl, fun j l h => by simp at h⟩, by simp, by simp⟩
  · simp only [List.cons.injEq, Value.slice.injEq, and_true] at hcs
    obtain ⟨rfl, rfl, rfl⟩ := hcs
    simp only [Prod.mk.injEq] at hx
    obtain ⟨rfl, _⟩ := hx
    simp only [if_true] at hmm
    subst hmm
    have each : ∀ i, i < len → ∃ q : ByteArray × ByteArray, V0 i = .string q.1 ∧ V1 i = .string q.2 ∧ D0 i = .lit (.string q.1.data.toList) ∧ D1 i = .lit (.string q.2.data.toList) := by
      intro i hi
      obtain ⟨_, _, t0, t1⟩ := hall i (by omega)
      obtain ⟨s0, e0, f0, _⟩ := DataW.trod_string Tryd.underlying9 t0
      obtain ⟨s1, e1, f1, _⟩ := DataW.trod_string Tryd.underlying9 t1
      simp only [List.cons.injEq, and_true, Prod.mk.injEq] at e0 e1 f0 f1
      exact ⟨(s0, s1), e0, e1, f0.1, f1.1⟩
    obtain ⟨q, hq⟩ := Go.Deep.choose_lt each
    have hlen : ((List.range len).map fun i => ((q i).1.data.toList, (q i).2.data.toList)).length = len := by simp
    have hwt : ∀ i, i < len → (q i).1.data.toList.length ≤ 140737488355328 ∧ (q i).2.data.toList.length ≤ 140737488355328 := by
      intro i hi
      obtain ⟨_, _, d0, d1⟩ := hq i hi
      have hin : (DataW.agg [D0 i, D1 i]) ∈ (List.range len).map fun i => DataW.agg [D0 i, D1 i] := List.mem_map.mpr ⟨i, List.mem_range.mpr hi, rfl⟩
      have key : ∀ k ∈ (DataW.agg [D0 i, D1 i]).weights Tryd.prog 50, k ≤ reachBytes := by
        intro k hk
        refine hw k ?_
        unfold DataW.weights
        rw [Tryd.underlying45]
        simp only [List.mem_cons, List.mem_append]
        exact .inr (.inl (weight_in hin hk))
      unfold DataW.weights at key
      rw [Tryd.underlying50] at key
      rw [d0, d1] at key
      simp only [DataW.weightsEach, DataW.weights, List.map_cons, List.map_nil, List.mem_append, List.mem_cons, List.not_mem_nil, or_false] at key
      have k0 := key _ (.inl rfl)
      have k1 := key _ (.inr rfl)
      unfold reachBytes at k0 k1
      omega
    refine ⟨(List.range len).map fun i => ((q i).1.data.toList, (q i).2.data.toList), ⟨some a, m, by rw [hlen], fun j l hj => ?_⟩, ?_, ?_⟩
    · have hjl : j < len := by have := (List.getElem?_eq_some_iff.mp hj).1; omega
      have hj' : ((q j).1.data.toList, (q j).2.data.toList) = l := by
        rw [List.getElem?_map, List.getElem?_range hjl] at hj
        exact Option.some.inj hj
      obtain ⟨c0, c1, _, _⟩ := hall j (by omega)
      obtain ⟨v0, v1, _, _⟩ := hq j hjl
      obtain ⟨z0, _, _, _⟩ := hall 0 (by omega)
      obtain ⟨b, off, spot⟩ := a
      have hspot : spot = none := by simpa [Addr.add] using World.cell?_spot z0
      subst hspot
      have hlt : b < w.heap.size := by have := World.block_lt_of_cell? w _ z0; simpa [Addr.add] using this
      rw [v0, Go.WideShapes.add_plain] at c0
      rw [v1, Go.WideShapes.add_plain, ← Nat.add_assoc] at c1
      subst hj'
      exact ⟨b, off, rfl, hlt, by rw [strB_of]; exact c0, by rw [strB_of]; exact c1⟩
    · rw [hlen]; omega
    · intro x hx
      obtain ⟨i, hi, rfl⟩ := List.mem_map.mp hx
      exact hwt i (List.mem_range.mp hi)
theorem laidOut : laidOutB Tryd.prog = true := by kernel_rfl

set_option maxRecDepth 100000 in
theorem contract (H : Type) (enc : TypeId × Value → H) (W : World) (base : Nat) (args : Array Value) (ds gs : List (DataW H)) (before : List MemPlace)
    (hval : ∀ (j : Nat) t v, Tryd.f9.params[j]? = some t → args[j]? = some v → Value.okWide Tryd.prog W .any base t v)
    (hW : DataW.Whole enc Tryd.prog Tryd.f9.params.toList Rows.syntaxJoinsSpec.vars false W args.toList ds gs before)
    (hr : (DataW.weightsEach Tryd.prog (Tryd.f9.params.toList ++ (OpenSpec.ofChange Rows.syntaxJoinsSpec).bare.plain.varTypes Tryd.prog) (ds ++ gs)).all (· ≤ reachBytes) = true) (hsh : W.ShapedOpen Tryd.prog) :
    Calls Tryd.prog 9 args W fun e W' => ∃ v, e = .returned v ∧ Rows.syntaxJoinsSpec.post enc Tryd.prog Tryd.f9 false true false false W args v W' := by
  have hW' := hW
  obtain ⟨p, q, hA0, hV, rfl, _, _⟩ := hW
  have hA : DataW.TrodAll enc Tryd.prog W 0 (fun _ => true) true Tryd.f9.params.toList args.toList ds p := hA0
  rw [Tryd.params9] at hA hval hr
  obtain ⟨v0, v1, d0, d1, p0, p1, rfl, rfl, rfl, h0, h1⟩ := trodAll_two hA
  obtain ⟨rfl, rfl⟩ := trodVars_none hV
  have hlt : ∀ x ∈ p0 ++ p1 ++ [], x.block < W.heap.size := fun x hx => by simpa using hW'.lt x hx
  have hw1 : ∀ n ∈ d1.weights Tryd.prog 45, n ≤ reachBytes := by
    intro n hn
    have := List.all_eq_true.1 hr n (by
      simp only [List.append_nil, DataW.weightsEach, List.cons_append, List.nil_append, List.mem_append]
      exact .inr (.inl hn))
    simpa using this
  obtain ⟨x0, rfl, rfl, rfl, b0⟩ := open_string Tryd.underlying9 (hval 0 9 v0 rfl rfl) h0
  obtain ⟨ps, hps, hpl, hpb⟩ := open_params (base := base) (hval 1 45 v1 rfl rfl) h1 hw1
  obtain ⟨m, hm⟩ := max_len hsh
  have walked : Calls Tryd.prog 9 #[.string x0, v1] W fun e w' => e = .returned (.bool true) ∧ Below W.heap.size W w' := by
    unfold maxLen at b0 hpl
    by_cases hn : x0.size ≤ 400 ∧ ps.length ≤ 8
    · exact walk x0 v1 ps m W hm hps hn.1 hn.2 hpb
    · exact walk_big x0 v1 ps W hps (by omega) (by omega) (by omega)
  refine walked.mono fun e W' ⟨he, hb⟩ => ?_
  subst he
  exact ⟨_, rfl, post_below (pa := [] ++ p1) (pv := []) hW' (fun _ _ _ => trodAll_mk1 (shut_bool Tryd.underlying4 _))
    (fun sp hsp => trodAll_mk2 (shut_string Tryd.underlying9 b0)
      (WideElems.Trod_stays laidOut (by kernel_rfl) (of_decide_eq_true (by kernel_rfl)) h1 (fun x hx => hb.same (hlt x (by simp [hx]))) (fun x hx => hsp x (by simp [hx])))) (fun _ _ => rfl) rfl hb (ok_one (by kernel_rfl) rfl (okWide_bool_mk Tryd.underlying4 _))⟩
theorem reads (os : Os) {H : Type} (enc : TypeId × Value → H) : ∃ places, DataW.whole enc Tryd.prog ((World.laidAll Tryd.prog os laidL).forCall (fun _ _ => 0) ⟨#[], #[.string ⟨#[]⟩, .slice none 0 0], []⟩).memory Tryd.f9.params.toList Rows.syntaxJoinsSpec.vars false #[Value.string ⟨#[]⟩, Value.slice none 0 0].toList 8 = some ([.lit (.string []), .nil], [], places) :=
  ⟨[], by kernel_rfl⟩
set_option maxRecDepth 100000 in
theorem lifted (os : Os) (started : os.Started) (H : Type) (enc : TypeId × Value → H) (F : Stop.Interp) :
    ReturnsInHanded {} Tryd.checked os 9 .any ((OpenSpec.ofChange Rows.syntaxJoinsSpec).preRow enc Tryd.prog Tryd.f9 Rows.syntaxJoinsRow.domain false Rows.syntaxJoinsRow.laid) (((OpenSpec.ofChange Rows.syntaxJoinsSpec).at F).post enc Tryd.prog Tryd.f9 false true false false) := by
  obtain ⟨places, hx⟩ := reads os enc
  refine returnsInHanded_of_row (C := Tryd.checked) (s := OpenSpec.ofChange Rows.syntaxJoinsSpec) own started (by kernel_rfl) Tryd.func9
    (witness_row_at (enc := enc) (C := Tryd.checked) false (World.laidAll Tryd.prog os laidL) #[.string ⟨#[]⟩, .slice none 0 0] (World.laidAll_os _ _ _) (by kernel_rfl) (by kernel_rfl) (by kernel_rfl)
      (OpenSpec.preRow_of_cond 8 hx (by kernel_rfl) (fun k hk => by cases hk) (by kernel_rfl) (laid_met os _))) ?_
  intro W base args ds gs before hval hW _ _ hr _ hsh _
  exact contract H enc W base args ds gs before hval hW hr hsh
theorem said : Rows.SyntaxJoinsSaid :=
  OpenClaim.holds_of_cond 9 Tryd.f9 rfl rfl rfl rfl rfl rfl rfl ⟨rfl, rfl, rfl, rfl, rfl⟩ rfl rfl rfl rfl rfl (by kernel_rfl) Tryd.func9 (by kernel_rfl)
    (of_decide_eq_true (by kernel_rfl)) (by unfold Func.isWrapper; first | (rw [if_pos (by decide +kernel)]; kernel_rfl) | (rw [if_neg (by decide +kernel)]; exact ⟨rfl, rfl⟩))
    (fun os started H enc _ F => by rw [OpenClaim.pre_eq_preRow]; exact lifted os started H enc F)
theorem card_holds : Rows.SyntaxJoinsCardSaid :=
  Claim7.holds_tied_plain_at .later [] _ _ _ _ said (fun _ h => by cases h) (by kernel_rfl) (fun _ h => by cases h) syntaxJoins_row_tie rfl ⟨rfl, rfl⟩ (by kernel_rfl) rfl
    (fun f fn hf hfn => by
      obtain rfl : f = 9 := Option.some.inj ((show Tryd.prog.funcNamed Rows.syntaxJoinsRow.func = some 9 by kernel_rfl).symm.trans hf) |>.symm
      obtain rfl : fn = Tryd.f9 := (Option.some.inj (Tryd.func9.symm.trans hfn)).symm
      exact ⟨by kernel_rfl, fun j t ht => by
        rw [Tryd.params9] at ht
        have hm : t ∈ [9, 45] := by simpa using Array.mem_of_getElem? ht
        have hall : ([9, 45].all fun u => !Tryd.prog.wantsStandIn u) = true := by kernel_rfl
        exact (show Tryd.prog.wantsStandIn t = false by simpa using List.all_eq_true.1 hall t hm)⟩)
    (by kernel_rfl)
#print axioms card_holds
end Go.Proofs.YtjcekkgoohkomaaDoor.joins
