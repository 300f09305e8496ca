/- ValidatorPrecedence: for every input the statement's function returns true: the row and the tied card, proved. -/
import Derived.Test.YtkpeaghbacoehaaGreatDoorYLaw7
import Derived.Test.YtkpeaghbacoehaaGreatDoorYOpen
namespace Go.Proofs.YtkpeaghbacoehaaGreatDoor.yprec
open Go.ChangeShapes Go.WideShapes Go.ChangeAt Go.RowKit
open Go.ChangeMaps (shut_string open_string)

set_option maxRecDepth 100000 in
theorem contract (H : Type) (enc : TypeId × Value → H) (W : World) (base : Nat) (args : Array Value) (ds gs : List (DataW H)) (before : List MemPlace)
    (hval : ∀ (j : Nat) t v, Tryz.f8.params[j]? = some t → args[j]? = some v → Value.okWide Tryz.prog W .any base t v)
    (hW : DataW.Whole enc Tryz.prog Tryz.f8.params.toList Rows.validatorPrecedenceSpec.vars false W args.toList ds gs before)
    (hr : (DataW.weightsEach Tryz.prog (Tryz.f8.params.toList ++ (OpenSpec.ofChange Rows.validatorPrecedenceSpec).bare.plain.varTypes Tryz.prog) (ds ++ gs)).all (· ≤ reachBytes) = true) (hE : EnvY W) :
    Calls Tryz.prog 8 args W fun e W' => ∃ v, e = .returned v ∧ Rows.validatorPrecedenceSpec.post enc Tryz.prog Tryz.f8 false true false false W args v W' := by
  have hW' := hW
  obtain ⟨p, q, hA0, hV, rfl, _, _⟩ := hW
  have hA : DataW.TrodAll enc Tryz.prog W 0 (fun _ => true) true Tryz.f8.params.toList args.toList ds p := hA0
  rw [Tryz.params8] at hA hval hr
  obtain ⟨v0, v1, v2, d0, d1, d2, p0, p1, p2, rfl, rfl, rfl, h0, h1, h2⟩ := trodAll_three hA
  obtain ⟨rfl, rfl⟩ := trodVars_none hV
  have hlt : ∀ x ∈ p0 ++ p1 ++ p2 ++ [], x.block < W.heap.size := fun x hx => by simpa using hW'.lt x hx
  have hw0 : ∀ m ∈ d0.weights Tryz.prog 54, m ≤ reachBytes := by
    intro m hm
    have := List.all_eq_true.1 hr m (by
      simp only [List.append_nil, DataW.weightsEach, List.cons_append, List.nil_append, List.mem_append]
      exact .inl hm)
    simpa using this
  obtain ⟨q0, u0, ps0, s0, rfl, g0⟩ := open_ask (base := base) (hval 0 54 v0 rfl rfl) h0 hw0
  obtain ⟨x1, rfl, rfl, rfl, b1⟩ := open_string Tryz.underlying9 (hval 1 9 v1 rfl rfl) h1
  have s1 : x1.size ≤ 140737488355328 := by
    have hm := List.all_eq_true.1 hr x1.data.toList.length (by
      simp only [List.append_nil, DataW.weightsEach, List.cons_append, List.nil_append, List.mem_append]
      exact .inr (.inl (by simp [DataW.weights])))
    have hm' : x1.data.toList.length ≤ reachBytes := by simpa using hm
    rw [Array.length_toList] at hm'
    have hm'' : x1.size ≤ reachBytes := hm'
    unfold reachBytes at hm''; omega
  obtain ⟨x2, rfl, rfl, rfl, b2⟩ := open_string Tryz.underlying9 (hval 2 9 v2 rfl rfl) h2
  have s2 : x2.size ≤ 140737488355328 := by
    have hm := List.all_eq_true.1 hr x2.data.toList.length (by
      simp only [List.append_nil, DataW.weightsEach, List.cons_append, List.nil_append, List.mem_append]
      exact .inr (.inr (.inl (by simp [DataW.weights]))))
    have hm' : x2.data.toList.length ≤ reachBytes := by simpa using hm
    rw [Array.length_toList] at hm'
    have hm'' : x2.size ≤ reachBytes := hm'
    unfold reachBytes at hm''; omega
  refine (precedence_walk q0 u0 ps0 s0 x1 x2 W hE g0 s1 s2).mono fun e W' ⟨he, hb⟩ => ?_
  subst he
  exact ⟨_, rfl, post_below (pa := p0 ++ ([] ++ [])) (pv := []) hW' (fun _ _ _ => trodAll_mk1 (shut_bool Tryz.underlying4 _))
    (fun sp hsp => trodAll_mk3 (WideElems.Trod_stays laidOut (by kernel_rfl) (of_decide_eq_true (by kernel_rfl)) h0 (fun x hx => hb.same (hlt x (by simp [hx]))) (fun x hx => hsp x (by simp [hx]))) (shut_string Tryz.underlying9 b1) (shut_string Tryz.underlying9 b2)) (fun _ _ => rfl) (by simp) hb (ok_one (by kernel_rfl) rfl (okWide_bool_mk Tryz.underlying4 _))⟩
theorem reads (os : Os) {H : Type} (enc : TypeId × Value → H) : ∃ places, DataW.whole enc Tryz.prog ((World.laidAll Tryz.prog os laidA).forCall (fun _ _ => 0) ⟨#[], #[.agg #[.string ⟨#[]⟩, .slice none 0 0, .bool false, .bool false, .bool false, .bool false, .string ⟨#[]⟩, .int .i64 0], .string ⟨#[]⟩, .string ⟨#[]⟩], []⟩).memory Tryz.f8.params.toList Rows.validatorPrecedenceSpec.vars false #[Value.agg #[.string ⟨#[]⟩, .slice none 0 0, .bool false, .bool false, .bool false, .bool false, .string ⟨#[]⟩, .int .i64 0], Value.string ⟨#[]⟩, Value.string ⟨#[]⟩].toList 8 = some ([.agg [.lit (.string []), .nil, .agg [.lit (.bool false), .lit (.bool false), .lit (.bool false), .agg [.lit (.bool false), .lit (.string [])], .lit (.int .i64 0)]], .lit (.string []), .lit (.string [])], [], places) :=
  ⟨[], by kernel_rfl⟩
set_option maxRecDepth 100000 in
theorem lifted (os : Os) (started : os.Started) (H : Type) (enc : TypeId × Value → H) (F : Stop.Interp) :
    ReturnsInHanded {} Tryz.checked os 8 .any ((OpenSpec.ofChange Rows.validatorPrecedenceSpec).preRow enc Tryz.prog Tryz.f8 Rows.validatorPrecedenceRow.domain false Rows.validatorPrecedenceRow.laid) (((OpenSpec.ofChange Rows.validatorPrecedenceSpec).at F).post enc Tryz.prog Tryz.f8 false true false false) := by
  obtain ⟨places, hx⟩ := reads os enc
  refine returnsInHanded_of_row (C := Tryz.checked) (s := OpenSpec.ofChange Rows.validatorPrecedenceSpec) own started (by kernel_rfl) Tryz.func8
    (witness_row_shaped (enc := enc) (C := Tryz.checked) false (World.laidAll Tryz.prog os laidA) #[.agg #[.string ⟨#[]⟩, .slice none 0 0, .bool false, .bool false, .bool false, .bool false, .string ⟨#[]⟩, .int .i64 0], .string ⟨#[]⟩, .string ⟨#[]⟩] (World.laidAll_os _ _ _) (World.shaped_of_ZipB (by kernel_rfl) (by kernel_rfl)) (by kernel_rfl)
      (OpenSpec.preRow_of_cond 8 hx (by kernel_rfl) (fun k hk => by cases hk) (by kernel_rfl) (laid_metA os _))) ?_
  intro W base args ds gs before hval hW _ _ hr hL hsh _
  exact contract H enc W base args ds gs before hval hW hr (env_y hL hsh)
theorem said : Rows.ValidatorPrecedenceSaid :=
  OpenClaim.holds_of_cond 8 Tryz.f8 rfl rfl rfl rfl rfl rfl rfl ⟨rfl, rfl, rfl, rfl, rfl⟩ rfl rfl rfl rfl rfl (by kernel_rfl) Tryz.func8 (by kernel_rfl)
    (of_decide_eq_true (by kernel_rfl)) (by unfold Func.isWrapper; first | (rw [if_pos (by decide +kernel)]; kernel_rfl) | (rw [if_neg (by decide +kernel)]; exact ⟨rfl, rfl⟩))
    (fun os started H enc _ F => by rw [OpenClaim.pre_eq_preRow]; exact lifted os started H enc F)
theorem card_holds : Rows.ValidatorPrecedenceCardSaid :=
  Claim7.holds_tied_plain_at .later [] _ _ _ _ said (fun _ h => by cases h) (by kernel_rfl) (fun _ h => by cases h) validatorPrecedence_row_tie rfl ⟨rfl, rfl⟩ (by kernel_rfl) rfl
    (fun f fn hf hfn => by
      obtain rfl : f = 8 := Option.some.inj ((show Tryz.prog.funcNamed Rows.validatorPrecedenceRow.func = some 8 by kernel_rfl).symm.trans hf) |>.symm
      obtain rfl : fn = Tryz.f8 := (Option.some.inj (Tryz.func8.symm.trans hfn)).symm
      exact ⟨by kernel_rfl, fun j t ht => by
        rw [Tryz.params8] at ht
        have hm : t ∈ [54, 9, 9] := by simpa using Array.mem_of_getElem? ht
        have hall : ([54, 9, 9].all fun u => !Tryz.prog.wantsStandIn u) = true := by kernel_rfl
        exact (show Tryz.prog.wantsStandIn t = false by simpa using List.all_eq_true.1 hall t hm)⟩)
    (by kernel_rfl)
#print axioms card_holds
end Go.Proofs.YtkpeaghbacoehaaGreatDoor.yprec
