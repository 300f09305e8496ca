/- VaryNormal: the walk. -/
import Derived.Test.YtbmbcdbldbjddaaVyLaw1
import Derived.Test.YtbmbcdbldbjddaaFAdd
import Derived.Test.YtbmbcdbldbjddaaRefOf
namespace Go.Proofs.Ytbmbcdbldbjddaa
open Go.RowKit

theorem spc_take (s : ByteArray) (k : Nat) (h : k < s.size) : (s.data.toList.take (k + 1)).flatMap spcC = (s.data.toList.take k).flatMap spcC ++ spcC s[k] := by
  rw [take_snoc s k h, List.flatMap_append]; simp
theorem spc_len (l : List UInt8) : (l.flatMap spcC).length ≤ 3 * l.length := by
  induction l with
  | nil => simp
  | cons c t ih =>
    rw [List.flatMap_cons, List.length_append, List.length_cons]
    have : (spcC c).length ≤ 3 := by unfold spcC; split <;> simp
    omega
def SpR (s : ByteArray) (w : World) (o i : Value) (wr : World) : Prop :=
  ∃ k : Nat, i = .int .i64 k ∧ k ≤ s.size ∧ o = .string (strB (32 :: (s.data.toList.take k).flatMap spcC)) ∧ wr = w
theorem app_bytes (a : List UInt8) (s : ByteArray) (b : List UInt8) (h : s.data.toList = b) : strB a ++ s = strB (a ++ b) := by rw [strB_app, h]
set_option maxHeartbeats 4000000 in
set_option maxRecDepth 100000 in
theorem spaced_any (s : ByteArray) (w : World) (hs : s.size ≤ 1000000) :
    Calls Try.prog 15 #[.string s] w fun e w' => e = .returned (.string (strB (spcL s.data.toList))) ∧ w' = w := by
  go_enter Try.func15, Try.ntmps15
  go_wp2
  go_loopw [3, 7] (fun o i wr => SpR s w o i wr) (fun _ i _ => s.size - (intOf i).toNat)
  case atStart => exact ⟨0, rfl, by omega, rfl, rfl⟩
  case round =>
    obtain ⟨k, rfl, hk, rfl, rfl⟩ := hrel
    by_cases hlt : k < s.size
    · have HS := Lib.hid (spc_take s k hlt)
      have hol := spc_len (s.data.toList.take k)
      rw [List.length_take] at hol
      have hoz : (strB (32 :: (s.data.toList.take k).flatMap spcC)).size ≤ 4000000 := by
        rw [strB_size, List.length_cons]
        have : s.data.toList.length = s.size := by simp
        omega
      have H1 := Lib.hid (one_byte s k hlt)
      have hx : (s.extract k (k + 1)).size ≤ 1 := by rw [ByteArray.size_extract]; omega
      generalize (s.data.toList.take k).flatMap spcC = o at *
      have hoz2 : (strB (32 :: o) ++ s.extract k (k + 1)).size ≤ 4000001 := by rw [ByteArray.size_append]; omega
      by_cases h32 : s[k] = 32
      · have e32 : ((s[k].toNat : Int) == 32) = true := by rw [h32]; decide
        have HC := Lib.hid (show spcC s[k] = [32, 9, 32] by unfold spcC; rw [if_pos h32])
        have HD := Lib.hid h32
        clear h32
        go_wp2_with fail
        go_roundw
        case rel => exact ⟨k + 1, by go_num, by omega, by rw [HS.out, HC.out, app_bytes _ _ _ H1.out, HD.out, app_bytes _ _ [9, 32] rfl]; simp, rfl⟩
        case measure => simp [intOf]; omega
      · have e32 : ((s[k].toNat : Int) == 32) = false := by
          have : s[k].toNat ≠ 32 := fun e => h32 (UInt8.toNat_inj.mp e)
          simp; omega
        have HC := Lib.hid (show spcC s[k] = [s[k]] by unfold spcC; rw [if_neg h32])
        clear h32
        go_wp2_with fail
        go_roundw
        case rel => exact ⟨k + 1, by go_num, by omega, by rw [HS.out, HC.out, app_bytes _ _ _ H1.out]; simp, rfl⟩
        case measure => simp [intOf]; omega
    · have hfin : strB (32 :: (s.data.toList.take k).flatMap spcC) ++ (⟨#[9]⟩ : ByteArray) = strB (spcL s.data.toList) := by
        rw [take_all s k (by omega), strB_snoc]; rfl
      have HF := Lib.hid hfin
      have hol := spc_len (s.data.toList.take k)
      rw [List.length_take] at hol
      have hoz : (strB (32 :: (s.data.toList.take k).flatMap spcC)).size ≤ 4000000 := by
        rw [strB_size, List.length_cons]
        have : s.data.toList.length = s.size := by simp
        omega
      clear hfin
      go_wp2_with fail
      go_ret
      exact ⟨by rw [← HF.out]; rfl, rfl⟩
/-- Whether a name is one of a list, in any case. -/
def hasB (ns : List (List UInt8)) (n : List UInt8) : Bool := ns.any fun m => ofN n (m, [])
theorem has_yes {ns : List (List UInt8)} {n p : List UInt8} {k : Nat} (hp : ns[k]? = some p) (h : ofN n (p, []) = true) : hasB ns n = true := by
  unfold hasB; rw [List.any_eq_true]; exact ⟨p, List.mem_of_getElem? hp, h⟩
theorem has_no {ns : List (List UInt8)} {n p : List UInt8} {k : Nat} (hp : ns[k]? = some p) (h0 : hasB (ns.take k) n = false) (h : ofN n (p, []) = false) : hasB (ns.take (k + 1)) n = false := by
  unfold hasB at *; rw [take_more hp, List.any_append, h0]; simp [h]
set_option maxHeartbeats 4000000 in
set_option maxRecDepth 100000 in
theorem has_any (va : Value) (ns : List (List UInt8)) (n : List UInt8) (w : World) (ha : ReadsS w va ns) (hf : FitN ns) (hn : n.length ≤ 1000000) :
    Calls Try.prog 17 #[va, .string (strB n)] w fun e w' => e = .returned (.bool (hasB ns n)) ∧ Below w.heap.size w w' := by
  obtain ⟨ao, cap, rfl, hc⟩ := ha
  have HC := Lib.hid hc
  have HF := Lib.hid hf
  have hnl := hf.len
  clear hc hf
  go_enter Try.func17, Try.ntmps17
  go_wp2
  go_loopw [9] (fun i wr => ∃ k : Nat, i = .int .i64 k ∧ k ≤ ns.length ∧ hasB (ns.take k) n = false ∧ Below w.heap.size w wr) (fun i _ => ns.length - (intOf i).toNat)
  case atStart => exact ⟨0, rfl, Nat.zero_le _, rfl, Below.refl _ _⟩
  case round =>
    obtain ⟨k, rfl, hk, hs, hBr⟩ := hrel
    have hbr := hBr.size
    have HS := Lib.hid hs
    have HB := Lib.hid hBr
    clear hs hBr
    by_cases hlt : k < ns.length
    · obtain ⟨p, hp⟩ : ∃ p, ns[k]? = some p := ⟨ns[k], by simp [hlt]⟩
      obtain ⟨g, off, rfl, hg, h1⟩ := HC.out k p hp
      have hc1 := (HB.out.cell (p := ⟨g, off + k, none⟩) hg).trans h1
      have hpl := HF.out.each p (List.mem_of_getElem? hp)
      have HO := Lib.hid (fun (w : World) => of_any p [] n w (by omega) (by omega))
      have HP := Lib.hid hp
      clear hp h1
      cases hd : ofN n (p, []) with
      | true =>
        have HR := Lib.hid (has_yes HP.out hd)
        rw [hd] at HO
        clear hd
        go_wp2_with fail
        refine (HO.out _).mono ?_
        rintro e w2 ⟨rfl, hB2⟩
        go_wp2_with fail
        go_ret
        exact ⟨by rw [HR.out]; rfl, HB.out.trans (hB2.mono hbr)⟩
      | false =>
        have HR := Lib.hid (has_no HP.out HS.out hd)
        rw [hd] at HO
        clear hd
        go_wp2_with fail
        refine (HO.out _).mono ?_
        rintro e w2 ⟨rfl, hB2⟩
        go_wp2_with fail
        go_roundw
        case rel => exact ⟨k + 1, by go_num, by omega, HR.out, HB.out.trans (hB2.mono hbr)⟩
        case measure => simp [intOf]; omega
    · have HR := Lib.hid (show hasB ns n = false by have := HS.out; rwa [List.take_of_length_le (by omega)] at this)
      go_wp2
      go_ret
      exact ⟨by rw [HR.out]; rfl, HB.out⟩
/-- An append of fields that are read to a slice that the call made, at one operation. -/
theorem wp_appendN {T S : TypeId} {B : Nat} {i0 : TypeInfo} (hi : Try.prog.info? T = some i0) (hz0 : i0.zero = some (.agg #[.string ByteArray.empty, .string ByteArray.empty])) (hz1 : i0.size = 2) (hz2 : i0.bytes = 32) (ht : Try.prog.underlying S = some (.slice T))
    {w : World} {o : Oper} {a : Act} {K : Act → World → Prop} {Q : Exit → Act → World → Prop} (s x : Operand)
    (ho : o.op = .call { callee := .builtin .append, args := #[s, x], argTypes := #[S, S] }) (v v2 : Value) (hs : a.eval s = v) (hx : a.eval x = v2) {ps qs : Flds} (hown : OwnsP T B w v ps) (hr : ReadsQ w v2 qs) (hp : Sane v2)
    (hn : ps.length + qs.length ≤ 100000) (hB : B ≤ w.heap.size) (h : ∀ v' w', OwnsP T B w' v' (ps ++ qs) → w.grownBy w' v.ownBlock → K (a.put o.dst v') w') :
    Oper.wp Try.prog o a w K Q := by
  obtain ⟨ao, cap, rfl, hc⟩ := id hr
  cases ao with
  | none =>
    obtain ⟨rfl, _⟩ := hr.none
    obtain rfl := (hp _ _ _ rfl).2 rfl
    have hrun := run_append_owned_none (P := Try.prog) (w := w) B S o.type T i0 2 ht hi v ps.length (flatP ps) hown
    unfold Oper.wp
    simp [execOp, ho, resolve, invoke, builtin, hs, hx, hrun, Result.andThen]
    exact h v w (by rw [List.append_nil]; exact hown) ⟨rfl, rfl, rfl, Nat.le_refl _, fun _ _ _ => rfl⟩
  | some ad =>
    obtain ⟨_, hs'⟩ := hr.src
    exact wp_append_own w s x S ho B T i0 _ 2 32 ht hi hz0 hz1 hz2 rfl (by decide) v ps.length (flatP ps) hs hown ad qs.length cap (flatP qs) hx (flatP_len qs) hs' (flatP_one qs) (by unfold maxLen; omega) (by omega) hB
      fun v' w' h1 h2 _ => h v' w' (own_app h1 rfl) h2
theorem ownsN_slice {T : TypeId} {B : Nat} {w : World} {v : Value} {ps : Flds} (h : OwnsP T B w v ps) : ∃ a c, v = .slice a ps.length c := by
  rcases h with ⟨hl, ⟨hv, hn⟩ | ⟨g, cap, cur, hv, _⟩⟩
  · exact ⟨none, 0, by rw [hv, hn]⟩
  · exact ⟨_, cap, hv⟩
theorem sane_oneN (a : Addr) : Sane (.slice (some a) 1 1) := fun x n c e => by cases e; exact ⟨Nat.le_refl _, fun h => by cases h⟩
def spP (p : List UInt8 × List UInt8) : List UInt8 × List UInt8 := (p.1, spcL p.2)
theorem spP_tot (ps : Flds) : totL (ps.map spP) ≤ 3 * totL ps + 2 * ps.length := by
  induction ps with
  | nil => simp [totL]
  | cons p r ih =>
    have e1 : totL ((p :: r).map spP) = p.1.length + (spcL p.2).length + totL (r.map spP) := rfl
    have e2 : totL (p :: r) = p.1.length + p.2.length + totL r := rfl
    have h := spc_len p.2
    have e3 : (spcL p.2).length = (p.2.flatMap spcC).length + 2 := by simp [spcL]
    rw [List.length_cons]
    omega
theorem spP_next {ps : Flds} {k : Nat} {p : List UInt8 × List UInt8} (h : ps[k]? = some p) : (ps.take (k + 1)).map spP = (ps.take k).map spP ++ [spP p] := by rw [take_more h]; simp
theorem fitK_sp {ps : Flds} (h : 2 * ps.length + totL ps ≤ 3000) : FitK (ps.map spP) := ⟨by rw [List.length_map]; omega, by have := spP_tot ps; omega⟩
theorem fitK_add {ps : Flds} {n v : List UInt8} (h : 2 * ps.length + totL ps ≤ 3000) (hn : n.length + v.length ≤ 1000) : FitK (addL ps n v) := by
  unfold addL
  refine ⟨by rw [List.length_append, List.length_singleton]; omega, ?_⟩
  rw [tot_app]
  have e : totL [(lowS n, v)] = (lowS n).length + v.length + 0 := rfl
  rw [e, lowS_len]
  omega
theorem fieldsF_any (v : Value) (ps : Flds) (w : World) (hr : ReadsQ w v ps) (h : FitK ps) :
    Calls Try.prog 13 #[v] w fun e w' => ∃ a c, e = .returned (.slice a ps.length c) ∧ ReadsQ w' (.slice a ps.length c) ps ∧ Below w.heap.size w w' := by
  refine (fields_any _ ps w hr (by have := h.len; omega) (fun p hp => by have := h.each p hp; omega)).mono ?_
  rintro e w' ⟨v, rfl, hO, hB⟩
  obtain ⟨a, c, hv, _⟩ := id hO.q
  subst hv
  exact ⟨a, c, rfl, hO.q, hB⟩
theorem fieldsFL_any (v : Value) (ps : Flds) (m : Nat) (hm : ps.length = m) (w : World) (hr : ReadsQ w v ps) (h : FitK ps) :
    Calls Try.prog 13 #[v] w fun e w' => ∃ a c, e = .returned (.slice a m c) ∧ ReadsQ w' (.slice a m c) ps ∧ Below w.heap.size w w' := by
  subst hm
  exact fieldsF_any v ps w hr h
theorem addF_any (v : Value) (ps : Flds) (n val : List UInt8) (w : World) (hr : ReadsQ w v ps) (h : FitK ps) (hn : n.length ≤ 1000) (hv : val.length ≤ 1000) :
    Calls Try.prog 16 #[v, .string (strB n), .string (strB val)] w fun e w' => ∃ a c, e = .returned (.slice a (addL ps n val).length c) ∧ ReadsQ w' (.slice a (addL ps n val).length c) (addL ps n val) ∧ Below w.heap.size w w' := by
  refine (add_any v ps n val w hr (by omega) (by omega) (by have := h.len; omega)).mono ?_
  rintro e w' ⟨v', rfl, hO, hB⟩
  obtain ⟨a, c, hv, _⟩ := id hO.q
  subst hv
  exact ⟨a, c, rfl, hO.q, hB⟩
/-- What a round of the statement's loop asks of a world: the two cells of the field's box, and the list so far. -/
structure NrS (N B : Nat) (p : List UInt8 × List UInt8) (w0 w' : World) : Prop where
  c0 : w'.cell? ⟨N, 0, none⟩ = some (.string (strB p.1))
  c1 : w'.cell? ⟨N, 1, none⟩ = some (.string (strB p.2))
  lt : N < w'.heap.size
  l : Below B w0 w'
theorem NrS.below {N B : Nat} {p : List UInt8 × List UInt8} {w0 w w' : World} (h : NrS N B p w0 w) (hB : B ≤ w.heap.size) (hb : Below w.heap.size w w') : NrS N B p w0 w' :=
  ⟨(hb.cell (p := ⟨N, 0, none⟩) h.lt).trans h.c0, (hb.cell (p := ⟨N, 1, none⟩) h.lt).trans h.c1, Nat.lt_of_lt_of_le h.lt hb.size, h.l.trans (hb.mono hB)⟩
theorem nrS_all {N B : Nat} {p : List UInt8 × List UInt8} {w0 w' : World} (h : NrS N B p w0 w') : w'.cell? ⟨N, 0, none⟩ = some (.string (strB p.1)) ∧ w'.cell? ⟨N, 1, none⟩ = some (.string (strB p.2)) ∧ NrS N B p w0 w' := ⟨h.c0, h.c1, h⟩
/-- The append grows the list's own block, which is not the box. -/
theorem NrS.grown {N B : Nat} {p : List UInt8 × List UInt8} {w0 w w' : World} {row : Option Nat} (h : NrS N B p w0 w) (hg : w.grownBy w' row) (hrow : ∀ k, row = some k → B ≤ k ∧ k ≠ N) (hB : B ≤ w.heap.size) : NrS N B p w0 w' := by
  have hO : Only (fun k => row = some k) w w' := Only.grown hg (fun k hk => .inl hk)
  exact ⟨(hO.cell (p := ⟨N, 0, none⟩) h.lt (fun e => (hrow N e).2 rfl)).trans h.c0, (hO.cell (p := ⟨N, 1, none⟩) h.lt (fun e => (hrow N e).2 rfl)).trans h.c1, Nat.lt_of_lt_of_le h.lt hO.size, h.l.trans (hO.to (fun k hk => (hrow k hk).1) hB)⟩
theorem infoTQ : (Try.prog.info? 34).map (fun i => (i.zero, i.size, i.bytes)) = some (some (.agg #[.string ByteArray.empty, .string ByteArray.empty]), 2, 32) := by kernel_rfl
theorem toList_ne {a b : List UInt8} (h : a ≠ b) : ¬ (strB a).toList = (strB b).toList := fun e => by
  have := toList_other h
  rw [e, beq_self_eq_true] at this
  cases this
def nNot : List UInt8 := [110, 111, 116, 45, 97, 45, 110, 97, 109, 101, 45, 111, 102, 45, 116, 104, 101, 45, 108, 105, 115, 116]
def vAno : List UInt8 := [97, 110, 111, 116, 104, 101, 114, 32, 118, 97, 108, 117, 101]
theorem not_has {ns : List (List UInt8)} {ps : Flds} {v : List UInt8} (h : keyL ns (addL ps nNot v) ≠ keyL ns ps) : hasB ns nNot = true := by
  cases e : hasB ns nNot with
  | true => rfl
  | false =>
    refine absurd (key_other ns ps nNot v fun n hn he => ?_) h
    unfold hasB at e
    rw [List.any_eq_false] at e
    have h1 := e n hn
    unfold ofN at h1
    simp [he] at h1
set_option maxHeartbeats 16000000 in
set_option maxRecDepth 100000 in
theorem vy_normal_walk (na : Option Addr) (nc : Nat) (ns : List (List UInt8)) (fa : Option Addr) (fc : Nat) (ps : Flds) (x : Nat) (w : World) (hn : ReadsS w (.slice na ns.length nc) ns) (hr : ReadsQ w (.slice fa ps.length fc) ps) (bn : ns.length + sumL ns ≤ 90000000) (bf : 2 * ps.length + totL ps ≤ 90000000) (bx : x ≤ 255) :
    Calls Try.prog 4 #[.slice na ns.length nc, .slice fa ps.length fc, .int .u8 (x : Int)] w fun e w' => e = .returned (.bool true) ∧ Below w.heap.size w w' := by
  have HL := Lib.hid (fun (W : World) (hB : Below w.heap.size w W) => long16_any _ ns W (hn.below hB) bn)
  have HG := Lib.hid (fun (W : World) (hB : Below w.heap.size w W) => largeOne_any _ ps W (hr.below hB) bf)
  have HA := Lib.hid (fun (W : World) => awake16_any W)
  have HN := Lib.hid hn
  have HR := Lib.hid hr
  clear hn hr bn bf
  cases h1 : lonB ns with
  | true =>
    rw [h1] at HL
    clear h1
    go_enter Try.func4, Try.ntmps4
    go_wp2_with fail
    refine (HL.out _ (Below.refl _ _)).mono ?_
    rintro e w1 ⟨rfl, hw1⟩
    obtain rfl := hw1.symm
    go_wp2_with fail
    refine (HL.out _ (Below.refl _ _)).mono ?_
    rintro e w2 ⟨rfl, hw2⟩
    obtain rfl := hw2.symm
    go_wp2_with fail
    go_ret
    exact ⟨rfl, Below.refl _ _⟩
  | false =>
    rw [h1] at HL
    have hfn := lon_fit h1
    clear h1
    cases h2 : lgV [(Value.slice fa ps.length fc, ps)] with
    | true =>
      rw [h2] at HG
      clear h2
      go_enter Try.func4, Try.ntmps4
      go_wp2_with fail
      refine (HL.out _ (Below.refl _ _)).mono ?_
      rintro e w1 ⟨rfl, hw1⟩
      obtain rfl := hw1.symm
      go_wp2_with fail
      refine (HG.out _ (Below.refl _ _)).mono ?_
      rintro e w2 ⟨rfl, hB2⟩
      go_wp2_with fail
      refine (HL.out _ hB2).mono ?_
      rintro e w3 ⟨rfl, hw3⟩
      obtain rfl := hw3.symm
      go_wp2_with fail
      refine (HG.out _ hB2).mono ?_
      rintro e w4 ⟨rfl, hB4⟩
      go_wp2_with fail
      go_ret
      exact ⟨rfl, hB2.trans (hB4.mono hB2.size)⟩
    | false =>
      rw [h2] at HG
      have hb3 := lg_fit1 h2
      have HFn := Lib.hid hfn
      have HB3 := Lib.hid hb3
      have hnl := hfn.len
      have hpl := (fitK_of hb3).len
      obtain ⟨i0, hi, hz0, hz1, hz2⟩ := info_parts infoTQ
      have HI := Lib.hid hi
      have HZ0 := Lib.hid hz0
      have HZ1 := Lib.hid hz1
      have HZ2 := Lib.hid hz2
      clear h2 hb3 hfn hi hz0 hz1 hz2
      go_enter Try.func4, Try.ntmps4
      go_wp2_with fail
      refine (HL.out _ (Below.refl _ _)).mono ?_
      rintro e w1 ⟨rfl, hw1⟩
      obtain rfl := hw1.symm
      go_wp2_with fail
      refine (HG.out _ (Below.refl _ _)).mono ?_
      rintro e w2 ⟨rfl, hB2⟩
      go_wp2_with fail
      refine (HA.out _).mono ?_
      rintro e w3 ⟨rfl, hB3⟩
      have HW3 := Lib.hid (hB2.trans (hB3.mono hB2.size))
      have hs3 := HW3.out.size
      clear hB2 hB3
      go_wp2_with fail
      go_loopw [7, 33] (fun v i wr => ∃ k : Nat, i = .int .i64 k ∧ k ≤ ps.length ∧ OwnsP 34 w3.heap.size wr v ((ps.take k).map spP) ∧ Below w3.heap.size w3 wr) (fun _ i _ => ps.length - (intOf i).toNat)
      case atStart => exact ⟨0, rfl, Nat.zero_le _, OwnsP.nil _ _ _, Below.refl _ _⟩
      case round =>
        obtain ⟨k, rfl, hk, hO, hBr⟩ := hrel
        have hbr := hBr.size
        have HBr := Lib.hid hBr
        have HBw := Lib.hid (HW3.out.trans (hBr.mono hs3))
        by_cases hlt : k < ps.length
        · obtain ⟨p, hp⟩ : ∃ p, ps[k]? = some p := ⟨ps[k], by simp [hlt]⟩
          obtain ⟨_, _, e0, hcx⟩ := HR.out
          simp only [Value.slice.injEq, true_and] at e0
          obtain ⟨rfl, rfl⟩ := e0
          obtain ⟨g, off, rfl, hg, h1, h2⟩ := hcx k p hp
          have c1 := (HBw.out.cell (p := ⟨g, off + k * 2, none⟩) hg).trans h1
          have c2 := (HBw.out.cell (p := ⟨g, off + k * 2 + 1, none⟩) hg).trans h2
          have hpt := tot_mem (List.mem_of_getElem? hp)
          have hb3 := HB3.out
          have HSp := Lib.hid (fun (w : World) => spaced_any (strB p.2) w (by rw [strB_size]; omega))
          rw [strB_list] at HSp
          have HNx := Lib.hid (spP_next hp)
          have hlen : ((ps.take k).map spP).length = k := by simp; omega
          obtain ⟨va, vc, rfl⟩ := ownsN_slice hO
          rw [hlen] at hO ⊢
          have HOw := Lib.hid hO
          have HLn := Lib.hid hlen
          clear hp h1 h2 hcx hO hBr hb3 hlen
          go_upto_region 7 with fail
          have hrow : ∀ j, (Value.slice va k vc).ownBlock = some j → w3.heap.size ≤ j ∧ j ≠ wr.heap.size := fun j hj => by have := World.ownsRow.lt HOw.out j hj; omega
          have HRow := Lib.hid hrow
          have HS1 := Lib.hid (show NrS wr.heap.size w3.heap.size p w3 (wr.alloc (.cells #[.string (strB p.1), .string (strB p.2)] 34)) from ⟨(new_pair wr _ _ _).1, (new_pair wr _ _ _).2, by simp, HBr.out.alloc hbr _⟩)
          have HO1 := Lib.hid (OwnsP.below HOw.out (below_new wr (.cells #[.string (strB p.1), .string (strB p.2)] 34)))
          change Code.wp _ _ _ _ (wr.alloc (.cells #[.string (strB p.1), .string (strB p.2)] 34))
          generalize (wr.alloc (.cells #[.string (strB p.1), .string (strB p.2)] 34)) = W1 at *
          generalize wr.heap.size = N at *
          clear c1 c2 hrow HOw HBr HBw
          have hS0 := HS1.out.below HS1.out.l.size (Below.refl _ _).drew
          have hO1 := OwnsP.below HO1.out (Below.refl _ W1).drew
          clear HS1 HO1
          refine wp_region_held_drew (S := (fun w' => w'.cell? ⟨N, 0, none⟩ = some (.string (strB p.1)) ∧ w'.cell? ⟨N, 1, none⟩ = some (.string (strB p.2)) ∧ NrS N w3.heap.size p w3 w')) (by kernel_rfl) (nrS_all hS0) (fun hHeld => ?_)
          generalize W1.drew = V0 at *
          refine wpAnyH_take (i := 0) (oi := { dst := some 37, op := _, type := _, pos := _, after := _, guard := _ }) (v := ?_) rfl (by kernel_rfl) (by kernel_rfl) (by kernel_rfl) (fun _ _ _ h => h) (Or.inl ⟨by rfl, ?_⟩) (by assumption) ?_
          rotate_left
          focus (intro w hSw; (try dsimp only at hSw); first | (go_simp; done) | (go_simp; with_reducible rfl))
          (try simp only [Act.put, List.setIfInBounds_toArray, List.set_cons_zero, List.set_cons_succ])
          refine wpAnyH_take (i := 1) (oi := { dst := some 38, op := _, type := _, pos := _, after := _, guard := _ }) (v := ?_) rfl (by kernel_rfl) (by kernel_rfl) (by kernel_rfl) (fun _ _ _ h => h) (Or.inl ⟨by rfl, ?_⟩) (by assumption) ?_
          rotate_left
          focus (intro w hSw; (try dsimp only at hSw); first | (go_simp; done) | (go_simp; with_reducible rfl))
          (try simp only [Act.put, List.setIfInBounds_toArray, List.set_cons_zero, List.set_cons_succ])
          refine wpAnyH_take (i := 2) (oi := { dst := some 39, op := _, type := _, pos := _, after := _, guard := _ }) (v := ?_) rfl (by kernel_rfl) (by kernel_rfl) (by kernel_rfl) (fun _ _ _ h => h) (Or.inl ⟨by rfl, ?_⟩) (by assumption) ?_
          rotate_left
          focus (intro w hSw; (try dsimp only at hSw); first | (go_simp; done) | (go_simp; with_reducible rfl))
          (try simp only [Act.put, List.setIfInBounds_toArray, List.set_cons_zero, List.set_cons_succ])
          refine wpAnyH_take (i := 3) (oi := { dst := some 40, op := _, type := _, pos := _, after := _, guard := _ }) (v := ?_) rfl (by kernel_rfl) (by kernel_rfl) (by kernel_rfl) (fun _ _ _ h => h) (Or.inl ⟨by rfl, ?_⟩) (by assumption) ?_
          rotate_left
          focus (intro w hSw; (try dsimp only at hSw); first | (go_simp; done) | (go_simp; with_reducible rfl))
          (try simp only [Act.put, List.setIfInBounds_toArray, List.set_cons_zero, List.set_cons_succ])
          refine wpAnyH_take (i := 4) (oi := { dst := some 41, op := _, type := _, pos := _, after := _, guard := _ }) (v := ?_) rfl (by kernel_rfl) (by kernel_rfl) (by kernel_rfl) (fun _ _ _ h => h) (Or.inl ⟨by rfl, ?_⟩) (by assumption) ?_
          rotate_left
          focus (intro w hSw; (try dsimp only at hSw); first | (go_simp; done) | (go_simp; with_reducible rfl))
          (try simp only [Act.put, List.setIfInBounds_toArray, List.set_cons_zero, List.set_cons_succ])
          refine wpAnyH_ready (rs := [5]) (by kernel_rfl) (by simp) ?_
          refine AllReadyH.cons (o := { dst := some 42, op := _, type := _, pos := _, after := _, guard := _ }) rfl (fun K hK => ?_) AllReadyH.nil
          go_simp
          refine (HSp.out _).mono ?_
          rintro x V1 ⟨rfl, hv1⟩
          obtain rfl := hv1.symm
          refine hK.out _ _ (nrS_all hS0) (fun hH1 => ?_)
          clear hK K hHeld
          (try simp only [Act.put, List.setIfInBounds_toArray, List.set_cons_zero, List.set_cons_succ])
          refine wpAnyH_take (i := 6) (oi := { dst := some 43, op := _, type := _, pos := _, after := _, guard := _ }) (v := ?_) rfl (by kernel_rfl) (by kernel_rfl) (by kernel_rfl) (fun _ _ _ h => h) (Or.inl ⟨by rfl, ?_⟩) (by assumption) ?_
          rotate_left
          focus (intro w hSw; (try dsimp only at hSw); first | (go_simp; done) | (go_simp; with_reducible rfl))
          (try simp only [Act.put, List.setIfInBounds_toArray, List.set_cons_zero, List.set_cons_succ])
          refine wpAnyH_ready (rs := [7]) (by kernel_rfl) (by simp) ?_
          refine AllReadyH.cons (o := { dst := some 44, op := _, type := _, pos := _, after := _, guard := _ }) rfl (fun K hK => ?_) AllReadyH.nil
          go_simp
          have hS2 := hS0.below hS0.l.size (below_new V0 (.cells #[.string (strB p.1), .string (strB (spcL p.2))] 34))
          have hO2 := OwnsP.below hO1 (below_new V0 (.cells #[.string (strB p.1), .string (strB (spcL p.2))] 34))
          have hQ2 := readsQ_newT V0 p.1 (spcL p.2) 34
          refine hK.out _ _ (nrS_all hS2) (fun hH2 => ?_)
          clear hK K hS0 hO1 hH1
          (try simp only [Act.put, List.setIfInBounds_toArray, List.set_cons_zero, List.set_cons_succ])
          change wpAnyH _ _ _ _ _ _ _ _ (V0.alloc (.cells #[.string (strB p.1), .string (strB (spcL p.2))] 34))
          generalize V0.alloc (.cells #[.string (strB p.1), .string (strB (spcL p.2))] 34) = V2 at *
          refine wpAnyH_ready (rs := [8]) (by kernel_rfl) (by simp) ?_
          refine AllReadyH.cons (o := { dst := some 45, op := _, type := _, pos := _, after := _, guard := _ }) rfl (fun K hK => ?_) AllReadyH.nil
          (try rw [if_pos (by rfl)])
          refine wp_appendN HI.out HZ0.out HZ1.out HZ2.out Try.underlying23 _ _ rfl _ _ rfl rfl hO2 hQ2 (sane_oneN _) (by rw [HLn.out]; simp; omega) hS2.l.size (fun v3 V3 hO3 hg3 => ?_)
          have hS3 := hS2.grown hg3 HRow.out hS2.l.size
          refine hK.out _ _ (nrS_all hS3) (fun hH3 => ?_)
          clear hK K hS2 hO2 hQ2 hH2 hg3
          (try simp only [Act.put, List.setIfInBounds_toArray, List.set_cons_zero, List.set_cons_succ])
          refine wpAnyH_take (i := 9) (oi := { dst := some 7, op := _, type := _, pos := _, after := _, guard := _ }) (v := ?_) rfl (by kernel_rfl) (by kernel_rfl) (by kernel_rfl) (fun _ _ _ h => h) (Or.inl ⟨by rfl, ?_⟩) (by assumption) ?_
          rotate_left
          focus (intro w hSw; (try dsimp only at hSw); first | (go_simp; done) | (go_simp; with_reducible rfl))
          (try simp only [Act.put, List.setIfInBounds_toArray, List.set_cons_zero, List.set_cons_succ])
          refine wpAnyH_done (by kernel_rfl) ?_ _
          (try simp only [Exit.inBlock, Exit.then])
          have hB3' := hS3.l
          clear hS3 hH3
          go_wp2_with fail
          go_roundw
          case rel => exact ⟨k + 1, by go_num, by omega, by rw [HNx.out]; exact hO3, hB3'⟩
          case measure => simp [intOf]; omega
        · have htk : ps.take k = ps := List.take_of_length_le (by omega)
          rw [htk] at hO
          obtain ⟨va, vc, rfl⟩ := ownsN_slice hO
          rw [List.length_map] at hO ⊢
          have hQg := hO.q
          have HQg := Lib.hid hQg
          have HKey := Lib.hid (fun (W : World) (v : Value) (qs : Flds) (hB : Below w.heap.size w W) (hq : ReadsQ W v qs) (hf : FitK qs) => key_any _ ns v qs W (HN.out.below hB) hq HFn.out hf)
          have HF := Lib.hid (fun (W : World) (hB : Below w.heap.size w W) => fieldsF_any _ ps W (HR.out.below hB) (fitK_of HB3.out))
          have HFg := Lib.hid (fun (W : World) (hB : Below wr.heap.size wr W) => fieldsFL_any _ (ps.map spP) ps.length (List.length_map ..) W (HQg.out.below hB) (fitK_sp HB3.out))
          have hspk : keyL ns (ps.map spP) = keyL ns ps := key_spc ns ps
          have HSpk := Lib.hid hspk
          obtain ⟨key, hkey⟩ : ∃ key, keyL ns ps = key := ⟨_, rfl⟩
          have HKy := Lib.hid hkey
          have hkk : ((strB key).toList != (strB key).toList) = false := by simp
          clear hO hQg hspk hkey hBr
          go_wp2_with fail
          refine (HF.out _ HBw.out).mono ?_
          rintro e w4 ⟨a4, c4, rfl, hR4, hB4⟩
          have HB4 := Lib.hid (HBw.out.trans (hB4.mono HBw.out.size))
          have HC4 := Lib.hid hB4
          have HR4 := Lib.hid hR4
          clear hB4 hR4
          go_wp2_with fail
          refine (HKey.out _ _ _ HB4.out HR4.out (fitK_of HB3.out)).mono ?_
          rintro e w5 ⟨rfl, hB5⟩
          have HB5 := Lib.hid (HB4.out.trans (hB5.mono HB4.out.size))
          have HC5 := Lib.hid (HC4.out.trans (hB5.mono HC4.out.size))
          clear hB5
          rw [HKy.out]
          go_wp2_with fail
          refine (HFg.out _ HC5.out).mono ?_
          rintro e w6 ⟨a6, c6, rfl, hR6, hB6⟩
          have HB6 := Lib.hid (HB5.out.trans (hB6.mono HB5.out.size))
          have HR6 := Lib.hid hR6
          clear hB6 hR6
          go_wp2_with fail
          refine (HKey.out _ _ _ HB6.out HR6.out (fitK_sp HB3.out)).mono ?_
          rintro e w7 ⟨rfl, hB7⟩
          have HB7 := Lib.hid (HB6.out.trans (hB7.mono HB6.out.size))
          clear hB7
          rw [HSpk.out, HKy.out]
          go_wp2_with fail
          refine (HF.out _ HB7.out).mono ?_
          rintro e w8 ⟨a8, c8, rfl, hR8, hB8⟩
          have HB8 := Lib.hid (HB7.out.trans (hB8.mono HB7.out.size))
          have HAd := Lib.hid (addF_any _ ps nNot [49] w8 hR8 (fitK_of HB3.out) (by decide) (by decide))
          clear hB8 hR8
          go_wp2_with fail
          refine HAd.out.mono ?_
          rintro e w9 ⟨a9, c9, rfl, hR9, hB9⟩
          have HB9 := Lib.hid (HB8.out.trans (hB9.mono HB8.out.size))
          have HR9 := Lib.hid hR9
          clear hB9 hR9 HAd
          go_wp2_with fail
          refine (HKey.out _ _ _ HB9.out HR9.out (fitK_add HB3.out (by decide))).mono ?_
          rintro e w10 ⟨rfl, hB10⟩
          have HB10 := Lib.hid (HB9.out.trans (hB10.mono HB9.out.size))
          clear hB10
          by_cases hka : keyL ns (addL ps nNot [49]) = keyL ns ps
          · rw [hka, HKy.out]
            clear hka
            by_cases hns : ns = []
            · have hke : key = [] := by rw [← HKy.out, hns]; rfl
              subst hke
              have ez2 : (strB []).toList.isEmpty = true := by rw [ByteArray.toList_eq]; rfl
              have hn0 : ns.length = 0 := by rw [hns]; rfl
              clear hns
              rw [hn0]
              go_wp2_with fail
              go_ret
              exact ⟨by first | rfl | simp [ez2], HB10.out⟩
            · have hn0 : 0 < ns.length := List.length_pos_iff.mpr hns
              have hn1 : ((ns.length : Int) == 0) = false := by simp; omega
              clear hns
              have hmod : x % ns.length < ns.length := Nat.mod_lt _ hn0
              obtain ⟨n1, hn1'⟩ : ∃ n, ns[x % ns.length]? = some n := ⟨ns[x % ns.length], by simp [hmod]⟩
              obtain ⟨_, _, e0, hcx⟩ := HN.out
              simp only [Value.slice.injEq, true_and] at e0
              obtain ⟨rfl, rfl⟩ := e0
              obtain ⟨g, off, rfl, hg, h1⟩ := hcx _ n1 hn1'
              have hmem := List.mem_of_getElem? hn1'
              have hnl1 := HFn.out.each n1 hmem
              have hmr : ((x : Int).tmod (ns.length : Int)) = ((x % ns.length : Nat) : Int) := by rw [Int.tmod_eq_emod_of_nonneg (by omega)]; rfl
              have HMore := Lib.hid (key_more ns ps n1 vAno hmem)
              generalize x % ns.length = m at *
              have d1 := (HB10.out.cell (p := ⟨g, off + m, none⟩) hg).trans h1
              clear hcx h1 hn1' hmem
              go_wp2_with fail
              refine (HF.out _ HB10.out).mono ?_
              rintro e w12 ⟨a12, c12, rfl, hR12, hB12⟩
              have HB12 := Lib.hid (HB10.out.trans (hB12.mono HB10.out.size))
              have HAd := Lib.hid (addF_any _ ps n1 vAno w12 hR12 (fitK_of HB3.out) (by omega) (by decide))
              clear hB12 hR12
              go_wp2_with fail
              refine HAd.out.mono ?_
              rintro e w13 ⟨a13, c13, rfl, hR13, hB13⟩
              have HB13 := Lib.hid (HB12.out.trans (hB13.mono HB12.out.size))
              have HR13 := Lib.hid hR13
              clear hB13 hR13 HAd
              go_wp2_with fail
              refine (HKey.out _ _ _ HB13.out HR13.out (fitK_add HB3.out (by show _ + 13 ≤ _; omega))).mono ?_
              rintro e w14 ⟨rfl, hB14⟩
              have HB14 := Lib.hid (HB13.out.trans (hB14.mono HB13.out.size))
              have hkq3 : ¬ (strB (keyL ns (addL ps n1 vAno))).toList = (strB key).toList := toList_ne (fun e => HMore.out (by rw [e, HKy.out]))
              clear hB14
              go_wp2_with fail
              go_ret
              exact ⟨by first | rfl | simp [hkq3], HB14.out⟩
          · have hhas := not_has hka
            have hkn : ¬ (strB (keyL ns (addL ps nNot [49]))).toList = (strB key).toList := toList_ne (fun e => hka (by rw [e, HKy.out]))
            have hkq : ((strB (keyL ns (addL ps nNot [49]))).toList == (strB key).toList) = false := toList_other (fun e => hka (by rw [e, HKy.out]))
            have HHas := Lib.hid (fun (W : World) (hB : Below w.heap.size w W) => has_any _ ns nNot W (HN.out.below hB) HFn.out (by decide))
            rw [hhas] at HHas
            clear hka hhas
            go_wp2_with fail
            refine (HHas.out _ HB10.out).mono ?_
            rintro e w11 ⟨rfl, hB11⟩
            have HB10 := Lib.hid (HB10.out.trans (hB11.mono HB10.out.size))
            clear hB11
            by_cases hns : ns = []
            · have hke : key = [] := by rw [← HKy.out, hns]; rfl
              subst hke
              have ez2 : (strB []).toList.isEmpty = true := by rw [ByteArray.toList_eq]; rfl
              have hn0 : ns.length = 0 := by rw [hns]; rfl
              clear hns
              rw [hn0]
              go_wp2_with fail
              go_ret
              exact ⟨by first | rfl | simp [ez2], HB10.out⟩
            · have hn0 : 0 < ns.length := List.length_pos_iff.mpr hns
              have hn1 : ((ns.length : Int) == 0) = false := by simp; omega
              clear hns
              have hmod : x % ns.length < ns.length := Nat.mod_lt _ hn0
              obtain ⟨n1, hn1'⟩ : ∃ n, ns[x % ns.length]? = some n := ⟨ns[x % ns.length], by simp [hmod]⟩
              obtain ⟨_, _, e0, hcx⟩ := HN.out
              simp only [Value.slice.injEq, true_and] at e0
              obtain ⟨rfl, rfl⟩ := e0
              obtain ⟨g, off, rfl, hg, h1⟩ := hcx _ n1 hn1'
              have hmem := List.mem_of_getElem? hn1'
              have hnl1 := HFn.out.each n1 hmem
              have hmr : ((x : Int).tmod (ns.length : Int)) = ((x % ns.length : Nat) : Int) := by rw [Int.tmod_eq_emod_of_nonneg (by omega)]; rfl
              have HMore := Lib.hid (key_more ns ps n1 vAno hmem)
              generalize x % ns.length = m at *
              have d1 := (HB10.out.cell (p := ⟨g, off + m, none⟩) hg).trans h1
              clear hcx h1 hn1' hmem
              go_wp2_with fail
              refine (HF.out _ HB10.out).mono ?_
              rintro e w12 ⟨a12, c12, rfl, hR12, hB12⟩
              have HB12 := Lib.hid (HB10.out.trans (hB12.mono HB10.out.size))
              have HAd := Lib.hid (addF_any _ ps n1 vAno w12 hR12 (fitK_of HB3.out) (by omega) (by decide))
              clear hB12 hR12
              go_wp2_with fail
              refine HAd.out.mono ?_
              rintro e w13 ⟨a13, c13, rfl, hR13, hB13⟩
              have HB13 := Lib.hid (HB12.out.trans (hB13.mono HB12.out.size))
              have HR13 := Lib.hid hR13
              clear hB13 hR13 HAd
              go_wp2_with fail
              refine (HKey.out _ _ _ HB13.out HR13.out (fitK_add HB3.out (by show _ + 13 ≤ _; omega))).mono ?_
              rintro e w14 ⟨rfl, hB14⟩
              have HB14 := Lib.hid (HB13.out.trans (hB14.mono HB13.out.size))
              have hkq3 : ¬ (strB (keyL ns (addL ps n1 vAno))).toList = (strB key).toList := toList_ne (fun e => HMore.out (by rw [e, HKy.out]))
              clear hB14
              go_wp2_with fail
              go_ret
              exact ⟨by first | rfl | simp [hkq3], HB14.out⟩
end Go.Proofs.Ytbmbcdbldbjddaa
