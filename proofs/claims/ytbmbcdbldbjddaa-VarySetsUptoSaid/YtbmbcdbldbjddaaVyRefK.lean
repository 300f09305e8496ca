/- What the reference's normal, Value and Key return. -/
import Derived.Test.YtbmbcdbldbjddaaVyKey
import Derived.Test.YtbmbcdbldbjddaaRefQuote
import Derived.Test.YtbmbcdbldbjddaaRefAll
namespace Go.Proofs.Ytbmbcdbldbjddaa
open Go.RowKit

theorem normF_len (l : List UInt8) : (normF l).length ≤ l.length := by
  have := foldA_len l []
  unfold normF; simpa using this
theorem normF_take (s : ByteArray) (k : Nat) (h : k < s.size) : normF (s.data.toList.take (k + 1)) = normA (normF (s.data.toList.take k)) s[k] := by rw [take_snoc s k h, normF_snoc]
theorem blk_snoc (t : List UInt8) (d : UInt8) : Blk (t ++ [d]) ↔ d = 32 := by
  unfold Blk
  simp
def NmR (s : ByteArray) (w : World) (o i : Value) (wr : World) : Prop :=
  ∃ k : Nat, i = .int .i64 k ∧ k ≤ s.size ∧ o = .string (strB (normF (s.data.toList.take k))) ∧ Below w.heap.size w wr
theorem strB_ne (t : List UInt8) (d : UInt8) : ¬ (strB (t ++ [d])).toList = [] := by rw [ByteArray.toList_eq, strB_list]; simp
theorem strB_ne2 (t : List UInt8) (d : UInt8) : (strB (t ++ [d])).toList.isEmpty = false := by rw [ByteArray.toList_eq, strB_list]; simp
theorem norm9 : normC 9 = 32 := by decide
theorem norm_low {c : UInt8} (h : c ≠ 9) (h2 : c.toNat < 32 ∨ c = 127) : normC c = 63 := by unfold normC; rw [if_neg h, if_pos h2]
theorem norm_same {c : UInt8} (h : c ≠ 9) (h2 : ¬ (c.toNat < 32 ∨ c = 127)) : normC c = c := by unfold normC; rw [if_neg h, if_neg h2]
theorem normA_stay {o : List UInt8} {c : UInt8} (h : normC c = 32) (hb : Blk o) : normA o c = o := by unfold normA; rw [if_pos ⟨h, hb⟩]
theorem normA_more {o : List UInt8} {c : UInt8} (h : normC c ≠ 32 ∨ ¬ Blk o) : normA o c = o ++ [normC c] := by
  unfold normA
  rw [if_neg]
  rintro ⟨a, b⟩
  rcases h with h | h
  · exact h a
  · exact h b
theorem u8_ne {a b : UInt8} (h : a ≠ b) : a.toNat ≠ b.toNat := fun e => h (UInt8.toNat_inj.mp e)
set_option maxHeartbeats 8000000 in
set_option maxRecDepth 100000 in
theorem refNormal_any (s : ByteArray) (w : World) (hs : s.size ≤ 1000000) :
    Calls Try.prog 46 #[.string s] w fun e w' => e = .returned (.string (strB (normV s.data.toList))) ∧ Below w.heap.size w w' := by

  go_enter Try.func46, Try.ntmps46
  go_wp2
  go_loopw [3, 8] (fun o i wr => NmR s w o i wr) (fun _ i _ => s.size - (intOf i).toNat)
  case atStart => exact ⟨0, rfl, by omega, rfl, Below.refl _ _⟩
  case round =>
    obtain ⟨k, rfl, hk, rfl, hB⟩ := hrel
    have hsz := hB.size
    by_cases hlt : k < s.size
    · have HS := Lib.hid (normF_take s k hlt)
      have hol := normF_len (s.data.toList.take k)
      rw [List.length_take] at hol
      have HB := Lib.hid hB
      clear hB
      generalize normF (s.data.toList.take k) = o at *
      have hcl : s[k].toNat < 256 := UInt8.toNat_lt _
      by_cases h9 : s[k] = 9
      · have hn : normC s[k] = 32 := by rw [h9]; decide
        have e9 : ((s[k].toNat : Int) == 9) = true := by rw [h9]; decide
        clear h9
        rcases List.eq_nil_or_concat o with rfl | ⟨t, d, rfl⟩
        · have HX := Lib.hid (normA_stay (o := []) hn (.inl rfl))
          have ez : (strB []).toList = [] := by rw [ByteArray.toList_eq]; rfl
          have ez2 : (strB []).toList.isEmpty = true := by rw [ez]; rfl
          go_wp2_with fail
          go_roundw
          case rel => exact ⟨k + 1, by go_num, by omega, by rw [HS.out, HX.out], HB.out⟩
          case measure => simp [intOf]; omega
        · rw [List.concat_eq_append] at *
          have ez := strB_ne t d
          have ez2 := strB_ne2 t d
          have eq : (strB (t ++ [d])).size = t.length + 1 := by rw [strB_size]; simp
          have htl : t.length ≤ 1000000 := by simp only [List.length_append, List.length_singleton] at hol; omega
          have hw : wrap64 (t.length : Int) = (t.length : Int) := by unfold wrap64; omega
          have e0 := last_byte t d (by omega)
          by_cases hd : d = 32
          · have HX := Lib.hid (normA_stay (o := t ++ [d]) hn ((blk_snoc t d).mpr hd))
            have hdt : ((d.toNat : Int) == 32) = true := by rw [hd]; decide
            clear hd
            go_wp2_with fail
            go_roundw
            case rel => exact ⟨k + 1, by go_num, by omega, by rw [HS.out, HX.out], HB.out⟩
            case measure => simp [intOf]; omega
          · have HX := Lib.hid (normA_more (o := t ++ [d]) (c := s[k]) (.inr (fun h => hd ((blk_snoc t d).mp h))))
            have hdt : ((d.toNat : Int) == 32) = false := by have := u8_ne hd; simp at this ⊢; omega
            rw [hn] at HX
            clear hd
            have hcv := fun (W : World) => conv_one 32 32 (by decide) W
            go_wp2_with fail
            go_roundw
            case rel => exact ⟨k + 1, by go_num, by omega, by rw [HS.out, HX.out]; exact congrArg Value.string (strB_snoc _ _), HB.out.alloc hsz _⟩
            case measure => simp [intOf]; omega
      · have e9 : ((s[k].toNat : Int) == 9) = false := by have := u8_ne h9; simp at this ⊢; omega
        by_cases hlo : s[k].toNat < 32
        · have hn : normC s[k] = 63 := norm_low h9 (.inl hlo)
          have HX := Lib.hid (normA_more (o := o) (c := s[k]) (.inl (by rw [hn]; decide)))
          rw [hn] at HX
          clear h9 hn
          have hcv := fun (W : World) => conv_one 63 63 (by decide) W
          have ho2 : (strB o).size ≤ 1000000 := by rw [strB_size]; omega
          go_wp2_with fail
          go_roundw
          case rel => exact ⟨k + 1, by go_num, by omega, by rw [HS.out, HX.out]; exact congrArg Value.string (strB_snoc _ _), HB.out.alloc hsz _⟩
          case measure => simp [intOf]; omega
        · by_cases hdel : s[k] = 127
          · have hn : normC s[k] = 63 := norm_low h9 (.inr hdel)
            have HX := Lib.hid (normA_more (o := o) (c := s[k]) (.inl (by rw [hn]; decide)))
            rw [hn] at HX
            have e127 : ((s[k].toNat : Int) == 127) = true := by rw [hdel]; decide
            clear h9 hn hdel
            have hcv := fun (W : World) => conv_one 63 63 (by decide) W
            have ho2 : (strB o).size ≤ 1000000 := by rw [strB_size]; omega
            go_wp2_with fail
            go_roundw
            case rel => exact ⟨k + 1, by go_num, by omega, by rw [HS.out, HX.out]; exact congrArg Value.string (strB_snoc _ _), HB.out.alloc hsz _⟩
            case measure => simp [intOf]; omega
          · have hn : normC s[k] = s[k] := norm_same h9 (fun h => h.elim hlo hdel)
            have e127 : ((s[k].toNat : Int) == 127) = false := by have := u8_ne hdel; simp at this ⊢; omega
            by_cases h32 : s[k] = 32
            · have hn : normC s[k] = 32 := by rw [h32]; decide
              have e32 : ((s[k].toNat : Int) == 32) = true := by rw [h32]; decide
              clear h9 hdel
              have HC9 := Lib.hid (congrArg UInt8.toNat h32)
              rcases List.eq_nil_or_concat o with rfl | ⟨t, d, rfl⟩
              · have HX := Lib.hid (normA_stay (o := []) hn (.inl rfl))
                have ez : (strB []).toList = [] := by rw [ByteArray.toList_eq]; rfl
                have ez2 : (strB []).toList.isEmpty = true := by rw [ez]; rfl
                go_wp2_with fail
                go_roundw
                case rel => exact ⟨k + 1, by go_num, by omega, by rw [HS.out, HX.out], HB.out⟩
                case measure => simp [intOf]; omega
              · rw [List.concat_eq_append] at *
                have ez := strB_ne t d
                have ez2 := strB_ne2 t d
                have eq : (strB (t ++ [d])).size = t.length + 1 := by rw [strB_size]; simp
                have htl : t.length ≤ 1000000 := by simp only [List.length_append, List.length_singleton] at hol; omega
                have hw : wrap64 (t.length : Int) = (t.length : Int) := by unfold wrap64; omega
                have e0 := last_byte t d (by omega)
                by_cases hd : d = 32
                · have HX := Lib.hid (normA_stay (o := t ++ [d]) hn ((blk_snoc t d).mpr hd))
                  have hdt : ((d.toNat : Int) == 32) = true := by rw [hd]; decide
                  clear hd
                  go_wp2_with fail
                  go_roundw
                  case rel => exact ⟨k + 1, by go_num, by omega, by rw [HS.out, HX.out], HB.out⟩
                  case measure => simp [intOf]; omega
                · have HX := Lib.hid (normA_more (o := t ++ [d]) (c := s[k]) (.inr (fun h => hd ((blk_snoc t d).mp h))))
                  have hdt : ((d.toNat : Int) == 32) = false := by have := u8_ne hd; simp at this ⊢; omega
                  rw [hn] at HX
                  clear hd
                  have hcv := fun (W : World) => conv_one 32 32 (by decide) W
                  go_wp2_with fail
                  go_roundw
                  case rel => exact ⟨k + 1, by go_num, by omega, by rw [HS.out, HX.out]; exact congrArg Value.string (strB_snoc _ _), HB.out.alloc hsz _⟩
                  case measure => simp [intOf]; omega
            · have HX := Lib.hid (normA_more (o := o) (c := s[k]) (.inl (by rw [hn]; exact h32)))
              rw [hn] at HX
              have e32 : ((s[k].toNat : Int) == 32) = false := by have := u8_ne h32; simp at this ⊢; omega
              have hcv := fun (W : World) => conv_one (s[k].toNat : Int) s[k] rfl W
              have ho2 : (strB o).size ≤ 1000000 := by rw [strB_size]; omega
              clear h9 hn hdel h32
              go_wp2_with fail
              go_roundw
              case rel => exact ⟨k + 1, by go_num, by omega, by rw [HS.out, HX.out]; exact congrArg Value.string (strB_snoc _ _), HB.out.alloc hsz _⟩
              case measure => simp [intOf]; omega
    · have hfin : normF (s.data.toList.take k) = normF s.data.toList := by rw [take_all s k (by omega)]
      have hol := normF_len s.data.toList
      have HT := Lib.hid (fun (w : World) => refTrim_any (normF s.data.toList) w (by have h3 : s.data.toList.length = s.size := (by simp); omega))
      rw [hfin]
      go_wp2_with fail
      refine (HT.out _).mono ?_
      rintro e w2 ⟨rfl, rfl⟩
      go_wp2_with fail
      go_ret
      exact ⟨rfl, hB⟩
def VlR (vs : List (List UInt8)) (w : World) (o i : Value) (wr : World) : Prop :=
  ∃ k : Nat, i = .int .i64 k ∧ k ≤ vs.length ∧ o = .string (strB (joinV ((vs.take k).map normV))) ∧ Below w.heap.size w wr
theorem vl_first {vs : List (List UInt8)} {p : List UInt8} (h : vs[0]? = some p) : joinV ((vs.take (0 + 1)).map normV) = joinV ((vs.take 0).map normV) ++ normV p := by
  rw [take_more h]; simp [joinV]
theorem vl_next {vs : List (List UInt8)} {k : Nat} {p : List UInt8} (h : vs[k]? = some p) (hk : 0 < k) : joinV ((vs.take (k + 1)).map normV) = (joinV ((vs.take k).map normV) ++ [44]) ++ normV p := by
  have hl := (List.getElem?_eq_some_iff.mp h).1
  rw [take_more h, List.map_append, List.map_cons, List.map_nil, joinV_snoc, if_neg]
  · simp
  · intro e
    have := congrArg List.length e
    rw [List.length_map, List.length_take, List.length_nil] at this
    omega
theorem sum_take (vs : List (List UInt8)) (k : Nat) : sumL (vs.take k) ≤ sumL vs := by
  induction vs generalizing k with
  | nil => simp
  | cons a r ih =>
    cases k with
    | zero => simp [sumL]
    | succ k =>
      have e1 : sumL (a :: r) = a.length + sumL r := rfl
      have e2 : sumL ((a :: r).take (k + 1)) = a.length + sumL (r.take k) := rfl
      have := ih k
      omega
theorem vl_len (vs : List (List UInt8)) (k : Nat) : (joinV ((vs.take k).map normV)).length ≤ sumL vs + vs.length := by
  have h1 := joinV_len ((vs.take k).map normV)
  have h2 := sum_norm (vs.take k)
  have h3 := sum_take vs k
  rw [List.length_map, List.length_take] at h1
  omega
theorem str_app (a b : List UInt8) : strB a ++ strB b = strB (a ++ b) := by rw [strB_app, strB_list]
set_option maxHeartbeats 8000000 in
set_option maxRecDepth 100000 in
theorem refValueV_any (fv : Value) (ps : Flds) (n : List UInt8) (vs : List (List UInt8)) (hvs : allL ps n = vs) (w : World) (hr : ReadsQ w fv ps) (hf : FitK ps) (hn : n.length ≤ 1000000) :
    Calls Try.prog 28 #[fv, .string (strB n)] w fun e w' => e = .returned (.tuple #[.string (strB (joinV (vs.map normV))), .bool (decide (0 < vs.length))]) ∧ Below w.heap.size w w' := by
  have HA := Lib.hid (refAll_any fv ps n w hr (by omega) (by have := hf.len; omega) (fun p hp => by have := hf.each p hp; omega))
  have hvl : ∀ k, (joinV (((allL ps n).take k).map normV)).length ≤ 33000 := fun k => by
    have h1 := vl_len (allL ps n) k
    have h2 := sum_all ps n
    have h3 := hf.len
    have h4 := hf.tot
    omega
  have hel : ∀ v ∈ allL ps n, v.length ≤ 30000 := fun v hv => by
    have h1 := sumL_mem hv
    have h2 := sum_all ps n
    have h4 := hf.tot
    omega
  have hll : (allL ps n).length ≤ 3000 := Nat.le_trans (sum_all ps n).2 hf.len
  rw [hvs] at HA hvl hel hll
  have HVL := Lib.hid hvl
  have HEL := Lib.hid hel
  clear hr hf hvl hel hvs
  go_enter Try.func28, Try.ntmps28
  go_wp2_with fail
  refine HA.out.mono ?_
  rintro e w1 ⟨v1, rfl, hO1, hB1⟩
  obtain ⟨a1, c1, rfl, hc⟩ := hO1.reads
  have HC := Lib.hid hc
  have HB1 := Lib.hid hB1
  have hs1 := hB1.size
  clear hO1 hc hB1 HA
  go_wp2_with fail
  go_loopw [7, 15] (fun o i wr => VlR vs w1 o i wr) (fun _ i _ => vs.length - (intOf i).toNat)
  case atStart => exact ⟨0, rfl, by omega, rfl, Below.refl _ _⟩
  case round =>
    obtain ⟨k, rfl, hk, rfl, hB⟩ := hrel
    have HB := Lib.hid hB
    have hsz := hB.size
    by_cases hlt : k < vs.length
    · obtain ⟨p, hp⟩ : ∃ p, vs[k]? = some p := ⟨vs[k], by simp [hlt]⟩
      obtain ⟨g, off, rfl, hg, h1⟩ := HC.out k p hp
      have hc1 : wr.cell? ⟨g, off + k, none⟩ = some (.string (strB p)) := (hB.cell (p := ⟨g, off + k, none⟩) hg).trans h1
      have hpl := HEL.out p (List.mem_of_getElem? hp)
      have hnl := norm_len p
      have hoz : (strB (joinV ((vs.take k).map normV))).size ≤ 33000 := by rw [strB_size]; exact HVL.out k
      have HN := Lib.hid (fun (w : World) => refNormal_any (strB p) w (by rw [strB_size]; omega))
      rw [strB_list] at HN
      have hnz : (strB (normV p)).size ≤ 30000 := by rw [strB_size]; omega
      clear h1 hB
      by_cases hk0 : k = 0
      · subst hk0
        simp only [Nat.add_zero] at hc1
        have HX := Lib.hid (vl_first hp)
        clear hp
        generalize joinV ((vs.take 0).map normV) = jv at *
        generalize normV p = np at *
        go_wp2_with fail
        refine (HN.out _).mono ?_
        rintro e w2 ⟨rfl, hB2⟩
        go_wp2_with fail
        go_roundw
        case rel => exact ⟨0 + 1, by go_num, by omega, by rw [HX.out, ← str_app], HB.out.trans (hB2.mono hsz)⟩
        case measure => simp [intOf]; omega
      · have hk1 : 0 < k := by omega
        have HX := Lib.hid (vl_next hp hk1)
        clear hp
        generalize joinV ((vs.take k).map normV) = jv at *
        generalize normV p = np at *
        have hjz : (strB jv ++ (⟨#[44]⟩ : ByteArray)).size ≤ 40000 := by rw [ByteArray.size_append]; show _ + 1 ≤ _; omega
        go_wp2_with fail
        refine (HN.out _).mono ?_
        rintro e w2 ⟨rfl, hB2⟩
        go_wp2_with fail
        go_roundw
        case rel => exact ⟨k + 1, by go_num, by omega, by rw [HX.out, ← str_app, ← strB_snoc], HB.out.trans (hB2.mono hsz)⟩
        case measure => simp [intOf]; omega
    · have htk : vs.take k = vs := List.take_of_length_le (by omega)
      rw [htk]
      by_cases h0 : 0 < vs.length
      · have hd : decide (0 < vs.length) = true := decide_eq_true h0
        have HD := Lib.hid hd
        clear hd
        go_wp2_with fail
        go_ret2
        exact ⟨by rw [HD.out]; rfl, HB1.out.trans (HB.out.mono hs1)⟩
      · have hd : decide (0 < vs.length) = false := decide_eq_false h0
        have HD := Lib.hid hd
        clear hd
        go_wp2_with fail
        go_ret2
        exact ⟨by rw [HD.out]; rfl, HB1.out.trans (HB.out.mono hs1)⟩
theorem refValue_any (fv : Value) (ps : Flds) (n : List UInt8) (w : World) (hr : ReadsQ w fv ps) (hf : FitK ps) (hn : n.length ≤ 1000000) :
    Calls Try.prog 28 #[fv, .string (strB n)] w fun e w' => e = .returned (.tuple #[.string (strB (joinV ((allL ps n).map normV))), .bool (decide (0 < (allL ps n).length))]) ∧ Below w.heap.size w w' :=
  refValueV_any fv ps n _ rfl w hr hf hn
def KrR (ns : List (List UInt8)) (ps : Flds) (w : World) (o i : Value) (wr : World) : Prop :=
  ∃ k : Nat, i = .int .i64 k ∧ k ≤ ns.length ∧ o = .string (strB (keyL (ns.take k) ps)) ∧ Below w.heap.size w wr
theorem kr_first {ns : List (List UInt8)} {ps : Flds} {p : List UInt8} (h : ns[0]? = some p) : keyL (ns.take (0 + 1)) ps = keyL (ns.take 0) ps ++ partK ps p := by
  rw [take_more h]; simp [keyL, restK, partK]
theorem kr_next {ns : List (List UInt8)} {ps : Flds} {k : Nat} {p : List UInt8} (h : ns[k]? = some p) (hk : 0 < k) : keyL (ns.take (k + 1)) ps = (keyL (ns.take k) ps ++ [38]) ++ partK ps p := by
  have hl := (List.getElem?_eq_some_iff.mp h).1
  rw [take_more h, keyL_snoc, if_neg]
  · simp [partK]
  · intro e
    have := congrArg List.length e
    rw [List.length_take, List.length_nil] at this
    omega
theorem kr_app (x n q : List UInt8) : strB (x ++ (n ++ 61 :: q)) = (strB x ++ strB n) ++ ((⟨#[61]⟩ : ByteArray) ++ strB q) := by apply ByteArray.ext; simp [strB]
theorem FitN.take {ns : List (List UInt8)} (h : FitN ns) (k : Nat) : FitN (ns.take k) := ⟨by rw [List.length_take]; have := h.len; omega, fun n hn => h.each n (List.mem_of_mem_take hn)⟩
set_option maxHeartbeats 8000000 in
set_option maxRecDepth 100000 in
theorem refKey_any (va : Value) (ns : List (List UInt8)) (fv : Value) (ps : Flds) (w : World) (ha : ReadsS w va ns) (hr : ReadsQ w fv ps) (hn : FitN ns) (hf : FitK ps) :
    Calls Try.prog 14 #[va, fv] w fun e w' => e = .returned (.string (strB (keyL ns ps))) ∧ Below w.heap.size w w' := by
  obtain ⟨ao, cap, rfl, hc⟩ := ha
  have HC := Lib.hid hc
  have HR := Lib.hid hr
  have HN := Lib.hid hn
  have HF := Lib.hid hf
  have hnl := hn.len
  clear hc hr hn hf
  go_enter Try.func14, Try.ntmps14
  go_wp2_with fail
  go_loopw [5, 14] (fun o i wr => KrR ns ps w o i wr) (fun _ i _ => ns.length - (intOf i).toNat)
  case atStart => exact ⟨0, rfl, by omega, rfl, Below.refl _ _⟩
  case round =>
    obtain ⟨k, rfl, hk, rfl, hB⟩ := hrel
    have HB := Lib.hid hB
    have hsz := hB.size
    by_cases hlt : k < ns.length
    · obtain ⟨p, hp⟩ : ∃ p, ns[k]? = some p := ⟨ns[k], by simp [hlt]⟩
      obtain ⟨g, off, rfl, hg, h1⟩ := HC.out k p hp
      have hc1 : wr.cell? ⟨g, off + k, none⟩ = some (.string (strB p)) := (hB.cell (p := ⟨g, off + k, none⟩) hg).trans h1
      have hpl := HN.out.each p (List.mem_of_getElem? hp)
      have hkz : (strB (keyL (ns.take k) ps)).size ≤ 36000000 := by rw [strB_size]; exact key_len (HN.out.take k) HF.out
      have hpz : (strB p).size ≤ 500 := by rw [strB_size]; omega
      have HVv := Lib.hid (fun (w : World) (hr : ReadsQ w fv ps) => refValue_any fv ps p w hr HF.out (by omega))
      have HRr := Lib.hid (HR.out.below hB)
      clear h1 hB
      by_cases hk0 : k = 0
      · subst hk0
        simp only [Nat.add_zero] at hc1
        have HX := Lib.hid (kr_first (ps := ps) hp)
        clear hp
        generalize keyL (ns.take 0) ps = kv at *
        have hk3 : (strB kv ++ strB p).size ≤ 36000600 := by rw [ByteArray.size_append]; omega
        by_cases he : allL ps p = []
        · have HE := Lib.hid (part_none he)
          have hd : decide (0 < (allL ps p).length) = false := by rw [he]; rfl
          rw [hd] at HVv
          clear he hd
          generalize joinV ((allL ps p).map normV) = jv at *
          go_wp2_with fail
          refine (HVv.out _ HRr.out).mono ?_
          rintro e w2 ⟨rfl, hB2⟩
          go_wp2_with fail
          go_roundw
          case rel => exact ⟨0 + 1, by go_num, by omega, by rw [HX.out, HE.out, ← str_app], HB.out.trans (hB2.mono hsz)⟩
          case measure => simp [intOf]; omega
        · have HE := Lib.hid (part_some he)
          have hd : decide (0 < (allL ps p).length) = true := decide_eq_true (List.length_pos_iff.mpr he)
          rw [hd] at HVv
          have hvl := val_len HF.out p
          have HQ := Lib.hid (fun (w : World) => refQuote_any (strB (joinV ((allL ps p).map normV))) w (by rw [strB_size]; omega))
          rw [strB_list] at HQ
          have hqz : (strB (quoS (joinV ((allL ps p).map normV)))).size ≤ 70000 := by rw [strB_size]; have := quo_len (joinV ((allL ps p).map normV)); omega
          have hq2 : ((⟨#[61]⟩ : ByteArray) ++ strB (quoS (joinV ((allL ps p).map normV)))).size ≤ 70001 := by rw [ByteArray.size_append]; show 1 + _ ≤ _; omega
          clear he hd hvl
          generalize joinV ((allL ps p).map normV) = jv at *
          go_wp2_with fail
          refine (HVv.out _ HRr.out).mono ?_
          rintro e w2 ⟨rfl, hB2⟩
          have HB2 := Lib.hid (HB.out.trans (hB2.mono hsz))
          clear hB2
          go_wp2_with fail
          refine (HQ.out _).mono ?_
          rintro e w3 ⟨rfl, hB3⟩
          go_wp2_with fail
          go_roundw
          case rel => exact ⟨0 + 1, by go_num, by omega, by rw [HX.out, HE.out, kr_app], HB2.out.trans (hB3.mono HB2.out.size)⟩
          case measure => simp [intOf]; omega
      · have hk1 : 0 < k := by omega
        have HX := Lib.hid (kr_next (ps := ps) hp hk1)
        clear hp
        generalize keyL (ns.take k) ps = kv at *
        have hk2 : (strB kv ++ (⟨#[38]⟩ : ByteArray)).size ≤ 36000001 := by rw [ByteArray.size_append]; show _ + 1 ≤ _; omega
        have hk3 : ((strB kv ++ (⟨#[38]⟩ : ByteArray)) ++ strB p).size ≤ 36000600 := by rw [ByteArray.size_append]; omega
        by_cases he : allL ps p = []
        · have HE := Lib.hid (part_none he)
          have hd : decide (0 < (allL ps p).length) = false := by rw [he]; rfl
          rw [hd] at HVv
          clear he hd
          generalize joinV ((allL ps p).map normV) = jv at *
          go_wp2_with fail
          refine (HVv.out _ HRr.out).mono ?_
          rintro e w2 ⟨rfl, hB2⟩
          go_wp2_with fail
          go_roundw
          case rel => exact ⟨k + 1, by go_num, by omega, by rw [HX.out, HE.out, ← str_app, ← strB_snoc], HB.out.trans (hB2.mono hsz)⟩
          case measure => simp [intOf]; omega
        · have HE := Lib.hid (part_some he)
          have hd : decide (0 < (allL ps p).length) = true := decide_eq_true (List.length_pos_iff.mpr he)
          rw [hd] at HVv
          have hvl := val_len HF.out p
          have HQ := Lib.hid (fun (w : World) => refQuote_any (strB (joinV ((allL ps p).map normV))) w (by rw [strB_size]; omega))
          rw [strB_list] at HQ
          have hqz : (strB (quoS (joinV ((allL ps p).map normV)))).size ≤ 70000 := by rw [strB_size]; have := quo_len (joinV ((allL ps p).map normV)); omega
          have hq2 : ((⟨#[61]⟩ : ByteArray) ++ strB (quoS (joinV ((allL ps p).map normV)))).size ≤ 70001 := by rw [ByteArray.size_append]; show 1 + _ ≤ _; omega
          clear he hd hvl
          generalize joinV ((allL ps p).map normV) = jv at *
          go_wp2_with fail
          refine (HVv.out _ HRr.out).mono ?_
          rintro e w2 ⟨rfl, hB2⟩
          have HB2 := Lib.hid (HB.out.trans (hB2.mono hsz))
          clear hB2
          go_wp2_with fail
          refine (HQ.out _).mono ?_
          rintro e w3 ⟨rfl, hB3⟩
          go_wp2_with fail
          go_roundw
          case rel => exact ⟨k + 1, by go_num, by omega, by rw [HX.out, HE.out, kr_app, ← strB_snoc], HB2.out.trans (hB3.mono HB2.out.size)⟩
          case measure => simp [intOf]; omega
    · have htk : ns.take k = ns := List.take_of_length_le (by omega)
      rw [htk]
      go_wp2_with fail
      go_ret
      exact ⟨rfl, HB.out⟩
end Go.Proofs.Ytbmbcdbldbjddaa
