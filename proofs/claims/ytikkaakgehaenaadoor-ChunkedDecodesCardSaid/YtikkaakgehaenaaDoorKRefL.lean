/- What the reference's Forbidden and line return. -/
import Derived.Test.YtikkaakgehaenaaDoorKRefW
import Derived.Test.YtikkaakgehaenaaDoorFName
import Derived.Test.YtikkaakgehaenaaDoorTwo
namespace Go.Proofs.YtikkaakgehaenaaDoor
open Go.RowKit

theorem forbL_at (w : World) (fr : Nat × Nat) (k : Nat) (l : List UInt8) (h : forbL[k]? = some l) :
    (w.alloc (.cells #[.string ⟨#[97, 117, 116, 104, 111, 114, 105, 122, 97, 116, 105, 111, 110]⟩, .string ⟨#[99, 97, 99, 104, 101, 45, 99, 111, 110, 116, 114, 111, 108]⟩, .string ⟨#[99, 111, 110, 116, 101, 110, 116, 45, 108, 101, 110, 103, 116, 104]⟩, .string ⟨#[104, 111, 115, 116]⟩, .string ⟨#[115, 101, 116, 45, 99, 111, 111, 107, 105, 101]⟩, .string ⟨#[116, 114, 97, 105, 108, 101, 114]⟩, .string ⟨#[116, 114, 97, 110, 115, 102, 101, 114, 45, 101, 110, 99, 111, 100, 105, 110, 103]⟩] 9 fr)).cell? ⟨w.heap.size, k, none⟩ = some (.string (strB l)) := by
  rw [World.cell?_alloc_mark]
  match k, h with
  | 0, h => cases h; rfl
  | 1, h => cases h; rfl
  | 2, h => cases h; rfl
  | 3, h => cases h; rfl
  | 4, h => cases h; rfl
  | 5, h => cases h; rfl
  | 6, h => cases h; rfl
  | k + 7, h => simp [forbL] at h
set_option maxHeartbeats 4000000 in
set_option maxRecDepth 100000 in
theorem refForbidden_any (n : List UInt8) (w : World) :
    Calls Tryd.prog 53 #[.string (strB n)] w fun e w' => e = .returned (.bool (forbB n)) ∧ Below w.heap.size w w' := by
  have HF := Lib.hid (forbL_at w (0, 0))
  go_enter Tryd.func53, Tryd.ntmps53
  go_wp2_with fail
  go_loop [4] (fun i => ∃ k : Nat, k ≤ 7 ∧ i = .int .i64 (k : Int) ∧ n ∉ forbL.take k) (fun i => 7 - (intOf i).toNat)
  case atStart => exact ⟨0, by omega, rfl, by simp⟩
  case round =>
    obtain ⟨k, hk, rfl, hn⟩ := hrel
    have HN := Lib.hid hn
    clear hn
    by_cases hlt : k < 7
    · obtain ⟨l, hl⟩ : ∃ l, forbL[k]? = some l := ⟨forbL[k]'(by show k < 7; exact hlt), List.getElem?_eq_getElem _⟩
      have hc := HF.out k l hl
      have HL := Lib.hid hl
      clear hl
      by_cases he : l = n
      · have heq : ((strB l).toList == (strB n).toList) = true := by rw [he]; exact beq_self_eq_true _
        have HE := Lib.hid he
        clear he
        go_wp2_with fail
        go_ret
        refine ⟨ret_bool ?_, below_new _ _⟩
        unfold forbB
        rw [List.contains_iff_mem.mpr (by rw [← HE.out]; exact List.mem_of_getElem? HL.out)]
      · have heq : ((strB l).toList == (strB n).toList) = false := by
          rw [ByteArray.toList_eq, ByteArray.toList_eq, strB_list, strB_list, beq_eq_false_iff_ne]; exact he
        have HE := Lib.hid he
        clear he
        go_wp2_with fail
        go_round
        case rel =>
          refine ⟨k + 1, by omega, by go_num, ?_⟩
          rw [List.take_add_one, HL.out, List.mem_append, not_or]
          exact ⟨HN.out, by simp; exact fun e => HE.out e.symm⟩
        case measure => simp [intOf]; omega
    · go_wp2_with fail
      go_ret
      refine ⟨ret_bool ?_, below_new _ _⟩
      have h := HN.out
      rw [List.take_of_length_le (by show 7 ≤ k; omega)] at h
      unfold forbB
      rw [eq_comm, Bool.eq_false_iff]
      intro hc
      exact h (List.contains_iff_mem.mp hc)
def notK (s : ByteArray) (k : Nat) : Prop := (58 : UInt8) ∉ s.data.toList.take k
theorem notK_step {s : ByteArray} {k : Nat} (h : notK s k) (hk : k < s.size) (hc : s[k].toNat ≠ 58) : notK s (k + 1) := by
  unfold notK at *
  rw [take_snoc s k hk, List.mem_append, not_or]
  exact ⟨h, by simp; intro e; exact hc (by rw [← e]; rfl)⟩
theorem cutK_hit {s : ByteArray} {k : Nat} (h : notK s k) (hk : k < s.size) (hc : s[k].toNat = 58) : cutC 58 s.data.toList = (s.data.toList.take k, s.data.toList.drop (k + 1), true) := by
  have e : s[k] = 58 := nat_of_u8 (by rw [hc]; rfl)
  have hd : s.data.toList = s.data.toList.take k ++ 58 :: s.data.toList.drop (k + 1) := by
    conv => lhs; rw [← List.take_append_drop k s.data.toList]
    rw [List.drop_eq_getElem_cons (by simpa using hk)]
    congr 2
  conv => lhs; rw [hd]
  exact cutC_at h _
theorem cutK_end {s : ByteArray} {k : Nat} (h : notK s k) (hk : s.size ≤ k) : cutC 58 s.data.toList = (s.data.toList, [], false) := by
  unfold notK at h
  rw [take_all s k hk] at h
  exact cutC_no h
theorem ext_strK (s : ByteArray) (a b : Nat) (l : List UInt8) (h : (s.data.toList.drop a).take (b - a) = l) : s.extract a b = strB l := strB_ext (by rw [seg_list]; exact h)
theorem slice_preK (s : ByteArray) (k : Nat) (_h : k ≤ s.size) (w : World) : (Instr.slice 9 (.string s) none (some (.int .i64 (k : Int))) none).run Tryd.prog w = .ok (.string (strB (s.data.toList.take k))) w := by
  rw [run_slice_string_h w 9 s Tryd.underlying9 .i64 (k : Int) (by omega) (by omega)]
  rw [Int.toNat_natCast, ext_strK s 0 k _ (by rw [List.drop_zero, Nat.sub_zero])]
theorem slice_postK (s : ByteArray) (k : Nat) (_h : k < s.size) (w : World) : (Instr.slice 9 (.string s) (some (.int .i64 ((k : Int) + 1))) none none).run Tryd.prog w = .ok (.string (strB (s.data.toList.drop (k + 1)))) w := by
  rw [run_slice_string_l w 9 s Tryd.underlying9 .i64 ((k : Int) + 1) (by omega) (by omega)]
  rw [show ((k : Int) + 1).toNat = k + 1 by omega, ext_strK s (k + 1) s.size _ (List.take_of_length_le (by rw [List.length_drop, Array.length_toList]; exact Nat.le_refl _))]
/-- What line returns. -/
def lineV (l : List UInt8) : Value :=
  if (cutC 58 l).2.2 = true then .tuple #[.agg #[.string (strB (nameR (cutC 58 l).1)), .string (strB (valueR (cutC 58 l).2.1))], .bool (trB (cutC 58 l).1 (cutC 58 l).2.1)]
  else .tuple #[.agg #[.string ⟨#[]⟩, .string ⟨#[]⟩], .bool false]
theorem trB_no1 {n v : List UInt8} (h : nameC n ≠ 0) : trB n v = false := by unfold trB; rw [decide_eq_false h]; rfl
theorem trB_no2 {n v : List UInt8} (h : valueC v ≠ 0) : trB n v = false := by unfold trB; rw [decide_eq_false h, Bool.and_false]
theorem trB_is {n v : List UInt8} (h : nameC n = 0) (h2 : valueC v = 0) : trB n v = !forbB (nameR n) := by unfold trB; rw [decide_eq_true h, decide_eq_true h2, Bool.true_and, Bool.and_true]
theorem line_end {w w' : World} {u v : Value} (h : Below (w.alloc (.cells #[.string ⟨#[]⟩, .string ⟨#[]⟩] 67)).heap.size (w.alloc (.cells #[.string ⟨#[]⟩, .string ⟨#[]⟩] 67)) w') :
    Below w.heap.size w ((w'.setCell ⟨w.heap.size, 0, none⟩ u).setCell ⟨w.heap.size, 1, none⟩ v) := below_two ((below_new w _).trans (h.mono (by simp))) u v
set_option maxHeartbeats 8000000 in
set_option maxRecDepth 100000 in
theorem line_any (s : ByteArray) (w : World) (hs : s.size ≤ 1000000) :
    Calls Tryd.prog 88 #[.string s] w fun e w' => e = .returned (lineV s.data.toList) ∧ Below w.heap.size w w' := by
  have hsz : s.data.toList.length = s.size := by rw [Array.length_toList]; rfl
  have HSz := Lib.hid hsz
  clear hsz
  go_enter Tryd.func88, Tryd.ntmps88
  go_wp2_with fail
  go_loop [4] (fun i => ∃ k : Nat, k ≤ s.size ∧ i = .int .i64 (k : Int) ∧ notK s k) (fun i => s.size - (intOf i).toNat)
  case atStart => exact ⟨0, by omega, rfl, by simp [notK]⟩
  case round =>
    obtain ⟨k, hk, rfl, hn⟩ := hrel
    have HN := Lib.hid hn
    clear hn
    by_cases hlt : k < s.size
    · by_cases hc : s[k].toNat = 58
      · have hca : ((s[k].toNat : Int) == 58) = true := by rw [hc]; rfl
        have hcut := cutK_hit HN.out hlt hc
        have hv : lineV s.data.toList = .tuple #[.agg #[.string (strB (nameR (s.data.toList.take k))), .string (strB (valueR (s.data.toList.drop (k + 1))))], .bool (trB (s.data.toList.take k) (s.data.toList.drop (k + 1)))] := by
          unfold lineV; rw [hcut]; rfl
        have HV := Lib.hid hv
        have s1 := slice_preK s k hk
        have s2 := slice_postK s k hlt
        have N := Lib.hid (fun W => refName_any (strB (s.data.toList.take k)) W (by rw [strB_size, List.length_take]; omega))
        have V := Lib.hid (fun W => refValue_any (strB (s.data.toList.drop (k + 1))) W (by rw [strB_size, List.length_drop, HSz.out]; omega))
        rw [strB_list] at N V
        generalize s.data.toList.take k = a at *
        generalize s.data.toList.drop (k + 1) = b at *
        have F := Lib.hid (fun W => refForbidden_any (nameR a) W)
        clear hc hcut hv
        by_cases h1 : nameC a = 0
        · have z1 : ((nameC a : Int) == 0) = true := by rw [h1]; rfl
          by_cases h2 : valueC b = 0
          · have z2 : ((valueC b : Int) == 0) = true := by rw [h2]; rfl
            have HT := Lib.hid (trB_is (n := a) (v := b) h1 h2)
            clear h1 h2
            go_wp2_with fail
            refine (N.out _).mono ?_
            rintro e w1 ⟨rfl, hB⟩
            have HB := Lib.hid hB
            clear hB
            go_wp2_with fail
            refine (V.out _).mono ?_
            rintro e w' ⟨rfl, rfl⟩
            go_wp2_with fail
            refine (F.out _).mono ?_
            rintro e w2 ⟨rfl, hB2⟩
            have hB := HB.out.trans (hB2.mono HB.out.size)
            obtain ⟨c0, c1, f0, f1, _⟩ := two_kept w 0 hB
            clear hB2
            go_wp2_with fail
            refine bodyPost_ret (v := .tuple #[.agg #[.string (strB (nameR a)), .string (strB (valueR b))], .bool (!forbB (nameR a))]) (by simp [results, Tryd.results88, go_sem, c0, c1]) rfl ?_
            exact ⟨by rw [HV.out, HT.out], line_end hB⟩
          · have z2 : ((valueC b : Int) == 0) = false := by rw [beq_eq_false_iff_ne]; omega
            have HT := Lib.hid (trB_no2 (n := a) (v := b) h2)
            clear h1 h2
            go_wp2_with fail
            refine (N.out _).mono ?_
            rintro e w1 ⟨rfl, hB⟩
            go_wp2_with fail
            refine (V.out _).mono ?_
            rintro e w' ⟨rfl, rfl⟩
            obtain ⟨c0, c1, f0, f1, _⟩ := two_kept w 0 hB
            go_wp2_with fail
            refine bodyPost_ret (v := .tuple #[.agg #[.string (strB (nameR a)), .string (strB (valueR b))], .bool false]) (by simp [results, Tryd.results88, go_sem, c0, c1]) rfl ?_
            exact ⟨by rw [HV.out, HT.out], line_end hB⟩
        · have z1 : ((nameC a : Int) == 0) = false := by rw [beq_eq_false_iff_ne]; omega
          have HT := Lib.hid (trB_no1 (n := a) (v := b) h1)
          clear h1
          go_wp2_with fail
          refine (N.out _).mono ?_
          rintro e w1 ⟨rfl, hB⟩
          go_wp2_with fail
          refine (V.out _).mono ?_
          rintro e w' ⟨rfl, rfl⟩
          obtain ⟨c0, c1, f0, f1, _⟩ := two_kept w 0 hB
          go_wp2_with fail
          refine bodyPost_ret (v := .tuple #[.agg #[.string (strB (nameR a)), .string (strB (valueR b))], .bool false]) (by simp [results, Tryd.results88, go_sem, c0, c1]) rfl ?_
          exact ⟨by rw [HV.out, HT.out], line_end hB⟩
      · have hca : ((s[k].toNat : Int) == 58) = false := by rw [beq_eq_false_iff_ne]; omega
        have HE := Lib.hid (notK_step HN.out hlt hc)
        clear hc
        go_wp2_with fail
        go_round
        case rel => exact ⟨k + 1, by omega, by go_num, HE.out⟩
        case measure => simp [intOf]; omega
    · have hv : lineV s.data.toList = .tuple #[.agg #[.string ⟨#[]⟩, .string ⟨#[]⟩], .bool false] := by
        unfold lineV; rw [cutK_end HN.out (by omega)]; rfl
      have HV := Lib.hid hv
      clear hv
      go_wp2_with fail
      refine bodyPost_ret (v := .tuple #[.agg #[.string ⟨#[]⟩, .string ⟨#[]⟩], .bool false]) (by simp [results, Tryd.results88, go_sem]) rfl ?_
      exact ⟨by rw [HV.out], below_new _ _⟩
end Go.Proofs.YtikkaakgehaenaaDoor
