import Derived.Test.YtpikjcmenmdolaaGreatDoorPa20
import Derived.Test.YtpikjcmenmdolaaGreatDoorPa0
import Derived.IntWalk
import Derived.Test.YtpikjcmenmdolaaGreatDoorPa21
import Derived.Deep.QuietTactic
import Derived.BigQuiet
import Derived.Test.YtpikjcmenmdolaaGreatDoorPa23
import Derived.Deep.RegionHeld3
/- The reference's end, bare, lines and split: where a head ends, whether it has bare bytes, its lines. -/
namespace Go.Proofs.YtpikjcmenmdolaaGreatDoor
open Go.RowKit

def endN (l : List UInt8) : Nat := (endO l).getD 0
/-- Up to i no CR LF CR LF begins. -/
def EndTo (l : List UInt8) (i : Nat) : Prop := end4 l = (end4 (l.drop i)).map (· + i)
theorem endTo0 (l : List UInt8) : EndTo l 0 := by unfold EndTo; simp
theorem endTo_step {l : List UInt8} {i : Nat} (h : EndTo l i) (hi : i + 4 ≤ l.length) (hn : (l.drop i).take 4 ≠ crlf2) : EndTo l (i + 1) := by
  unfold EndTo at *
  rw [h]
  have hd : l.drop i = (l[i]'(by omega)) :: l.drop (i + 1) := by rw [List.drop_eq_getElem_cons (by omega)]
  rw [hd, end4, if_neg]
  · cases end4 (l.drop (i + 1)) <;> simp; omega
  · rintro ⟨h1, h2⟩
    apply hn
    rw [hd, List.take_succ_cons, h1, h2]; rfl
theorem endTo_hit {l : List UInt8} {i : Nat} (h : EndTo l i) (hi : i + 4 ≤ l.length) (hn : (l.drop i).take 4 = crlf2) : end4 l = some (i + 4) := by
  unfold EndTo at *
  rw [h]
  have hd : l.drop i = (l[i]'(by omega)) :: l.drop (i + 1) := by rw [List.drop_eq_getElem_cons (by omega)]
  rw [hd, List.take_succ_cons] at hn
  unfold crlf2 at hn
  injection hn with h1 h2
  rw [hd, end4, if_pos ⟨h1, h2⟩]; simp; omega
theorem endTo_end {l : List UInt8} {i : Nat} (h : EndTo l i) (hi : ¬ i + 4 ≤ l.length) : end4 l = none := by
  unfold EndTo at *
  rw [h]
  cases e : end4 (l.drop i) with
  | none => rfl
  | some n => have := end4_some e; rw [List.length_drop] at this; omega
theorem endN_pre {l : List UInt8} (h : l.take 2 = crlf) : endN l = 2 := by unfold endN endO; rw [if_pos (by exact h)]; rfl
theorem endN_some {l : List UInt8} {n : Nat} (h : l.take 2 ≠ crlf) (h2 : end4 l = some n) : endN l = n := by unfold endN endO; rw [if_neg (by exact h), h2]; rfl
theorem endN_none {l : List UInt8} (h : l.take 2 ≠ crlf) (h2 : end4 l = none) : endN l = 0 := by unfold endN endO; rw [if_neg (by exact h), h2]; rfl
theorem ext_list (s : ByteArray) (a b : Nat) : (s.extract a b).toList = (s.data.toList.drop a).take (b - a) := by rw [ByteArray.toList_eq, seg_list]
theorem ret_i64 {a b : Int} (h : a = b) : Ending.returned (.int .i64 a) = .returned (.int .i64 b) := by rw [h]
set_option maxHeartbeats 4000000 in
set_option maxRecDepth 100000 in
theorem refEnd_any (s : ByteArray) (w : World) (hs : s.size ≤ 1000000000) :
    Calls Tryz.prog 78 #[.string s] w fun e w' => e = .returned (.int .i64 (endN s.data.toList : Int)) ∧ w = w' := by
  have hsz : s.data.toList.length = s.size := by rw [Array.length_toList]; rfl
  by_cases h2 : s.data.toList.take 2 = crlf
  · have hl : 2 ≤ s.size := by
      have := congrArg List.length h2
      rw [List.length_take, hsz] at this
      simp [crlf] at this; omega
    have q : ((s.extract 0 2).toList == ([13, 10] : List UInt8)) = true := by rw [ext_list, List.drop_zero, h2]; rfl
    have HE := Lib.hid (endN_pre h2)
    clear h2 hsz
    go_enter Tryz.func78, Tryz.ntmps78
    go_wp2
    go_ret
    exact ⟨ret_i64 (by rw [HE.out]; rfl), rfl⟩
  · have q : ((s.extract 0 2).toList == ([13, 10] : List UInt8)) = false := by
      rw [ext_list, List.drop_zero]
      have : ¬ s.data.toList.take (2 - 0) = [13, 10] := h2
      simpa using this
    have HSZ := Lib.hid hsz
    have H2 := Lib.hid h2
    clear h2 hsz
    by_cases hl : 2 ≤ s.size
    · go_enter Tryz.func78, Tryz.ntmps78
      go_wp2
      go_loop [3] (fun i => ∃ k : Nat, k ≤ s.size ∧ i = .int .i64 k ∧ EndTo s.data.toList k) (fun i => s.size - (intOf i).toNat)
      case atStart => exact ⟨0, by omega, rfl, endTo0 _⟩
      case round =>
        obtain ⟨k, hk, rfl, hn⟩ := hrel
        have HN := Lib.hid hn
        clear hn
        by_cases hlt : k + 4 ≤ s.size
        · by_cases hm : (s.data.toList.drop k).take 4 = crlf2
          · have q2 : ((s.extract k (k + 4)).toList == ([13, 10, 13, 10] : List UInt8)) = true := by rw [ext_list, show k + 4 - k = 4 by omega, hm]; rfl
            have HE := Lib.hid (endN_some H2.out (endTo_hit HN.out (by rw [HSZ.out]; omega) hm))
            clear hm
            go_wp2
            go_ret
            exact ⟨ret_i64 (by rw [HE.out]; rfl), rfl⟩
          · have q2 : ((s.extract k (k + 4)).toList == ([13, 10, 13, 10] : List UInt8)) = false := by
              rw [ext_list, show k + 4 - k = 4 by omega]
              have : ¬ (s.data.toList.drop k).take 4 = [13, 10, 13, 10] := hm
              simpa using this
            have HE := Lib.hid (endTo_step HN.out (by rw [HSZ.out]; omega) hm)
            clear hm
            go_wp2
            go_round
            case rel => exact ⟨k + 1, by omega, by go_num, HE.out⟩
            case measure => simp [intOf]; omega
        · have HE := Lib.hid (endN_none H2.out (endTo_end HN.out (by rw [HSZ.out]; exact hlt)))
          go_wp2
          go_ret
          exact ⟨ret_i64 (by rw [HE.out]; rfl), rfl⟩
    · go_enter Tryz.func78, Tryz.ntmps78
      go_wp2
      go_loop [3] (fun i => ∃ k : Nat, k ≤ s.size ∧ i = .int .i64 k ∧ EndTo s.data.toList k) (fun i => s.size - (intOf i).toNat)
      case atStart => exact ⟨0, by omega, rfl, endTo0 _⟩
      case round =>
        obtain ⟨k, hk, rfl, hn⟩ := hrel
        have HN := Lib.hid hn
        clear hn
        have hlt : ¬ k + 4 ≤ s.size := by omega
        have HE := Lib.hid (endN_none H2.out (endTo_end HN.out (by rw [HSZ.out]; exact hlt)))
        go_wp2
        go_ret
        exact ⟨ret_i64 (by rw [HE.out]; rfl), rfl⟩
/-- The byte before i; 0 at the beginning. -/
def prevB (l : List UInt8) : Nat → UInt8
  | 0 => 0
  | i + 1 => l.getD i 0
def BareTo (l : List UInt8) (i : Nat) : Prop := bareF 0 l = bareF (prevB l i) (l.drop i)
theorem bareTo0 (l : List UInt8) : BareTo l 0 := by unfold BareTo prevB; simp
/-- The test at byte i. -/
def bareAt (l : List UInt8) (i : Nat) : Bool :=
  decide (l.getD i 0 = 0) || (decide (l.getD i 0 = 13) && decide ((l.drop (i + 1)).head? ≠ some 10)) || (decide (l.getD i 0 = 10) && decide (prevB l i ≠ 13))
theorem bare_drop {l : List UInt8} {i : Nat} (hi : i < l.length) : bareF (prevB l i) (l.drop i) = (bareAt l i || bareF (l.getD i 0) (l.drop (i + 1))) := by
  have hd : l.drop i = (l[i]'hi) :: l.drop (i + 1) := by rw [List.drop_eq_getElem_cons hi]
  have hg : l.getD i 0 = l[i]'hi := by rw [List.getD, List.getElem?_eq_getElem hi]; rfl
  rw [hd, bareF, ← hg]; rfl
theorem bareTo_step {l : List UInt8} {i : Nat} (h : BareTo l i) (hi : i < l.length) (hb : bareAt l i = false) : BareTo l (i + 1) := by
  unfold BareTo at *
  rw [h, bare_drop hi, hb]; rfl
theorem bareTo_hit {l : List UInt8} {i : Nat} (h : BareTo l i) (hi : i < l.length) (hb : bareAt l i = true) : true = bareF 0 l := by
  unfold BareTo at h
  rw [h, bare_drop hi, hb]; rfl
theorem bareTo_end {l : List UInt8} {i : Nat} (h : BareTo l i) (hi : l.length ≤ i) : false = bareF 0 l := by
  unfold BareTo at h
  rw [h, List.drop_of_length_le hi]; rfl
theorem at_getD (s : ByteArray) (k : Nat) (h : k < s.size) : s.data.toList.getD k 0 = s[k] := by
  have h' : k < s.data.toList.length := by simpa using h
  rw [List.getD, List.getElem?_eq_getElem h']; rfl
theorem head_drop (s : ByteArray) (k : Nat) : (s.data.toList.drop k).head? = s.data.toList[k]? := by rw [List.head?_drop]
theorem u8_eq {c : UInt8} {n : Nat} (hn : n < 256) (h : c.toNat = n) : c = UInt8.ofNat n := by
  apply UInt8.toNat_inj.mp; rw [h]; simp; omega
set_option maxHeartbeats 8000000 in
set_option maxRecDepth 100000 in
theorem refBare_any (s : ByteArray) (w : World) (hs : s.size ≤ 1000000000) :
    Calls Tryz.prog 80 #[.string s] w fun e w' => e = .returned (.bool (bareF 0 s.data.toList)) ∧ w = w' := by
  have hsz : s.data.toList.length = s.size := by rw [Array.length_toList]; rfl
  have HSZ := Lib.hid hsz
  clear hsz
  go_enter Tryz.func80, Tryz.ntmps80
  go_wp2
  go_loop [3] (fun i => ∃ k : Nat, k ≤ s.size ∧ i = .int .i64 k ∧ BareTo s.data.toList k) (fun i => s.size - (intOf i).toNat)
  case atStart => exact ⟨0, by omega, rfl, bareTo0 _⟩
  case round =>
    obtain ⟨k, hk, rfl, hn⟩ := hrel
    have HN := Lib.hid hn
    clear hn
    by_cases hlt : k < s.size
    · have hll : k < s.data.toList.length := by rw [HSZ.out]; exact hlt
      have hg := at_getD s k hlt
      have hit := fun h => bareTo_hit HN.out hll h
      have step := fun h => bareTo_step HN.out hll h
      have HIT := Lib.hid hit
      have STEP := Lib.hid step
      clear hit step hll
      by_cases h0 : s[k].toNat = 0
      · have a0 : ((s[k].toNat : Int) == 0) = true := by rw [h0]; rfl
        have HR := Lib.hid (HIT.out (by unfold bareAt; rw [hg, u8_eq (n := 0) (by omega) h0]; simp))
        clear h0 hg
        go_wp2
        go_ret
        exact ⟨ret_bool HR.out, rfl⟩
      · have a0 : ((s[k].toNat : Int) == 0) = false := by simp; omega
        have b0 : s[k] ≠ 0 := fun e => h0 (by rw [e]; rfl)
        by_cases h13 : s[k].toNat = 13
        · have a13 : ((s[k].toNat : Int) == 13) = true := by rw [h13]; rfl
          have a10 : ((s[k].toNat : Int) == 10) = false := by rw [h13]; rfl
          have b13 : s[k] = 13 := u8_eq (n := 13) (by omega) h13
          by_cases hE : k + 1 = s.size
          · have aE : ((k : Int) + 1 == (s.size : Int)) = true := by simp; omega
            have HR := Lib.hid (HIT.out (by unfold bareAt; rw [hg, b13, head_drop, List.getElem?_eq_none (by rw [HSZ.out]; omega)]; simp))
            clear h13 hg hE b13 h0 b0
            go_wp2
            go_ret
            exact ⟨ret_bool HR.out, rfl⟩
          · have aE : ((k : Int) + 1 == (s.size : Int)) = false := by simp; omega
            have hlt2 : k + 1 < s.size := by omega
            have hnx : s.data.toList[k + 1]? = some s[k + 1] := Lib.data_getElem? s (k + 1) hlt2
            by_cases h10 : s[k + 1].toNat = 10
            · have c10 : ((s[k + 1].toNat : Int) != 10) = false := by rw [h10]; rfl
              have c10' : ((s[k + 1].toNat : Int) == 10) = true := by rw [h10]; rfl
              have HR := Lib.hid (STEP.out (by unfold bareAt; rw [hg, b13, head_drop, hnx, u8_eq (n := 10) (by omega) h10]; simp))
              clear h13 hg hE b13 h0 b0 h10 hnx
              go_wp2
              go_round
              case rel => exact ⟨k + 1, by omega, by go_num, HR.out⟩
              case measure => simp [intOf]; omega
            · have c10 : ((s[k + 1].toNat : Int) != 10) = true := by simp; omega
              have c10' : ((s[k + 1].toNat : Int) == 10) = false := by simp; omega
              have HR := Lib.hid (HIT.out (by unfold bareAt; rw [hg, b13, head_drop, hnx]; simp; intro e; exact h10 (by rw [e]; rfl)))
              clear h13 hg hE b13 h0 b0 h10 hnx
              go_wp2
              go_ret
              exact ⟨ret_bool HR.out, rfl⟩
        · have a13 : ((s[k].toNat : Int) == 13) = false := by simp; omega
          have b13 : s[k] ≠ 13 := fun e => h13 (by rw [e]; rfl)
          by_cases h10 : s[k].toNat = 10
          · have a10 : ((s[k].toNat : Int) == 10) = true := by rw [h10]; rfl
            have b10 : s[k] = 10 := u8_eq (n := 10) (by omega) h10
            cases k with
            | zero =>
              have HR := Lib.hid (HIT.out (by unfold bareAt prevB; rw [hg, b10]; simp))
              clear h13 hg b13 h0 b0 h10 b10
              go_wp2
              go_ret
              exact ⟨ret_bool HR.out, rfl⟩
            | succ j =>
              have hj : j < s.size := by omega
              have hgj := at_getD s j hj
              have aj : ((((j + 1 : Nat) : Int)) == 0) = false := by simp; omega
              have aj' : (((j : Int) + 1) == 0) = false := by simp; omega
              by_cases hp : s[j].toNat = 13
              · have d13 : ((s[j].toNat : Int) != 13) = false := by rw [hp]; rfl
                have d13' : ((s[j].toNat : Int) == 13) = true := by rw [hp]; rfl
                have HR := Lib.hid (STEP.out (by unfold bareAt; rw [hg, b10, show prevB s.data.toList (j + 1) = s.data.toList.getD j 0 from rfl, hgj, u8_eq (n := 13) (by omega) hp]; simp))
                clear h13 hg b13 h0 b0 h10 b10 hgj hp
                go_wp2
                go_round
                case rel => exact ⟨j + 1 + 1, by omega, by go_num, HR.out⟩
                case measure => simp [intOf]; omega
              · have d13 : ((s[j].toNat : Int) != 13) = true := by simp; omega
                have d13' : ((s[j].toNat : Int) == 13) = false := by simp; omega
                have HR := Lib.hid (HIT.out (by unfold bareAt; rw [hg, b10, show prevB s.data.toList (j + 1) = s.data.toList.getD j 0 from rfl, hgj]; simp; intro e; exact hp (by rw [e]; rfl)))
                clear h13 hg b13 h0 b0 h10 b10 hgj hp
                go_wp2
                go_ret
                exact ⟨ret_bool HR.out, rfl⟩
          · have a10 : ((s[k].toNat : Int) == 10) = false := by simp; omega
            have b10 : s[k] ≠ 10 := fun e => h10 (by rw [e]; rfl)
            have HR := Lib.hid (STEP.out (by unfold bareAt; rw [hg]; simp [b0, b13, b10]))
            clear h13 hg b13 h0 b0 h10 b10
            go_wp2
            go_round
            case rel => exact ⟨k + 1, by omega, by go_num, HR.out⟩
            case measure => simp [intOf]; omega
    · have HE := Lib.hid (bareTo_end HN.out (by rw [HSZ.out]; omega))
      go_wp2
      go_ret
      exact ⟨ret_bool HE.out, rfl⟩
end Go.Proofs.YtpikjcmenmdolaaGreatDoor

/- The reference's cut, method, target, white and spaced. -/
namespace Go.Proofs.YtpikjcmenmdolaaGreatDoor
open Go.RowKit

def notC (c : UInt8) (s : ByteArray) (k : Nat) : Prop := c ∉ s.data.toList.take k
theorem notC_step {c : UInt8} {s : ByteArray} {k : Nat} (h : notC c s k) (hk : k < s.size) (hc : s[k].toNat ≠ c.toNat) : notC c s (k + 1) := by
  unfold notC at *
  rw [take_snoc s k hk, List.mem_append, not_or]
  exact ⟨h, by simp; intro e; exact hc (by rw [e])⟩
theorem cutC_hit {c : UInt8} {s : ByteArray} {k : Nat} (h : notC c s k) (hk : k < s.size) (hc : s[k].toNat = c.toNat) : cutC c s.data.toList = (s.data.toList.take k, s.data.toList.drop (k + 1), true) := by
  have e : s[k] = c := nat_of_u8 hc
  have hd : s.data.toList = s.data.toList.take k ++ c :: s.data.toList.drop (k + 1) := by
    conv => lhs; rw [← List.take_append_drop k s.data.toList]
    rw [List.drop_eq_getElem_cons (by simpa using hk)]
    congr 2
  conv => lhs; rw [hd]
  exact cutC_at h _
theorem cutC_end {c : UInt8} {s : ByteArray} {k : Nat} (h : notC c s k) (hk : s.size ≤ k) : cutC c s.data.toList = (s.data.toList, [], false) := by
  unfold notC at h
  rw [take_all s k hk] at h
  exact cutC_no h
theorem ext_strB (s : ByteArray) (a b : Nat) (l : List UInt8) (h : (s.data.toList.drop a).take (b - a) = l) : s.extract a b = strB l := strB_ext (by rw [seg_list]; exact h)
theorem slice_pre (s : ByteArray) (k : Nat) (h : k ≤ s.size) (w : World) : (Instr.slice 9 (.string s) none (some (.int .i64 (k : Int))) none).run Tryz.prog w = .ok (.string (strB (s.data.toList.take k))) w := by
  rw [run_slice_string_h w 9 s Tryz.underlying9 .i64 (k : Int) (by omega) (by omega)]
  rw [Int.toNat_natCast, ext_strB s 0 k _ (by rw [List.drop_zero, Nat.sub_zero])]
theorem slice_post (s : ByteArray) (k : Nat) (h : k < s.size) (w : World) : (Instr.slice 9 (.string s) (some (.int .i64 ((k : Int) + 1))) none none).run Tryz.prog w = .ok (.string (strB (s.data.toList.drop (k + 1)))) w := by
  rw [run_slice_string_l w 9 s Tryz.underlying9 .i64 ((k : Int) + 1) (by omega) (by omega)]
  rw [show ((k : Int) + 1).toNat = k + 1 by omega, ext_strB s (k + 1) s.size _ (List.take_of_length_le (by rw [List.length_drop, Array.length_toList]; exact Nat.le_refl _))]
set_option maxHeartbeats 4000000 in
set_option maxRecDepth 100000 in
theorem refCutG_any (c : UInt8) (s : ByteArray) (w : World) (hs : s.size ≤ 1000000000) :
    Calls Tryz.prog 55 #[.string s, .int .u8 (c.toNat : Int)] w fun e w' => e = .returned (.tuple #[.string (strB (cutC c s.data.toList).1), .string (strB (cutC c s.data.toList).2.1), .bool (cutC c s.data.toList).2.2]) ∧ Below w.heap.size w w' := by
  go_enter Tryz.func55, Tryz.ntmps55
  go_wp2
  go_loop [7] (fun i => ∃ k : Nat, k ≤ s.size ∧ i = .int .i64 k ∧ notC c s k) (fun i => s.size - (intOf i).toNat)
  case atStart => exact ⟨0, by omega, rfl, by simp [notC]⟩
  case round =>
    obtain ⟨k, hk, rfl, hn⟩ := hrel
    have HN := Lib.hid hn
    clear hn
    by_cases hlt : k < s.size
    · by_cases hc : s[k].toNat = c.toNat
      · have hca : ((s[k].toNat : Int) == (c.toNat : Int)) = true := by rw [hc]; exact beq_self_eq_true _
        have HE := Lib.hid (cutC_hit HN.out hlt hc)
        have s1 := slice_pre s k hk
        have s2 := slice_post s k hlt
        have hw : IntKind.i64.wrap ((k : Int) + 1) = (k : Int) + 1 := IntWalk.i64_in _ (by omega)
        clear hc
        go_wp2
        go_quiet (fail)
        go_wp2
        refine bodyPost_ret (v := .tuple #[.string (strB (s.data.toList.take k)), .string (strB (s.data.toList.drop (k + 1))), .bool true]) (by simp [results, Tryz.results55, go_sem]) rfl ?_
        exact ⟨by rw [HE.out], below_drewN (Below.refl _ _) _⟩
      · have hca : ((s[k].toNat : Int) == (c.toNat : Int)) = false := by simp; omega
        have HE := Lib.hid (notC_step HN.out hlt hc)
        clear hc
        go_wp2
        go_round
        case rel => exact ⟨k + 1, by omega, by go_num, HE.out⟩
        case measure => simp [intOf]; omega
    · have HE := Lib.hid (cutC_end HN.out (by omega))
      go_wp2
      refine bodyPost_ret (v := .tuple #[.string s, .string ⟨#[]⟩, .bool false]) (by simp [results, Tryz.results55, go_sem]) rfl ?_
      exact ⟨by rw [HE.out]; simp only; rw [strB_of]; rfl, Below.refl _ _⟩
set_option maxHeartbeats 4000000 in
set_option maxRecDepth 100000 in
theorem refMethod_any (s : ByteArray) (w : World) (hs : s.size ≤ 1000000000) :
    Calls Tryz.prog 58 #[.string s] w fun e w' => e = .returned (.bool (methodB s.data.toList)) ∧ w = w' := by
  have hsz : s.data.toList.length = s.size := by rw [Array.length_toList]; rfl
  have HSZ := Lib.hid hsz
  clear hsz
  go_enter Tryz.func58, Tryz.ntmps58
  go_wp2
  go_loop [3] (fun i => ∃ k : Nat, k ≤ s.size ∧ i = .int .i64 k ∧ okTo upC s k) (fun i => s.size - (intOf i).toNat)
  case atStart => exact ⟨0, by omega, rfl, okTo0 _ s⟩
  case round =>
    obtain ⟨k, hk, rfl, hn⟩ := hrel
    by_cases hlt : k < s.size
    · by_cases h1 : 65 ≤ s[k].toNat
      · by_cases h2 : s[k].toNat ≤ 90
        · go_wp2
          go_round
          case rel => exact ⟨k + 1, by omega, by go_num, okTo_step hlt hn (upC_mk h1 h2)⟩
          case measure => simp [intOf]; omega
        · go_wp2
          go_ret
          exact ⟨ret_bool (method_bad (okTo_no hlt (upC_not (by omega)))).symm, rfl⟩
      · go_wp2
        go_ret
        exact ⟨ret_bool (method_bad (okTo_no hlt (upC_not (by omega)))).symm, rfl⟩
    · have HG := Lib.hid (method_good (okTo_end (by omega) hn))
      by_cases hz : 1 ≤ s.size
      · by_cases h16 : s.size ≤ 16
        all_goals
          go_wp2
          go_ret
          exact ⟨ret_bool (by rw [HG.out, HSZ.out, Bool.eq_iff_iff]; simp; omega), rfl⟩
      · go_wp2
        go_ret
        exact ⟨ret_bool (by rw [HG.out, HSZ.out, Bool.eq_iff_iff]; simp; omega), rfl⟩
theorem target_bad {m t : List UInt8} (h : t.all tgC = false) : targetB m t = false := by
  unfold targetB
  have ht : (t.all fun c => decide (33 ≤ c.toNat) && decide (c.toNat ≤ 126)) = t.all tgC := rfl
  rw [ht, h]; rfl
theorem target_good {m t : List UInt8} (h : t.all tgC = true) : targetB m t = (decide (1 ≤ t.length) && decide (t.length ≤ 2048) && (decide (t.head? = some 47) || (decide (t = [42]) && decide (m = optL)))) := by
  unfold targetB optL
  have ht : (t.all fun c => decide (33 ≤ c.toNat) && decide (c.toNat ≤ 126)) = t.all tgC := rfl
  rw [ht, h, Bool.true_and]
set_option maxHeartbeats 4000000 in
set_option maxRecDepth 100000 in
theorem refTarget_any (m t : List UInt8) (w : World) (hs : t.length ≤ 1000000) :
    Calls Tryz.prog 59 #[.string (strB m), .string (strB t)] w fun e w' => e = .returned (.bool (targetB m t)) ∧ w = w' := by
  have hst : (strB t).data.toList = t := strB_list t
  have hsz : t.length = (strB t).size := (strB_size t).symm
  have hs' : (strB t).size ≤ 1000000 := by omega
  have HM := Lib.hid (fun h : m = optL => list_yes h)
  have HM2 := Lib.hid (fun h : m ≠ optL => list_no h)
  unfold optL at HM HM2
  have HT := Lib.hid (fun h : t = [42] => list_yes h)
  have HT2 := Lib.hid (fun h : t ≠ [42] => list_no h)
  generalize hgs : strB t = s at *
  have HST := Lib.hid hst
  have HSZ := Lib.hid hsz
  clear hst hsz hs hgs
  go_enter Tryz.func59, Tryz.ntmps59
  go_wp2
  go_loop [5] (fun i => ∃ k : Nat, k ≤ s.size ∧ i = .int .i64 k ∧ okTo tgC s k) (fun i => s.size - (intOf i).toNat)
  case atStart => exact ⟨0, by omega, rfl, okTo0 _ s⟩
  case round =>
    obtain ⟨k, hk, rfl, hn⟩ := hrel
    by_cases hlt : k < s.size
    · by_cases h1 : 33 ≤ s[k].toNat
      · by_cases h2 : s[k].toNat ≤ 126
        · go_wp2
          go_round
          case rel => exact ⟨k + 1, by omega, by go_num, okTo_step hlt hn (tgC_mk h1 h2)⟩
          case measure => simp [intOf]; omega
        · go_wp2
          go_ret
          exact ⟨ret_bool (target_bad (by rw [← HST.out]; exact okTo_no hlt (tgC_not (by omega)))).symm, rfl⟩
      · go_wp2
        go_ret
        exact ⟨ret_bool (target_bad (by rw [← HST.out]; exact okTo_no hlt (tgC_not (by omega)))).symm, rfl⟩
    · have HG := Lib.hid (target_good (m := m) (t := t) (by rw [← HST.out]; exact okTo_end (by omega) hn))
      by_cases hz : 1 ≤ s.size
      · by_cases h16 : s.size ≤ 2048
        · have hz0 : 0 < s.size := by omega
          have hh : t.head? = some s[0] := by rw [← HST.out]; exact head_at s hz0
          by_cases h47 : s[0].toNat = 47
          · have q47 : ((s[0].toNat : Int) == 47) = true := by rw [h47]; rfl
            have HR := Lib.hid (show targetB m t = true by rw [HG.out, hh, u8_eq (n := 47) (by omega) h47, HSZ.out]; simp; omega)
            clear hh h47
            go_wp2
            go_ret
            exact ⟨ret_bool HR.out.symm, rfl⟩
          · have q47 : ((s[0].toNat : Int) == 47) = false := by simp; omega
            have hh2 : ¬ t.head? = some 47 := by rw [hh]; intro e; exact h47 (by rw [Option.some.inj e]; rfl)
            by_cases h42 : t = [42]
            · have q42 := HT.out h42
              by_cases ho : m = optL
              · have qo := HM.out ho
                have HR := Lib.hid (show targetB m t = true by rw [HG.out, HSZ.out, decide_eq_true h42, decide_eq_true ho]; simp; omega)
                clear hh h47 hh2 h42 ho
                go_wp2
                go_ret
                exact ⟨ret_bool HR.out.symm, rfl⟩
              · have qo := HM2.out ho
                have HR := Lib.hid (show targetB m t = false by rw [HG.out, decide_eq_false hh2, decide_eq_false ho]; simp)
                clear hh h47 hh2 h42 ho
                go_wp2
                go_ret
                exact ⟨ret_bool HR.out.symm, rfl⟩
            · have q42 := HT2.out h42
              have HR := Lib.hid (show targetB m t = false by rw [HG.out, decide_eq_false hh2, decide_eq_false h42]; simp)
              clear hh h47 hh2 h42
              go_wp2
              go_ret
              exact ⟨ret_bool HR.out.symm, rfl⟩
        · have HR := Lib.hid (show targetB m t = false by rw [HG.out, HSZ.out, decide_eq_false h16]; simp)
          go_wp2
          go_ret
          exact ⟨ret_bool HR.out.symm, rfl⟩
      · have HR := Lib.hid (show targetB m t = false by rw [HG.out, HSZ.out, decide_eq_false hz]; simp)
        go_wp2
        go_ret
        exact ⟨ret_bool HR.out.symm, rfl⟩
set_option maxHeartbeats 400000 in
theorem refWhite_any (c : UInt8) (w : World) :
    Calls Tryz.prog 81 #[.int .u8 (c.toNat : Int)] w fun e w' => e = .returned (.bool (wsB c)) ∧ w = w' := by
  have e1 : decide (c = 32) = decide (c.toNat = 32) := by rw [decide_eq_decide]; exact ⟨fun h => by rw [h]; rfl, fun h => u8_eq (n := 32) (by omega) h⟩
  have e2 : decide (c = 9) = decide (c.toNat = 9) := by rw [decide_eq_decide]; exact ⟨fun h => by rw [h]; rfl, fun h => u8_eq (n := 9) (by omega) h⟩
  have HE := Lib.hid (show wsB c = (decide (c.toNat = 32) || decide (c.toNat = 9)) by unfold wsB; rw [e1, e2])
  clear e1 e2
  go_enter Tryz.func81, Tryz.ntmps81
  go_wp2
  all_goals
    go_ret
    refine ⟨ret_bool ?_, rfl⟩
    rw [HE.out, Bool.eq_iff_iff]
    simp at *
    try omega
def noWs (s : ByteArray) (k : Nat) : Prop := (s.data.toList.take k).any wsB = false
theorem noWs_step {s : ByteArray} {k : Nat} (h : k < s.size) (hn : noWs s k) (hb : wsB s[k] = false) : noWs s (k + 1) := by
  unfold noWs at *; rw [take_snoc s k h, List.any_append, hn]; simp [hb]
set_option maxHeartbeats 1000000 in
theorem refSpaced_any (s : ByteArray) (w : World) (hs : s.size ≤ 1000000000) :
    Calls Tryz.prog 82 #[.string s] w fun e w' => e = .returned (.bool (s.data.toList.any wsB)) ∧ w = w' := by
  go_enter Tryz.func82, Tryz.ntmps82
  go_wp2
  go_loop [3] (fun i => ∃ k : Nat, k ≤ s.size ∧ i = .int .i64 k ∧ noWs s k) (fun i => s.size - (intOf i).toNat)
  case atStart => exact ⟨0, by omega, rfl, by simp [noWs]⟩
  case round =>
    obtain ⟨k, hk, rfl, hn⟩ := hrel
    by_cases hlt : k < s.size
    · by_cases hb : wsB s[k] = true
      all_goals
        go_wp2_with (go_at_call 81; refine (refWhite_any _ _).mono ?_; rintro e w' ⟨rfl, rfl⟩)
      · go_ret
        exact ⟨ret_bool (List.any_eq_true.2 ⟨_, get_mem s k hlt, hb⟩).symm, rfl⟩
      · go_round
        case rel => exact ⟨k + 1, by omega, by go_num, noWs_step hlt hn (by simpa using hb)⟩
        case measure => simp [intOf]; omega
    · go_wp2
      go_ret
      exact ⟨ret_bool (by unfold noWs at hn; rw [take_all s k (by omega)] at hn; first | exact hn.symm | (rw [← Array.any_toList]; exact hn.symm) | simpa using hn.symm), rfl⟩
end Go.Proofs.YtpikjcmenmdolaaGreatDoor

/- The reference's fields. -/
namespace Go.Proofs.YtpikjcmenmdolaaGreatDoor
open Go.RowKit

theorem Tryz.infoG : (Tryz.prog.info? 91).map (fun i => (i.zero, i.size, i.bytes)) = some (some (.agg #[.string ByteArray.empty, .string ByteArray.empty]), 2, 32) := by kernel_rfl
/-- What the reference's fields leaves. -/
def RefFieldsPost (ls : List (List UInt8)) (w : World) (e : Ending) (w' : World) : Prop :=
  ∃ v, e = .returned (.tuple #[v, .int .i64 ((readFs nmO vlO ls).1 : Int)]) ∧ OwnsP 91 w.heap.size w' v (readFs nmO vlO ls).2 ∧ Below w.heap.size w w'
theorem refFields_err {ls : List (List UInt8)} {w w' : World} {c : Nat} (h : readFs nmO vlO ls = (c, [])) (hB : Below w.heap.size w w') : RefFieldsPost ls w (.returned (.tuple #[.slice none 0 0, .int .i64 (c : Int)])) w' :=
  ⟨.slice none 0 0, by rw [h], by rw [h]; exact OwnsP.nil _ _ _, hB⟩
theorem refBad {ls : List (List UInt8)} {k c : Nat} {l : List UInt8} (h : goodTo nmO vlO ls k) (hl : ls[k]? = some l) (h0 : rdF l = (c, [], [])) (hc : c ≠ 0) : readFs nmO vlO ls = (c, []) := by
  have e : (readF nmO vlO l).1 = c := by show (rdF l).1 = c; rw [h0]
  rw [readFs_bad h hl (by rw [e]; exact hc), e]
theorem refCut58_any (l : List UInt8) (w : World) (hs : l.length ≤ 1000000) :
    Calls Tryz.prog 55 #[.string (strB l), .int .u8 58] w fun e w' => e = .returned (.tuple #[.string (strB (cutC 58 l).1), .string (strB (cutC 58 l).2.1), .bool (cutC 58 l).2.2]) ∧ Below w.heap.size w w' := by
  have := refCutG_any 58 (strB l) w (by rw [strB_size]; omega)
  rw [strB_list] at this
  exact this
set_option maxHeartbeats 16000000 in
set_option maxRecDepth 100000 in
theorem refFields_any (v : Value) (ls : List (List UInt8)) (w : World) (hr : ReadsS w v ls) (hl : ls.length ≤ 1000) (hb : ∀ l ∈ ls, l.length ≤ 1000000) :
    Calls Tryz.prog 57 #[v] w (RefFieldsPost ls w) := by
  obtain ⟨i0, hi, hz0, hz1, hz2⟩ := info_parts Tryz.infoG
  obtain ⟨ao, cap, rfl, hc⟩ := hr
  have HC := Lib.hid hc
  have HBig := Lib.hid hb
  clear hc hb
  go_enter Tryz.func57, Tryz.ntmps57
  go_wp2_with fail
  go_loopw [4, 5] (fun u i wr => ∃ k : Nat, i = .int .i64 k ∧ k ≤ ls.length ∧ goodTo nmO vlO ls k ∧ OwnsP 91 w.heap.size wr u (fsTo nmO vlO ls k) ∧ Below w.heap.size w wr) (fun _ i _ => ls.length - (intOf i).toNat)
  case atStart => exact ⟨0, rfl, Nat.zero_le _, goodTo0 _, OwnsP.nil _ _ _, Below.refl _ _⟩
  case round =>
    obtain ⟨k, rfl, hk, hg, hO, hBr⟩ := hrel
    have hbr := hBr.size
    have HG := Lib.hid hg
    clear hg
    have hfl := fsTo_len (nm := nmO) (vl := vlO) ls k
    by_cases hlt : k < ls.length
    · obtain ⟨l, hl⟩ : ∃ l, ls[k]? = some l := ⟨ls[k], by simp [hlt]⟩
      obtain ⟨g, off, rfl, hg1, h1⟩ := HC.out k l hl
      have hcell : wr.cell? ⟨g, off + k, none⟩ = some (.string (strB l)) := (hBr.cell (p := ⟨g, off + k, none⟩) hg1).trans h1
      have hll := HBig.out l (List.mem_of_getElem? hl)
      have HL := Lib.hid hl
      clear hl h1
      have hcl := cutC_len 58 l
      have C := Lib.hid (fun w => refCut58_any l w hll)
      have S := Lib.hid (fun w => refSpaced_any (strB (cutC 58 l).1) w (by rw [strB_size]; omega))
      have N := Lib.hid (fun w => refName_any (strB (cutC 58 l).1) w (by rw [strB_size]; omega))
      have V := Lib.hid (fun w => refValue_any (strB (cutC 58 l).2.1) w (by rw [strB_size]; omega))
      rw [strB_list] at S N V
      clear hcl hll
      by_cases hne : l = []
      · have q1 := empty_yes hne
        have q2 := list_yes hne
        have h1 : l.head?.any wsB = false := by rw [hne]; rfl
        have h2 : (cutC 58 l).2.2 = false := by rw [hne]; rfl
        rw [h2] at C
        have HE := Lib.hid (refBad HG.out HL.out (rdF_cut h1 h2) (by decide))
        clear h1 h2 hne
        go_wp2_with fail
        refine (C.out _).mono ?_
        rintro e w2 ⟨rfl, hB⟩
        have hB' := hB
        clear hB
        go_wp2_with fail
        go_ret2
        exact refFields_err HE.out (hBr.trans (hB'.mono hbr))
      · have q1 := empty_no hne
        have q2 := list_no hne
        have hzl : 0 < (strB l).size := by rw [strB_size]; exact List.length_pos_iff.2 hne
        have W := fun w => refWhite_any (strB l)[0] w
        have hh : l.head?.any wsB = wsB (strB l)[0] := by
          have := head_at (strB l) hzl
          rw [strB_list] at this
          rw [this]; rfl
        have HH := Lib.hid hh
        clear hh
        cases h0 : wsB (strB l)[0] with
        | true =>
          have h1 : l.head?.any wsB = true := HH.out.trans h0
          rw [h0] at W
          have HE := Lib.hid (refBad HG.out HL.out (rdF_fold h1) (by decide))
          clear h1 h0
          go_wp2_with fail
          refine (W _).mono ?_
          rintro e w1 ⟨rfl, rfl⟩
          go_wp2_with fail
          go_ret2
          exact refFields_err HE.out hBr
        | false =>
          have h1 : l.head?.any wsB = false := HH.out.trans h0
          rw [h0] at W
          clear h0
          cases h2 : (cutC 58 l).2.2 with
          | false =>
            rw [h2] at C
            have HE := Lib.hid (refBad HG.out HL.out (rdF_cut h1 h2) (by decide))
            clear h1 h2
            go_wp2_with fail
            refine (W _).mono ?_
            rintro e w1 ⟨rfl, rfl⟩
            go_wp2_with fail
            refine (C.out _).mono ?_
            rintro e w2 ⟨rfl, hB⟩
            have hB' := hB
            clear hB
            go_wp2_with fail
            go_ret2
            exact refFields_err HE.out (hBr.trans (hB'.mono hbr))
          | true =>
            rw [h2] at C
            by_cases h3 : (cutC 58 l).1 = []
            · have q3 := empty_yes h3
              have q4 := list_yes h3
              have HE := Lib.hid (refBad HG.out HL.out (rdF_empty h1 h2 h3) (by decide))
              clear h1 h2 h3
              go_wp2_with fail
              refine (W _).mono ?_
              rintro e w1 ⟨rfl, rfl⟩
              go_wp2_with fail
              refine (C.out _).mono ?_
              rintro e w2 ⟨rfl, hB⟩
              have hB' := hB
              clear hB
              go_wp2_with fail
              go_ret2
              exact refFields_err HE.out (hBr.trans (hB'.mono hbr))
            · have q3 := empty_no h3
              have q4 := list_no h3
              cases h4 : (cutC 58 l).1.any wsB with
              | true =>
                rw [h4] at S
                have HE := Lib.hid (refBad HG.out HL.out (rdF_space h1 h2 h3 h4) (by decide))
                clear h1 h2 h3 h4
                go_wp2_with fail
                refine (W _).mono ?_
                rintro e w1 ⟨rfl, rfl⟩
                go_wp2_with fail
                refine (C.out _).mono ?_
                rintro e w2 ⟨rfl, hB⟩
                have hB' := hB
                clear hB
                go_wp2_with fail
                refine (S.out _).mono ?_
                rintro e w3 ⟨rfl, rfl⟩
                go_wp2_with fail
                go_ret2
                exact refFields_err HE.out (hBr.trans (hB'.mono hbr))
              | false =>
                rw [h4] at S
                by_cases h5 : nameC (cutC 58 l).1 = 0
                · by_cases h6 : valueC (cutC 58 l).2.1 = 0
                  · have hp := rdF_good h1 h2 h3 h4 h5 h6
                    have HP := Lib.hid (show (readF nmO vlO l).2 = (nameR (cutC 58 l).1, valueR (cutC 58 l).2.1) by show (rdF l).2 = _; rw [hp])
                    have HN := Lib.hid (goodTo_step HG.out HL.out (show (readF nmO vlO l).1 = 0 by show (rdF l).1 = _; rw [hp]))
                    have HS := Lib.hid (fsTo_step (nm := nmO) (vl := vlO) HL.out)
                    rw [h5] at N
                    rw [h6] at V
                    clear h1 h2 h3 h4 h5 h6 hp
                    go_wp2_with fail
                    refine (W _).mono ?_
                    rintro e w1 ⟨rfl, rfl⟩
                    go_wp2_with fail
                    refine (C.out _).mono ?_
                    rintro e w2 ⟨rfl, hB⟩
                    have hB' := hB
                    clear hB
                    go_wp2_with fail
                    refine (S.out _).mono ?_
                    rintro e w3 ⟨rfl, rfl⟩
                    go_wp2_with fail
                    refine (N.out _).mono ?_
                    rintro e w4 ⟨rfl, hB⟩
                    have hB' := hB'.trans (hB.mono hB'.size)
                    clear hB
                    go_wp2_with fail
                    refine (V.out _).mono ?_
                    rintro e w5 ⟨rfl, rfl⟩
                    have hB5 := hB'
                    have hO' := OwnsP.below hO hB5
                    have hz5 := hB5.size
                    go_wp2_with (at_builtin; go_must (refine wpList_append_own _ rfl _ _ 74 rfl w.heap.size 91 i0 (.agg #[.string ByteArray.empty, .string ByteArray.empty]) 2 32 Tryz.underlying74 hi hz0 hz1 hz2 rfl (by decide) _ _ _ rfl (World.ownsRow.alloc hO' _) ⟨_, 0, none⟩ 1 1 [strV (nameR (cutC 58 l).1), strV (valueR (cutC 58 l).2.1)] rfl rfl (two_newG _ (nameR (cutC 58 l).1) (valueR (cutC 58 l).2.1) _) (fun u hu => by simp at hu; rcases hu with rfl | rfl <;> rfl) (by unfold maxLen; omega) (by omega) (by simp; omega) ?_); intro v' w6 hown' hgrow _)
                    go_roundw
                    case rel => exact ⟨k + 1, by go_num, by omega, HN.out, by rw [HS.out, HP.out]; exact OwnsP.snoc (p := (nameR (cutC 58 l).1, valueR (cutC 58 l).2.1)) hown', below_appendP hBr hbr hB5 hO hgrow⟩
                    case measure => simp [intOf]; omega
                  · have q6 : ((valueC (cutC 58 l).2.1 : Int) != 0) = true := by simp; omega
                    rw [h5] at N
                    have HE := Lib.hid (refBad HG.out HL.out (rdF_value h1 h2 h3 h4 h5 h6) (by decide))
                    clear h1 h2 h3 h4 h5 h6
                    go_wp2_with fail
                    refine (W _).mono ?_
                    rintro e w1 ⟨rfl, rfl⟩
                    go_wp2_with fail
                    refine (C.out _).mono ?_
                    rintro e w2 ⟨rfl, hB⟩
                    have hB' := hB
                    clear hB
                    go_wp2_with fail
                    refine (S.out _).mono ?_
                    rintro e w3 ⟨rfl, rfl⟩
                    go_wp2_with fail
                    refine (N.out _).mono ?_
                    rintro e w4 ⟨rfl, hB⟩
                    have hB' := hB'.trans (hB.mono hB'.size)
                    clear hB
                    go_wp2_with fail
                    refine (V.out _).mono ?_
                    rintro e w5 ⟨rfl, rfl⟩
                    go_wp2_with fail
                    go_ret2
                    exact refFields_err HE.out (hBr.trans (hB'.mono hbr))
                · have q5 : ((nameC (cutC 58 l).1 : Int) != 0) = true := by simp; omega
                  have HE := Lib.hid (refBad HG.out HL.out (rdF_name h1 h2 h3 h4 h5) (by decide))
                  clear h1 h2 h3 h4 h5
                  go_wp2_with fail
                  refine (W _).mono ?_
                  rintro e w1 ⟨rfl, rfl⟩
                  go_wp2_with fail
                  refine (C.out _).mono ?_
                  rintro e w2 ⟨rfl, hB⟩
                  have hB' := hB
                  clear hB
                  go_wp2_with fail
                  refine (S.out _).mono ?_
                  rintro e w3 ⟨rfl, rfl⟩
                  go_wp2_with fail
                  refine (N.out _).mono ?_
                  rintro e w4 ⟨rfl, hB⟩
                  have hB' := hB'.trans (hB.mono hB'.size)
                  clear hB
                  go_wp2_with fail
                  refine (V.out _).mono ?_
                  rintro e w5 ⟨rfl, rfl⟩
                  go_wp2_with fail
                  go_ret2
                  exact refFields_err HE.out (hBr.trans (hB'.mono hbr))
    · have HE := Lib.hid (readFs_end HG.out (by omega))
      go_wp2_with fail
      go_ret2
      exact ⟨_, by rw [HE.out]; rfl, by rw [HE.out]; exact hO, hBr⟩
end Go.Proofs.YtpikjcmenmdolaaGreatDoor
