/- What the reference's parameter returns: the same as the code's readParam. -/
import Derived.Test.YtjcekkgoohkomaaDoorParam
import Derived.Test.YtjcekkgoohkomaaDoorRefLower
namespace Go.Proofs.YtjcekkgoohkomaaDoor
open Go.RowKit

theorem cutE_no : ∀ {l : List UInt8}, 61 ∉ l → cutE l = none := by
  intro l
  induction l with
  | nil => intro _; rfl
  | cons c r ih =>
    intro h
    unfold cutE
    rw [if_neg (fun e => h (by rw [e]; simp)), ih (fun e => h (by simp [e]))]; rfl
theorem cutE_app : ∀ {a : List UInt8} (b : List UInt8), 61 ∉ a → cutE (a ++ 61 :: b) = some (a, b) := by
  intro a
  induction a with
  | nil => intro b _; rfl
  | cons c r ih =>
    intro b h
    rw [List.cons_append]
    unfold cutE
    rw [if_neg (fun e => h (by rw [e]; simp)), ih b (fun e => h (by simp [e]))]; rfl
def NoEq (s : ByteArray) (k : Nat) : Prop := 61 ∉ s.data.toList.take k
theorem NoEq0 (s : ByteArray) : NoEq s 0 := by simp [NoEq]
theorem NoEq.step {s : ByteArray} {k : Nat} (h : NoEq s k) (hk : k < s.size) (hc : s[k] ≠ 61) : NoEq s (k + 1) := by
  unfold NoEq at *
  rw [take_snoc s k hk]
  intro hm
  rcases List.mem_append.mp hm with e | e
  · exact h e
  · simp at e; exact hc e.symm
theorem NoEq.none {s : ByteArray} {k : Nat} (h : NoEq s k) (hk : s.size ≤ k) : cutE s.data.toList = none := by
  unfold NoEq at h; rw [take_all s k hk] at h; exact cutE_no h
theorem NoEq.some {s : ByteArray} {k : Nat} (h : NoEq s k) (hk : k < s.size) (hc : s[k] = 61) : cutE s.data.toList = some (s.data.toList.take k, s.data.toList.drop (k + 1)) := by
  have e : s.data.toList = s.data.toList.take k ++ 61 :: s.data.toList.drop (k + 1) := by
    have h2 : s.data.toList.drop k = s[k] :: s.data.toList.drop (k + 1) := List.drop_eq_getElem_cons (by simpa using hk)
    rw [← hc, ← h2, List.take_append_drop]
  have := cutE_app (s.data.toList.drop (k + 1)) h
  rw [← e] at this
  exact this
theorem ext_take (s : ByteArray) (k : Nat) : s.extract 0 k = strB (s.data.toList.take k) := by
  apply strB_ext; rw [Lib.extract_data]; simp
theorem ext_drop (s : ByteArray) (k : Nat) : s.extract k s.size = strB (s.data.toList.drop k) := by
  apply strB_ext; rw [Lib.extract_data, List.take_of_length_le (by simp)]

def RParPost (s : ByteArray) (w : World) (e : Ending) (w' : World) : Prop :=
  Below w.heap.size w w' ∧
  match paramO s.data.toList with
  | none => e = .returned (.tuple #[.agg #[.string ⟨#[]⟩, .string ⟨#[]⟩], .bool false])
  | some (n, v) => e = .returned (.tuple #[.agg #[.string (strB n), .string (strB v)], .bool true])
theorem RParPost.none {s : ByteArray} {w w' : World} (h : paramO s.data.toList = none) (hb : Below w.heap.size w w') : RParPost s w (.returned (.tuple #[.agg #[.string ⟨#[]⟩, .string ⟨#[]⟩], .bool false])) w' :=
  ⟨hb, by rw [h]⟩
theorem RParPost.some {s : ByteArray} {w w' : World} {n v : List UInt8} (h : paramO s.data.toList = some (n, v)) (hb : Below w.heap.size w w') : RParPost s w (.returned (.tuple #[.agg #[.string (strB n), .string (strB v)], .bool true])) w' :=
  ⟨hb, by rw [h]⟩

set_option maxHeartbeats 4000000 in
set_option maxRecDepth 100000 in
theorem parameter_any (s : ByteArray) (w : World) (hs : s.size ≤ 100000) :
    Calls Tryd.prog 60 #[.string s] w fun e w' => RParPost s w e w' := by
  go_enter Tryd.func60, Tryd.ntmps60
  go_wp2
  go_loop [4] (fun i => ∃ k : Nat, i = .int .i64 k ∧ k ≤ s.size ∧ NoEq s k) (fun i => s.size - (intOf i).toNat)
  case atStart => exact ⟨0, rfl, by omega, NoEq0 s⟩
  case round =>
    obtain ⟨k, rfl, hk, hn⟩ := hrel
    have HN := Lib.hid hn
    clear hn
    by_cases hlt : k < s.size
    · by_cases h61 : s[k] = 61
      · have t61 : ((s[k].toNat : Int) != 61) = false := by rw [h61]; rfl
        have te : ((k : Int) == (s.size : Int)) = false := by simp; omega
        have hc := HN.out.some hlt h61
        generalize ha : s.data.toList.take k = a at hc
        generalize hb : s.data.toList.drop (k + 1) = b at hc
        have ea : s.extract 0 k = strB a := by rw [ext_take, ha]
        have eb : s.extract (k + 1) s.size = strB b := by rw [ext_drop, hb]
        have hza : (strB a).size ≤ 100000 := by rw [← ea]; simp; omega
        have hzb : (strB b).size ≤ 100000 := by rw [← eb]; simp; omega
        have HC := Lib.hid hc
        clear h61 ha hb hc
        cases hta : tokS a with
        | false =>
          have hp : paramO s.data.toList = none := by unfold paramO; rw [HC.out]; simp [hta]
          have HP := Lib.hid hp
          have HA := Lib.hid hta
          clear hp hta
          go_wp2_with fail
          refine (refToken_any (strB a) _ (by unfold maxLen; omega)).mono ?_
          rintro e w' ⟨rfl, rfl⟩
          rw [strB_list, HA.out]
          go_wp2
          exact bodyPost_ret (v := (.tuple #[.agg #[.string ⟨#[]⟩, .string ⟨#[]⟩], .bool false])) (by simp [results, Tryd.results60, go_sem]) rfl (RParPost.none HP.out (below_new w _))
        | true =>
          have HA := Lib.hid hta
          clear hta
          cases htb : tokS b with
          | true =>
            have hp : paramO s.data.toList = some (lowS a, b) := by unfold paramO; rw [HC.out]; simp [HA.out, htb]
            have HP := Lib.hid hp
            have HB := Lib.hid htb
            clear hp htb
            go_wp2_with fail
            refine (refToken_any (strB a) _ (by unfold maxLen; omega)).mono ?_
            rintro e w' ⟨rfl, rfl⟩
            rw [strB_list, HA.out]
            go_wp2_with fail
            refine (refToken_any (strB b) _ (by unfold maxLen; omega)).mono ?_
            rintro e w' ⟨rfl, rfl⟩
            rw [strB_list, HB.out]
            go_wp2_with fail
            refine (refLower_any (strB a) _ (by omega)).mono ?_
            rintro e w3 ⟨rfl, hB3⟩
            rw [strB_list]
            obtain ⟨c0, c1, f0, f1, hz⟩ := two_kept w 0 hB3
            go_wp2
            exact bodyPost_ret (v := (.tuple #[.agg #[.string (strB (lowS a)), .string (strB b)], .bool true])) (by simp [results, Tryd.results60, go_sem, c0, c1]) rfl (RParPost.some HP.out (below_two (below_over (below_new w _) hB3) _ _))
          | false =>
            have HB := Lib.hid htb
            cases hu : unqO b with
            | none =>
              have hp : paramO s.data.toList = none := by unfold paramO; rw [HC.out]; simp [HA.out, htb, hu]
              have HP := Lib.hid hp
              have HU := Lib.hid hu
              clear hp htb hu
              go_wp2_with fail
              refine (refToken_any (strB a) _ (by unfold maxLen; omega)).mono ?_
              rintro e w' ⟨rfl, rfl⟩
              rw [strB_list, HA.out]
              go_wp2_with fail
              refine (refToken_any (strB b) _ (by unfold maxLen; omega)).mono ?_
              rintro e w' ⟨rfl, rfl⟩
              rw [strB_list, HB.out]
              go_wp2_with fail
              refine (refUnquote_any (strB b) _ (by omega)).mono ?_
              rintro e w3 ⟨rfl, he⟩
              rw [strB_list, HU.out] at he
              subst he
              go_wp2
              exact bodyPost_ret (v := (.tuple #[.agg #[.string ⟨#[]⟩, .string ⟨#[]⟩], .bool false])) (by simp [results, Tryd.results60, go_sem]) rfl (RParPost.none HP.out (below_new w _))
            | some t =>
              have hp : paramO s.data.toList = some (lowS a, t) := by unfold paramO; rw [HC.out]; simp [HA.out, htb, hu]
              have HP := Lib.hid hp
              have HU := Lib.hid hu
              clear hp htb hu
              go_wp2_with fail
              refine (refToken_any (strB a) _ (by unfold maxLen; omega)).mono ?_
              rintro e w' ⟨rfl, rfl⟩
              rw [strB_list, HA.out]
              go_wp2_with fail
              refine (refToken_any (strB b) _ (by unfold maxLen; omega)).mono ?_
              rintro e w' ⟨rfl, rfl⟩
              rw [strB_list, HB.out]
              go_wp2_with fail
              refine (refUnquote_any (strB b) _ (by omega)).mono ?_
              rintro e w3 ⟨rfl, he⟩
              rw [strB_list, HU.out] at he
              subst he
              go_wp2_with fail
              refine (refLower_any (strB a) _ (by omega)).mono ?_
              rintro e w4 ⟨rfl, hB4⟩
              rw [strB_list]
              obtain ⟨c0, c1, f0, f1, hz⟩ := two_kept w 0 hB4
              go_wp2
              exact bodyPost_ret (v := (.tuple #[.agg #[.string (strB (lowS a)), .string (strB t)], .bool true])) (by simp [results, Tryd.results60, go_sem, c0, c1]) rfl (RParPost.some HP.out (below_two (below_over (below_new w _) hB4) _ _))
      · have t61 : ((s[k].toNat : Int) != 61) = true := by
          simp; intro h; exact h61 (UInt8.toNat_inj.mp (by show s[k].toNat = 61; omega))
        have H61 := Lib.hid h61
        clear h61
        go_wp2
        go_round
        case rel => exact ⟨k + 1, by go_num, by omega, HN.out.step hlt H61.out⟩
        case measure => simp [intOf]; omega
    · have te : ((k : Int) == (s.size : Int)) = true := by simp; omega
      have hp : paramO s.data.toList = none := by unfold paramO; rw [HN.out.none (by omega)]
      have HP := Lib.hid hp
      clear hp
      go_wp2
      exact bodyPost_ret (v := (.tuple #[.agg #[.string ⟨#[]⟩, .string ⟨#[]⟩], .bool false])) (by simp [results, Tryd.results60, go_sem]) rfl (RParPost.none HP.out (below_new w _))
end Go.Proofs.YtjcekkgoohkomaaDoor
