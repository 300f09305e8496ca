/- FramingNames: for every number the statement's function returns true: the walk; what Name and the reference's Name return. -/
import Derived.Test.YthjkneifffdglaaDoorJLaw1
namespace Go.Proofs.YthjkneifffdglaaDoor
open Go.RowKit

def nameF : List (Int × List UInt8) → Int → List UInt8
  | [], _ => []
  | (e, s) :: r, z => if z = e then s else nameF r z
def nameT : List (Int × List UInt8) := [
  (2, [98, 97, 100, 32, 115, 116, 97, 116, 117, 115]),
  (5, [116, 111, 111, 32, 108, 97, 114, 103, 101]),
  (6, [117, 110, 101, 120, 112, 101, 99, 116, 101, 100, 32, 114, 101, 115, 112, 111, 110, 115, 101]),
  (21, [117, 110, 101, 120, 112, 101, 99, 116, 101, 100, 32, 101, 110, 100]),
  (22, [98, 97, 100, 32, 108, 105, 110, 101, 32, 101, 110, 100]),
  (23, [102, 111, 108, 100, 101, 100, 32, 108, 105, 110, 101]),
  (24, [115, 112, 97, 99, 101, 32, 98, 101, 102, 111, 114, 101, 32, 99, 111, 108, 111, 110]),
  (25, [98, 97, 100, 32, 102, 105, 101, 108, 100]),
  (26, [98, 97, 100, 32, 109, 101, 116, 104, 111, 100]),
  (27, [98, 97, 100, 32, 116, 97, 114, 103, 101, 116]),
  (28, [98, 97, 100, 32, 118, 101, 114, 115, 105, 111, 110]),
  (29, [98, 97, 100, 32, 104, 111, 115, 116]),
  (30, [98, 97, 100, 32, 108, 101, 110, 103, 116, 104]),
  (31, [98, 111, 116, 104, 32, 108, 101, 110, 103, 116, 104, 115]),
  (32, [98, 97, 100, 32, 99, 111, 100, 105, 110, 103]),
  (33, [98, 97, 100, 32, 99, 104, 117, 110, 107]),
  (34, [98, 97, 100, 32, 116, 114, 97, 105, 108, 101, 114])]
/-- The word for an error's number. -/
def nameS (z : Int) : List UInt8 := nameF nameT z
theorem name_at {k : Nat} {e z : Int} {s : List UInt8} (h : nameT[k]? = some (e, s)) : nameF (nameT.drop k) z = if z = e then s else nameF (nameT.drop (k + 1)) z := by
  have hk := (List.getElem?_eq_some_iff.mp h).1
  have e : nameT.drop k = (e, s) :: nameT.drop (k + 1) := by
    rw [List.drop_eq_getElem_cons hk]; congr 1; exact (List.getElem?_eq_some_iff.mp h).2
  rw [e, nameF]
theorem name_len : nameT.length = 17 := rfl
def nameE : Array Value := (nameT.map fun p => Value.int .i64 p.1).toArray
def nameW : Array Value := (nameT.map fun p => Value.string (strB p.2)).toArray
theorem nameE_lit : (#[.int .i64 2, .int .i64 5, .int .i64 6, .int .i64 21, .int .i64 22, .int .i64 23, .int .i64 24, .int .i64 25, .int .i64 26, .int .i64 27, .int .i64 28, .int .i64 29, .int .i64 30, .int .i64 31, .int .i64 32, .int .i64 33, .int .i64 34] : Array Value) = nameE := rfl
theorem nameW_lit : (#[.string ⟨#[98, 97, 100, 32, 115, 116, 97, 116, 117, 115]⟩, .string ⟨#[116, 111, 111, 32, 108, 97, 114, 103, 101]⟩, .string ⟨#[117, 110, 101, 120, 112, 101, 99, 116, 101, 100, 32, 114, 101, 115, 112, 111, 110, 115, 101]⟩, .string ⟨#[117, 110, 101, 120, 112, 101, 99, 116, 101, 100, 32, 101, 110, 100]⟩, .string ⟨#[98, 97, 100, 32, 108, 105, 110, 101, 32, 101, 110, 100]⟩, .string ⟨#[102, 111, 108, 100, 101, 100, 32, 108, 105, 110, 101]⟩, .string ⟨#[115, 112, 97, 99, 101, 32, 98, 101, 102, 111, 114, 101, 32, 99, 111, 108, 111, 110]⟩, .string ⟨#[98, 97, 100, 32, 102, 105, 101, 108, 100]⟩, .string ⟨#[98, 97, 100, 32, 109, 101, 116, 104, 111, 100]⟩, .string ⟨#[98, 97, 100, 32, 116, 97, 114, 103, 101, 116]⟩, .string ⟨#[98, 97, 100, 32, 118, 101, 114, 115, 105, 111, 110]⟩, .string ⟨#[98, 97, 100, 32, 104, 111, 115, 116]⟩, .string ⟨#[98, 97, 100, 32, 108, 101, 110, 103, 116, 104]⟩, .string ⟨#[98, 111, 116, 104, 32, 108, 101, 110, 103, 116, 104, 115]⟩, .string ⟨#[98, 97, 100, 32, 99, 111, 100, 105, 110, 103]⟩, .string ⟨#[98, 97, 100, 32, 99, 104, 117, 110, 107]⟩, .string ⟨#[98, 97, 100, 32, 116, 114, 97, 105, 108, 101, 114]⟩] : Array Value) = nameW := rfl
theorem nameE_at {k : Nat} {e : Int} {s : List UInt8} (h : nameT[k]? = some (e, s)) : nameE[k]? = some (.int .i64 e) := by
  unfold nameE; rw [List.getElem?_toArray, List.getElem?_map, h]; rfl
theorem nameW_at {k : Nat} {e : Int} {s : List UInt8} (h : nameT[k]? = some (e, s)) : nameW[k]? = some (.string (strB s)) := by
  unfold nameW; rw [List.getElem?_toArray, List.getElem?_map, h]; rfl
theorem ret_str {a b : ByteArray} (h : a = b) : Ending.returned (.string a) = .returned (.string b) := by rw [h]
set_option maxHeartbeats 4000000 in
set_option maxRecDepth 100000 in
theorem word_nil (w : World) : Calls Tryd.prog 24 #[.nilIface] w fun e w' => e = .returned (.string ⟨#[]⟩) ∧ w = w' := by
  have hta : ∀ w : World, (Instr.typeAssert .nilIface 30 59 true).run Tryd.prog w = .ok (.tuple #[.int .i64 0, .bool false]) w := fun _ => by kernel_rfl
  go_enter Tryd.func24, Tryd.ntmps24
  go_wp2_with fail
  go_ret
  exact ⟨rfl, rfl⟩
set_option maxHeartbeats 8000000 in
set_option maxRecDepth 100000 in
theorem word_any (z : Int) (w : World) : Calls Tryd.prog 24 #[.iface 59 (.int .i64 z)] w fun e w' => e = .returned (.string (strB (nameS z))) ∧ w = w' := by
  have hta : ∀ w : World, (Instr.typeAssert (.iface 59 (.int .i64 z)) 30 59 true).run Tryd.prog w = .ok (.tuple #[.int .i64 z, .bool true]) w := fun _ => by kernel_rfl
  go_enter Tryd.func24, Tryd.ntmps24
  go_wp2_with fail
  all_goals
    go_ret
    refine ⟨ret_str ?_, rfl⟩
    simp_all [nameS, nameT, nameF, strB]
/-- The cells of the reference's two lists. -/
theorem names_cells (w : World) {k : Nat} {e : Int} {s : List UInt8} (h : nameT[k]? = some (e, s)) :
    ((w.alloc (.cells #[.int .i64 2, .int .i64 5, .int .i64 6, .int .i64 21, .int .i64 22, .int .i64 23, .int .i64 24, .int .i64 25, .int .i64 26, .int .i64 27, .int .i64 28, .int .i64 29, .int .i64 30, .int .i64 31, .int .i64 32, .int .i64 33, .int .i64 34] 59)).alloc (.cells #[.string ⟨#[98, 97, 100, 32, 115, 116, 97, 116, 117, 115]⟩, .string ⟨#[116, 111, 111, 32, 108, 97, 114, 103, 101]⟩, .string ⟨#[117, 110, 101, 120, 112, 101, 99, 116, 101, 100, 32, 114, 101, 115, 112, 111, 110, 115, 101]⟩, .string ⟨#[117, 110, 101, 120, 112, 101, 99, 116, 101, 100, 32, 101, 110, 100]⟩, .string ⟨#[98, 97, 100, 32, 108, 105, 110, 101, 32, 101, 110, 100]⟩, .string ⟨#[102, 111, 108, 100, 101, 100, 32, 108, 105, 110, 101]⟩, .string ⟨#[115, 112, 97, 99, 101, 32, 98, 101, 102, 111, 114, 101, 32, 99, 111, 108, 111, 110]⟩, .string ⟨#[98, 97, 100, 32, 102, 105, 101, 108, 100]⟩, .string ⟨#[98, 97, 100, 32, 109, 101, 116, 104, 111, 100]⟩, .string ⟨#[98, 97, 100, 32, 116, 97, 114, 103, 101, 116]⟩, .string ⟨#[98, 97, 100, 32, 118, 101, 114, 115, 105, 111, 110]⟩, .string ⟨#[98, 97, 100, 32, 104, 111, 115, 116]⟩, .string ⟨#[98, 97, 100, 32, 108, 101, 110, 103, 116, 104]⟩, .string ⟨#[98, 111, 116, 104, 32, 108, 101, 110, 103, 116, 104, 115]⟩, .string ⟨#[98, 97, 100, 32, 99, 111, 100, 105, 110, 103]⟩, .string ⟨#[98, 97, 100, 32, 99, 104, 117, 110, 107]⟩, .string ⟨#[98, 97, 100, 32, 116, 114, 97, 105, 108, 101, 114]⟩] 9)).cell? ⟨w.heap.size, k, none⟩ = some (.int .i64 e) ∧ ((w.alloc (.cells #[.int .i64 2, .int .i64 5, .int .i64 6, .int .i64 21, .int .i64 22, .int .i64 23, .int .i64 24, .int .i64 25, .int .i64 26, .int .i64 27, .int .i64 28, .int .i64 29, .int .i64 30, .int .i64 31, .int .i64 32, .int .i64 33, .int .i64 34] 59)).alloc (.cells #[.string ⟨#[98, 97, 100, 32, 115, 116, 97, 116, 117, 115]⟩, .string ⟨#[116, 111, 111, 32, 108, 97, 114, 103, 101]⟩, .string ⟨#[117, 110, 101, 120, 112, 101, 99, 116, 101, 100, 32, 114, 101, 115, 112, 111, 110, 115, 101]⟩, .string ⟨#[117, 110, 101, 120, 112, 101, 99, 116, 101, 100, 32, 101, 110, 100]⟩, .string ⟨#[98, 97, 100, 32, 108, 105, 110, 101, 32, 101, 110, 100]⟩, .string ⟨#[102, 111, 108, 100, 101, 100, 32, 108, 105, 110, 101]⟩, .string ⟨#[115, 112, 97, 99, 101, 32, 98, 101, 102, 111, 114, 101, 32, 99, 111, 108, 111, 110]⟩, .string ⟨#[98, 97, 100, 32, 102, 105, 101, 108, 100]⟩, .string ⟨#[98, 97, 100, 32, 109, 101, 116, 104, 111, 100]⟩, .string ⟨#[98, 97, 100, 32, 116, 97, 114, 103, 101, 116]⟩, .string ⟨#[98, 97, 100, 32, 118, 101, 114, 115, 105, 111, 110]⟩, .string ⟨#[98, 97, 100, 32, 104, 111, 115, 116]⟩, .string ⟨#[98, 97, 100, 32, 108, 101, 110, 103, 116, 104]⟩, .string ⟨#[98, 111, 116, 104, 32, 108, 101, 110, 103, 116, 104, 115]⟩, .string ⟨#[98, 97, 100, 32, 99, 111, 100, 105, 110, 103]⟩, .string ⟨#[98, 97, 100, 32, 99, 104, 117, 110, 107]⟩, .string ⟨#[98, 97, 100, 32, 116, 114, 97, 105, 108, 101, 114]⟩] 9)).cell? ⟨w.heap.size + 1, k, none⟩ = some (.string (strB s)) := by
  rw [nameE_lit, nameW_lit]
  constructor
  · have hb := below_new (w.alloc (.cells nameE 59)) (.cells nameW 9)
    rw [hb.cell (p := ⟨w.heap.size, k, none⟩) (by simp), World.cell?_alloc_at _ _ _ _ rfl]
    exact nameE_at h
  · rw [World.cell?_alloc_at _ _ _ _ (by simp)]
    exact nameW_at h
set_option maxHeartbeats 8000000 in
set_option maxRecDepth 100000 in
theorem refWord_any (z : Int) (w : World) : Calls Tryd.prog 25 #[.int .i64 z] w fun e w' => e = .returned (.string (strB (nameS z))) ∧ Below w.heap.size w w' := by
  have HC := Lib.hid (fun (k : Nat) (e : Int) (s : List UInt8) (h : nameT[k]? = some (e, s)) => names_cells w h)
  have hB0 : Below w.heap.size w ((w.alloc (.cells #[.int .i64 2, .int .i64 5, .int .i64 6, .int .i64 21, .int .i64 22, .int .i64 23, .int .i64 24, .int .i64 25, .int .i64 26, .int .i64 27, .int .i64 28, .int .i64 29, .int .i64 30, .int .i64 31, .int .i64 32, .int .i64 33, .int .i64 34] 59)).alloc (.cells #[.string ⟨#[98, 97, 100, 32, 115, 116, 97, 116, 117, 115]⟩, .string ⟨#[116, 111, 111, 32, 108, 97, 114, 103, 101]⟩, .string ⟨#[117, 110, 101, 120, 112, 101, 99, 116, 101, 100, 32, 114, 101, 115, 112, 111, 110, 115, 101]⟩, .string ⟨#[117, 110, 101, 120, 112, 101, 99, 116, 101, 100, 32, 101, 110, 100]⟩, .string ⟨#[98, 97, 100, 32, 108, 105, 110, 101, 32, 101, 110, 100]⟩, .string ⟨#[102, 111, 108, 100, 101, 100, 32, 108, 105, 110, 101]⟩, .string ⟨#[115, 112, 97, 99, 101, 32, 98, 101, 102, 111, 114, 101, 32, 99, 111, 108, 111, 110]⟩, .string ⟨#[98, 97, 100, 32, 102, 105, 101, 108, 100]⟩, .string ⟨#[98, 97, 100, 32, 109, 101, 116, 104, 111, 100]⟩, .string ⟨#[98, 97, 100, 32, 116, 97, 114, 103, 101, 116]⟩, .string ⟨#[98, 97, 100, 32, 118, 101, 114, 115, 105, 111, 110]⟩, .string ⟨#[98, 97, 100, 32, 104, 111, 115, 116]⟩, .string ⟨#[98, 97, 100, 32, 108, 101, 110, 103, 116, 104]⟩, .string ⟨#[98, 111, 116, 104, 32, 108, 101, 110, 103, 116, 104, 115]⟩, .string ⟨#[98, 97, 100, 32, 99, 111, 100, 105, 110, 103]⟩, .string ⟨#[98, 97, 100, 32, 99, 104, 117, 110, 107]⟩, .string ⟨#[98, 97, 100, 32, 116, 114, 97, 105, 108, 101, 114]⟩] 9)) := (below_new w _).alloc (below_new w _).size _
  go_enter Tryd.func25, Tryd.ntmps25
  go_wp2_with fail
  generalize ((w.alloc (.cells #[.int .i64 2, .int .i64 5, .int .i64 6, .int .i64 21, .int .i64 22, .int .i64 23, .int .i64 24, .int .i64 25, .int .i64 26, .int .i64 27, .int .i64 28, .int .i64 29, .int .i64 30, .int .i64 31, .int .i64 32, .int .i64 33, .int .i64 34] 59)).alloc (.cells #[.string ⟨#[98, 97, 100, 32, 115, 116, 97, 116, 117, 115]⟩, .string ⟨#[116, 111, 111, 32, 108, 97, 114, 103, 101]⟩, .string ⟨#[117, 110, 101, 120, 112, 101, 99, 116, 101, 100, 32, 114, 101, 115, 112, 111, 110, 115, 101]⟩, .string ⟨#[117, 110, 101, 120, 112, 101, 99, 116, 101, 100, 32, 101, 110, 100]⟩, .string ⟨#[98, 97, 100, 32, 108, 105, 110, 101, 32, 101, 110, 100]⟩, .string ⟨#[102, 111, 108, 100, 101, 100, 32, 108, 105, 110, 101]⟩, .string ⟨#[115, 112, 97, 99, 101, 32, 98, 101, 102, 111, 114, 101, 32, 99, 111, 108, 111, 110]⟩, .string ⟨#[98, 97, 100, 32, 102, 105, 101, 108, 100]⟩, .string ⟨#[98, 97, 100, 32, 109, 101, 116, 104, 111, 100]⟩, .string ⟨#[98, 97, 100, 32, 116, 97, 114, 103, 101, 116]⟩, .string ⟨#[98, 97, 100, 32, 118, 101, 114, 115, 105, 111, 110]⟩, .string ⟨#[98, 97, 100, 32, 104, 111, 115, 116]⟩, .string ⟨#[98, 97, 100, 32, 108, 101, 110, 103, 116, 104]⟩, .string ⟨#[98, 111, 116, 104, 32, 108, 101, 110, 103, 116, 104, 115]⟩, .string ⟨#[98, 97, 100, 32, 99, 111, 100, 105, 110, 103]⟩, .string ⟨#[98, 97, 100, 32, 99, 104, 117, 110, 107]⟩, .string ⟨#[98, 97, 100, 32, 116, 114, 97, 105, 108, 101, 114]⟩] 9)) = W at *
  go_loop [5] (fun i => ∃ k : Nat, k ≤ 17 ∧ i = .int .i64 k ∧ nameF (nameT.drop k) z = nameS z) (fun i => 17 - (intOf i).toNat)
  case atStart => exact ⟨0, by omega, rfl, rfl⟩
  case round =>
    obtain ⟨k, hk, rfl, hn⟩ := hrel
    have HN := Lib.hid hn
    clear hn
    by_cases hlt : k < 17
    · obtain ⟨⟨e, s⟩, hes⟩ : ∃ p, nameT[k]? = some p := ⟨nameT[k]'(by rw [name_len]; exact hlt), by simp⟩
      obtain ⟨h1, h2⟩ := HC.out k e s hes
      have HA := Lib.hid (name_at (z := z) hes)
      clear hes
      by_cases hez : e = z
      · have heq : (e == z) = true := by rw [hez]; exact beq_self_eq_true _
        have HR := Lib.hid (show s = nameS z by rw [← HN.out, HA.out, if_pos hez.symm])
        clear hez
        go_wp2_with fail
        go_ret
        exact ⟨by rw [← HR.out]; rfl, hB0⟩
      · have heq : (e == z) = false := by rw [beq_eq_false_iff_ne]; exact hez
        have HR := Lib.hid (show nameF (nameT.drop (k + 1)) z = nameS z by rw [← HN.out, HA.out, if_neg (fun h => hez h.symm)])
        clear hez
        go_wp2_with fail
        go_round
        case rel => exact ⟨k + 1, by omega, by go_num, HR.out⟩
        case measure => simp [intOf]; omega
    · have HR := Lib.hid (show nameS z = [] by rw [← HN.out, show k = 17 by omega]; rfl)
      go_wp2_with fail
      go_ret
      exact ⟨by rw [HR.out]; rfl, hB0⟩
set_option maxHeartbeats 4000000 in
set_option maxRecDepth 100000 in
theorem fr_names_walk (z : Int) (w : World) : Calls Tryd.prog 9 #[.int .i64 z] w fun e w' => e = .returned (.bool true) ∧ Below w.heap.size w w' := by
  have q : ∀ l : List UInt8, ((strB l).toList == (strB l).toList) = true := fun l => beq_self_eq_true _
  have q := q (nameS z)
  go_enter Tryd.func9, Tryd.ntmps9
  go_wp2_with fail
  refine (awake6_any _).mono ?_
  rintro e w1 ⟨rfl, hB1⟩
  go_wp2_with fail
  refine (word_any z _).mono ?_
  rintro e w' ⟨rfl, rfl⟩
  go_wp2_with fail
  refine (refWord_any z _).mono ?_
  rintro e w2 ⟨rfl, hB2⟩
  go_wp2_with fail
  refine (word_nil _).mono ?_
  rintro e w' ⟨rfl, rfl⟩
  go_wp2_with fail
  go_ret
  exact ⟨rfl, hB1.trans (hB2.mono hB1.size)⟩
end Go.Proofs.YthjkneifffdglaaDoor
