/- Upper case: what the statements' upper returns. -/
import Derived.Test.YtnjjjfbklgdgpaaDoorDList
import Derived.Test.YtnjjjfbklgdgpaaDoorLower
namespace Go.Proofs.YtnjjjfbklgdgpaaDoor
open Go.RowKit

theorem upB_in {c : UInt8} (h1 : 97 ≤ c.toNat) (h2 : c.toNat ≤ 122) : (upB c).toNat = c.toNat - 32 := by
  unfold upB; rw [if_pos ⟨h1, h2⟩, UInt8.toNat_sub_of_le _ _ (by rw [UInt8.le_iff_toNat_le]; show 32 ≤ c.toNat; omega)]; rfl
theorem upB_not {c : UInt8} (h : ¬ (97 ≤ c.toNat ∧ c.toNat ≤ 122)) : upB c = c := by unfold upB; rw [if_neg h]
theorem upS_len (l : List UInt8) : (upS l).length = l.length := by simp [upS]
/-- The bytes after k rounds: those before k in upper case. -/
def upTo (l : List UInt8) (k j : Nat) : Int := if j < k then ((upB (l.getD j 0)).toNat : Int) else ((l.getD j 0).toNat : Int)
def UpC (s : ByteArray) (w : World) (i : Value) (wr : World) : Prop :=
  ∃ k : Nat, i = .int .i64 k ∧ k ≤ s.size ∧ (∀ j, j < s.size → wr.cell? ⟨w.heap.size, j, none⟩ = some (.int .u8 (upTo s.data.toList k j)) ∧ wr.frozen? ⟨w.heap.size, j, none⟩ = false) ∧ Below w.heap.size w wr
theorem upTo_at {s : ByteArray} {k : Nat} (h : k < s.size) : upTo s.data.toList k k = (s[k].toNat : Int) := by
  unfold upTo; rw [if_neg (by omega), getD_list s k h]
theorem UpC0 (s : ByteArray) (w : World) (cap : Nat) : UpC s w (.int .i64 0) (w.alloc (.cells (bytesRow s cap) 5 ((bytesRow s cap).size, (bytesRow s cap).size + 1))).drew := by
  obtain ⟨k, hk, hk', hc, hB⟩ := LowC0 s w cap
  obtain rfl : k = 0 := by
    have := (Value.int.inj hk).2
    omega
  refine ⟨0, rfl, Nat.zero_le _, fun j hj => ⟨?_, (hc j hj).2⟩, hB⟩
  rw [(hc j hj).1]
  unfold lowTo upTo
  rw [if_neg (by omega), if_neg (by omega)]
theorem UpC_up {s : ByteArray} {w wr : World} {k : Nat} (h : k < s.size) (h1 : 97 ≤ s[k].toNat) (h2 : s[k].toNat ≤ 122)
    (hc : ∀ j, j < s.size → wr.cell? ⟨w.heap.size, j, none⟩ = some (.int .u8 (upTo s.data.toList k j)) ∧ wr.frozen? ⟨w.heap.size, j, none⟩ = false)
    (hk : wr.cell? ⟨w.heap.size, k, none⟩ = some (.int .u8 (s[k].toNat : Int))) :
    ∀ j, j < s.size → (wr.setCell ⟨w.heap.size, k, none⟩ (.int .u8 ((s[k].toNat : Int) - 32))).cell? ⟨w.heap.size, j, none⟩ = some (.int .u8 (upTo s.data.toList (k + 1) j)) ∧
      (wr.setCell ⟨w.heap.size, k, none⟩ (.int .u8 ((s[k].toNat : Int) - 32))).frozen? ⟨w.heap.size, j, none⟩ = false := by
  intro j hj
  refine ⟨?_, (World.frozen?_setCell _ _ _ _).trans (hc j hj).2⟩
  by_cases e : j = k
  · subst e
    rw [World.cell?_setCell_same _ _ _ hk]
    unfold upTo
    rw [if_pos (by omega), getD_list s j hj, upB_in h1 h2]
    congr 2; omega
  · rw [World.cell?_setCell_other _ _ _ _ (by first | (simp; done) | (simp; exact fun h => e h.symm)), (hc j hj).1]
    unfold upTo
    by_cases hjk : j < k
    · rw [if_pos hjk, if_pos (by omega)]
    · rw [if_neg hjk, if_neg (by omega)]
theorem UpC_not {s : ByteArray} {w wr : World} {k : Nat} (h : k < s.size) (hn : ¬ (97 ≤ s[k].toNat ∧ s[k].toNat ≤ 122))
    (hc : ∀ j, j < s.size → wr.cell? ⟨w.heap.size, j, none⟩ = some (.int .u8 (upTo s.data.toList k j)) ∧ wr.frozen? ⟨w.heap.size, j, none⟩ = false) :
    ∀ j, j < s.size → wr.cell? ⟨w.heap.size, j, none⟩ = some (.int .u8 (upTo s.data.toList (k + 1) j)) ∧ wr.frozen? ⟨w.heap.size, j, none⟩ = false := by
  intro j hj
  refine ⟨?_, (hc j hj).2⟩
  rw [(hc j hj).1]
  unfold upTo
  by_cases hjk : j < k
  · rw [if_pos hjk, if_pos (by omega)]
  · rw [if_neg hjk]
    by_cases e : j = k
    · subst e; rw [if_pos (by omega), getD_list s j hj, upB_not hn]
    · rw [if_neg (by omega)]
theorem up_conv (s : ByteArray) (w wr : World) (cap : Nat)
    (hc : ∀ j, j < s.size → wr.cell? ⟨w.heap.size, j, none⟩ = some (.int .u8 (upTo s.data.toList s.size j)) ∧ wr.frozen? ⟨w.heap.size, j, none⟩ = false) :
    (convert 72 9 (.slice (some ⟨w.heap.size, 0, none⟩) s.size cap)).run Tryd.prog wr = .ok (.string (strB (upS s.data.toList))) wr := by
  have hl : (upS s.data.toList).length = s.size := by rw [upS_len]; simp
  have := run_convert_bytes_back wr 72 9 5 ⟨w.heap.size, 0, none⟩ cap (upS s.data.toList) Tryd.underlying72 Tryd.underlying5 Tryd.underlying9 (fun j hj => by
    rw [Addr.add_lit, Nat.zero_add, (hc j (by omega)).1]
    unfold upTo
    rw [if_pos (by omega)]
    have hj' : j < s.data.toList.length := by rw [upS_len] at hj; exact hj
    rw [List.getD, List.getElem?_eq_getElem hj']
    simp [upS])
  rw [hl] at this
  exact this
set_option maxHeartbeats 2000000 in
set_option maxRecDepth 100000 in
theorem upper_any (s : ByteArray) (w : World) (hs : s.size ≤ 1000000000) :
    Calls Tryd.prog 24 #[.string s] w fun e w' => e = .returned (.string (strB (upS s.data.toList))) ∧ Below w.heap.size w w' := by
  have hcb := fun W : World => run_bytes_of_string (P := Tryd.prog) W 9 72 5 s Tryd.underlying9 Tryd.underlying72 Tryd.underlying5
  go_enter Tryd.func24, Tryd.ntmps24
  go_wp2
  have HCB := Lib.hid hcb
  clear hcb
  go_loopw [9] (fun i wr => UpC s w i wr) (fun i _ => s.size - (intOf i).toNat)
  case atStart => exact UpC0 s w _
  case round =>
    obtain ⟨k, rfl, hk, hc, hB⟩ := hrel
    have HC := Lib.hid hc
    clear hc
    have hsz := hB.size
    by_cases hlt : k < s.size
    · have hcell : wr.cell? ⟨w.heap.size, k, none⟩ = some (.int .u8 (s[k].toNat : Int)) := by rw [(HC.out k hlt).1, upTo_at hlt]
      have hfz := (HC.out k hlt).2
      by_cases h1 : 97 ≤ s[k].toNat
      · by_cases h2 : s[k].toNat ≤ 122
        · go_wp2
          go_roundw
          case rel => exact ⟨k + 1, by go_num, by omega, UpC_up hlt h1 h2 HC.out hcell, hB.setCell (p := ⟨w.heap.size, k, none⟩) (Nat.le_refl _) _⟩
          case measure => simp [intOf]; omega
        · go_wp2
          go_roundw
          case rel => exact ⟨k + 1, by go_num, by omega, UpC_not hlt (by omega) HC.out, hB⟩
          case measure => simp [intOf]; omega
      · go_wp2
        go_roundw
        case rel => exact ⟨k + 1, by go_num, by omega, UpC_not hlt (by omega) HC.out, hB⟩
        case measure => simp [intOf]; omega
    · obtain rfl : k = s.size := by omega
      have hcv := up_conv s w wr (grownCap w s.size 0 5) HC.out
      go_wp2
      go_ret
      exact ⟨rfl, hB⟩
end Go.Proofs.YtnjjjfbklgdgpaaDoor
