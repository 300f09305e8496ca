/- Lower case; what the code's lower returns. -/
import Derived.Test.YthjkneifffdglaaDoorBase
namespace Go.Proofs.YthjkneifffdglaaDoor
open Go.RowKit

def lowB (c : UInt8) : UInt8 := if 65 ≤ c.toNat ∧ c.toNat ≤ 90 then c + 32 else c
def lowS (l : List UInt8) : List UInt8 := l.map lowB
theorem lowB_up {c : UInt8} (h1 : 65 ≤ c.toNat) (h2 : c.toNat ≤ 90) : (lowB c).toNat = c.toNat + 32 := by
  unfold lowB; rw [if_pos ⟨h1, h2⟩, UInt8.toNat_add]; simp; omega
theorem lowB_not {c : UInt8} (h : ¬ (65 ≤ c.toNat ∧ c.toNat ≤ 90)) : lowB c = c := by unfold lowB; rw [if_neg h]
theorem lowS_take (s : ByteArray) (k : Nat) (h : k < s.size) : lowS (s.data.toList.take (k + 1)) = lowS (s.data.toList.take k) ++ [lowB s[k]] := by
  rw [take_snoc s k h]; simp [lowS]
theorem lowS_len (l : List UInt8) : (lowS l).length = l.length := by simp [lowS]
theorem conv_one (z : Int) (c : UInt8) (hz : z = (c.toNat : Int)) (W : World) :
    (convert 55 9 (.slice (some ⟨W.heap.size, 0, none⟩) 1 1)).run Tryd.prog (W.alloc (.cells #[.int .u8 z] 5)) = .ok (.string ⟨#[c]⟩) (W.alloc (.cells #[.int .u8 z] 5)) :=
  run_convert_bytes_back _ _ _ 5 ⟨W.heap.size, 0, none⟩ 1 [c] Tryd.underlying55 Tryd.underlying5 Tryd.underlying9 (fun j hj => by
    have : j = 0 := by simp at hj; omega
    subst this
    subst hz
    simp [Addr.add])
/-- The bytes after k rounds: those before k in lower case. -/
def lowTo (l : List UInt8) (k j : Nat) : Int := if j < k then ((lowB (l.getD j 0)).toNat : Int) else ((l.getD j 0).toNat : Int)
def LowC (s : ByteArray) (w : World) (i : Value) (wr : World) : Prop :=
  ∃ k : Nat, i = .int .i64 k ∧ k ≤ s.size ∧ (∀ j, j < s.size → wr.cell? ⟨w.heap.size, j, none⟩ = some (.int .u8 (lowTo s.data.toList k j)) ∧ wr.frozen? ⟨w.heap.size, j, none⟩ = false) ∧ Below w.heap.size w wr
theorem getD_list (s : ByteArray) (j : Nat) (h : j < s.size) : s.data.toList.getD j 0 = s[j] := by
  have h' : j < s.data.toList.length := by simpa using h
  rw [List.getD, List.getElem?_eq_getElem h']; rfl
theorem lowTo_at {s : ByteArray} {k : Nat} (h : k < s.size) : lowTo s.data.toList k k = (s[k].toNat : Int) := by
  unfold lowTo; rw [if_neg (by omega), getD_list s k h]
theorem row_at (s : ByteArray) (cap j : Nat) (h : j < s.size) : (bytesRow s cap)[j]? = some (.int .u8 (s[j].toNat : Int)) := by
  have h' : j < s.data.size := h
  unfold bytesRow
  rw [Array.getElem?_append_left (by simpa using h')]
  rw [Array.getElem?_map, Array.getElem?_eq_getElem h']; rfl
theorem LowC0 (s : ByteArray) (w : World) (cap : Nat) : LowC s w (.int .i64 0) (w.alloc (.cells (bytesRow s cap) 5 ((bytesRow s cap).size, (bytesRow s cap).size + 1))).drew := by
  refine ⟨0, rfl, Nat.zero_le _, fun j hj => ⟨?_, ?_⟩, ((Below.refl _ _).alloc (Nat.le_refl _) _).drew⟩
  · show (w.alloc _).cell? _ = _
    rw [World.cell?_alloc_mark, row_at s cap j hj]
    unfold lowTo; rw [if_neg (by omega), getD_list s j hj]
  · have hz : s.size ≤ (bytesRow s cap).size := by unfold bytesRow; simp
    have e : (w.alloc (.cells (bytesRow s cap) 5 ((bytesRow s cap).size, (bytesRow s cap).size + 1))).drew.heap[w.heap.size]? = some (.cells (bytesRow s cap) 5 ((bytesRow s cap).size, (bytesRow s cap).size + 1)) := by
      show (w.heap.push _)[w.heap.size]? = _
      simp
    unfold World.frozen?
    rw [e]
    simp
    omega
theorem LowC_up {s : ByteArray} {w wr : World} {k : Nat} (h : k < s.size) (h1 : 65 ≤ s[k].toNat) (h2 : s[k].toNat ≤ 90)
    (hc : ∀ j, j < s.size → wr.cell? ⟨w.heap.size, j, none⟩ = some (.int .u8 (lowTo s.data.toList k j)) ∧ wr.frozen? ⟨w.heap.size, j, none⟩ = false)
    (hk : wr.cell? ⟨w.heap.size, k, none⟩ = some (.int .u8 (s[k].toNat : Int))) :
    ∀ j, j < s.size → (wr.setCell ⟨w.heap.size, k, none⟩ (.int .u8 ((s[k].toNat : Int) - 65 + 97))).cell? ⟨w.heap.size, j, none⟩ = some (.int .u8 (lowTo s.data.toList (k + 1) j)) ∧
      (wr.setCell ⟨w.heap.size, k, none⟩ (.int .u8 ((s[k].toNat : Int) - 65 + 97))).frozen? ⟨w.heap.size, j, none⟩ = false := by
  intro j hj
  refine ⟨?_, (World.frozen?_setCell _ _ _ _).trans (hc j hj).2⟩
  by_cases e : j = k
  · subst e
    rw [World.cell?_setCell_same _ _ _ hk]
    unfold lowTo
    rw [if_pos (by omega), getD_list s j hj, lowB_up h1 h2]
    congr 2; omega
  · rw [World.cell?_setCell_other _ _ _ _ (by first | (simp; done) | (simp; exact fun h => e h.symm)), (hc j hj).1]
    unfold lowTo
    by_cases hjk : j < k
    · rw [if_pos hjk, if_pos (by omega)]
    · rw [if_neg hjk, if_neg (by omega)]
theorem LowC_not {s : ByteArray} {w wr : World} {k : Nat} (h : k < s.size) (hn : ¬ (65 ≤ s[k].toNat ∧ s[k].toNat ≤ 90))
    (hc : ∀ j, j < s.size → wr.cell? ⟨w.heap.size, j, none⟩ = some (.int .u8 (lowTo s.data.toList k j)) ∧ wr.frozen? ⟨w.heap.size, j, none⟩ = false) :
    ∀ j, j < s.size → wr.cell? ⟨w.heap.size, j, none⟩ = some (.int .u8 (lowTo s.data.toList (k + 1) j)) ∧ wr.frozen? ⟨w.heap.size, j, none⟩ = false := by
  intro j hj
  refine ⟨?_, (hc j hj).2⟩
  rw [(hc j hj).1]
  unfold lowTo
  by_cases hjk : j < k
  · rw [if_pos hjk, if_pos (by omega)]
  · rw [if_neg hjk]
    by_cases e : j = k
    · subst e; rw [if_pos (by omega), getD_list s j hj, lowB_not hn]
    · rw [if_neg (by omega)]
theorem low_conv (s : ByteArray) (w wr : World) (cap : Nat)
    (hc : ∀ j, j < s.size → wr.cell? ⟨w.heap.size, j, none⟩ = some (.int .u8 (lowTo s.data.toList s.size j)) ∧ wr.frozen? ⟨w.heap.size, j, none⟩ = false) :
    (convert 55 9 (.slice (some ⟨w.heap.size, 0, none⟩) s.size cap)).run Tryd.prog wr = .ok (.string (strB (lowS s.data.toList))) wr := by
  have hl : (lowS s.data.toList).length = s.size := by rw [lowS_len]; simp
  have := run_convert_bytes_back wr 55 9 5 ⟨w.heap.size, 0, none⟩ cap (lowS s.data.toList) Tryd.underlying55 Tryd.underlying5 Tryd.underlying9 (fun j hj => by
    rw [Addr.add_lit, Nat.zero_add, (hc j (by omega)).1]
    unfold lowTo
    rw [if_pos (by omega)]
    have hj' : j < s.data.toList.length := by rw [lowS_len] at hj; exact hj
    rw [List.getD, List.getElem?_eq_getElem hj']
    simp [lowS])
  rw [hl] at this
  exact this
set_option maxHeartbeats 2000000 in
set_option maxRecDepth 100000 in
theorem lower_any (s : ByteArray) (w : World) (hs : s.size ≤ 1000000000) :
    Calls Tryd.prog 41 #[.string s] w fun e w' => e = .returned (.string (strB (lowS s.data.toList))) ∧ Below w.heap.size w w' := by
  have hcb := fun W : World => run_bytes_of_string (P := Tryd.prog) W 9 55 5 s Tryd.underlying9 Tryd.underlying55 Tryd.underlying5
  go_enter Tryd.func41, Tryd.ntmps41
  go_wp2
  have HCB := Lib.hid hcb
  clear hcb
  go_loopw [10] (fun i wr => LowC s w i wr) (fun i _ => s.size - (intOf i).toNat)
  case atStart => exact LowC0 s w _
  case round =>
    obtain ⟨k, rfl, hk, hc, hB⟩ := hrel
    have HC := Lib.hid hc
    clear hc
    have hsz := hB.size
    by_cases hlt : k < s.size
    · have hcell : wr.cell? ⟨w.heap.size, k, none⟩ = some (.int .u8 (s[k].toNat : Int)) := by rw [(HC.out k hlt).1, lowTo_at hlt]
      have hfz := (HC.out k hlt).2
      by_cases h1 : 65 ≤ s[k].toNat
      · by_cases h2 : s[k].toNat ≤ 90
        · go_wp2
          go_roundw
          case rel => exact ⟨k + 1, by go_num, by omega, LowC_up hlt h1 h2 HC.out hcell, hB.setCell (p := ⟨w.heap.size, k, none⟩) (Nat.le_refl _) _⟩
          case measure => simp [intOf]; omega
        · go_wp2
          go_roundw
          case rel => exact ⟨k + 1, by go_num, by omega, LowC_not hlt (by omega) HC.out, hB⟩
          case measure => simp [intOf]; omega
      · go_wp2
        go_roundw
        case rel => exact ⟨k + 1, by go_num, by omega, LowC_not hlt (by omega) HC.out, hB⟩
        case measure => simp [intOf]; omega
    · obtain rfl : k = s.size := by omega
      have hcv := low_conv s w wr (grownCap w s.size 0 5) HC.out
      go_wp2
      go_ret
      exact ⟨rfl, hB⟩
end Go.Proofs.YthjkneifffdglaaDoor
