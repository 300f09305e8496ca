/- The statements' fixed example: awake returns true. -/
import Derived.Test.YtboemdhmmdcmpaaDoorGWResp
import Derived.Lib.UnsafeStr
namespace Go.Proofs.YtboemdhmmdcmpaaDoor
open Go.RowKit

def exB : List UInt8 := [72, 84, 84, 80, 47, 49, 46, 49, 32, 50, 48, 52, 32, 78, 111, 32, 67, 111, 110, 116, 101, 110, 116, 13, 10, 13, 10]
theorem ex_write : wrP 204 [] = (0, exB) := by decide +kernel
theorem reads_none (w : World) : ReadsQ w (.slice none 0 0) [] := ⟨none, 0, rfl, fun j p h => by simp at h⟩
theorem conv_own (W : World) (g cap : Nat) (l : List UInt8) (hc : ∀ i (h : i < l.length), W.cell? ⟨g, i, none⟩ = some (.int .u8 ((l[i]'h).toNat : Int))) :
    (convert 27 9 (.slice (some ⟨g, 0, none⟩) l.length cap)).run Tryd.prog W = .ok (.string (strB l)) W :=
  run_convert_bytes_back W 27 9 5 ⟨g, 0, none⟩ cap l Tryd.underlying27 Tryd.underlying5 Tryd.underlying9 (fun j hj => by rw [Addr.add_lit, Nat.zero_add]; exact hc j hj)
set_option maxHeartbeats 1000000 in
set_option maxRecDepth 100000 in
theorem awake_any (w : World) (hT : HasTab w) : Calls Tryd.prog 8 #[] w fun e w' => e = .returned (.bool true) ∧ Below w.heap.size w w' := by
  have R := fun w hT => writeResponse_any 204 (.slice none 0 0) [] w (reads_none w) hT (by decide) (by intro p hp; cases hp)
  unfold RespPost at R
  rw [ex_write] at R
  have q : ((strB exB).toList == ([72, 84, 84, 80, 47, 49, 46, 49, 32, 50, 48, 52, 32, 78, 111, 32, 67, 111, 110, 116, 101, 110, 116, 13, 10, 13, 10] : List UInt8)) = true := by rw [ByteArray.toList_eq, strB_list]; rfl
  go_enter Tryd.func8, Tryd.ntmps8
  go_wp2_with fail
  refine (R _ hT).mono ?_
  rintro e w1 ⟨v, rfl, hO, hB⟩
  rw [show errV (0, exB).1 = .nilIface from rfl]
  rcases hO.isSlice with ⟨_, h⟩ | ⟨g, cap, rfl, _, _, _, hc⟩
  · cases h
  have hcv := conv_own w1 g cap exB hc
  clear hc
  go_wp2_with fail
  go_ret
  exact ⟨rfl, hB⟩
end Go.Proofs.YtboemdhmmdcmpaaDoor
