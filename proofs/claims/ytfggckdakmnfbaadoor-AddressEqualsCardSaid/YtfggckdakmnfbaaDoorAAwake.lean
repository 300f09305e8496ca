/- The statements' fixed example: awake returns true. What Ref, Of, Num and Is return. -/
import Derived.Test.YtfggckdakmnfbaaDoorAParse
import Derived.Test.YtfggckdakmnfbaaDoorNum
namespace Go.Proofs.YtfggckdakmnfbaaDoor
open Go.RowKit

set_option maxHeartbeats 2000000 in
set_option maxRecDepth 100000 in
theorem ref_any (a : Adr) (w : World) :
    Calls Tryd.prog 30 #[adrV a] w fun e w' => e = .returned (adrV a) ∧ Below w.heap.size w w' := by
  obtain ⟨h, p, q, b⟩ := a
  go_enter Tryd.func30, Tryd.ntmps30
  go_wp2_with fail
  exact bodyPost_ret (v := adrV ⟨h, p, q, b⟩) (by simp [results, Tryd.results30, go_sem]) rfl ⟨rfl, (below_new _ _).alloc (by simp) _⟩
def exH : ByteArray := ⟨#[65, 46, 69, 120, 97, 109, 112, 108, 101]⟩
def exT : ByteArray := ⟨#[47, 98, 47, 37, 55, 101, 99, 47, 46, 47, 100, 47, 46, 46, 47, 37, 50, 102, 63, 120, 61, 37, 51, 100, 38, 121]⟩
def exA : Adr := ⟨[97, 46, 101, 120, 97, 109, 112, 108, 101], [47, 98, 47, 126, 99, 47, 37, 50, 70], [120, 61, 37, 51, 68, 38, 121], true⟩
theorem ex_parse : parseA exH.data.toList exT.data.toList = (0, exA) := by decide +kernel
theorem ex_parseV : parseV exH.data.toList exT.data.toList = .tuple #[adrV exA, .nilIface] := by rw [parseV_of ex_parse]; rfl
set_option maxHeartbeats 4000000 in
set_option maxRecDepth 100000 in
theorem awake_any (w : World) (hE : Env w) : Calls Tryd.prog 11 #[] w fun e w' => e = .returned (.bool true) ∧ Below w.heap.size w w' := by
  have HE := Lib.hid hE
  clear hE
  go_enter Tryd.func11, Tryd.ntmps11
  go_wp2_with fail
  refine (parse_any exH exT _ HE.out (by decide) (by decide)).mono ?_
  rintro e w1 ⟨rfl, hB1⟩
  rw [ex_parseV]
  have hBB1 := Lib.hid hB1
  clear hB1
  go_wp2_with fail
  refine (ref_any exA _).mono ?_
  rintro e w2 ⟨rfl, hB2⟩
  have e1 : (strB exA.h).toList = [97, 46, 101, 120, 97, 109, 112, 108, 101] := by rw [ByteArray.toList_eq]; rfl
  have e2 : (strB exA.p).toList = [47, 98, 47, 126, 99, 47, 37, 50, 70] := by rw [ByteArray.toList_eq]; rfl
  have e3 : (strB exA.q).toList = [120, 61, 37, 51, 68, 38, 121] := by rw [ByteArray.toList_eq]; rfl
  have e4 : exA.b = true := rfl
  go_wp2_with fail
  go_ret
  exact ⟨rfl, (hBB1.out.alloc hBB1.out.size _).trans (hB2.mono (by have := hBB1.out.size; simp; omega))⟩
end Go.Proofs.YtfggckdakmnfbaaDoor
