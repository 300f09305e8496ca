import Derived.Test.YtfmgfcddnnggeaaGreatDoorPa16
import Derived.Test.YtfmgfcddnnggeaaGreatDoorPa34
import Derived.Test.YtfmgfcddnnggeaaGreatDoorPa0
/- The statements' fixed request, in plain bytes. -/
namespace Go.Proofs.YtfmgfcddnnggeaaGreatDoor

def exLs : List (List UInt8) := [[104, 111, 115, 116, 58, 32, 97]]
def exFs : Fs := [([104, 111, 115, 116], [97])]
def exReq : List UInt8 := [71, 69, 84, 32, 47, 32, 72, 84, 84, 80, 47, 49, 46, 49, 13, 10, 104, 111, 115, 116, 58, 32, 97, 13, 10, 13, 10]
theorem exReq_enc : exReq = enc (startQ [71, 69, 84] [47] :: exLs) := by decide
theorem exReq_read (r : List UInt8) : readQ nmO vlO hostO lowS (exReq ++ r) = (0, ([71, 69, 84], [47], exFs), 27) := by
  rw [exReq_enc]
  have h1 : readFs nmO vlO exLs = (0, exFs) := by decide
  have h2 : hosted hostO lowS exFs = some exFs := by decide
  have := readQ_of (nm := nmO) (vl := vlO) (hs := hostO) (lw := lowS) (m := [71, 69, 84]) (t := [47]) (ls := exLs) (by decide) (by decide) h1 h2 (by intro x hx; rw [List.mem_singleton.1 hx]; exact ⟨by unfold Clean; decide, by decide⟩) (by decide) (by decide) r
  rw [this, show (enc (startQ [71, 69, 84] [47] :: exLs)).length = 27 by decide]
theorem exReq_hd (r : List UInt8) : hdR false (exReq ++ r) = (0, ⟨1, ([71, 69, 84], [47], exFs), noP, [], []⟩, 27) := by
  unfold hdR
  rw [if_neg (by simp), exReq_read]
def exHead : Ev := ⟨1, ([71, 69, 84], [47], exFs), noP, [], []⟩
def exEnd : Ev := ⟨3, noQ, noP, [], []⟩
/-- A request without a body, on a connection that has returned n heads. -/
def reqsAt (n : Nat) : Cn := ⟨false, [], n, [], 0, 0, none, false, 0⟩
theorem ex_frame (n : Nat) : frC (reqsAt n) exHead = (0, 1, 0) := by
  unfold frC
  rw [if_neg (by simp [reqsAt])]
  have h1 : lsF exHead.q.2.2 = [] := by decide
  have h2 : csF exHead.q.2.2 = [] := by decide
  rw [h1, h2]; exact ofO_none rfl rfl
theorem ex_head (n : Nat) (h : n < 64) : headC (reqsAt n) exHead = (reqsAt (n + 1), [exHead, exEnd]) := by
  unfold headC
  rw [if_neg (by simp [reqsAt]; omega), ex_frame, if_neg (by simp), if_neg (by simp [interB, reqsAt])]
  rfl
theorem ex_large (e : Ev) : headC (reqsAt 64) e = ({ reqsAt 64 with er := 5 }, []) := by
  unfold headC; rw [if_pos (show (reqsAt 64).hd = 64 from rfl)]; rfl
theorem ex_run (n : Nat) (h : n < 64) : runC (reqsAt n) exReq = (reqsAt (n + 1), [exHead, exEnd]) := by
  have h0 := exReq_hd []
  rw [List.append_nil] at h0
  have hs : (reqsAt n).st ++ exReq = exReq := rfl
  obtain ⟨_, _, h3⟩ := runC_head exReq (s := reqsAt n) ⟨rfl, rfl, by simp [reqsAt]⟩ (hdR_nil _) (by rw [hs]; show (hdR false exReq).1 = 0; rw [h0])
  rw [hs] at h3
  have e : (hdR (reqsAt n).rs exReq) = (0, exHead, 27) := h0
  rw [e] at h3
  have e2 : exReq.take (27 - (reqsAt n).st.length) = exReq := by show exReq.take 27 = exReq; decide
  rw [e2, ex_head n h] at h3
  exact h3
theorem ex_joined : joinE [exHead, exEnd] = [exHead, exEnd] := rfl
end Go.Proofs.YtfmgfcddnnggeaaGreatDoor

/- The statements' fixed call of layer 8: a request without a body is a Head and an End. -/
namespace Go.Proofs.YtfmgfcddnnggeaaGreatDoor
open Go.RowKit

set_option maxHeartbeats 4000000 in
set_option maxRecDepth 100000 in
theorem awake8_any (w : World) (hM : HasMax w) : Calls Tryz.prog 6 #[] w fun e w' => e = .returned (.bool true) ∧ Below w.heap.size w w' := by
  have HM := Lib.hid hM
  have kc := fun (w : World) (C : Array Value) (n c : Nat) => Lib.run_convert_bytes_const (P := Tryz.prog) w 30 5 C n c Tryz.underlying30 Tryz.underlying5
  have hr := ex_run 0 (by decide)
  have hq : ((strB [47]).toList == ([47] : List UInt8)) = true := by rw [ByteArray.toList_eq, strB_list]; rfl
  clear hM
  go_enter Tryz.func6, Tryz.ntmps6
  go_wp2_with fail
  refine (requests_any w).mono ?_
  rintro e w1 ⟨rfl, hC, hB⟩
  have HB := Lib.hid hB
  have W := Lib.hid (write_any (.slice (some ⟨w1.heap.size, 0, none⟩) 27 27) exReq (w1.alloc (.cells (Lib.byteCells exReq).toArray 5 (27, 28))) (hC.below (below_new _ _)) (show Cn.reqs.Ok from ok_reqs) (readsB_lit w1 exReq (27, 28) (by decide)) (fun _ k hk e => by simp [Value.ownBlock] at hk; have := (hC.lt.2.2 k e).2; omega) (show MaxB w.heap.size _ from (MaxB.of HM.out).to ((hB.trans (Below.mono (below_new _ _) hB.size)))) (by decide))
  clear hC hB
  go_wp2_with fail
  refine W.out.mono ?_
  intro en w2 hp
  obtain ⟨v, X', rfl, hX, hC2, hL, hO⟩ := hp.of (s' := reqsAt 1) hr ex_joined (ev := .nilIface) rfl
  have HB2 := Lib.hid ((HB.out.alloc HB.out.size (.cells (Lib.byteCells exReq).toArray 5 (27, 28))).trans (hO.to (B := w.heap.size) (fun k hk => by omega) (by have := HB.out.size; simp; omega)))
  obtain ⟨g, cap, rfl, hg, hc⟩ := hL.at (by simp)
  obtain ⟨q, p, d, t, c1, _⟩ := hc 0 exHead rfl
  obtain ⟨q2, p2, d2, t2, c2, _⟩ := hc 1 exEnd rfl
  have d0 : w2.cell? ⟨g, 0, none⟩ = some (.int .i64 1) := c1 0 _ rfl
  have d1 : w2.cell? ⟨g, 2, none⟩ = some (.string (strB [47])) := c1 2 _ rfl
  have d2' : w2.cell? ⟨g, 8, none⟩ = some (.int .i64 3) := c2 0 _ rfl
  clear hp hX hC2 hL hO hc c1 c2 W
  go_wp2_with fail
  go_ret
  exact ⟨rfl, HB2.out⟩
end Go.Proofs.YtfmgfcddnnggeaaGreatDoor

/- What Write and Close of no connection return. -/
namespace Go.Proofs.YtfmgfcddnnggeaaGreatDoor
open Go.RowKit

set_option maxHeartbeats 1000000 in
set_option maxRecDepth 100000 in
theorem writeNil_any (a : Option Addr) (n c : Nat) (w : World) :
    Calls Tryz.prog 8 #[.pointer none, .slice a n c] w fun e w' => e = .returned (.tuple #[.slice none 0 0, .iface 32 (.int .i64 3)]) ∧ w = w' := by
  go_enter Tryz.func8, Tryz.ntmps8
  go_wp2_with fail
  (try simp only [Exit.inBlock, Exit.then])
  refine bodyPost_ret (v := .tuple #[.slice none 0 0, .iface 32 (.int .i64 3)]) (by simp [results, Tryz.results8, go_sem]) rfl ?_
  exact ⟨rfl, rfl⟩
set_option maxHeartbeats 1000000 in
set_option maxRecDepth 100000 in
theorem closeNil_any (w : World) :
    Calls Tryz.prog 11 #[.pointer none] w fun e w' => e = .returned (.tuple #[.slice none 0 0, .iface 32 (.int .i64 3)]) ∧ w = w' := by
  go_enter Tryz.func11, Tryz.ntmps11
  go_wp2_with fail
  (try simp only [Exit.inBlock, Exit.then])
  refine bodyPost_ret (v := .tuple #[.slice none 0 0, .iface 32 (.int .i64 3)]) (by simp [results, Tryz.results11, go_sem]) rfl ?_
  exact ⟨rfl, rfl⟩
end Go.Proofs.YtfmgfcddnnggeaaGreatDoor
