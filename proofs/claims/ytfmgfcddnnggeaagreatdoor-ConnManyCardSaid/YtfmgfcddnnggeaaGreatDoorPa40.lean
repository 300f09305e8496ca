import Derived.Test.YtfmgfcddnnggeaaGreatDoorPa38
import Derived.Test.YtfmgfcddnnggeaaGreatDoorPa39
/- Pure: what the connections of ConnMany hold and make. -/
namespace Go.Proofs.YtfmgfcddnnggeaaGreatDoor

/-- m requests, one after the other, and their events. -/
def repL (m : Nat) : List UInt8 := (List.replicate m exReq).flatten
def repE (m : Nat) : List Ev := (List.replicate m [exHead, exEnd]).flatten
theorem repL_succ (m : Nat) : repL (m + 1) = exReq ++ repL m := by unfold repL; rw [List.replicate_succ, List.flatten_cons]
theorem repL_snoc (m : Nat) : repL (m + 1) = repL m ++ exReq := by unfold repL; rw [List.replicate_succ', List.flatten_append]; simp
theorem repL_add (a b : Nat) : repL (a + b) = repL a ++ repL b := by
  induction a with
  | zero => rw [Nat.zero_add]; rfl
  | succ a ih => rw [show a + 1 + b = (a + b) + 1 by omega, repL_succ, ih, repL_succ a, List.append_assoc]
theorem repL_len (m : Nat) : (repL m).length = 27 * m := by
  induction m with
  | zero => rfl
  | succ m ih => rw [repL_succ, List.length_append, ih, show exReq.length = 27 from rfl]; omega
theorem repE_len (m : Nat) : (repE m).length = 2 * m := by
  induction m with
  | zero => rfl
  | succ m ih =>
    have : repE (m + 1) = [exHead, exEnd] ++ repE m := by unfold repE; rw [List.replicate_succ, List.flatten_cons]
    rw [this, List.length_append, ih]; simp; omega
theorem repE_k (m : Nat) : ∀ e ∈ repE m, e.k ≠ 2 := by
  intro e he
  unfold repE at he
  obtain ⟨l, hl, he⟩ := List.mem_flatten.1 he
  obtain ⟨_, rfl⟩ := List.mem_replicate.1 hl
  rcases List.mem_cons.1 he with rfl | he
  · decide
  · rw [List.mem_singleton.1 he]; decide
theorem repE_join (m : Nat) : joinE (repE m) = repE m := fold_new (repE m) [] (repE_k m)
theorem rep_run : ∀ (m a : Nat), a + m ≤ 64 → runC (reqsAt a) (repL m) = (reqsAt (a + m), repE m) := by
  intro m
  induction m with
  | zero => intro a _; rfl
  | succ m ih =>
    intro a h
    rw [repL_succ, runC_app, ex_run a (by omega), ih (a + 1) (by omega), show a + 1 + m = a + (m + 1) by omega]
    have : repE (m + 1) = [exHead, exEnd] ++ repE m := by unfold repE; rw [List.replicate_succ, List.flatten_cons]
    rw [this]
theorem ex_over : runC (reqsAt 64) exReq = ({ reqsAt 64 with er := 5 }, []) := by
  have h0 := exReq_hd []
  rw [List.append_nil] at h0
  have hs : (reqsAt 64).st ++ exReq = exReq := rfl
  obtain ⟨_, _, h3⟩ := runC_head exReq (s := reqsAt 64) ⟨rfl, rfl, by simp [reqsAt]⟩ (hdR_nil _) (by rw [hs]; show (hdR false exReq).1 = 0; rw [h0])
  rw [hs] at h3
  have e : (hdR (reqsAt 64).rs exReq) = (0, exHead, 27) := h0
  rw [e] at h3
  have e2 : exReq.take (27 - (reqsAt 64).st.length) = exReq := by show exReq.take 27 = exReq; decide
  rw [e2, ex_large] at h3
  exact h3
theorem rep_over (m : Nat) : runC (reqsAt 0) (repL (64 + (m + 1))) = ({ reqsAt 64 with er := 5 }, repE 64) := by
  rw [repL_add, runC_app, rep_run 64 0 (by decide), repL_succ m, runC_app, show 0 + 64 = 64 from rfl, ex_over, runC_stop (by decide)]
  simp
/-- A connection of responses with r methods left, each of them empty, that has returned h heads. -/
def rsC (r h : Nat) : Cn := ⟨true, List.replicate r [], h, [], 0, 0, none, false, 0⟩
def t103 : List UInt8 := [72, 84, 84, 80, 47, 49, 46, 49, 32, 49, 48, 51, 32, 69, 97, 114, 108, 121, 13, 10, 13, 10]
def t204 : List UInt8 := [72, 84, 84, 80, 47, 49, 46, 49, 32, 50, 48, 52, 32, 78, 111, 32, 67, 111, 110, 116, 101, 110, 116, 13, 10, 13, 10]
def h103 : Ev := ⟨1, noQ, (103, []), [], []⟩
def h204 : Ev := ⟨1, noQ, (204, []), [], []⟩
theorem t103_hd : hdR true t103 = (0, h103, 22) := by
  have h : readP nmO vlO t103 = (0, (103, []), 22) := by decide +kernel
  unfold hdR; rw [if_pos rfl, h]; rfl
theorem t204_hd : hdR true t204 = (0, h204, 27) := by
  have h : readP nmO vlO t204 = (0, (204, []), 27) := by decide +kernel
  unfold hdR; rw [if_pos rfl, h]; rfl
theorem rs_at (r h : Nat) : atHead (rsC (r + 1) h) := ⟨rfl, rfl, by simp [rsC, List.replicate_succ]⟩
theorem rs_103 (r h : Nat) (hh : h < 64) : runC (rsC (r + 1) h) t103 = (rsC (r + 1) (h + 1), [h103]) := by
  obtain ⟨_, _, h3⟩ := runC_head t103 (s := rsC (r + 1) h) (rs_at r h) (hdR_nil _) (by show (hdR true t103).1 = 0; rw [t103_hd])
  have e : hdR (rsC (r + 1) h).rs ((rsC (r + 1) h).st ++ t103) = (0, h103, 22) := t103_hd
  rw [e] at h3
  have e2 : t103.take (22 - (rsC (r + 1) h).st.length) = t103 := by show t103.take 22 = t103; decide
  have hf : frC (rsC (r + 1) h) h103 = frC (rsC 1 0) h103 := rfl
  have hf2 : (frC (rsC 1 0) h103).1 = 0 := by decide +kernel
  rw [e2] at h3
  rw [h3]
  unfold headC
  rw [if_neg (by simp [rsC]; omega), if_neg (by rw [hf, hf2]; simp), if_pos (by rfl)]
  rfl
theorem rs_204 (r h : Nat) (hh : h < 64) : runC (rsC (r + 1) h) t204 = (rsC r (h + 1), [h204, exEnd]) := by
  obtain ⟨_, _, h3⟩ := runC_head t204 (s := rsC (r + 1) h) (rs_at r h) (hdR_nil _) (by show (hdR true t204).1 = 0; rw [t204_hd])
  have e : hdR (rsC (r + 1) h).rs ((rsC (r + 1) h).st ++ t204) = (0, h204, 27) := t204_hd
  rw [e] at h3
  have e2 : t204.take (27 - (rsC (r + 1) h).st.length) = t204 := by show t204.take 27 = t204; decide
  have hf : frC (rsC (r + 1) h) h204 = frC (rsC 1 0) h204 := rfl
  have hf2 : frC (rsC 1 0) h204 = (0, 1, 0) := by decide +kernel
  rw [e2] at h3
  rw [h3]
  unfold headC
  rw [if_neg (by simp [rsC]; omega), if_neg (by rw [hf, hf2]; simp), if_neg (by simp [interB, rsC, h204]), hf, hf2]
  rfl
theorem rs_both (r h : Nat) (hh : h + 1 < 64) : runC (rsC (r + 1) h) (t103 ++ t204) = (rsC r (h + 2), [h103, h204, exEnd]) := by
  rw [runC_app, rs_103 r h (by omega), rs_204 r (h + 1) (by omega)]; rfl
theorem rs_over (h : Nat) : runC (rsC 0 h) [72] = ({ rsC 0 h with er := 6 }, []) := by
  have hs : stepC (rsC 0 h) 72 = ({ rsC 0 h with er := 6 }, []) := by
    unfold stepC
    rw [if_neg (by simp [rsC]), if_neg (by simp [rsC]), if_pos (.inr ⟨rfl, rfl⟩)]
  rw [runC, hs]; rfl
theorem three_join : joinE [h103, h204, exEnd] = [h103, h204, exEnd] := rfl
theorem ok_rsC (r h : Nat) (hh : h ≤ 64) : (rsC r h).Ok :=
  ⟨fun _ _ => hdR_nil _, .inl rfl, fun h => (by cases h), by simp [rsC], fun h => (by cases h), fun _ => rfl, by simpa [rsC] using hh, fun _ => rfl, fun _ h => absurd rfl h, by simp [rsC], fun _ => rfl⟩
end Go.Proofs.YtfmgfcddnnggeaaGreatDoor

/- ConnMany: for every input the statement's function returns true: the walk. -/
namespace Go.Proofs.YtfmgfcddnnggeaaGreatDoor
open Go.RowKit

theorem mk_strs (q : Nat) (hq : q ≤ 4) (w : World) : ∃ w', (Instr.makeSlice 34 (.int .i64 (q : Int)) (.int .i64 (q : Int))).run Tryz.prog w = .ok (.slice (some ⟨w.heap.size, 0, none⟩) q q) w' ∧ OwnsS w.heap.size w' (.slice (some ⟨w.heap.size, 0, none⟩) q q) (List.replicate q []) ∧ Below w.heap.size w w' := by
  obtain ⟨i0, hi, hz0, hz1, hz2⟩ := info_parts Tryz.infoS
  obtain ⟨w', h1, h2, h3⟩ := run_makeSlice_full (P := Tryz.prog) w w.heap.size 34 9 i0 _ 1 Tryz.underlying34 hi hz0 hz1 .i64 .i64 q (by omega) (by rw [hz2]; omega) (by unfold maxLen; omega) (Nat.le_refl _)
  refine ⟨w', h1, ?_, (Below.refl _ w).grown h3 (Nat.le_refl _) (fun k hk => by cases hk)⟩
  unfold OwnsS
  rw [List.length_replicate]
  have e : (madeCells (Value.string ByteArray.empty).cells (q * 1)).toList = (List.replicate q ([] : List UInt8)).map strV := by
    rcases (show q = 0 ∨ q = 1 ∨ q = 2 ∨ q = 3 ∨ q = 4 by omega) with rfl | rfl | rfl | rfl | rfl <;> first | kernel_rfl | (simp [madeCells, Array.range, strV, strB])
  rw [← e]; exact h2
set_option maxHeartbeats 8000000 in
set_option maxRecDepth 100000 in
theorem cn_many_walk (n k : Nat) (w : World) (hM : HasMax w) (hn : n ≤ 255) (hk : k ≤ 255) :
    Calls Tryz.prog 3 #[.int .u8 n, .int .u8 k] w fun e w' => e = .returned (.bool true) ∧ Below w.heap.size w w' := by
  have HM := Lib.hid hM
  have hcb := fun (W : World) (s : ByteArray) => run_bytes_of_string (P := Tryz.prog) W 9 30 5 s Tryz.underlying9 Tryz.underlying30 Tryz.underlying5
  have kc := fun (w : World) (C : Array Value) (n c : Nat) => Lib.run_convert_bytes_const (P := Tryz.prog) w 30 5 C n c Tryz.underlying30 Tryz.underlying5
  obtain ⟨m, hm⟩ : ∃ m : Nat, 60 + (n : Int) % 10 = (m : Int) := ⟨60 + n % 10, by omega⟩
  have hm60 : 60 ≤ m ∧ m ≤ 69 := by omega
  have HMm := Lib.hid hm
  obtain ⟨q, hq⟩ : ∃ q : Nat, (k : Int) % 5 = (q : Int) := ⟨k % 5, by omega⟩
  have hq4 : q ≤ 4 := by omega
  have HQ := Lib.hid hq
  clear hM hm hq
  go_enter Tryz.func3, Tryz.ntmps3
  go_wp2_with fail
  refine (awake8_any w HM.out).mono ?_
  rintro e w1 ⟨rfl, hB⟩
  have HB := Lib.hid hB
  have HM1 := Lib.hid (HM.out.below hB)
  clear hB
  go_wp2_with fail
  rw [HMm.out]
  go_loopw [22, 7] (fun x22 x7 wr => ∃ (i : Nat) (t : ByteArray), x22 = .int .i64 i ∧ x7 = .string t ∧ i ≤ m ∧ Hid (t.data.toList = repL i) ∧ wr = w1) (fun x22 _ _ => m - (intOf x22).toNat)
  case atStart => exact ⟨0, ⟨#[]⟩, rfl, rfl, Nat.zero_le _, Lib.hid rfl, rfl⟩
  case round =>
    obtain ⟨i, t, rfl, rfl, him, HT, rfl⟩ := hrel
    have hts : t.size = 27 * i := by
      have : t.data.toList.length = t.size := by rw [Array.length_toList]; rfl
      rw [← this, HT.out, repL_len]
    by_cases hlt : i < m
    · have HT2 := Lib.hid (show (t ++ (⟨#[71, 69, 84, 32, 47, 32, 72, 84, 84, 80, 47, 49, 46, 49, 13, 10, 104, 111, 115, 116, 58, 32, 97, 13, 10, 13, 10]⟩ : ByteArray)).data.toList = repL (i + 1) by rw [repL_snoc, ← HT.out]; simp [exReq])
      go_wp2_with fail
      go_roundw
      case measure => simp [intOf]; omega
      case rel => exact ⟨i + 1, _, by go_num, rfl, by omega, HT2, by first | rfl | trivial⟩
    · obtain rfl : i = m := by omega
      have hts2 : t.size ≤ 3000 := by omega
      clear hts
      go_wp2_with fail
      refine (requests_any _).mono ?_
      rintro e w2 ⟨rfl, hC2, hB2⟩
      have HB2 := Lib.hid (HB.out.trans (hB2.mono HB.out.size))
      have HW := Lib.hid (write_str t t.size w2 w2.heap.size rfl rfl hC2 ok_reqs ((MaxB.of HM1.out).to hB2) (by omega))
      rw [HT.out] at HW
      clear hC2 hB2
      go_wp2_with fail
      refine HW.out.mono ?_
      intro en w3 hp
      by_cases h64 : i ≤ 64
      · have hlen := repE_len i
        obtain ⟨v3, X3, B3, rfl, hX3, hC3, hL3, hO3⟩ := hp.of (s' := reqsAt (0 + i)) (rep_run i 0 (by omega)) (repE_join i) (ev := .nilIface) rfl
        obtain ⟨va3, vc3, rfl⟩ := hL3.isSlice
        rw [hlen]
        have HB3 := Lib.hid (HB2.out.trans (hO3.to (B := w.heap.size) (fun i hi => by have := HB.out.size; omega) HB2.out.size))
        have HM3 := Lib.hid (HM.out.below HB3.out)
        clear hp hX3 hC3 hL3 hO3 HT hlen
        obtain ⟨w4, hmk0, hO4, hB4⟩ := mk_strs q hq4 w3
        have hmk : (Instr.makeSlice 34 (.int .i64 ((k : Int) % 5)) (.int .i64 ((k : Int) % 5))).run Tryz.prog w3 = .ok (.slice (some ⟨w3.heap.size, 0, none⟩) q q) w4 := by rw [HQ.out]; exact hmk0
        clear hmk0
        have HRe := Lib.hid (responses_any (.slice (some ⟨w3.heap.size, 0, none⟩) q q) (List.replicate q []) w4 hO4.reads (saneS hO4) (by simp; omega))
        have HB4 := Lib.hid (HB3.out.trans (hB4.mono HB3.out.size))
        have HM4 := Lib.hid (HM3.out.below hB4)
        clear hO4 hB4 HM3
        go_wp2_with fail
        rw [HQ.out]
        refine HRe.out.mono ?_
        rintro e w5 ⟨P, X, rfl, hC, hB⟩
        have HC5 := Lib.hid (show Con w4.heap.size P X (rsC (q - 0) (2 * 0)) w5 from hC)
        have HB5 := Lib.hid (HB4.out.trans (hB.mono HB4.out.size))
        have HX5 := Lib.hid (show ∀ i, X i → w.heap.size ≤ i from fun i hi => Nat.le_trans HB4.out.size (hC.lt.2.2 i hi).1)
        have HM5 := Lib.hid ((MaxB.of HM4.out).to hB)
        clear hC hB HRe HB3 HQ HMm hn hk hmk
        go_wp2_with fail
        go_loopw [12] (fun x12 wr => ∃ (a : Nat) (X' : Nat → Prop), x12 = .int .i64 a ∧ a ≤ q ∧ Hid (Con w4.heap.size P X' (rsC (q - a) (2 * a)) wr) ∧ Hid (∀ i, X' i → w.heap.size ≤ i) ∧ Hid (Below w.heap.size w wr) ∧ Hid (MaxB w4.heap.size wr)) (fun x12 _ => q - (intOf x12).toNat)
        case atStart => exact ⟨0, X, rfl, Nat.zero_le _, HC5, HX5, HB5, HM5⟩
        case round =>
          rename World => wr
          obtain ⟨a, X', rfl, haq, HC, HX, HB, HMx⟩ := hrel
          by_cases hlt : a < q
          · obtain ⟨r, hr⟩ : ∃ r, q - a = r + 1 := ⟨q - a - 1, by omega⟩
            have HW6 := Lib.hid (write_lit (t103 ++ t204) 49 wr rfl HC.out (ok_rsC _ _ (by omega)) HMx.out (by decide))
            rw [hr] at HW6
            have HR := Lib.hid hr
            clear hr
            go_wp2_with fail
            refine HW6.out.mono ?_
            intro en w6 hp
            obtain ⟨v6, X6, B6, rfl, hX6, hC6, hL6, hO6⟩ := hp.of (rs_both r (2 * a) (by omega)) three_join (ev := .nilIface) rfl
            obtain ⟨g6, c6, rfl, hg6, h6⟩ := hL6.at (by simp)
            obtain ⟨_, _, _, _, k0, _⟩ := h6 0 h103 rfl
            obtain ⟨_, _, _, _, k1, _⟩ := h6 1 h204 rfl
            obtain ⟨_, _, _, _, k2, _⟩ := h6 2 exEnd rfl
            have f0 : w6.cell? ⟨g6, 4, none⟩ = some (.int .i64 103) := k0 4 _ rfl
            have f1 : w6.cell? ⟨g6, 12, none⟩ = some (.int .i64 204) := k1 4 _ rfl
            have f2 : w6.cell? ⟨g6, 16, none⟩ = some (.int .i64 3) := k2 0 _ rfl
            have HC6 := Lib.hid (show Con w4.heap.size P X6 (rsC (q - (a + 1)) (2 * (a + 1))) w6 by rw [show q - (a + 1) = r by have := HR.out; omega]; exact hC6)
            have HX6 := Lib.hid (show ∀ i, X6 i → w.heap.size ≤ i from fun i hi => (hX6 i hi).elim (HX.out i) (fun b => Nat.le_trans HB.out.size b))
            have HB6 := Lib.hid (HB.out.trans (hO6.to HX.out HB.out.size))
            have HM6 := Lib.hid (HMx.out.to (hO6.to (fun i hi => (HC.out.lt.2.2 i hi).1) (by have := HC.out.lt.2.2 P HC.out.lt.2.1; omega)))
            clear hp hX6 hC6 hL6 hO6 h6 k0 k1 k2 HW6
            go_wp2_with fail
            go_roundw
            case measure => simp [intOf]; omega
            case rel => exact ⟨a + 1, X6, by go_num, by omega, HC6, HX6, HB6, HM6⟩
          · obtain rfl : a = q := by omega
            have HW6 := Lib.hid (write_lit [72] 1 wr rfl (show Con w4.heap.size P X' (rsC 0 (2 * a)) wr by have := HC.out; rw [Nat.sub_self] at this; exact this) (ok_rsC _ _ (by omega)) HMx.out (by decide))
            go_wp2_with fail
            refine HW6.out.mono ?_
            intro en w6 hp
            obtain ⟨v6, X6, B6, rfl, hX6, hC6, hL6, hO6⟩ := hp.of (rs_over (2 * a)) rfl (ev := .iface 32 (.int .i64 6)) rfl
            obtain ⟨va6, vc6, rfl⟩ := hL6.isSlice
            have HB6 := Lib.hid (HB.out.trans (hO6.to HX.out HB.out.size))
            clear hp hX6 hC6 hL6 hO6
            go_wp2_with fail
            refine (isErr_any 6 (by decide) _).mono ?_
            rintro e w' ⟨rfl, rfl⟩
            go_wp2_with fail
            go_ret
            exact ⟨rfl, HB6.out⟩
      · have hlen := repE_len 64
        obtain ⟨j, rfl⟩ : ∃ j, i = 64 + (j + 1) := ⟨i - 65, by omega⟩
        obtain ⟨v3, X3, B3, rfl, hX3, hC3, hL3, hO3⟩ := hp.of (rep_over j) (repE_join 64) (ev := .iface 32 (.int .i64 5)) rfl
        obtain ⟨va3, vc3, rfl⟩ := hL3.isSlice
        rw [hlen]
        have HB3 := Lib.hid (HB2.out.trans (hO3.to (B := w.heap.size) (fun i hi => by have := HB.out.size; omega) HB2.out.size))
        have HM3 := Lib.hid (HM.out.below HB3.out)
        clear hp hX3 hC3 hL3 hO3 HT hlen
        go_wp2_with fail
        refine (isErr_any 5 (by decide) _).mono ?_
        rintro e w' ⟨rfl, rfl⟩
        obtain ⟨w4, hmk0, hO4, hB4⟩ := mk_strs q hq4 w3
        have hmk : (Instr.makeSlice 34 (.int .i64 ((k : Int) % 5)) (.int .i64 ((k : Int) % 5))).run Tryz.prog w3 = .ok (.slice (some ⟨w3.heap.size, 0, none⟩) q q) w4 := by rw [HQ.out]; exact hmk0
        clear hmk0
        have HRe := Lib.hid (responses_any (.slice (some ⟨w3.heap.size, 0, none⟩) q q) (List.replicate q []) w4 hO4.reads (saneS hO4) (by simp; omega))
        have HB4 := Lib.hid (HB3.out.trans (hB4.mono HB3.out.size))
        have HM4 := Lib.hid (HM3.out.below hB4)
        clear hO4 hB4 HM3
        go_wp2_with fail
        rw [HQ.out]
        refine HRe.out.mono ?_
        rintro e w5 ⟨P, X, rfl, hC, hB⟩
        have HC5 := Lib.hid (show Con w4.heap.size P X (rsC (q - 0) (2 * 0)) w5 from hC)
        have HB5 := Lib.hid (HB4.out.trans (hB.mono HB4.out.size))
        have HX5 := Lib.hid (show ∀ i, X i → w.heap.size ≤ i from fun i hi => Nat.le_trans HB4.out.size (hC.lt.2.2 i hi).1)
        have HM5 := Lib.hid ((MaxB.of HM4.out).to hB)
        clear hC hB HRe HB3 HQ HMm hn hk hmk
        go_wp2_with fail
        go_loopw [12] (fun x12 wr => ∃ (a : Nat) (X' : Nat → Prop), x12 = .int .i64 a ∧ a ≤ q ∧ Hid (Con w4.heap.size P X' (rsC (q - a) (2 * a)) wr) ∧ Hid (∀ i, X' i → w.heap.size ≤ i) ∧ Hid (Below w.heap.size w wr) ∧ Hid (MaxB w4.heap.size wr)) (fun x12 _ => q - (intOf x12).toNat)
        case atStart => exact ⟨0, X, rfl, Nat.zero_le _, HC5, HX5, HB5, HM5⟩
        case round =>
          rename World => wr
          obtain ⟨a, X', rfl, haq, HC, HX, HB, HMx⟩ := hrel
          by_cases hlt : a < q
          · obtain ⟨r, hr⟩ : ∃ r, q - a = r + 1 := ⟨q - a - 1, by omega⟩
            have HW6 := Lib.hid (write_lit (t103 ++ t204) 49 wr rfl HC.out (ok_rsC _ _ (by omega)) HMx.out (by decide))
            rw [hr] at HW6
            have HR := Lib.hid hr
            clear hr
            go_wp2_with fail
            refine HW6.out.mono ?_
            intro en w6 hp
            obtain ⟨v6, X6, B6, rfl, hX6, hC6, hL6, hO6⟩ := hp.of (rs_both r (2 * a) (by omega)) three_join (ev := .nilIface) rfl
            obtain ⟨g6, c6, rfl, hg6, h6⟩ := hL6.at (by simp)
            obtain ⟨_, _, _, _, k0, _⟩ := h6 0 h103 rfl
            obtain ⟨_, _, _, _, k1, _⟩ := h6 1 h204 rfl
            obtain ⟨_, _, _, _, k2, _⟩ := h6 2 exEnd rfl
            have f0 : w6.cell? ⟨g6, 4, none⟩ = some (.int .i64 103) := k0 4 _ rfl
            have f1 : w6.cell? ⟨g6, 12, none⟩ = some (.int .i64 204) := k1 4 _ rfl
            have f2 : w6.cell? ⟨g6, 16, none⟩ = some (.int .i64 3) := k2 0 _ rfl
            have HC6 := Lib.hid (show Con w4.heap.size P X6 (rsC (q - (a + 1)) (2 * (a + 1))) w6 by rw [show q - (a + 1) = r by have := HR.out; omega]; exact hC6)
            have HX6 := Lib.hid (show ∀ i, X6 i → w.heap.size ≤ i from fun i hi => (hX6 i hi).elim (HX.out i) (fun b => Nat.le_trans HB.out.size b))
            have HB6 := Lib.hid (HB.out.trans (hO6.to HX.out HB.out.size))
            have HM6 := Lib.hid (HMx.out.to (hO6.to (fun i hi => (HC.out.lt.2.2 i hi).1) (by have := HC.out.lt.2.2 P HC.out.lt.2.1; omega)))
            clear hp hX6 hC6 hL6 hO6 h6 k0 k1 k2 HW6
            go_wp2_with fail
            go_roundw
            case measure => simp [intOf]; omega
            case rel => exact ⟨a + 1, X6, by go_num, by omega, HC6, HX6, HB6, HM6⟩
          · obtain rfl : a = q := by omega
            have HW6 := Lib.hid (write_lit [72] 1 wr rfl (show Con w4.heap.size P X' (rsC 0 (2 * a)) wr by have := HC.out; rw [Nat.sub_self] at this; exact this) (ok_rsC _ _ (by omega)) HMx.out (by decide))
            go_wp2_with fail
            refine HW6.out.mono ?_
            intro en w6 hp
            obtain ⟨v6, X6, B6, rfl, hX6, hC6, hL6, hO6⟩ := hp.of (rs_over (2 * a)) rfl (ev := .iface 32 (.int .i64 6)) rfl
            obtain ⟨va6, vc6, rfl⟩ := hL6.isSlice
            have HB6 := Lib.hid (HB.out.trans (hO6.to HX.out HB.out.size))
            clear hp hX6 hC6 hL6 hO6
            go_wp2_with fail
            refine (isErr_any 6 (by decide) _).mono ?_
            rintro e w' ⟨rfl, rfl⟩
            go_wp2_with fail
            go_ret
            exact ⟨rfl, HB6.out⟩
end Go.Proofs.YtfmgfcddnnggeaaGreatDoor
