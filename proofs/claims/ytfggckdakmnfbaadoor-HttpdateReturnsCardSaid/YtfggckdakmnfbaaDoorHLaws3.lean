/- HttpdateReturns: the walk. -/
import Derived.Test.YtfggckdakmnfbaaDoorHLaws2
namespace Go.Proofs.YtfggckdakmnfbaaDoor.returns
open Go.RowKit

/-- The bytes of a string, in a new block. -/
theorem bytes_new (W : World) (s : ByteArray) : ∃ W1 cap, (convert 9 48 (.string s)).run Tryd.prog W = .ok (.slice (some ⟨W.heap.size, 0, none⟩) s.size cap) W1 ∧ Below W.heap.size W W1 ∧ W1.heap.size = W.heap.size + 1 ∧
    (∀ j, j < s.size → W1.cell? ⟨W.heap.size, j, none⟩ = some (.int .u8 ((s.data.toList.getD j 0).toNat : Int))) ∧ (∀ j, j < s.size → W1.frozen? ⟨W.heap.size, j, none⟩ = false) := by
  refine ⟨_, _, Lib.run_convert_string_bytes W 9 48 5 s Tryd.underlying9 Tryd.underlying48 Tryd.underlying5, Lib.bytesWorld_below _ _ _, Lib.bytesWorld_size _ _ _, fun j hj => Lib.bytesWorld_cell W 5 s j hj, fun j hj => ?_⟩
  have h := Lib.bytesWorld_at_new W 5 s
  have hz : j < (Lib.bytesCells W 5 s).size := by unfold Lib.bytesCells; simp; omega
  simp [World.frozen?, h]
  omega
/-- The string that a byte slice with one byte changed becomes. -/
theorem back (W : World) (B cap i : Nat) (t : List UInt8) (c : UInt8) (hi : i < t.length) (hc : ∀ j, j < t.length → W.cell? ⟨B, j, none⟩ = some (.int .u8 ((t.getD j 0).toNat : Int))) :
    (convert 48 9 (.slice (some ⟨B, 0, none⟩) t.length cap)).run Tryd.prog (W.setCell ⟨B, i, none⟩ (.int .u8 (c.toNat : Int))) = .ok (.string (strB (t.set i c))) (W.setCell ⟨B, i, none⟩ (.int .u8 (c.toNat : Int))) := by
  have h := run_convert_bytes_back (P := Tryd.prog) (W.setCell ⟨B, i, none⟩ (.int .u8 (c.toNat : Int))) 48 9 5 ⟨B, 0, none⟩ cap (t.set i c) Tryd.underlying48 Tryd.underlying5 Tryd.underlying9 (fun j hj => by
    have hj' : j < t.length := by simpa using hj
    have ea : (⟨B, 0, none⟩ : Addr).add j = ⟨B, j, none⟩ := by rw [Go.WideShapes.add_plain]; simp
    rw [ea]
    by_cases e : i = j
    · subst e
      rw [World.cell?_setCell_same (u := .int .u8 ((t.getD i 0).toNat : Int)) (h := hc i hi)]
      simp
    · rw [World.cell?_setCell_other (h := by intro h; injection h with h1 h2; exact e h2), hc j hj']
      simp [List.getElem_set, e, List.getD, hj'])
  rw [List.length_set] at h
  exact h
theorem clip_any (n : Int) (w : World) : Calls Tryd.prog 21 #[.int .i64 n, .int .i64 0, .int .i64 253402300799] w fun e w' => ∃ m : Nat, e = .returned (.int .i64 (m : Int)) ∧ m ≤ 253402300799 ∧ w = w' := by
  go_enter Tryd.func21, Tryd.ntmps21
  go_wp2
  go_ret
  exact ⟨(max 0 (min n 253402300799)).toNat, ret_int (by omega), by omega, rfl⟩
theorem set_get {t : List UInt8} {i : Nat} {c : UInt8} (hi : i < t.length) (h : t.set i c = t) : c = t.getD i 0 := by
  have e : (t.set i c).getD i 0 = t.getD i 0 := by rw [h]
  simpa [List.getD, hi] using e
theorem parse_yes (x : Nat) (t : List UInt8) (w : World) (hE : EnvP w) (hT : isT x t) :
    Calls Tryd.prog 19 #[.string (strB t)] w fun e w' => e = .returned (.tuple #[.int .i64 (x : Int), .nilIface]) ∧ Below w.heap.size w w' := by
  refine (parse_any (strB t) w hE (by rw [strB_size]; exact (isT_parts hT).1)).mono ?_
  rintro e w' ⟨hP, hB⟩
  rw [strB_list] at hP
  rcases hP with ⟨k, hk, rfl⟩ | ⟨hk, rfl⟩
  · obtain rfl := isT_inj hk hT
    exact ⟨rfl, hB⟩
  · exact absurd hT (hk x)
set_option maxHeartbeats 4000000 in
set_option maxRecDepth 100000 in
theorem walk (n : Int) (a c : Nat) (w : World) (hE : EnvP w) (ha : a ≤ 255) (hc : c ≤ 255) :
    Calls Tryd.prog 6 #[.int .i64 n, .int .u8 (a : Int), .int .u8 (c : Int)] w fun e w' => e = .returned (.bool true) ∧ Below w.heap.size w w' := by
  have HE := Lib.hid hE
  clear hE
  go_enter Tryd.func6, Tryd.ntmps6
  go_wp2_with fail
  refine (awakeH_any _ HE.out.env).mono ?_
  rintro e w1 ⟨rfl, hB⟩
  have HB := Lib.hid hB
  clear hB
  go_wp2_with fail
  refine (clip_any n _).mono ?_
  rintro e w' ⟨x, rfl, hx, rfl⟩
  obtain ⟨t, ht⟩ := isT_ex x hx
  have HT := Lib.hid ht
  have hlen := (isT_parts ht).1
  have HL := Lib.hid hlen
  have hz : (strB t).size = 29 := by rw [strB_size]; exact hlen
  clear ht hlen
  go_wp2_with fail
  refine (format_yes x t _ (HE.out.env.below HB.out) HT.out).mono ?_
  rintro e w2 ⟨rfl, hB2⟩
  have HB2 := Lib.hid (HB.out.trans (hB2.mono HB.out.size))
  clear hB2 HB
  go_wp2_with fail
  refine (parse_yes x t _ (HE.out.below HB2.out) HT.out).mono ?_
  rintro e w3 ⟨rfl, hB3⟩
  have HB3 := Lib.hid (HB2.out.trans (hB3.mono HB2.out.size))
  clear hB3 HB2
  obtain ⟨W1, cap, hcv, hBW, hsz, hcell, hfz⟩ := bytes_new w3 (strB t)
  rw [hz] at hcv hcell hfz
  rw [strB_list] at hcell
  obtain ⟨B, hBB⟩ : ∃ B, w3.heap.size = B := ⟨_, rfl⟩
  have hBw : w.heap.size ≤ B := by rw [← hBB]; exact HB3.out.size
  have HBW := Lib.hid (HB3.out.trans (hBW.mono HB3.out.size))
  rw [hBB] at hcv hcell hfz
  have hi : a % 29 < 29 := by omega
  obtain ⟨i, hia⟩ : ∃ i, a % 29 = i := ⟨_, rfl⟩
  rw [hia] at hi
  have him : (a : Int) % 29 = (i : Int) := by omega
  have c1 := hcell i hi
  have f1 := hfz i hi
  have HC := Lib.hid hcell
  obtain ⟨X, hX⟩ : ∃ X, (t.getD i 0).toNat = X := ⟨_, rfl⟩
  rw [hX] at c1
  have HX := Lib.hid hX
  have HBB := Lib.hid hBB
  have HBw := Lib.hid hBw
  clear hBW hsz hcell hfz hia hX hBB hBw
  by_cases he : X = c
  · have hd : ((X : Int) == (c : Int)) = true := by simp; omega
    clear he
    go_wp2_with fail
    go_ret
    exact ⟨rfl, HBW.out⟩
  · have hd : ((X : Int) == (c : Int)) = false := by simp; omega
    have hcc : (UInt8.ofNat c).toNat = c := by rw [UInt8.toNat_ofNat']; omega
    have hbk := back W1 B cap i t (UInt8.ofNat c) (by rw [HL.out]; exact hi) (fun j hj => HC.out j (by rw [← HL.out]; exact hj))
    rw [hcc, HL.out] at hbk
    have HN := Lib.hid (show t.set i (UInt8.ofNat c) ≠ t from fun h => by
      have e3 := congrArg UInt8.toNat (set_get (i := i) (c := UInt8.ofNat c) (by rw [HL.out]; exact hi) h)
      rw [hcc, HX.out] at e3
      exact he e3.symm)
    have HZ := Lib.hid (show (strB (t.set i (UInt8.ofNat c))).size = 29 by rw [strB_size, List.length_set]; exact HL.out)
    have HBS := Lib.hid (HBW.out.setCell (p := ⟨B, i, none⟩) HBw.out (.int .u8 (c : Int)))
    clear he hcc
    go_wp2_with fail
    refine (parse_any _ _ (HE.out.below HBS.out) HZ.out).mono ?_
    rintro e w4 ⟨hP, hB4⟩
    have HB4 := Lib.hid (HBS.out.trans (hB4.mono HBS.out.size))
    clear hB4 hbk
    rw [strB_list] at hP
    rcases hP with ⟨k, hk, rfl⟩ | ⟨_, rfl⟩
    · have HNE := Lib.hid (show ((k : Int) != (x : Int)) = true by
        have : k ≠ x := fun e => by subst e; exact HN.out (isT_uniq hk HT.out)
        simp; omega)
      clear hk
      go_wp2_with fail
      refine (isNil_any 2 (by decide) _).mono ?_
      rintro e w' ⟨rfl, rfl⟩
      go_wp2_with fail
      go_ret
      exact ⟨ret_bool HNE.out, HB4.out⟩
    · go_wp2_with fail
      refine (isErr_any 2 (by decide) _).mono ?_
      rintro e w' ⟨rfl, rfl⟩
      go_wp2_with fail
      go_ret
      exact ⟨rfl, HB4.out⟩
end Go.Proofs.YtfggckdakmnfbaaDoor.returns
