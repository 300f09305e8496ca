/- AddressSegments: for every path, name and value the statement's function returns true: the walk. -/
import Derived.Test.YtllkldbiagkbcaaDoorASegSpec
import Derived.Test.YtllkldbiagkbcaaDoorADots
import Derived.Deep.CutBlock
import Derived.Deep.DeepCutAuto
namespace Go.Proofs.YtllkldbiagkbcaaDoor.segments
open Go.RowKit

set_option maxHeartbeats 2000000 in
set_option maxRecDepth 100000 in
theorem walk (p n v : ByteArray) (w : World) (hE : Env w) (hp0 : p.size ≤ 140737488355328) (hn0 : n.size ≤ 140737488355328) (hv0 : v.size ≤ 140737488355328) :
    Calls Tryd.prog 7 #[.string p, .string n, .string v] w fun e w' => e = .returned (.bool true) ∧ Below w.heap.size w w' := by
  have HE := Lib.hid hE
  clear hE
  by_cases h1 : 1500 < p.size + n.size + v.size
  · go_enter Tryd.func7, Tryd.ntmps7
    go_wp2_with fail
    refine (awake_any _ HE.out).mono ?_
    rintro e w1 ⟨rfl, hB1⟩
    have HB1 := Lib.hid hB1
    clear hB1
    go_wp2_with fail
    refine (awake_any _ (HE.out.below HB1.out)).mono ?_
    rintro e w2 ⟨rfl, hB2⟩
    go_wp2_with fail
    go_ret
    exact ⟨rfl, HB1.out.trans (hB2.mono HB1.out.size)⟩
  · have hp : p.size ≤ 1500 := by omega
    have hn : n.size ≤ 1500 := by omega
    have hv : v.size ≤ 1500 := by omega
    go_enter Tryd.func7, Tryd.ntmps7
    go_wp2_with fail
    refine (awake_any _ HE.out).mono ?_
    rintro e w1 ⟨rfl, hB1⟩
    have HB1 := Lib.hid hB1
    clear hB1
    have hsl := segL_len p.data.toList
    have hsl2 : (segL p.data.toList).length ≤ 1501 := by
      have e : p.data.toList.length = p.size := by rw [Array.length_toList]; rfl
      rw [e] at hsl; omega
    have HPL := Lib.hid (fun l hl => Nat.le_trans (segL_part p l hl) (show p.size ≤ 100000 by omega))
    clear hsl
    go_upto_block 0 with fail
    go_cut [7] (fun u wx => ∃ k : Nat, u = .int .i64 k ∧ k ≤ p.size ∧ slashed (segL p.data.toList) = (p.extract k p.size).data.toList ∧ wx = w1)
    case first =>
      go_wp2_with fail
      go_loop [7] (fun i => ∃ k : Nat, k ≤ p.size ∧ i = .int .i64 k ∧ okTo noSl p k) (fun i => p.size - (intOf i).toNat)
      case atStart => exact ⟨0, by omega, rfl, okTo0 _ p⟩
      case round =>
        obtain ⟨k, hk, rfl, hn⟩ := hrel
        by_cases hlt : k < p.size
        · by_cases hc : p[k].toNat = 47
          · have HS := Lib.hid (scan_at hn hlt hc)
            have hc' : ((p[k].toNat : Int) != 47) = false := by rw [hc]; rfl
            clear hc
            go_wp2
            go_meet
            case rel => exact ⟨k, rfl, hk, HS.out, rfl⟩
          · have HN := Lib.hid (okTo_step (p := noSl) hlt hn (by unfold noSl; simp; intro e; exact hc (by rw [e]; rfl)))
            have hc' : ((p[k].toNat : Int) != 47) = true := by simp; omega
            clear hc
            go_wp2
            go_round
            case rel => exact ⟨k + 1, by omega, by go_num, HN.out⟩
            case measure => simp [intOf]; omega
        · have HS := Lib.hid (scan_none hn (by omega) hk)
          go_wp2
          go_meet
          case rel => exact ⟨k, rfl, hk, HS.out, rfl⟩
    case rest =>
      obtain ⟨k, rfl, hk, hS, rfl⟩ := hcut
      have HS := Lib.hid hS
      clear hS
      go_wp2_with fail
      refine (segments_any p _ (HE.out.below HB1.out) (by omega)).mono ?_
      rintro e w2 ⟨u, rfl, hu, hB2⟩
      have HB2 := Lib.hid (HB1.out.trans (hB2.mono HB1.out.size))
      obtain ⟨ao, cc, rfl, hcs⟩ := hu.reads
      have HCS := Lib.hid hcs
      clear hB2 hcs hu
      generalize hls : segL p.data.toList = ls at *
      clear hls
      go_wp2_with fail
      go_loopw [8, 48] (fun u i wx => ∃ (j : Nat) (tx : ByteArray), u = .string tx ∧ i = .int .i64 j ∧ j ≤ ls.length ∧ JoinTo ls j tx ∧ wx = w2) (fun _ i _ => ls.length - (intOf i).toNat)
      case atStart => exact ⟨0, _, rfl, rfl, Nat.zero_le _, joinTo0 ls, rfl⟩
      case round =>
        obtain ⟨j, tx, rfl, rfl, hj, hJ, rfl⟩ := hrel
        have htx := joinTo_size hJ HPL.out (by omega)
        by_cases hjt : j < ls.length
        · obtain ⟨l, hl⟩ : ∃ l, ls[j]? = some l := ⟨ls[j], by simp [hjt]⟩
          obtain ⟨g2, off, rfl, hg2, hc2⟩ := HCS.out j l hl
          have hlz : (strB l).size ≤ 100000 := by rw [strB_size]; exact HPL.out l (List.mem_of_getElem? hl)
          have HN := Lib.hid (joinTo_step hJ hl)
          clear hl hJ
          go_wp2
          go_roundw
          case rel => exact ⟨j + 1, _, rfl, by go_num, by omega, HN.out, by first | rfl | trivial⟩
          case measure => simp [intOf]; omega
        · obtain rfl : tx = p.extract k p.size := by
            rw [joinTo_end hJ (by omega), HS.out, strB_of]
          clear hJ htx
          go_wp2_with fail
          go_loop [66] (fun i => ∃ m : Nat, m ≤ n.size + v.size ∧ i = .int .i64 m ∧ okTo plainQ (n ++ v) m) (fun i => n.size + v.size - (intOf i).toNat)
          case atStart => exact ⟨0, by omega, rfl, okTo0 _ _⟩
          case round =>
            obtain ⟨m, hm, rfl, hM⟩ := hrel
            by_cases hmt0 : m < n.size + v.size
            · have hmt : m < (n ++ v).size := by rw [ByteArray.size_append]; exact hmt0
              by_cases h38 : (n ++ v)[m].toNat = 38
              · have hc' : (((n ++ v)[m].toNat : Int) == 38) = true := by rw [h38]; rfl
                clear h38
                go_wp2
                go_ret
                exact ⟨rfl, HB2.out⟩
              · have hc' : (((n ++ v)[m].toNat : Int) == 38) = false := by simp; omega
                by_cases h61 : (n ++ v)[m].toNat = 61
                · have hd' : (((n ++ v)[m].toNat : Int) == 61) = true := by rw [h61]; rfl
                  clear h61
                  go_wp2
                  go_ret
                  exact ⟨rfl, HB2.out⟩
                · have hd' : (((n ++ v)[m].toNat : Int) == 61) = false := by simp; omega
                  have HN := Lib.hid (okTo_step (p := plainQ) hmt hM (by unfold plainQ; simp; exact ⟨fun e => h38 (by rw [e]; rfl), fun e => h61 (by rw [e]; rfl)⟩))
                  clear h38 h61
                  go_wp2
                  go_round
                  case rel => exact ⟨m + 1, by omega, by go_num, HN.out⟩
                  case measure => simp [intOf]; omega
            · obtain ⟨hna, hva⟩ := all_app (okTo_end (by rw [ByteArray.size_append]; omega) hM)
              have HQ1 := Lib.hid (argO_law hna hva)
              have HQ2 := Lib.hid (argO_more hna hva)
              clear hna hva hM
              have HQB := Lib.hid (lawQ_bytes n v)
              have hQl : (lawQ n.data.toList v.data.toList).length ≤ 10000000 := by
                have e1 : n.data.toList.length = n.size := by rw [Array.length_toList]; rfl
                have e2 : v.data.toList.length = v.size := by rw [Array.length_toList]; rfl
                unfold lawQ
                simp only [List.length_append, List.length_cons, List.length_nil]
                omega
              go_upto_region 21 with fail
              rw [HQB.out]
              clear HQB
              generalize lawQ n.data.toList v.data.toList = Q at *
              have F0 : Four wr.heap.size (wr.alloc (.cells #[.string ⟨#[]⟩, .string ⟨#[]⟩, .string (strB Q), .bool true] 33)) (.string (strB [])) (.string (strB [])) (.string (strB Q)) (.bool true) := four_new wr (.string ⟨#[]⟩) (.string ⟨#[]⟩) (.string (strB Q)) (.bool true) 33
              have F1 := Lib.hid F0
              have HB3 := Lib.hid (HB2.out.alloc HB2.out.size (.cells #[.string ⟨#[]⟩, .string ⟨#[]⟩, .string (strB Q), .bool true] 33))
              clear F0
              generalize wr.alloc (.cells #[.string ⟨#[]⟩, .string ⟨#[]⟩, .string (strB Q), .bool true] 33) = w3 at *
              have HWN := Lib.hid HB2.out.size
              generalize wr.heap.size = N at *
              obtain ⟨vv, hvv⟩ : ∃ vv, vv = if n.data.toList = [97] then [49] else v.data.toList := ⟨_, rfl⟩
              rw [← hvv] at HQ1
              have HVV := Lib.hid hvv
              clear hvv
              have HA1 := Lib.hid (fun (w' : World) (h : Below w.heap.size w w') => show Calls Tryd.prog 23 #[adrV ⟨[], [], Q, true⟩, .string n] w' fun e w'' => e = .returned (.tuple #[.string (strB vv), .bool true]) ∧ Below w'.heap.size w' w'' by
                have := arg_any ⟨[], [], Q, true⟩ n w' (HE.out.below h) hQl (by omega)
                rw [argV_yes rfl HQ1.out] at this; exact this)
              have HA2 := Lib.hid (fun (w' : World) (h : Below w.heap.size w w') => show Calls Tryd.prog 23 #[adrV ⟨[], [], Q, true⟩, .string (n ++ ⟨#[61, 120]⟩)] w' fun e w'' => e = .returned (.tuple #[.string (strB []), .bool false]) ∧ Below w'.heap.size w' w'' by
                have := arg_any ⟨[], [], Q, true⟩ (n ++ ⟨#[61, 120]⟩) w' (HE.out.below h) hQl (by rw [ByteArray.size_append]; show n.size + 2 ≤ _; omega)
                have e : (n ++ ⟨#[61, 120]⟩ : ByteArray).data.toList = n.data.toList ++ [61, 120] := by simp
                rw [e, argV_no rfl HQ2.out] at this; exact this)
              have HA3 := Lib.hid (fun (w' : World) (h : Below w.heap.size w w') => show Calls Tryd.prog 23 #[adrV ⟨[], [], Q, false⟩, .string n] w' fun e w'' => e = .returned (.tuple #[.string (strB []), .bool false]) ∧ Below w'.heap.size w' w'' by
                have := arg_any ⟨[], [], Q, false⟩ n w' (HE.out.below h) hQl (by omega)
                rw [argV_off rfl] at this; exact this)
              clear hQl HQ1 HQ2
              go_upto_if 95 with fail
              go_cut [2] (fun u wx => u = .string (strB vv) ∧ wx = w3)
              case first =>
                by_cases ha : n.data.toList = [97]
                · have hq' : (n.toList == [97]) = true := by rw [ByteArray.toList_eq, ha]; rfl
                  have HR := Lib.hid (show (Value.string ⟨#[49]⟩ : Value) = .string (strB vv) by rw [HVV.out, if_pos ha]; rfl)
                  go_wp2
                  · go_meet
                    case rel => exact ⟨HR.out, rfl⟩
                  · have h : (n.toList == [97]) = false := by assumption
                    rw [hq'] at h; cases h
                · have hq' : (n.toList == [97]) = false := by rw [ByteArray.toList_eq]; simpa using ha
                  have HR := Lib.hid (show (Value.string v : Value) = .string (strB vv) by rw [HVV.out, if_neg ha, strB_of])
                  go_wp2
                  · have h : (n.toList == [97]) = true := by assumption
                    rw [hq'] at h; cases h
                  · go_meet
                    case rel => exact ⟨HR.out, rfl⟩
              case rest =>
                obtain ⟨rfl, rfl⟩ := hcut
                obtain ⟨c0, c1, c2, c3, _, _, _, _, _⟩ := F1.out
                go_upto_region 24 with (go_at_call 23; refine (HA1.out _ HB3.out).mono ?_; rintro e w4 ⟨rfl, hB4⟩)
                clear c0 c1 c2 c3
                have F2 := Lib.hid (F1.out.below hB4)
                have HB4 := Lib.hid (HB3.out.trans (hB4.mono HB3.out.size))
                clear hB4
                obtain ⟨c0, c1, c2, c3, _, _, _, _, _⟩ := F2.out
                go_upto_region 25 with (go_at_call 23; refine (HA2.out _ HB4.out).mono ?_; rintro e w5 ⟨rfl, hB5⟩)
                clear c0 c1 c2 c3
                have F3 := Lib.hid (F2.out.below hB5)
                have HB5 := Lib.hid (HB4.out.trans (hB5.mono HB4.out.size))
                clear hB5
                obtain ⟨c0, c1, c2, c3, f0, f1, f2, f3, hlt5⟩ := F3.out
                go_upto_region 26 with fail
                have F4 := Lib.hid (four_flag F3.out (.bool false))
                have HB6 := Lib.hid (HB5.out.setCell (p := ⟨N, 3, none⟩) HWN.out (.bool false))
                clear c0 c1 c2 c3 f0 f1 f2 f3 hlt5
                generalize w5.setCell ⟨N, 3, none⟩ (.bool false) = w6 at *
                obtain ⟨c0, c1, c2, c3, _, _, _, _, _⟩ := F4.out
                go_wp2_with (go_at_call 23; refine (HA3.out _ HB6.out).mono ?_; rintro e w7 ⟨rfl, hB7⟩)
                go_ret
                exact ⟨ret_bool (by simp), HB6.out.trans (hB7.mono HB6.out.size)⟩
end Go.Proofs.YtllkldbiagkbcaaDoor.segments
