/- What the code's Parse returns. -/
import Derived.Test.YtdcnoegnkopfdaaDoorRElem
import Derived.Test.YtdcnoegnkopfdaaDoorPartsLen
namespace Go.Proofs.YtdcnoegnkopfdaaDoor
open Go.RowKit

abbrev errN (c : Nat) : Value := .iface 41 (.int .i64 c)
theorem new_rg (w : World) (x y : Int) (T : TypeId) : ∀ j u, [Value.int .i64 x, Value.int .i64 y][j]? = some u → (w.alloc (.cells #[.int .i64 x, .int .i64 y] T)).cell? ((⟨w.heap.size, 0, none⟩ : Addr).add j) = some u := by
  intro j u hj
  rw [Addr.add_lit, Nat.zero_add]
  match j, hj with
  | 0, hj => rw [World.cell?_alloc_at _ _ _ _ rfl]; simpa using hj
  | 1, hj => rw [World.cell?_alloc_at _ _ _ _ rfl]; simpa using hj
  | j + 2, hj => simp at hj
theorem new_rg2 (w : World) (o : Obj) (x y : Int) (T : TypeId) : ∀ j u, [Value.int .i64 x, Value.int .i64 y][j]? = some u → ((w.alloc o).alloc (.cells #[.int .i64 x, .int .i64 y] T)).cell? ((⟨w.heap.size + 1, 0, none⟩ : Addr).add j) = some u := by
  have e : w.heap.size + 1 = (w.alloc o).heap.size := by simp
  rw [e]; exact new_rg (w.alloc o) x y T
theorem Tryd.infoR : (Tryd.prog.info? 46).map (fun i => (i.zero, i.size, i.bytes)) = some (some (.agg #[.int .i64 0, .int .i64 0]), 2, 16) := by kernel_rfl
def ParsePost (T : TypeId) (n : Int) (s : ByteArray) (w : World) (e : Ending) (w' : World) (er : Nat → Value) (ok : Value) : Prop :=
  Below w.heap.size w w' ∧
  match parseR s.data.toList n with
  | .err c => e = .returned (.tuple #[.slice none 0 0, er c])
  | .ok rs => ∃ v, e = .returned (.tuple #[v, ok]) ∧ OwnsI T w.heap.size w' v rs ∧ rs ≠ [] ∧ rs.length ≤ 8
theorem post_err {T : TypeId} {n : Int} {s : ByteArray} {w : World} {e : Ending} {w' : World} {er : Nat → Value} {ok : Value} {c : Nat} (hB : Below w.heap.size w w') (hR : parseR s.data.toList n = .err c)
    (he : e = .returned (.tuple #[.slice none 0 0, er c])) : ParsePost T n s w e w' er ok := ⟨hB, by rw [hR]; exact he⟩
theorem post_ok {T : TypeId} {n : Int} {s : ByteArray} {w : World} {e : Ending} {w' : World} {er : Nat → Value} {ok v : Value} {rs : List Rg} (hB : Below w.heap.size w w') (hR : parseR s.data.toList n = .ok rs)
    (he : e = .returned (.tuple #[v, ok])) (hO : OwnsI T w.heap.size w' v rs) (hne : rs ≠ []) (hl : rs.length ≤ 8) : ParsePost T n s w e w' er ok := ⟨hB, by rw [hR]; exact ⟨v, he, hO, hne, hl⟩⟩
theorem listO_len {s : ByteArray} {ls : List (List UInt8)} (w : World) {e : Ending} {w' : World} (h : ListPost s w e w') (hl : listO s.data.toList = some ls) :
    ∃ v, e = .returned (.tuple #[v, .nilIface]) ∧ OwnsS w.heap.size w' v ls ∧ ls.length ≤ 100002 ∧ Below w.heap.size w w' := by
  obtain ⟨hB, h⟩ := h
  rw [hl] at h
  obtain ⟨v, h1, h2, h3⟩ := h
  exact ⟨v, h1, h2, h3, hB⟩
theorem parseR_pre {l : List UInt8} (n : Int) (h : preB.isPrefixOf l = false) : parseR l n = .err 2 := by unfold parseR; rw [h]; rfl
theorem parseR_list {l : List UInt8} (n : Int) (h : preB.isPrefixOf l = true) (g : listO (l.drop 6) = none) : parseR l n = .err 2 := by unfold parseR; rw [h, if_pos rfl, g]
theorem parseR_nil {l : List UInt8} (n : Int) (h : preB.isPrefixOf l = true) (g : listO (l.drop 6) = some []) : parseR l n = .err 2 := by unfold parseR; rw [h, if_pos rfl, g]
theorem parseR_bad {l : List UInt8} (n : Int) {ls : List (List UInt8)} (h : preB.isPrefixOf l = true) (g : listO (l.drop 6) = some ls) (hb : elemsR (max n 0) ls = none) : parseR l n = .err 2 := by
  unfold parseR; rw [h, if_pos rfl, g]
  cases ls with
  | nil => rfl
  | cons x t => simp only; rw [hb]
theorem parseR_some {l : List UInt8} (n : Int) {ls : List (List UInt8)} {rs : List Rg} (h : preB.isPrefixOf l = true) (g : listO (l.drop 6) = some ls) (hne : ls ≠ []) (hb : elemsR (max n 0) ls = some rs) :
    parseR l n = if 8 < ls.length then .err 5 else if rs = [] then .err 1 else .ok rs := by
  unfold parseR; rw [h, if_pos rfl, g]
  cases ls with
  | nil => exact absurd rfl hne
  | cons x t => simp only; rw [hb]
theorem listO_in {l : List UInt8} {ls : List (List UInt8)} (h : listO l = some ls) : ∀ x ∈ ls, x.length ≤ l.length := by
  unfold listO at h
  cases hp : partsO 44 l with
  | none => rw [hp] at h; cases h
  | some ps =>
    rw [hp] at h
    simp only [Option.map_some, Option.some.injEq] at h
    subst h
    intro x hx
    exact partsO_len hp x (List.mem_filter.mp hx).1
theorem upTo_keep {n : Int} {ls : List (List UInt8)} {k : Nat} {rs : List Rg} {l : List UInt8} (h : upTo n ls k rs) (hl : ls[k]? = some l) {r : Rg} (hr : elemR l n = some r) (hc : (withinR r n).1 < (withinR r n).2) : upTo n ls (k + 1) (rs ++ [withinR r n]) := by
  have := upTo_one h hl hr; rwa [if_pos hc] at this
theorem upTo_drop {n : Int} {ls : List (List UInt8)} {k : Nat} {rs : List Rg} {l : List UInt8} (h : upTo n ls k rs) (hl : ls[k]? = some l) {r : Rg} (hr : elemR l n = some r) (hc : (withinR r n).2 ≤ (withinR r n).1) : upTo n ls (k + 1) rs := by
  have := upTo_one h hl hr; rwa [if_neg (by omega)] at this
def PRel (T : TypeId) (n : Int) (ls : List (List UInt8)) (w : World) (v i : Value) (wr : World) : Prop :=
  ∃ (k : Nat) (rs : List Rg), i = .int .i64 k ∧ k ≤ ls.length ∧ rs.length ≤ k ∧ upTo n ls k rs ∧ OwnsI T w.heap.size wr v rs ∧ Below w.heap.size w wr
theorem PRel0 (T : TypeId) (n : Int) (ls : List (List UInt8)) (w : World) : PRel T n ls w (.slice none 0 0) (.int .i64 0) w :=
  ⟨0, [], rfl, Nat.zero_le _, Nat.le_refl _, upTo0 _ _, OwnsI.nil _ _ _, Below.refl _ _⟩
set_option maxHeartbeats 8000000 in
set_option maxRecDepth 100000 in
theorem parse_any (s : ByteArray) (n : Int) (w : World) (hM : MaxIs w) (hs : s.size ≤ 100000) (hn1 : -9223372036854775808 ≤ n) (hn2 : n ≤ 9223372036854775807) :
    Calls Tryd.prog 11 #[.string s, .int .i64 n] w fun e w' => ParsePost 46 n s w e w' errN .nilIface := by
  obtain ⟨i0, hi, hz0, hz1, hz2⟩ := info_parts Tryd.infoR
  have hlen : s.data.toList.length = s.size := by simp
  cases hp : preB.isPrefixOf s.data.toList with
  | false =>
    have HC := Lib.hid (fun w => cutPre_any s ⟨#[98, 121, 116, 101, 115, 61]⟩ w hp)
    have HL := Lib.hid (fun w => list_any (strB s.data.toList) w (by rw [strB_size]; omega))
    have HR := Lib.hid (parseR_pre n hp)
    clear hp
    go_enter Tryd.func11, Tryd.ntmps11
    go_wp2_with (go_at_call 34; refine (HC.out _).mono ?_; rintro e w' ⟨rfl, rfl⟩)
    refine (HL.out _).mono ?_
    rintro e w1 ⟨hB, he⟩
    cases hl : listO (strB s.data.toList).data.toList with
    | none =>
      rw [hl] at he
      subst he
      go_wp2
      go_ret2
      exact post_err hB HR.out rfl
    | some ls =>
      rw [hl] at he
      obtain ⟨v, rfl, hv, _⟩ := he
      clear hv hl
      go_wp2
      go_ret2
      exact post_err hB HR.out rfl
  | true =>
    have HC := Lib.hid (fun w => cutPre_any s ⟨#[98, 121, 116, 101, 115, 61]⟩ w hp)
    have hdl : (strB (s.data.toList.drop 6)).data.toList = s.data.toList.drop 6 := strB_list _
    have HL := Lib.hid (fun w => list_any (strB (s.data.toList.drop 6)) w (by rw [strB_size, List.length_drop]; omega))
    go_enter Tryd.func11, Tryd.ntmps11
    go_wp2_with (go_at_call 34; refine (HC.out _).mono ?_; rintro e w' ⟨rfl, rfl⟩)
    refine (HL.out _).mono ?_
    rintro e w1 hpost
    cases hl : listO (strB (s.data.toList.drop 6)).data.toList with
    | none =>
      obtain ⟨hB, he⟩ := hpost
      rw [hl] at he
      rw [hdl] at hl
      have HR := Lib.hid (parseR_list n hp hl)
      subst he
      clear hl hp
      go_wp2
      go_ret2
      exact post_err hB HR.out rfl
    | some ls =>
      obtain ⟨v, rfl, hv, hle, hB⟩ := listO_len _ hpost hl
      rw [hdl] at hl
      by_cases hne : ls = []
      · subst hne
        have HR := Lib.hid (parseR_nil n hp hl)
        obtain ⟨ao, cap, rfl, _⟩ := hv.reads
        clear hl hp hpost
        go_wp2
        go_ret2
        exact post_err hB HR.out rfl
      · have hpos : 0 < ls.length := List.length_pos_iff.mpr hne
        rcases hv.open' with ⟨rfl, rfl⟩ | ⟨g, cap, rfl, hBg, hgs, hcells⟩
        · exact absurd rfl hne
        have HB := Lib.hid hB
        have HLI := Lib.hid (listO_in hl)
        have HPB := Lib.hid (fun (h : elemsR (max n 0) ls = none) => parseR_bad n hp hl h)
        have HPS := Lib.hid (fun (rs : List Rg) (h : elemsR (max n 0) ls = some rs) => parseR_some n hp hl hne h)
        have HM1 := Lib.hid (hM.below hB)
        have HCE := Lib.hid hcells
        have hBsz := hB.size
        obtain ⟨m, hm⟩ : ∃ m : Int, m = max n 0 := ⟨_, rfl⟩
        have hm0 : 0 ≤ m := by omega
        have hm1 : m ≤ 9223372036854775807 := by omega
        rw [← hm] at HPB HPS
        have HMX := Lib.hid hm
        have hmx : max n 0 = m := hm.symm
        have hl0 : ((ls.length : Int) == 0) = false := by simp; exact hne
        clear hB hl hp hpost hv hcells hne hdl HL HC hm hM
        go_wp2
        go_loopw [10, 41] (fun v i wr => PRel 46 m ls w1 v i wr) (fun _ i _ => ls.length - (intOf i).toNat)
        case atStart => exact PRel0 _ _ _ _
        case round =>
          obtain ⟨k, rs, rfl, hk, hrk, hu, hO, hBr⟩ := hrel
          have HU := Lib.hid hu
          have hbr := hBr.size
          have HBR := Lib.hid hBr
          clear hu hBr
          by_cases hlt : k < ls.length
          · obtain ⟨l, hl⟩ : ∃ l, ls[k]? = some l := ⟨ls[k], by simp [hlt]⟩
            have hcell : wr.cell? ⟨g, k, none⟩ = some (.string (strB l)) := (HBR.out.cell (p := ⟨g, k, none⟩) hgs).trans (HCE.out k l hl)
            have HL := Lib.hid hl
            clear hl
            have hll : (strB l).size ≤ 100000 := by
              have h1 := HLI.out l (List.mem_of_getElem? HL.out)
              rw [strB_size]; rw [List.length_drop] at h1; omega
            have HE := Lib.hid (fun (w : World) (h : MaxIs w) => parseElement_any (strB l) m w h hll hm0 hm1)
            clear hll
            go_wp2_with fail
            refine (HE.out _ (HM1.out.below HBR.out)).mono ?_
            rintro e w2 ⟨he, hB2⟩
            rw [strB_list] at he
            have hb2 := hB2.size
            cases hq : elemR l m with
            | none =>
              rw [hq] at he
              have HR := Lib.hid (HPB.out (upTo_bad HU.out HL.out hq))
              clear hq
              unfold rgO rgE at he
              subst he
              go_wp2
              go_ret2
              exact post_err (HB.out.trans (((HBR.out.trans (hB2.mono hbr)).alloc (by omega) _).mono hBsz)) HR.out rfl
            | some r =>
              rw [hq] at he
              have HQ := Lib.hid hq
              have hW := Lib.hid (fun (w : World) => within_any r m w)
              have hIE := Lib.hid (fun (a b : Int) (w : World) => (show Calls Tryd.prog 38 #[.agg #[.int .i64 a, .int .i64 b]] w fun e w' => e = .returned (.bool (decide (b ≤ a))) ∧ Below w.heap.size w w' from isEmpty_any (a, b) w))
              obtain ⟨x, y⟩ := r
              obtain ⟨x2, y2, hx2⟩ : ∃ x2 y2, withinR (x, y) m = (x2, y2) := ⟨_, _, rfl⟩
              have HX2 := Lib.hid hx2
              rw [hx2] at hW
              unfold rgO rgOk at he
              clear hq hx2
              subst he
              have HB2 := Lib.hid hB2
              clear hB2
              go_wp2_with fail
              refine (hW.out _).mono ?_
              rintro e w3 ⟨rfl, hB3⟩
              have hT := Lib.hid ((twoI_new w2 x y 46).below hB3)
              have hTS := Lib.hid (hT.out.set x2 y2)
              have hW3 := Lib.hid (below_two ((HB2.out.alloc hb2 _).trans (hB3.mono (by simp; omega))) (by omega : wr.heap.size ≤ w2.heap.size) (.int .i64 x2) (.int .i64 y2))
              obtain ⟨c0, c1, f0, f1, hN⟩ := hT.out
              have hb3 := hB3.size
              simp at hb3
              clear hB3
              go_wp2_with fail
              refine (hIE.out _ _ _).mono ?_
              rintro e w4 ⟨rfl, hB4⟩
              have HW4 := Lib.hid (hW3.out.trans (hB4.mono (by simp; omega)))
              have hb4 := hB4.size
              simp at hb4
              have hT4 := hTS.out.below hB4
              clear c0 c1 f0 f1 hN hB4
              obtain ⟨c0, c1, f0, f1, hN⟩ := hT4
              have hO4 := hO.below HW4.out
              have hfl := flatI_len rs
              by_cases hc : y2 ≤ x2
              · have HD := Lib.hid (upTo_drop HU.out HL.out HQ.out (by rw [HX2.out]; exact hc))
                have hd : decide (y2 ≤ x2) = true := decide_eq_true hc
                clear hc
                go_wp2
                go_roundw
                case rel =>
                  exact ⟨k + 1, rs, by go_num, by omega, by omega, HD.out, hO4, HBR.out.trans (HW4.out.mono hbr)⟩
                case measure => simp [intOf]; omega
              · have HD := Lib.hid (upTo_keep HU.out HL.out HQ.out (by rw [HX2.out]; show x2 < y2; omega))
                rw [HX2.out] at HD
                have hd : decide (y2 ≤ x2) = false := decide_eq_false hc
                clear hc
                go_wp2_with (at_builtin; go_must (refine wpList_append_own _ rfl _ _ 23 rfl w1.heap.size 46 i0 (.agg #[.int .i64 0, .int .i64 0]) 2 16 Tryd.underlying23 hi hz0 hz1 hz2 rfl (by decide) _ _ _ rfl (World.ownsRow.alloc hO4 _) ⟨w4.heap.size, 0, none⟩ 1 1 [.int .i64 x2, .int .i64 y2] rfl rfl (new_rg w4 x2 y2 _) (fun u hu => by simp at hu; rcases hu with rfl | rfl <;> rfl) (by unfold maxLen; omega) (by omega) (by simp; omega) ?_); intro v' w5 hown' hgrow _)
                go_roundw
                case rel => exact ⟨k + 1, rs ++ [(x2, y2)], by go_num, by omega, by simp; omega, HD.out, OwnsI.snoc hown', below_appendI HBR.out hbr HW4.out hO hgrow⟩
                case measure => simp [intOf]; omega
          · have hall := upTo_all HU.out (by omega)
            have HR := Lib.hid (HPS.out rs hall)
            clear hall
            by_cases h8 : 8 < ls.length
            · go_wp2
              go_ret2
              exact post_err (HB.out.trans (HBR.out.mono hBsz)) (by rw [HR.out, if_pos h8]) rfl
            · by_cases he : rs = []
              · subst he
                obtain ⟨ao, cap2, rfl, _⟩ := hO.reads
                go_wp2
                go_ret2
                exact post_err (HB.out.trans (HBR.out.mono hBsz)) (by rw [HR.out, if_neg h8]; rfl) rfl
              · have hpos2 : 0 < rs.length := List.length_pos_iff.mpr he
                have hO2 := hO
                obtain ⟨ao, cap2, rfl, _⟩ := hO.reads
                have HO := Lib.hid hO2
                have HE := Lib.hid he
                clear he hO hO2
                go_wp2
                go_ret2
                exact post_ok (HB.out.trans (HBR.out.mono hBsz)) (by rw [HR.out, if_neg h8, if_neg HE.out]) rfl (HO.out.mono hBsz) HE.out (by omega)
end Go.Proofs.YtdcnoegnkopfdaaDoor
