import Derived.Test.YtoiampkdmjpljaaGreatDoorPa12
import Derived.Test.YtoiampkdmjpljaaGreatDoorPa9
import Derived.Test.YtoiampkdmjpljaaGreatDoorPa11
import Derived.BigFrame
import Derived.Test.YtoiampkdmjpljaaGreatDoorPa36
import Derived.Test.YtoiampkdmjpljaaGreatDoorPa32
/- What hopNames and the code's Strip return, for every list of fields. -/
namespace Go.Proofs.YtoiampkdmjpljaaGreatDoor
open Go.RowKit

set_option maxHeartbeats 2000000 in
set_option maxRecDepth 100000 in
theorem hopNames_any (w : World) : Calls Tryz.prog 92 #[] w fun e w' => e = .returned (.map (some w.heap.size)) ∧ HasL w' w.heap.size 9 hopL ∧ Below w.heap.size w w' := by
  have hmm := @run_makeMap Tryz.prog
  have h0 : HasL (w.alloc (.map #[] 0)) w.heap.size 0 [] := ⟨[], HasNames.made w, fun x => Iff.rfl⟩
  have hB : Below w.heap.size w (w.alloc (.map #[] 0)) := below_new w _
  have key : ∀ (n : Nat) (L : List (List UInt8)) (w1 : World) (x : List UInt8), HasL w1 w.heap.size n L → Below w.heap.size w w1 → x.length ≤ 1000 → n ≤ 1000 →
      ∃ w', (Instr.mapUpdate 72 (.map (some w.heap.size)) (.string (strB x)) (.bool true)).run Tryz.prog w1 = .ok () w' ∧ HasL w' w.heap.size (n + 1) (L ++ [x]) ∧ Below w.heap.size w w' := by
    intro n L w1 x h hb hx hn
    obtain ⟨w', hrun, h', hg⟩ := h.put x (by unfold maxLen; omega) (by unfold maxLen; omega)
    exact ⟨w', hrun, h', hb.grown hg hb.size (fun k hk => by cases hk; exact Nat.le_refl _)⟩
  obtain ⟨w1, r1, h1, b1⟩ := key _ _ _ [99, 111, 110, 110, 101, 99, 116, 105, 111, 110] h0 hB (by decide) (by decide)
  obtain ⟨w2, r2, h2, b2⟩ := key _ _ _ [107, 101, 101, 112, 45, 97, 108, 105, 118, 101] h1 b1 (by decide) (by decide)
  obtain ⟨w3, r3, h3, b3⟩ := key _ _ _ [112, 114, 111, 120, 121, 45, 99, 111, 110, 110, 101, 99, 116, 105, 111, 110] h2 b2 (by decide) (by decide)
  obtain ⟨w4, r4, h4, b4⟩ := key _ _ _ [112, 114, 111, 120, 121, 45, 97, 117, 116, 104, 101, 110, 116, 105, 99, 97, 116, 101] h3 b3 (by decide) (by decide)
  obtain ⟨w5, r5, h5, b5⟩ := key _ _ _ [112, 114, 111, 120, 121, 45, 97, 117, 116, 104, 111, 114, 105, 122, 97, 116, 105, 111, 110] h4 b4 (by decide) (by decide)
  obtain ⟨w6, r6, h6, b6⟩ := key _ _ _ [116, 101] h5 b5 (by decide) (by decide)
  obtain ⟨w7, r7, h7, b7⟩ := key _ _ _ [116, 114, 97, 105, 108, 101, 114] h6 b6 (by decide) (by decide)
  obtain ⟨w8, r8, h8, b8⟩ := key _ _ _ [116, 114, 97, 110, 115, 102, 101, 114, 45, 101, 110, 99, 111, 100, 105, 110, 103] h7 b7 (by decide) (by decide)
  obtain ⟨w9, r9, h9, b9⟩ := key _ _ _ [117, 112, 103, 114, 97, 100, 101] h8 b8 (by decide) (by decide)
  have H9 := Lib.hid h9
  have B9 := Lib.hid b9
  clear h0 hB key h1 b1 h2 b2 h3 b3 h4 b4 h5 b5 h6 b6 h7 b7 h8 b8 h9 b9
  unfold strB at r1 r2 r3 r4 r5 r6 r7 r8 r9
  go_enter Tryz.func92, Tryz.ntmps92
  go_wp2
  go_ret
  exact ⟨rfl, H9.out, B9.out⟩

def StrL (vs : List (List UInt8)) (k j : Nat) (ls : List (List UInt8)) : List (List UInt8) := hopL ++ ((vs.take k).flatMap elemsO ++ ls.take j).map lowS
theorem StrL_put {vs ls : List (List UInt8)} {k j : Nat} {l : List UInt8} (h : ls[j]? = some l) : StrL vs k (j + 1) ls = StrL vs k j ls ++ [lowS l] := by
  unfold StrL; rw [take_more h]; simp
theorem StrL_next {vs : List (List UInt8)} {k j : Nat} {v : List UInt8} (h : vs[k]? = some v) (hj : (elemsO v).length ≤ j) (ls : List (List UInt8)) : StrL vs k j (elemsO v) = StrL vs (k + 1) 0 ls := by
  unfold StrL; rw [flat_take h, List.take_of_length_le hj]; simp
theorem list_k (s : ByteArray) (w : World) (hs : s.size ≤ 100000) :
    Calls Tryz.prog 77 #[.string s] w fun e w' => ∃ u ev, e = .returned (.tuple #[u, ev]) ∧ OwnsS w.heap.size w' u (elemsO s.data.toList) ∧ (elemsO s.data.toList).length ≤ 100002 ∧ Below w.heap.size w w' := by
  refine (list_any s w hs).mono ?_
  rintro e w' ⟨hB, he⟩
  unfold elemsO
  cases hl : listO s.data.toList with
  | none => rw [hl] at he; exact ⟨_, _, he, World.ownsRow_nil _ _ _ _, by simp, hB⟩
  | some ls =>
    rw [hl] at he
    obtain ⟨u, he, hu, hle⟩ := he
    exact ⟨u, _, he, hu, hle, hB⟩

set_option maxHeartbeats 4000000 in
set_option maxRecDepth 100000 in
theorem strip_any (fv : Value) (ps : Flds) (w : World) (hr : ReadsQ w fv ps) (hl : ps.length ≤ 3000) (hb : ∀ p ∈ ps, p.1.length + p.2.length ≤ 6000) :
    Calls Tryz.prog 66 #[fv] w fun e w' => ∃ v, e = .returned v ∧ OwnsP 58 w.heap.size w' v (stripL ps) ∧ Below w.heap.size w w' := by
  have hb6 : ∀ p ∈ ps, p.1.length + p.2.length ≤ 1000000 := fun p hp => by have := hb p hp; omega
  have HA := fun w hr => all_any fv ps (strB connN) w hr (by decide) (by omega) hb6
  rw [strB_list] at HA
  have hvl := all_len ps connN
  have hvs : ∀ v ∈ allL ps connN, v.length ≤ 6000 := by
    intro v hv
    unfold allL at hv
    obtain ⟨p, hp, rfl⟩ := List.mem_map.mp hv
    have := hb p (List.mem_filter.mp hp).1
    omega
  have HW := fun b n L w hr hN => without_l fv ps b n L w hr (by omega) hb6 hN
  have hfin : (ps.filter fun p => !decide (lowS p.1 ∈ StrL (allL ps connN) (allL ps connN).length 0 [])) = stripL ps := by
    unfold stripL StrL dropL elemsL
    rw [List.take_length, List.take_nil, List.append_nil, List.map_append, hop_low]
  generalize allL ps connN = vs at HA hvl hvs hfin
  have HR := Lib.hid hr
  have HAh := Lib.hid HA
  have HVs := Lib.hid hvs
  have HWh := Lib.hid HW
  have HFin := Lib.hid hfin
  obtain ⟨ao, cap, rfl, hc⟩ := hr
  clear hc hb hb6 HA hvs HW hfin
  go_enter Tryz.func66, Tryz.ntmps66
  go_wp2_with fail
  refine (hopNames_any _).mono ?_
  rintro e w1 ⟨rfl, hH1, hB1⟩
  have hz1 := hB1.size
  have hbl : w.heap.size < w1.heap.size := by obtain ⟨ks, h, _⟩ := hH1; exact h.lt
  go_wp2_with fail
  refine (HAh.out _ (HR.out.below hB1)).mono ?_
  rintro e w2 ⟨va, rfl, hO, hB2⟩
  have hH2 := hH1.below hB2
  have hB2' := hB1.trans (hB2.mono hz1)
  have hz2 := hB2.size
  obtain ⟨a2, c2, rfl, hc2⟩ := hO.reads
  have HO := Lib.hid hO
  clear hO hc2 hH1 HAh
  have hS2 : HasL w2 w.heap.size 9 (StrL vs 0 0 []) := by
    have e : StrL vs 0 0 [] = hopL := by simp [StrL]
    rw [e]; exact hH2
  have HS2 := Lib.hid hS2
  clear hS2 hH2
  go_wp2_with fail
  go_loopw [14] (fun i wr => ∃ (k n : Nat), i = .int .i64 k ∧ k ≤ vs.length ∧ n ≤ 9 + k * 100002 ∧ HasL wr w.heap.size n (StrL vs k 0 []) ∧ OwnsS w1.heap.size wr (.slice a2 vs.length c2) vs ∧ Below w.heap.size w wr ∧ w1.heap.size ≤ wr.heap.size) (fun i _ => vs.length - (intOf i).toNat)
  case atStart => exact ⟨0, 9, rfl, Nat.zero_le _, by omega, HS2.out, HO.out, hB2', hz2⟩
  case round =>
    obtain ⟨k, n, rfl, hk, hn, hH, hO, hBr, hwr⟩ := hrel
    have HH := Lib.hid hH
    have HOr := Lib.hid hO
    clear hH hO
    by_cases hlt : k < vs.length
    · obtain ⟨v, hv⟩ : ∃ v, vs[k]? = some v := ⟨vs[k], by simp [hlt]⟩
      obtain ⟨ao2, cp2, hve, hcc⟩ := HOr.out.reads
      obtain ⟨g, off, hao, hg, hcell⟩ := hcc k v hv
      simp only [Value.slice.injEq] at hve
      obtain ⟨hve1, _, hve2⟩ := hve
      rw [hao] at hve1
      subst hve1
      have hvl6 : (strB v).size ≤ 100000 := by rw [strB_size]; have := HVs.out v (List.mem_of_getElem? hv); omega
      have hel : ∀ l ∈ elemsO v, l.length ≤ 6000 := fun l hl => Nat.le_trans (elemsO_len l hl) (HVs.out v (List.mem_of_getElem? hv))
      have LK := list_k (strB v) wr hvl6
      rw [strB_list] at LK
      have HEl := Lib.hid hel
      have HV := Lib.hid hv
      clear hel hv hcc hve2 hao
      go_wp2_with fail
      refine LK.mono ?_
      rintro e w3 ⟨u, ev, rfl, hU, hUl, hB3⟩
      have hH3 := HH.out.below hB3
      have hO3 := OwnsS.below HOr.out hB3
      have hB3' := hBr.trans (hB3.mono hBr.size)
      have hz3 := hB3.size
      obtain ⟨a3, c3, rfl, hc3⟩ := hU.reads
      have e0 : StrL vs k 0 [] = StrL vs k 0 (elemsO v) := by simp [StrL]
      rw [e0] at hH3
      have HU := Lib.hid hU
      have HH3 := Lib.hid hH3
      have HO3 := Lib.hid hO3
      clear hU hH3 hO3 hc3 e0 LK hcell
      go_wp2_with fail
      go_loopw [25] (fun i wi => ∃ (j m : Nat), i = .int .i64 j ∧ j ≤ (elemsO v).length ∧ m ≤ n + j ∧ HasL wi w.heap.size m (StrL vs k j (elemsO v)) ∧ OwnsS w1.heap.size wi (.slice (some ⟨g, off, none⟩) vs.length c2) vs ∧ OwnsS w1.heap.size wi (.slice a3 (elemsO v).length c3) (elemsO v) ∧ Below w.heap.size w wi ∧ w1.heap.size ≤ wi.heap.size) (fun i _ => (elemsO v).length - (intOf i).toNat)
      case atStart => exact ⟨0, n, rfl, Nat.zero_le _, by omega, HH3.out, HO3.out, OwnsS.mono hwr HU.out, hB3', by omega⟩
      case round =>
        obtain ⟨j, m, rfl, hj, hm, hHi, hOi, hUi, hBi, hwi⟩ := hrel
        have HHi := Lib.hid hHi
        have HOi := Lib.hid hOi
        have HUi := Lib.hid hUi
        clear hHi hOi hUi
        by_cases hlj : j < (elemsO v).length
        · obtain ⟨l, hl⟩ : ∃ l, (elemsO v)[j]? = some l := ⟨(elemsO v)[j], by simp [hlj]⟩
          obtain ⟨ao4, cp4, hve, hcc⟩ := HUi.out.reads
          obtain ⟨g4, off4, hao, hg4, hcell4⟩ := hcc j l hl
          simp only [Value.slice.injEq] at hve
          obtain ⟨hve1, _, hve3⟩ := hve
          clear hve3
          rw [hao] at hve1
          subst hve1
          have hll := HEl.out l (List.mem_of_getElem? hl)
          have hlz : (strB l).size ≤ 1000000000 := by rw [strB_size]; omega
          have hst := StrL_put (vs := vs) (k := k) hl
          have HSt := Lib.hid hst
          clear hl hcc hao hst
          go_wp2_with fail
          refine (lower_any (strB l) _ hlz).mono ?_
          rintro e w4 ⟨rfl, hB4⟩
          rw [strB_list]
          have hH4 := HHi.out.below hB4
          have hO4 := OwnsS.below HOi.out hB4
          have hU4 := OwnsS.below HUi.out hB4
          have hB4' := hBi.trans (hB4.mono hBi.size)
          have hz4 := hB4.size
          obtain ⟨w5, hrun, hH5, hg5⟩ := hH4.put (lowS l) (by rw [lowS_len]; unfold maxLen; omega) (by unfold maxLen; omega)
          have hz5 := hg5.size
          have hO5 : OwnsS w1.heap.size w5 (.slice (some ⟨g, off, none⟩) vs.length c2) vs := World.ownsRow.kept hO4 hg5 (.inr fun h => by
            have := (World.ownsRow.lt hO4 g rfl).1
            simp [Value.ownBlock] at h
            omega)
          have hU5 : OwnsS w1.heap.size w5 (.slice (some ⟨g4, off4, none⟩) (elemsO v).length c3) (elemsO v) := World.ownsRow.kept hU4 hg5 (.inr fun h => by
            have := (World.ownsRow.lt hU4 g4 rfl).1
            simp [Value.ownBlock] at h
            omega)
          have hB5 : Below w.heap.size w w5 := hB4'.grown hg5 hB4'.size (fun q hq => by cases hq; exact Nat.le_refl _)
          rw [← HSt.out] at hH5
          have HH5 := Lib.hid hH5
          have HO5 := Lib.hid hO5
          have HU5 := Lib.hid hU5
          clear hH4 hO4 hU4 hH5 hO5 hU5 hB4 hg5 HSt
          go_wp2_with fail
          go_roundw
          case rel => exact ⟨j + 1, m + 1, by go_num, by omega, by omega, HH5.out, HO5.out, HU5.out, hB5, by omega⟩
          case measure => simp [intOf]; omega
        · have hnx := StrL_next HV.out (by omega : (elemsO v).length ≤ j) []
          have hHn := HHi.out
          rw [hnx] at hHn
          have HHn := Lib.hid hHn
          clear hHn hnx
          go_wp2_with fail
          go_roundw
          case rel => exact ⟨k + 1, m, by go_num, by omega, by omega, HHn.out, HOi.out, hBi, hwi⟩
          case measure => simp [intOf]; omega
    · obtain rfl : k = vs.length := by omega
      have HWw := HWh.out w.heap.size n _ wr (HR.out.below hBr) HH.out
      rw [HFin.out] at HWw
      go_wp2_with fail
      refine HWw.mono ?_
      rintro e w3 ⟨vr, rfl, hOr, hB3⟩
      go_wp2_with fail
      go_ret
      exact ⟨vr, rfl, OwnsP.mono hBr.size hOr, hBr.trans (hB3.mono hBr.size)⟩
end Go.Proofs.YtoiampkdmjpljaaGreatDoor

/- Appends of strings that are read to a slice that the call made. -/
namespace Go.Proofs.YtoiampkdmjpljaaGreatDoor
open Go.RowKit

theorem own_madeS (w : World) : OwnsS w.heap.size (w.alloc (.cells #[] 9)) (.slice (some ⟨w.heap.size, 0, none⟩) 0 0) [] :=
  World.ownsRow_made w #[] 0 (Nat.le_refl _) (Nat.zero_le _) (by simp)
theorem saneS {B : Nat} {w : World} {v : Value} {ls : List (List UInt8)} (h : OwnsS B w v ls) : Sane v := by
  rcases h with ⟨hl, ⟨hv, hn⟩ | ⟨g, cap, cur, hv, hb, hg, hn, _⟩⟩
  · intro a n c e; rw [hv] at e; cases e; exact ⟨Nat.le_refl _, fun _ => rfl⟩
  · intro a n c e; rw [hv] at e; cases e; exact ⟨hn, fun h => by cases h⟩
theorem reads_one (w : World) (s : ByteArray) : ReadsS (w.alloc (.cells #[.string s] 9)) (.slice (some ⟨w.heap.size, 0, none⟩) 1 1) [s.data.toList] := by
  refine ⟨_, 1, rfl, fun j l hj => ⟨w.heap.size, 0, rfl, by simp, ?_⟩⟩
  rw [World.cell?_alloc_at _ _ _ _ rfl]
  match j, hj with
  | 0, hj => simp at hj; subst hj; rw [strB_of]; rfl
  | j + 1, hj => simp at hj
theorem own_appS {B : Nat} {w : World} {v : Value} {ls ms : List (List UInt8)} (h : w.ownsRow B 9 1 v (ls.length + ms.length) (ls.map strV ++ ms.map strV)) : OwnsS B w v (ls ++ ms) := by
  unfold OwnsS; rw [List.length_append, List.map_append]; exact h
/-- An append of strings that are read to a slice that the call made, whatever the guard. -/
theorem wpList_appendS {B : Nat} {w : World} {ops : Array Oper} {rest : List Oper} {o : Oper} {a : Act} {Q : Exit → Act → World → Prop} (hw : Region.wanted o (yielded ops a.tmps) = true) (s x : Operand)
    (ho : o.op = .call { callee := .builtin .append, args := #[s, x], argTypes := #[35, 35] }) (v v2 : Value) (hs : a.eval s = v) (hx : a.eval x = v2) {ls ms : List (List UInt8)} (hown : OwnsS B w v ls) (hr : ReadsS w v2 ms) (hp : Sane v2)
    (hn : ls.length + ms.length ≤ 100000) (hB : B ≤ w.heap.size) (h : ∀ v' w', OwnsS B w' v' (ls ++ ms) → w.grownBy w' v.ownBlock → wpList Tryz.prog ops Q rest (a.put o.dst v') w') :
    wpList Tryz.prog ops Q (o :: rest) a w := by
  obtain ⟨i0, hi, hz0, hz1, hz2⟩ := info_parts Tryz.infoS
  refine BigFrame.wpList_want hw fun K hK => ?_
  obtain ⟨ao, cap, rfl, hc⟩ := hr
  cases ao with
  | none =>
    have hm : ms = [] := by
      cases ms with
      | nil => rfl
      | cons m r => obtain ⟨g, off, ha, _⟩ := hc 0 m rfl; cases ha
    subst hm
    obtain rfl := (hp _ _ _ rfl).2 rfl
    have hrun := run_append_owned_none (P := Tryz.prog) (w := w) B 35 o.type 9 i0 1 Tryz.underlying35 hi v ls.length (ls.map strV) hown
    unfold Oper.wp
    simp [execOp, ho, resolve, invoke, builtin, hs, hx, hrun, Result.andThen]
    exact hK _ _ (h v w (by rw [List.append_nil]; exact hown) ⟨rfl, rfl, rfl, Nat.le_refl _, fun _ _ _ => rfl⟩)
  | some ad =>
    refine wp_append_own w s x 35 ho B 9 i0 _ 1 16 Tryz.underlying35 hi hz0 hz1 hz2 rfl (by decide) v ls.length (ls.map strV) hs hown ad ms.length cap (ms.map strV) hx (by simp) (fun j u hj => ?_) (fun u hu => ?_) (by unfold maxLen; omega) (by omega) hB
      fun v' w' h1 h2 _ => hK _ _ (h v' w' (own_appS h1) h2)
    · rw [List.getElem?_map] at hj
      cases hm : ms[j]? with
      | none => rw [hm] at hj; cases hj
      | some m =>
        rw [hm] at hj
        simp only [Option.map_some, Option.some.injEq] at hj
        obtain ⟨g, off, ha, _, h1⟩ := hc j m hm
        obtain rfl : ad = ⟨g, off, none⟩ := Option.some.inj ha
        rw [Addr.add_lit, ← hj]; exact h1
    · obtain ⟨m, _, rfl⟩ := List.mem_map.mp hu; rfl
theorem sane_one (a : Addr) : Sane (.slice (some a) 1 1) := fun x n c e => by cases e; exact ⟨Nat.le_refl _, fun h => by cases h⟩
end Go.Proofs.YtoiampkdmjpljaaGreatDoor

/- What the reference's Strip and Ref return, for every list of fields. -/
namespace Go.Proofs.YtoiampkdmjpljaaGreatDoor
open Go.RowKit

/-- An append of fields that are read to a slice that the call made, whatever the guard. -/
theorem wpList_appendP {T S : TypeId} {B : Nat} {i0 : TypeInfo} (hi : Tryz.prog.info? T = some i0) (hz0 : i0.zero = some (.agg #[.string ByteArray.empty, .string ByteArray.empty])) (hz1 : i0.size = 2) (hz2 : i0.bytes = 32) (ht : Tryz.prog.underlying S = some (.slice T))
    {w : World} {ops : Array Oper} {rest : List Oper} {o : Oper} {a : Act} {Q : Exit → Act → World → Prop} (hw : Region.wanted o (yielded ops a.tmps) = true) (s x : Operand)
    (ho : o.op = .call { callee := .builtin .append, args := #[s, x], argTypes := #[S, S] }) (v v2 : Value) (hs : a.eval s = v) (hx : a.eval x = v2) {ps qs : Flds} (hown : OwnsP T B w v ps) (hr : ReadsQ w v2 qs) (hp : Sane v2)
    (hn : ps.length + qs.length ≤ 100000) (hB : B ≤ w.heap.size) (h : ∀ v' w', OwnsP T B w' v' (ps ++ qs) → w.grownBy w' v.ownBlock → wpList Tryz.prog ops Q rest (a.put o.dst v') w') :
    wpList Tryz.prog ops Q (o :: rest) a w := by
  refine BigFrame.wpList_want hw fun K hK => ?_
  obtain ⟨ao, cap, rfl, hc⟩ := id hr
  cases ao with
  | none =>
    obtain ⟨rfl, _⟩ := hr.none
    obtain rfl := (hp _ _ _ rfl).2 rfl
    have hrun := run_append_owned_none (P := Tryz.prog) (w := w) B S o.type T i0 2 ht hi v ps.length (flatP ps) hown
    unfold Oper.wp
    simp [execOp, ho, resolve, invoke, builtin, hs, hx, hrun, Result.andThen]
    exact hK _ _ (h v w (by rw [List.append_nil]; exact hown) ⟨rfl, rfl, rfl, Nat.le_refl _, fun _ _ _ => rfl⟩)
  | some ad =>
    obtain ⟨_, hs'⟩ := hr.src
    exact wp_append_own w s x S ho B T i0 _ 2 32 ht hi hz0 hz1 hz2 rfl (by decide) v ps.length (flatP ps) hs hown ad qs.length cap (flatP qs) hx (flatP_len qs) hs' (flatP_one qs) (by unfold maxLen; omega) (by omega) hB
      fun v' w' h1 h2 _ => hK _ _ (h v' w' (own_app h1 rfl) h2)
/-- The same of strings, with where the new slice lies. -/
theorem wpList_appendS_at {B : Nat} {w : World} {ops : Array Oper} {rest : List Oper} {o : Oper} {a : Act} {Q : Exit → Act → World → Prop} (hgd : o.guard = none) (s x : Operand)
    (ho : o.op = .call { callee := .builtin .append, args := #[s, x], argTypes := #[35, 35] }) (v v2 : Value) (hs : a.eval s = v) (hx : a.eval x = v2) {ls ms : List (List UInt8)} (hown : OwnsS B w v ls) (hr : ReadsS w v2 ms) (hp : Sane v2)
    (hn : ls.length + ms.length ≤ 1000000000) (hB : B ≤ w.heap.size) (h : ∀ v' w', OwnsS B w' v' (ls ++ ms) → w.grownBy w' v.ownBlock → (v'.ownBlock = v.ownBlock ∨ v'.ownBlock = some w.heap.size) → wpList Tryz.prog ops Q rest (a.put o.dst v') w') :
    wpList Tryz.prog ops Q (o :: rest) a w := by
  obtain ⟨i0, hi, hz0, hz1, hz2⟩ := info_parts Tryz.infoS
  obtain ⟨ao, cap, rfl, hc⟩ := hr
  cases ao with
  | none =>
    have hm : ms = [] := by
      cases ms with
      | nil => rfl
      | cons m r => obtain ⟨g, off, ha, _⟩ := hc 0 m rfl; cases ha
    subst hm
    obtain rfl := (hp _ _ _ rfl).2 rfl
    exact wpList_append_own_none hgd s x 35 ho B 9 i0 1 Tryz.underlying35 hi v ls.length (ls.map strV) hs hown hx (h v w (by rw [List.append_nil]; exact hown) ⟨rfl, rfl, rfl, Nat.le_refl _, fun _ _ _ => rfl⟩ (.inl rfl))
  | some ad =>
    refine wpList_append_own_at w hgd s x 35 ho B 9 i0 _ 1 16 Tryz.underlying35 hi hz0 hz1 hz2 rfl (by decide) v ls.length (ls.map strV) hs hown ad ms.length cap (ms.map strV) hx (by simp) (fun j u hj => ?_) (fun u hu => ?_) (by unfold maxLen; omega) (by omega) hB
      fun v' w' h1 h2 _ h4 => h v' w' (own_appS h1) h2 h4
    · rw [List.getElem?_map] at hj
      cases hm : ms[j]? with
      | none => rw [hm] at hj; cases hj
      | some m =>
        rw [hm] at hj
        simp only [Option.map_some, Option.some.injEq] at hj
        obtain ⟨g, off, ha, _, h1⟩ := hc j m hm
        obtain rfl : ad = ⟨g, off, none⟩ := Option.some.inj ha
        rw [Addr.add_lit, ← hj]; exact h1
    · obtain ⟨m, _, rfl⟩ := List.mem_map.mp hu; rfl

def hopO : Obj := .cells #[.string ⟨#[99, 111, 110, 110, 101, 99, 116, 105, 111, 110]⟩, .string ⟨#[107, 101, 101, 112, 45, 97, 108, 105, 118, 101]⟩, .string ⟨#[112, 114, 111, 120, 121, 45, 99, 111, 110, 110, 101, 99, 116, 105, 111, 110]⟩,
  .string ⟨#[112, 114, 111, 120, 121, 45, 97, 117, 116, 104, 101, 110, 116, 105, 99, 97, 116, 101]⟩, .string ⟨#[112, 114, 111, 120, 121, 45, 97, 117, 116, 104, 111, 114, 105, 122, 97, 116, 105, 111, 110]⟩, .string ⟨#[116, 101]⟩, .string ⟨#[116, 114, 97, 105, 108, 101, 114]⟩,
  .string ⟨#[116, 114, 97, 110, 115, 102, 101, 114, 45, 101, 110, 99, 111, 100, 105, 110, 103]⟩, .string ⟨#[117, 112, 103, 114, 97, 100, 101]⟩] 9
theorem own_hop (w : World) : OwnsS w.heap.size (w.alloc hopO) (.slice (some ⟨w.heap.size, 0, none⟩) 9 9) hopL :=
  ⟨rfl, .inr ⟨w.heap.size, 9, _, rfl, Nat.le_refl _, heap_alloc_new w _, Nat.le_refl _, by unfold maxLen; decide, rfl, rfl⟩⟩
theorem refList_k (s : ByteArray) (w : World) (hs : s.size ≤ 100000) :
    Calls Tryz.prog 62 #[.string s] w fun e w' => ∃ u b, e = .returned (.tuple #[u, .bool b]) ∧ OwnsS w.heap.size w' u (elemsO s.data.toList) ∧ (b = false → elemsO s.data.toList = []) ∧ (elemsO s.data.toList).length ≤ 100002 ∧ Below w.heap.size w w' := by
  refine (refList_any s w hs).mono ?_
  rintro e w' ⟨hB, he⟩
  unfold elemsO
  cases hl : listO s.data.toList with
  | none => rw [hl] at he; exact ⟨_, _, he, World.ownsRow_nil _ _ _ _, fun _ => rfl, by simp, hB⟩
  | some ls =>
    rw [hl] at he
    obtain ⟨u, he, hu, hle⟩ := he
    exact ⟨u, _, he, hu, (fun h => by cases h), hle, hB⟩
theorem flat_len {vs : List (List UInt8)} (h : ∀ v ∈ vs, (elemsO v).length ≤ 100002) : (vs.flatMap elemsO).length ≤ vs.length * 100002 := by
  induction vs with
  | nil => simp
  | cons v r ih =>
    rw [List.flatMap_cons, List.length_append, List.length_cons, Nat.succ_mul]
    have := h v (List.mem_cons_self ..)
    have := ih fun u hu => h u (List.mem_cons_of_mem _ hu)
    omega

set_option maxHeartbeats 4000000 in
set_option maxRecDepth 100000 in
theorem refStrip_any (fv : Value) (ps : Flds) (w : World) (hr : ReadsQ w fv ps) (hp : Sane fv) (hl : ps.length ≤ 3000) (hb : ∀ p ∈ ps, p.1.length + p.2.length ≤ 6000) :
    Calls Tryz.prog 45 #[fv] w fun e w' => ∃ v, e = .returned v ∧ OwnsP 32 w.heap.size w' v (stripL ps) ∧ Below w.heap.size w w' := by
  obtain ⟨i0, hi, hz0, hz1, hz2⟩ := info_parts Tryz.infoG
  have hb6 : ∀ p ∈ ps, p.1.length + p.2.length ≤ 1000000 := fun p hp => by have := hb p hp; omega
  have HA := fun w hr => refAll_any fv ps connN w hr (by decide) (by omega) hb6
  have hvl := all_len ps connN
  have hvs : ∀ v ∈ allL ps connN, v.length ≤ 6000 := by
    intro v hv
    unfold allL at hv
    obtain ⟨p, hp, rfl⟩ := List.mem_map.mp hv
    have := hb p (List.mem_filter.mp hp).1
    omega
  have hfin : remAll ps (hopL ++ (allL ps connN).flatMap elemsO) = stripL ps := remAll_drop ps
  have HRm := fun (u : Value) (ds : List (List UInt8)) (d : List UInt8) (w : World) (hr : ReadsQ w u (remAll ps ds)) (hd : d.length ≤ 1000000000) => refRemove_any u (remAll ps ds) d w hr hd (by have := remAll_len ps ds; omega) (fun p hp => hb6 p (remAll_mem hp))
  generalize allL ps connN = vs at HA hvl hvs hfin
  have HR := Lib.hid hr
  have HP := Lib.hid hp
  have HAh := Lib.hid HA
  have HVs := Lib.hid hvs
  have HFin := Lib.hid hfin
  have HRmh := Lib.hid HRm
  obtain ⟨ao, cap, rfl, hc⟩ := hr
  clear hc hb hb6 HA hvs hfin HRm hp
  have hb0 : Below w.heap.size w (w.alloc hopO) := below_new w _
  have ho0 := own_hop w
  have hz00 : (w.alloc hopO).heap.size = w.heap.size + 1 := by simp
  have HO0 := Lib.hid ho0
  have HB0 := Lib.hid hb0
  have HZ0 := Lib.hid hz00
  clear ho0 hb0 hz00
  unfold hopO at HO0 HB0 HZ0
  go_enter Tryz.func45, Tryz.ntmps45
  go_wp2_with fail
  refine (HAh.out _ (HR.out.below HB0.out)).mono ?_
  rintro e w2 ⟨va, rfl, hO, hB2⟩
  have hz2' := hB2.size
  rw [HZ0.out] at hz2'
  have hBw := HB0.out.trans (hB2.mono HB0.out.size)
  have hD2 := OwnsS.below HO0.out hB2
  have hO' : OwnsS (w.heap.size + 1) w2 va vs := by rw [← HZ0.out]; exact hO
  obtain ⟨a2, c2, rfl, hc2⟩ := hO.reads
  have HO := Lib.hid hO'
  have HD2 := Lib.hid hD2
  clear hO hO' hc2 HAh hD2 HO0 HB0 hB2 HZ0
  go_wp2_with fail
  go_loopw [3, 15] (fun d i wr => ∃ (k : Nat), i = .int .i64 k ∧ k ≤ vs.length ∧ OwnsS w.heap.size wr d (hopL ++ (vs.take k).flatMap elemsO) ∧ (hopL ++ (vs.take k).flatMap elemsO).length ≤ 9 + k * 100002 ∧ (∀ q, d.ownBlock = some q → (Value.slice a2 vs.length c2).ownBlock ≠ some q) ∧
    OwnsS (w.heap.size + 1) wr (.slice a2 vs.length c2) vs ∧ Below w.heap.size w wr) (fun _ i _ => vs.length - (intOf i).toNat)
  case atStart =>
    refine ⟨0, rfl, Nat.zero_le _, by simpa using HD2.out, by simp; decide, fun q hq he => ?_, HO.out, hBw⟩
    have h1 := (World.ownsRow.lt HO.out q he).1
    simp [Value.ownBlock] at hq
    omega
  case round =>
    obtain ⟨k, rfl, hk, hD, hDl, hsep, hOv, hBr⟩ := hrel
    have hbr := hBr.size
    have HD := Lib.hid hD
    have HDl := Lib.hid hDl
    have HSep := Lib.hid hsep
    have HOv := Lib.hid hOv
    clear hD hDl hsep hOv
    by_cases hlt : k < vs.length
    · obtain ⟨v, hv⟩ : ∃ v, vs[k]? = some v := ⟨vs[k], by simp [hlt]⟩
      obtain ⟨ao2, cp2, hve, hcc⟩ := HOv.out.reads
      obtain ⟨g, off, hao, hg, hcell⟩ := hcc k v hv
      simp only [Value.slice.injEq] at hve
      obtain ⟨hve1, _, hve2⟩ := hve
      rw [hao] at hve1
      subst hve1
      have hvl6 : (strB v).size ≤ 100000 := by rw [strB_size]; have := HVs.out v (List.mem_of_getElem? hv); omega
      have LK := refList_k (strB v) wr hvl6
      rw [strB_list] at LK
      have hft := flat_take hv
      have HFt := Lib.hid hft
      clear hv hcc hve2 hao hft
      go_wp2_with fail
      refine LK.mono ?_
      rintro e w3 ⟨u, b, rfl, hU, hbf, hUl, hB3⟩
      have hD3 := OwnsS.below HD.out hB3
      have hO3 := OwnsS.below HOv.out hB3
      have hB3' := hBr.trans (hB3.mono hbr)
      have hz3 := hB3.size
      have hlen : (hopL ++ (vs.take (k + 1)).flatMap elemsO).length ≤ 9 + (k + 1) * 100002 := by
        rw [HFt.out, ← List.append_assoc, List.length_append]
        have := HDl.out
        omega
      have HLen := Lib.hid hlen
      have HU := Lib.hid hU
      have HD3 := Lib.hid hD3
      have HO3 := Lib.hid hO3
      have HBf := Lib.hid hbf
      clear hU hD3 hO3 hlen hbf LK hcell HD
      cases b with
      | false =>
        have e0 := HBf.out rfl
        have hD4 := HD3.out
        have hl4 : hopL ++ (vs.take k).flatMap elemsO = hopL ++ (vs.take (k + 1)).flatMap elemsO := by rw [HFt.out, e0, List.append_nil]
        rw [hl4] at hD4
        have HD4 := Lib.hid hD4
        clear hD4 hl4 e0
        go_wp2_with fail
        go_roundw
        case rel => exact ⟨k + 1, by go_num, by omega, HD4.out, HLen.out, HSep.out, HO3.out, hB3'⟩
        case measure => simp [intOf]; omega
      | true =>
        have hlk : (hopL ++ (vs.take k).flatMap elemsO).length ≤ 9 + k * 100002 := HDl.out
        have hzb : w.heap.size ≤ w3.heap.size := by omega
        go_wp2_with (at_builtin; refine wpList_appendS_at rfl _ _ rfl _ u rfl rfl HD3.out (HU.out.reads) (saneS HU.out) (by omega) hzb ?_; intro d4 w4 hD4 hg4 hat)
        have hO4 : OwnsS (w.heap.size + 1) w4 (.slice (some ⟨g, off, none⟩) vs.length c2) vs := World.ownsRow.kept HO3.out hg4 (.inr fun h => HSep.out g h.symm rfl)
        have hB4 : Below w.heap.size w w4 := hB3'.grown hg4 hzb (fun q hq => (World.ownsRow.lt HD3.out q hq).1)
        have hsep4 : ∀ q, d4.ownBlock = some q → (Value.slice (some ⟨g, off, none⟩) vs.length c2).ownBlock ≠ some q := by
          intro q hq he
          rcases hat with h | h
          · exact HSep.out q (h ▸ hq) he
          · have h2 := (World.ownsRow.lt HO3.out q he).2
            rw [h] at hq
            have := Option.some.inj hq
            omega
        have hD5 : OwnsS w.heap.size w4 d4 (hopL ++ (vs.take (k + 1)).flatMap elemsO) := by rw [HFt.out, ← List.append_assoc]; exact hD4
        have HD5 := Lib.hid hD5
        have HO4 := Lib.hid hO4
        have HSep4 := Lib.hid hsep4
        clear hD4 hD5 hO4 hsep4 hat hg4
        go_wp2_with fail
        go_roundw
        case rel => exact ⟨k + 1, by go_num, by omega, HD5.out, HLen.out, HSep4.out, HO4.out, hB4⟩
        case measure => simp [intOf]; omega
    · obtain rfl : k = vs.length := by omega
      have hD := HD.out
      rw [List.take_length] at hD
      have hDl := HDl.out
      rw [List.take_length] at hDl
      have hel : ∀ d ∈ hopL ++ vs.flatMap elemsO, d.length ≤ 6000 := by
        intro d hd
        rcases List.mem_append.1 hd with h | h
        · have : ∀ x ∈ hopL, x.length ≤ 6000 := by decide
          exact this d h
        · obtain ⟨v, hv, hx⟩ := List.mem_flatMap.1 h
          exact Nat.le_trans (elemsO_len d hx) (HVs.out v hv)
      have hfin := HFin.out
      generalize hopL ++ vs.flatMap elemsO = D at hD hDl hel hfin
      obtain ⟨a5, c5, hde, _⟩ := hD.reads
      have HDd := Lib.hid hD
      have HEl := Lib.hid hel
      have HFn := Lib.hid hfin
      clear hD hel hfin HFin HDl HD HSep HOv
      subst hde
      have hq := HR.out.below (hBr.trans ((below_new wr (.cells #[] 32)).mono hbr))
      have HQ := Lib.hid hq
      clear hq
      go_wp2_with (at_builtin; refine wpList_appendP hi hz0 hz1 hz2 Tryz.underlying22 rfl _ _ rfl _ _ rfl rfl (own_made wr _) HQ.out HP.out (by simp; omega) (by simp) ?_; intro o1 w5 hO5 hg5)
      have hB5 : Below wr.heap.size wr w5 := (below_new wr _).grown hg5 (by simp) (fun q hq => (World.ownsRow.lt (own_made wr 32) q hq).1)
      have hD5 := OwnsS.below HDd.out hB5
      have hB5' := hBr.trans (hB5.mono hbr)
      have hO6 : OwnsP 32 w.heap.size w5 o1 ps := OwnsP.mono hbr hO5
      have HD5 := Lib.hid hD5
      have HO6 := Lib.hid hO6
      clear hO5 hg5 hB5 hD5 hO6
      go_wp2_with fail
      go_loopw [8, 36] (fun o i wi => ∃ (j : Nat), i = .int .i64 j ∧ j ≤ D.length ∧ OwnsP 32 w.heap.size wi o (remAll ps (D.take j)) ∧ OwnsS w.heap.size wi (.slice a5 D.length c5) D ∧ Below w.heap.size w wi) (fun _ i _ => D.length - (intOf i).toNat)
      case atStart => exact ⟨0, rfl, Nat.zero_le _, HO6.out, HD5.out, hB5'⟩
      case round =>
        obtain ⟨j, rfl, hj, hOo, hDd, hBi⟩ := hrel
        have HOo := Lib.hid hOo
        have HDi := Lib.hid hDd
        clear hOo hDd
        by_cases hlj : j < D.length
        · obtain ⟨d, hd⟩ : ∃ d, D[j]? = some d := ⟨D[j], by simp [hlj]⟩
          obtain ⟨ao3, cp3, hve, hcc⟩ := HDi.out.reads
          obtain ⟨g3, off3, hao, hg3, hcell⟩ := hcc j d hd
          simp only [Value.slice.injEq] at hve
          obtain ⟨hve1, _, hve3⟩ := hve
          clear hve3
          rw [hao] at hve1
          subst hve1
          have hdl := HEl.out d (List.mem_of_getElem? hd)
          have HRd := HRmh.out _ (D.take j) d _ HOo.out.q (by omega)
          have hsn := remAll_snoc ps (D.take j) d
          rw [← take_more hd] at hsn
          have HSn := Lib.hid hsn
          clear hd hcc hao hsn
          go_wp2_with fail
          refine HRd.mono ?_
          rintro e w6 ⟨o2, rfl, hO7, hB6⟩
          have hD6 := OwnsS.below HDi.out hB6
          have hO8 : OwnsP 32 w.heap.size w6 o2 (remAll ps (D.take (j + 1))) := by rw [HSn.out]; exact OwnsP.mono hBi.size hO7
          have HD6 := Lib.hid hD6
          have HO8 := Lib.hid hO8
          clear hD6 hO7 hO8 HRd hcell
          go_wp2_with fail
          go_roundw
          case rel => exact ⟨j + 1, by go_num, by omega, HO8.out, HD6.out, hBi.trans (hB6.mono hBi.size)⟩
          case measure => simp [intOf]; omega
        · have hOf := HOo.out
          rw [List.take_of_length_le (by omega), HFn.out] at hOf
          go_wp2_with fail
          go_ret
          exact ⟨_, rfl, hOf, hBi⟩

end Go.Proofs.YtoiampkdmjpljaaGreatDoor
