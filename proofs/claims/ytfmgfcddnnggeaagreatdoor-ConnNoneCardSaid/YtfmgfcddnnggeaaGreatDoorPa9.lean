import Derived.Test.YtfmgfcddnnggeaaGreatDoorPa8
import Derived.BigFrame
import Derived.Deep.RegionLaw
import Derived.Deep.AppendLies
/- Slices of fields that a call made, as slices that are read; appending one field. -/
namespace Go.Proofs.YtfmgfcddnnggeaaGreatDoor
open Go.RowKit

theorem ReadsP.q {w : World} {v : Value} {ps : Flds} (h : ReadsP w v ps) : ReadsQ w v ps := by
  obtain ⟨ao, cap, rfl, hc⟩ := h
  refine ⟨ao, cap, rfl, fun j p hj => ?_⟩
  obtain ⟨g, h1, h2, h3, h4⟩ := hc j p hj
  exact ⟨g, 0, h1, h2, by rw [Nat.zero_add]; exact h3, by rw [Nat.zero_add]; exact h4⟩
theorem OwnsP.q {T : TypeId} {B : Nat} {w : World} {v : Value} {ps : Flds} (h : OwnsP T B w v ps) : ReadsQ w v ps := h.reads.q
/-- A slice's length is within its room; a slice that is nil has none. -/
def Sane (v : Value) : Prop := ∀ a n c, v = .slice a n c → n ≤ c ∧ (a = none → c = 0)
theorem OwnsP.sane {T : TypeId} {B : Nat} {w : World} {v : Value} {ps : Flds} (h : OwnsP T B w v ps) : Sane v := by
  rcases h with ⟨hl, ⟨hv, hn⟩ | ⟨g, cap, cur, hv, hb, hg, hn, _⟩⟩
  · intro a n c e; rw [hv] at e; cases e; exact ⟨Nat.le_refl _, fun _ => rfl⟩
  · intro a n c e; rw [hv] at e; cases e; exact ⟨hn, fun h => by cases h⟩
theorem Tryz.infoF : (Tryz.prog.info? 71).map (fun i => (i.zero, i.size, i.bytes)) = some (some (.agg #[.string ByteArray.empty, .string ByteArray.empty]), 2, 32) := by kernel_rfl
theorem own_more {T : TypeId} {B : Nat} {w : World} {v : Value} {ps : Flds} {k : Nat} {p : List UInt8 × List UInt8} (hp : ps[k]? = some p)
    (h : w.ownsRow B T 2 v ((ps.take k).length + 1) (flatP (ps.take k) ++ [strV p.1, strV p.2])) : OwnsP T B w v (ps.take (k + 1)) := by
  have := OwnsP.snoc h
  rw [take_more hp]; exact this
theorem two_new (W : World) (a b : List UInt8) (T : TypeId) : ∀ (j : Nat) (u : Value), [strV a, strV b][j]? = some u →
    (W.alloc (.cells #[.string (strB a), .string (strB b)] T)).cell? ((⟨W.heap.size, 0, none⟩ : Addr).add j) = some u := by
  intro j u h
  rw [Addr.add_lit, Nat.zero_add, World.cell?_alloc_at _ _ _ _ rfl]
  match j, h with
  | 0, h => simpa using h
  | 1, h => simpa using h
  | j + 2, h => simp at h
theorem two_new' (W : World) (a b : List UInt8) (T T' : TypeId) : ∀ (j : Nat) (u : Value), [strV a, strV b][j]? = some u →
    ((W.alloc (.cells #[.string (strB a), .string (strB b)] T)).alloc (.cells #[.string (strB a), .string (strB b)] T')).cell? ((⟨W.heap.size + 1, 0, none⟩ : Addr).add j) = some u := by
  intro j u h
  have := two_new (W.alloc (.cells #[.string (strB a), .string (strB b)] T)) a b T' j u h
  simpa using this

end Go.Proofs.YtfmgfcddnnggeaaGreatDoor

/- Appends of strings that are read to a slice of strings that the call made. -/
namespace Go.Proofs.YtfmgfcddnnggeaaGreatDoor
open Go.RowKit

theorem saneS {B : Nat} {w : World} {v : Value} {ls : List (List UInt8)} (h : OwnsS B w v ls) : Sane v := by
  rcases h with ⟨hl, ⟨hv, hn⟩ | ⟨g, cap, cur, hv, hb, hg, hn, _⟩⟩
  · intro a n c e; rw [hv] at e; cases e; exact ⟨Nat.le_refl _, fun _ => rfl⟩
  · intro a n c e; rw [hv] at e; cases e; exact ⟨hn, fun h => by cases h⟩
theorem own_appS {B : Nat} {w : World} {v : Value} {ls ms : List (List UInt8)} (h : w.ownsRow B 9 1 v (ls.length + ms.length) (ls.map strV ++ ms.map strV)) : OwnsS B w v (ls ++ ms) := by
  unfold OwnsS; rw [List.length_append, List.map_append]; exact h
/-- An append of strings that are read to a slice that the call made, whatever the guard. -/
theorem wpList_appendS {B : Nat} {w : World} {ops : Array Oper} {rest : List Oper} {o : Oper} {a : Act} {Q : Exit → Act → World → Prop} (hw : Region.wanted o (yielded ops a.tmps) = true) (s x : Operand)
    (ho : o.op = .call { callee := .builtin .append, args := #[s, x], argTypes := #[34, 34] }) (v v2 : Value) (hs : a.eval s = v) (hx : a.eval x = v2) {ls ms : List (List UInt8)} (hown : OwnsS B w v ls) (hr : ReadsS w v2 ms) (hp : Sane v2)
    (hn : ls.length + ms.length ≤ 100000) (hB : B ≤ w.heap.size) (h : ∀ v' w', OwnsS B w' v' (ls ++ ms) → w.grownBy w' v.ownBlock → wpList Tryz.prog ops Q rest (a.put o.dst v') w') :
    wpList Tryz.prog ops Q (o :: rest) a w := by
  obtain ⟨i0, hi, hz0, hz1, hz2⟩ := info_parts Tryz.infoS
  refine BigFrame.wpList_want hw fun K hK => ?_
  obtain ⟨ao, cap, rfl, hc⟩ := hr
  cases ao with
  | none =>
    have hm : ms = [] := by
      cases ms with
      | nil => rfl
      | cons m r => obtain ⟨g, off, ha, _⟩ := hc 0 m rfl; cases ha
    subst hm
    obtain rfl := (hp _ _ _ rfl).2 rfl
    have hrun := run_append_owned_none (P := Tryz.prog) (w := w) B 34 o.type 9 i0 1 Tryz.underlying34 hi v ls.length (ls.map strV) hown
    unfold Oper.wp
    simp [execOp, ho, resolve, invoke, builtin, hs, hx, hrun, Result.andThen]
    exact hK _ _ (h v w (by rw [List.append_nil]; exact hown) ⟨rfl, rfl, rfl, Nat.le_refl _, fun _ _ _ => rfl⟩)
  | some ad =>
    refine wp_append_own w s x 34 ho B 9 i0 _ 1 16 Tryz.underlying34 hi hz0 hz1 hz2 rfl (by decide) v ls.length (ls.map strV) hs hown ad ms.length cap (ms.map strV) hx (by simp) (fun j u hj => ?_) (fun u hu => ?_) (by unfold maxLen; omega) (by omega) hB
      fun v' w' h1 h2 _ => hK _ _ (h v' w' (own_appS h1) h2)
    · rw [List.getElem?_map] at hj
      cases hm : ms[j]? with
      | none => rw [hm] at hj; cases hj
      | some m =>
        rw [hm] at hj
        simp only [Option.map_some, Option.some.injEq] at hj
        obtain ⟨g, off, ha, _, h1⟩ := hc j m hm
        obtain rfl : ad = ⟨g, off, none⟩ := Option.some.inj ha
        rw [Addr.add_lit, ← hj]; exact h1
    · obtain ⟨m, _, rfl⟩ := List.mem_map.mp hu; rfl
/-- What was there is as it was, behind an append that makes no new variable. -/
theorem below_appendS {B : Nat} {a w w2 : World} {v : Value} {ls : List (List UInt8)} (hB : Below B a w) (hBs : B ≤ w.heap.size) (hown : OwnsS B w v ls) (hgrow : w.grownBy w2 v.ownBlock) : Below B a w2 :=
  hB.grown hgrow hBs (fun q hq => (World.ownsRow.lt hown q hq).1)
/-- The end of a slice of strings. -/
theorem OwnsS.isSlice {B : Nat} {w : World} {v : Value} {ls : List (List UInt8)} (h : OwnsS B w v ls) : ∃ a c, v = .slice a ls.length c := by
  obtain ⟨ao, cap, rfl, _⟩ := h.reads; exact ⟨ao, cap, rfl⟩
end Go.Proofs.YtfmgfcddnnggeaaGreatDoor

/- What lowerName, All and Size return, for every list of fields. -/
namespace Go.Proofs.YtfmgfcddnnggeaaGreatDoor
open Go.RowKit

theorem toList_same {a b : List UInt8} (h : a = b) : ((strB a).toList == (strB b).toList) = true := by subst h; exact beq_self_eq_true _
theorem toList_other {a b : List UInt8} (h : a ≠ b) : ((strB a).toList == (strB b).toList) = false := by
  rw [ByteArray.toList_eq, ByteArray.toList_eq]
  simpa [strB] using h
theorem new_pair (w : World) (a b : Value) (T : TypeId) : (w.alloc (.cells #[a, b] T)).cell? ⟨w.heap.size, 0, none⟩ = some a ∧ (w.alloc (.cells #[a, b] T)).cell? ⟨w.heap.size, 1, none⟩ = some b := by
  constructor <;> rw [World.cell?_alloc_at _ _ _ _ rfl] <;> rfl
/-- Both cells of a new variable of two strings, behind a call that leaves what was there. -/
theorem pair_kept {w w' : World} {a b : Value} {T : TypeId} (h : Below (w.alloc (.cells #[a, b] T)).heap.size (w.alloc (.cells #[a, b] T)) w') :
    w'.cell? ⟨w.heap.size, 0, none⟩ = some a ∧ w'.cell? ⟨w.heap.size, 1, none⟩ = some b := by
  have hs : w.heap.size < (w.alloc (.cells #[a, b] T)).heap.size := by simp
  exact ⟨(h.cell (p := ⟨w.heap.size, 0, none⟩) hs).trans (new_pair w a b T).1, (h.cell (p := ⟨w.heap.size, 1, none⟩) hs).trans (new_pair w a b T).2⟩
theorem below_pair {B : Nat} {w0 w w' : World} {a b : Value} {T : TypeId} (hB : Below B w0 w) (hBs : B ≤ w.heap.size) (h : Below (w.alloc (.cells #[a, b] T)).heap.size (w.alloc (.cells #[a, b] T)) w') : Below B w0 w' :=
  (hB.alloc hBs _).trans (h.mono (by simp; omega))
theorem below_pair' {w w' : World} {a b : Value} {T : TypeId} (h : Below (w.alloc (.cells #[a, b] T)).heap.size (w.alloc (.cells #[a, b] T)) w') : Below w.heap.size w w' := below_pair (Below.refl _ _) (Nat.le_refl _) h

set_option maxHeartbeats 400000 in
set_option maxRecDepth 100000 in
theorem lowerName_any (a b : List UInt8) (w : World) (ha : a.length ≤ 1000000000) :
    Calls Tryz.prog 86 #[.agg #[.string (strB a), .string (strB b)]] w fun e w' => e = .returned (.string (strB (lowS a))) ∧ Below w.heap.size w w' := by
  have hz : (strB a).size ≤ 1000000000 := by rw [strB_size]; exact ha
  go_enter Tryz.func86, Tryz.ntmps86
  go_wp2_with fail
  refine (lower_any (strB a) _ hz).mono ?_
  rintro e w1 ⟨rfl, hB⟩
  rw [strB_list]
  go_wp2_with fail
  go_ret
  exact ⟨rfl, below_pair' hB⟩

def AllRel (ps : Flds) (n : List UInt8) (w : World) (v i : Value) (wr : World) : Prop :=
  ∃ k : Nat, i = .int .i64 k ∧ k ≤ ps.length ∧ OwnsS w.heap.size wr v (allL (ps.take k) n) ∧ Below w.heap.size w wr

set_option maxHeartbeats 2000000 in
set_option maxRecDepth 100000 in
theorem all_any (fv : Value) (ps : Flds) (n : ByteArray) (w : World) (hr : ReadsQ w fv ps) (hn : n.size ≤ 1000000000) (hl : ps.length ≤ 1000000) (hb : ∀ p ∈ ps, p.1.length + p.2.length ≤ 1000000) :
    Calls Tryz.prog 64 #[fv, .string n] w fun e w' => ∃ v, e = .returned v ∧ OwnsS w.heap.size w' v (allL ps n.data.toList) ∧ Below w.heap.size w w' := by
  obtain ⟨i0, hi, hz0, hz1, hz2⟩ := info_parts Tryz.infoS
  obtain ⟨ao, cap, rfl, hc⟩ := hr
  have HC := Lib.hid hc
  have HBig := Lib.hid hb
  clear hc hb
  go_enter Tryz.func64, Tryz.ntmps64
  go_wp2_with fail
  refine (lower_any n _ hn).mono ?_
  rintro e w1 ⟨rfl, hB⟩
  have hz1' := hB.size
  go_wp2_with fail
  go_loopw [5, 12] (fun v i wr => AllRel ps n.data.toList w1 v i wr) (fun _ i _ => ps.length - (intOf i).toNat)
  case atStart => exact ⟨0, rfl, Nat.zero_le _, World.ownsRow_nil _ _ _ _, Below.refl _ _⟩
  case round =>
    obtain ⟨k, rfl, hk, hO, hBr⟩ := hrel
    have hbr := hBr.size
    have hal := all_le ps n.data.toList k
    by_cases hlt : k < ps.length
    · obtain ⟨p, hp⟩ : ∃ p, ps[k]? = some p := ⟨ps[k], by simp [hlt]⟩
      obtain ⟨g, off, rfl, hg1, h1, h2⟩ := HC.out k p hp
      have hc1 : wr.cell? ⟨g, off + k * 2, none⟩ = some (.string (strB p.1)) := (hBr.cell (p := ⟨g, off + k * 2, none⟩) (by show g < _; omega)).trans ((hB.cell (p := ⟨g, off + k * 2, none⟩) hg1).trans h1)
      have hc2 : wr.cell? ⟨g, off + k * 2 + 1, none⟩ = some (.string (strB p.2)) := (hBr.cell (p := ⟨g, off + k * 2 + 1, none⟩) (by show g < _; omega)).trans ((hB.cell (p := ⟨g, off + k * 2 + 1, none⟩) hg1).trans h2)
      have hpl := HBig.out p (List.mem_of_getElem? hp)
      have HP := Lib.hid hp
      clear hp h1 h2
      cases ho : ofN n.data.toList p with
      | true =>
        have heq := toList_same (of_decide_eq_true ho)
        have HO := Lib.hid ho
        clear ho
        go_wp2_with fail
        refine (lowerName_any p.1 p.2 _ (by omega)).mono ?_
        rintro e w2 ⟨rfl, hB2⟩
        have hpk := pair_kept hB2
        have hd1 := hpk.2
        have hB2' := below_pair' hB2
        have hs2 := hB2'.size
        clear hpk hB2
        go_wp2_with (at_builtin; refine wpList_append_own _ rfl _ _ 34 rfl w1.heap.size 9 i0 (.string ByteArray.empty) 1 16 Tryz.underlying34 hi hz0 hz1 hz2 rfl (by decide) _ _ _ rfl ((OwnsS.below hO hB2').alloc _) ⟨w2.heap.size, 0, none⟩ 1 1 [strV p.2] rfl rfl (cell_one_new _ _ _) (fun u hu => by simp at hu; subst hu; rfl) (by unfold maxLen; omega) (by omega) (by simp; omega) ?_; intro v' w3 hown' hgrow _)
        go_roundw
        case rel => exact ⟨k + 1, by go_num, by omega, by rw [all_yes HP.out HO.out]; exact OwnsS.snoc hown', below_append hBr hbr hB2' hO hgrow⟩
        case measure => simp [intOf]; omega
      | false =>
        have heq := toList_other (of_decide_eq_false ho)
        have HO := Lib.hid ho
        clear ho
        go_wp2_with fail
        refine (lowerName_any p.1 p.2 _ (by omega)).mono ?_
        rintro e w2 ⟨rfl, hB2⟩
        have hB2' := below_pair' hB2
        have hs2 := hB2'.size
        clear hB2
        go_wp2_with fail
        go_roundw
        case rel => exact ⟨k + 1, by go_num, by omega, by rw [all_no HP.out HO.out]; exact OwnsS.below hO hB2', hBr.trans (hB2'.mono hbr)⟩
        case measure => simp [intOf]; omega
    · have htk : ps.take k = ps := List.take_of_length_le (by omega)
      rw [htk] at hO
      go_wp2_with fail
      go_ret
      exact ⟨_, rfl, OwnsS.mono hz1' hO, hB.trans (hBr.mono hz1')⟩
end Go.Proofs.YtfmgfcddnnggeaaGreatDoor

/- Plain mathematics: the text of a list of one. -/
namespace Go.Proofs.YtfmgfcddnnggeaaGreatDoor

/-- The text of a list of one, and whether it is one. -/
def oneL : List (List UInt8) → List UInt8 × Bool
  | [v] => (v, true)
  | _ => ([], false)
theorem oneL_len {l : List (List UInt8)} {M : Nat} (h : ∀ v ∈ l, v.length ≤ M) : (oneL l).1.length ≤ M := by
  match l with
  | [] => exact Nat.zero_le _
  | [v] => exact h v (List.mem_singleton.mpr rfl)
  | _ :: _ :: _ => exact Nat.zero_le _
end Go.Proofs.YtfmgfcddnnggeaaGreatDoor

/- What the program's sole.Value returns. -/
namespace Go.Proofs.YtfmgfcddnnggeaaGreatDoor
open Go.RowKit

set_option maxHeartbeats 2000000 in
set_option maxRecDepth 100000 in
theorem sole_any (fv : Value) (ps : Flds) (n : ByteArray) (w : World) (hr : ReadsQ w fv ps) (hn : n.size ≤ 1000000000) (hl : ps.length ≤ 1000000) (hb : ∀ p ∈ ps, p.1.length + p.2.length ≤ 1000000) :
    Calls Tryz.prog 61 #[fv, .string n] w fun e w' => e = .returned (.tuple #[.string (strB (oneL (allL ps n.data.toList)).1), .bool (oneL (allL ps n.data.toList)).2]) ∧ Below w.heap.size w w' := by
  have HA := Lib.hid (all_any fv ps n w hr hn hl hb)
  have hll := all_len ps n.data.toList
  clear hr hb
  generalize allL ps n.data.toList = ls at *
  rcases ls with _ | ⟨v, _ | ⟨b, r⟩⟩
  · go_enter Tryz.func61, Tryz.ntmps61
    go_wp2_with fail
    refine HA.out.mono ?_
    rintro e w1 ⟨x, rfl, hO, hB1⟩
    rcases hO.open' with ⟨rfl, hz⟩ | ⟨g, cap, rfl, _, hg, hc⟩
    · go_wp2_with fail
      go_ret2
      exact ⟨rfl, hB1⟩
    · clear hc hO
      go_wp2_with fail
      go_ret2
      exact ⟨rfl, hB1⟩
  · go_enter Tryz.func61, Tryz.ntmps61
    go_wp2_with fail
    refine HA.out.mono ?_
    rintro e w1 ⟨x, rfl, hO, hB1⟩
    rcases hO.open' with ⟨rfl, hz⟩ | ⟨g, cap, rfl, _, hg, hc⟩
    · cases hz
    · have hc0 : w1.cell? ⟨g, 0, none⟩ = some (.string (strB v)) := hc 0 v rfl
      have hone : ([v] : List (List UInt8)).length = 1 := rfl
      rw [hone]
      clear hc hO hone
      go_wp2_with fail
      go_ret2
      exact ⟨rfl, hB1⟩
  · have hb : (((v :: b :: r).length : Int) != 1) = true := by simp; omega
    have hv : (oneL (v :: b :: r)) = ([], false) := rfl
    rw [hv]
    clear hv
    have HA2 : Calls Tryz.prog 64 #[fv, .string n] w fun e w' => ∃ g cap, e = .returned (.slice (some ⟨g, 0, none⟩) (v :: b :: r).length cap) ∧ Below w.heap.size w w' := by
      refine HA.out.mono ?_
      rintro e w1 ⟨x, rfl, hO, hB1⟩
      rcases hO.open' with ⟨rfl, hz⟩ | ⟨g, cap, rfl, _, hg, hc⟩
      · cases hz
      · exact ⟨g, cap, rfl, hB1⟩
    have HA3 := Lib.hid HA2
    clear HA HA2
    generalize (v :: b :: r).length = m at *
    go_enter Tryz.func61, Tryz.ntmps61
    go_wp2_with fail
    refine HA3.out.mono ?_
    rintro e w1 ⟨g, cap, rfl, hB1⟩
    go_wp2_with fail
    go_ret2
    exact ⟨rfl, hB1⟩
end Go.Proofs.YtfmgfcddnnggeaaGreatDoor
