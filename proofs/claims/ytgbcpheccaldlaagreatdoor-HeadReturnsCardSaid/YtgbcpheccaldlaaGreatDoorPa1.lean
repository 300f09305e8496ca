import Derived.Test.YtgbcpheccaldlaaGreatDoorPa0
import Derived.Deep.QuietTactic
import Derived.BigQuiet
/- What lowerName, All and Size return, for every list of fields. -/
namespace Go.Proofs.YtgbcpheccaldlaaGreatDoor
open Go.RowKit

theorem toList_same {a b : List UInt8} (h : a = b) : ((strB a).toList == (strB b).toList) = true := by subst h; exact beq_self_eq_true _
theorem toList_other {a b : List UInt8} (h : a ≠ b) : ((strB a).toList == (strB b).toList) = false := by
  rw [ByteArray.toList_eq, ByteArray.toList_eq]
  simpa [strB] using h
theorem new_pair (w : World) (a b : Value) (T : TypeId) : (w.alloc (.cells #[a, b] T)).cell? ⟨w.heap.size, 0, none⟩ = some a ∧ (w.alloc (.cells #[a, b] T)).cell? ⟨w.heap.size, 1, none⟩ = some b := by
  constructor <;> rw [World.cell?_alloc_at _ _ _ _ rfl] <;> rfl
/-- Both cells of a new variable of two strings, behind a call that leaves what was there. -/
theorem pair_kept {w w' : World} {a b : Value} {T : TypeId} (h : Below (w.alloc (.cells #[a, b] T)).heap.size (w.alloc (.cells #[a, b] T)) w') :
    w'.cell? ⟨w.heap.size, 0, none⟩ = some a ∧ w'.cell? ⟨w.heap.size, 1, none⟩ = some b := by
  have hs : w.heap.size < (w.alloc (.cells #[a, b] T)).heap.size := by simp
  exact ⟨(h.cell (p := ⟨w.heap.size, 0, none⟩) hs).trans (new_pair w a b T).1, (h.cell (p := ⟨w.heap.size, 1, none⟩) hs).trans (new_pair w a b T).2⟩
theorem below_pair {B : Nat} {w0 w w' : World} {a b : Value} {T : TypeId} (hB : Below B w0 w) (hBs : B ≤ w.heap.size) (h : Below (w.alloc (.cells #[a, b] T)).heap.size (w.alloc (.cells #[a, b] T)) w') : Below B w0 w' :=
  (hB.alloc hBs _).trans (h.mono (by simp; omega))
theorem below_pair' {w w' : World} {a b : Value} {T : TypeId} (h : Below (w.alloc (.cells #[a, b] T)).heap.size (w.alloc (.cells #[a, b] T)) w') : Below w.heap.size w w' := below_pair (Below.refl _ _) (Nat.le_refl _) h

set_option maxHeartbeats 400000 in
set_option maxRecDepth 100000 in
theorem lowerName_any (a b : List UInt8) (w : World) (ha : a.length ≤ 1000000000) :
    Calls Tryz.prog 48 #[.agg #[.string (strB a), .string (strB b)]] w fun e w' => e = .returned (.string (strB (lowS a))) ∧ Below w.heap.size w w' := by
  have hz : (strB a).size ≤ 1000000000 := by rw [strB_size]; exact ha
  go_enter Tryz.func48, Tryz.ntmps48
  go_wp2_with fail
  refine (lower_any (strB a) _ hz).mono ?_
  rintro e w1 ⟨rfl, hB⟩
  rw [strB_list]
  go_wp2_with fail
  go_ret
  exact ⟨rfl, below_pair' hB⟩

def AllRel (ps : Flds) (n : List UInt8) (w : World) (v i : Value) (wr : World) : Prop :=
  ∃ k : Nat, i = .int .i64 k ∧ k ≤ ps.length ∧ OwnsS w.heap.size wr v (allL (ps.take k) n) ∧ Below w.heap.size w wr

set_option maxHeartbeats 2000000 in
set_option maxRecDepth 100000 in
theorem all_any (fv : Value) (ps : Flds) (n : ByteArray) (w : World) (hr : ReadsQ w fv ps) (hn : n.size ≤ 1000000000) (hl : ps.length ≤ 1000000) (hb : ∀ p ∈ ps, p.1.length + p.2.length ≤ 1000000) :
    Calls Tryz.prog 30 #[fv, .string n] w fun e w' => ∃ v, e = .returned v ∧ OwnsS w.heap.size w' v (allL ps n.data.toList) ∧ Below w.heap.size w w' := by
  obtain ⟨i0, hi, hz0, hz1, hz2⟩ := info_parts Tryz.infoS
  obtain ⟨ao, cap, rfl, hc⟩ := hr
  have HC := Lib.hid hc
  have HBig := Lib.hid hb
  clear hc hb
  go_enter Tryz.func30, Tryz.ntmps30
  go_wp2_with fail
  refine (lower_any n _ hn).mono ?_
  rintro e w1 ⟨rfl, hB⟩
  have hz1' := hB.size
  go_wp2_with fail
  go_loopw [5, 12] (fun v i wr => AllRel ps n.data.toList w1 v i wr) (fun _ i _ => ps.length - (intOf i).toNat)
  case atStart => exact ⟨0, rfl, Nat.zero_le _, World.ownsRow_nil _ _ _ _, Below.refl _ _⟩
  case round =>
    obtain ⟨k, rfl, hk, hO, hBr⟩ := hrel
    have hbr := hBr.size
    have hal := all_le ps n.data.toList k
    by_cases hlt : k < ps.length
    · obtain ⟨p, hp⟩ : ∃ p, ps[k]? = some p := ⟨ps[k], by simp [hlt]⟩
      obtain ⟨g, off, rfl, hg1, h1, h2⟩ := HC.out k p hp
      have hc1 : wr.cell? ⟨g, off + k * 2, none⟩ = some (.string (strB p.1)) := (hBr.cell (p := ⟨g, off + k * 2, none⟩) (by show g < _; omega)).trans ((hB.cell (p := ⟨g, off + k * 2, none⟩) hg1).trans h1)
      have hc2 : wr.cell? ⟨g, off + k * 2 + 1, none⟩ = some (.string (strB p.2)) := (hBr.cell (p := ⟨g, off + k * 2 + 1, none⟩) (by show g < _; omega)).trans ((hB.cell (p := ⟨g, off + k * 2 + 1, none⟩) hg1).trans h2)
      have hpl := HBig.out p (List.mem_of_getElem? hp)
      have HP := Lib.hid hp
      clear hp h1 h2
      cases ho : ofN n.data.toList p with
      | true =>
        have heq := toList_same (of_decide_eq_true ho)
        have HO := Lib.hid ho
        clear ho
        go_wp2_with fail
        refine (lowerName_any p.1 p.2 _ (by omega)).mono ?_
        rintro e w2 ⟨rfl, hB2⟩
        have hpk := pair_kept hB2
        have hd1 := hpk.2
        have hB2' := below_pair' hB2
        have hs2 := hB2'.size
        clear hpk hB2
        go_wp2_with (at_builtin; refine wpList_append_own _ rfl _ _ 54 rfl w1.heap.size 9 i0 (.string ByteArray.empty) 1 16 Tryz.underlying54 hi hz0 hz1 hz2 rfl (by decide) _ _ _ rfl ((OwnsS.below hO hB2').alloc _) ⟨w2.heap.size, 0, none⟩ 1 1 [strV p.2] rfl rfl (cell_one_new _ _ _) (fun u hu => by simp at hu; subst hu; rfl) (by unfold maxLen; omega) (by omega) (by simp; omega) ?_; intro v' w3 hown' hgrow _)
        go_roundw
        case rel => exact ⟨k + 1, by go_num, by omega, by rw [all_yes HP.out HO.out]; exact OwnsS.snoc hown', below_append hBr hbr hB2' hO hgrow⟩
        case measure => simp [intOf]; omega
      | false =>
        have heq := toList_other (of_decide_eq_false ho)
        have HO := Lib.hid ho
        clear ho
        go_wp2_with fail
        refine (lowerName_any p.1 p.2 _ (by omega)).mono ?_
        rintro e w2 ⟨rfl, hB2⟩
        have hB2' := below_pair' hB2
        have hs2 := hB2'.size
        clear hB2
        go_wp2_with fail
        go_roundw
        case rel => exact ⟨k + 1, by go_num, by omega, by rw [all_no HP.out HO.out]; exact OwnsS.below hO hB2', hBr.trans (hB2'.mono hbr)⟩
        case measure => simp [intOf]; omega
    · have htk : ps.take k = ps := List.take_of_length_le (by omega)
      rw [htk] at hO
      go_wp2_with fail
      go_ret
      exact ⟨_, rfl, OwnsS.mono hz1' hO, hB.trans (hBr.mono hz1')⟩
end Go.Proofs.YtgbcpheccaldlaaGreatDoor

/- Slices of fields that a call made, as slices that are read; appending one field. -/
namespace Go.Proofs.YtgbcpheccaldlaaGreatDoor
open Go.RowKit

theorem ReadsP.q {w : World} {v : Value} {ps : Flds} (h : ReadsP w v ps) : ReadsQ w v ps := by
  obtain ⟨ao, cap, rfl, hc⟩ := h
  refine ⟨ao, cap, rfl, fun j p hj => ?_⟩
  obtain ⟨g, h1, h2, h3, h4⟩ := hc j p hj
  exact ⟨g, 0, h1, h2, by rw [Nat.zero_add]; exact h3, by rw [Nat.zero_add]; exact h4⟩
theorem OwnsP.q {T : TypeId} {B : Nat} {w : World} {v : Value} {ps : Flds} (h : OwnsP T B w v ps) : ReadsQ w v ps := h.reads.q
/-- A slice's length is within its room; a slice that is nil has none. -/
def Sane (v : Value) : Prop := ∀ a n c, v = .slice a n c → n ≤ c ∧ (a = none → c = 0)
theorem OwnsP.sane {T : TypeId} {B : Nat} {w : World} {v : Value} {ps : Flds} (h : OwnsP T B w v ps) : Sane v := by
  rcases h with ⟨hl, ⟨hv, hn⟩ | ⟨g, cap, cur, hv, hb, hg, hn, _⟩⟩
  · intro a n c e; rw [hv] at e; cases e; exact ⟨Nat.le_refl _, fun _ => rfl⟩
  · intro a n c e; rw [hv] at e; cases e; exact ⟨hn, fun h => by cases h⟩
theorem Tryz.infoF : (Tryz.prog.info? 60).map (fun i => (i.zero, i.size, i.bytes)) = some (some (.agg #[.string ByteArray.empty, .string ByteArray.empty]), 2, 32) := by kernel_rfl
theorem own_more {T : TypeId} {B : Nat} {w : World} {v : Value} {ps : Flds} {k : Nat} {p : List UInt8 × List UInt8} (hp : ps[k]? = some p)
    (h : w.ownsRow B T 2 v ((ps.take k).length + 1) (flatP (ps.take k) ++ [strV p.1, strV p.2])) : OwnsP T B w v (ps.take (k + 1)) := by
  have := OwnsP.snoc h
  rw [take_more hp]; exact this
theorem two_new (W : World) (a b : List UInt8) (T : TypeId) : ∀ (j : Nat) (u : Value), [strV a, strV b][j]? = some u →
    (W.alloc (.cells #[.string (strB a), .string (strB b)] T)).cell? ((⟨W.heap.size, 0, none⟩ : Addr).add j) = some u := by
  intro j u h
  rw [Addr.add_lit, Nat.zero_add, World.cell?_alloc_at _ _ _ _ rfl]
  match j, h with
  | 0, h => simpa using h
  | 1, h => simpa using h
  | j + 2, h => simp at h
theorem two_new' (W : World) (a b : List UInt8) (T T' : TypeId) : ∀ (j : Nat) (u : Value), [strV a, strV b][j]? = some u →
    ((W.alloc (.cells #[.string (strB a), .string (strB b)] T)).alloc (.cells #[.string (strB a), .string (strB b)] T')).cell? ((⟨W.heap.size + 1, 0, none⟩ : Addr).add j) = some u := by
  intro j u h
  have := two_new (W.alloc (.cells #[.string (strB a), .string (strB b)] T)) a b T' j u h
  simpa using this

end Go.Proofs.YtgbcpheccaldlaaGreatDoor

/- What Are returns: whether two lists of fields are the same. -/
namespace Go.Proofs.YtgbcpheccaldlaaGreatDoor
open Go.RowKit

theorem same_step {la lb : Flds} {k : Nat} {l : List UInt8 × List UInt8} (h : la.take k = lb.take k) (ha : la[k]? = some l) (hb : lb[k]? = some l) : la.take (k + 1) = lb.take (k + 1) := by
  rw [List.take_add_one, List.take_add_one, h, ha, hb]
theorem same_no {la lb : Flds} {k : Nat} {l m : List UInt8 × List UInt8} (ha : la[k]? = some l) (hb : lb[k]? = some m) (h : l ≠ m) : false = decide (la = lb) := by
  rw [eq_comm, decide_eq_false_iff_not]; intro e; rw [e, hb] at ha; simp at ha; exact h ha.symm
theorem same_end {la lb : Flds} {k : Nat} (h : la.take k = lb.take k) (ha : la.length ≤ k) (hb : lb.length ≤ k) : true = decide (la = lb) := by
  rw [List.take_of_length_le ha, List.take_of_length_le hb] at h; simp [h]

set_option maxHeartbeats 4000000 in
set_option maxRecDepth 100000 in
theorem are_any (va vb : Value) (la lb : Flds) (w : World) (ha : ReadsQ w va la) (hb : ReadsQ w vb lb) (hla : la.length ≤ 1000000) (_hlb : lb.length ≤ 1000000) :
    Calls Tryz.prog 11 #[va, vb] w fun e w' => e = .returned (.bool (decide (la = lb))) ∧ ∃ n, w' = w.drewN n := by
  obtain ⟨ao, ca, rfl, hca⟩ := ha
  obtain ⟨bo, cb, rfl, hcb⟩ := hb
  by_cases hne : la.length = lb.length
  · have hne1 : la.length ≤ lb.length := by omega
    have hne2 : lb.length ≤ la.length := by omega
    have Hne := Lib.hid hne
    have HA := Lib.hid hca
    have HB := Lib.hid hcb
    clear hne hca hcb
    go_enter Tryz.func11, Tryz.ntmps11
    go_wp2
    go_loopw [13] (fun i wr => ∃ k n : Nat, i = .int .i64 k ∧ k ≤ la.length ∧ la.take k = lb.take k ∧ wr = w.drewN n) (fun i _ => la.length - (intOf i).toNat)
    case atStart => exact ⟨0, 0, rfl, Nat.zero_le _, rfl, rfl⟩
    case round =>
      obtain ⟨k, n, rfl, hk, hs, rfl⟩ := hrel
      have HS := Lib.hid hs
      clear hs
      by_cases hlt : k < la.length
      · obtain ⟨l, hl⟩ : ∃ l, la[k]? = some l := ⟨la[k], by simp [hlt]⟩
        obtain ⟨m, hm⟩ : ∃ m, lb[k]? = some m := ⟨lb[k]'(by omega), by simp⟩
        obtain ⟨g, off, rfl, hg, hc1, hc2⟩ := HA.out k l hl
        obtain ⟨g', off', rfl, hg', hd1, hd2⟩ := HB.out k m hm
        have HL := Lib.hid hl
        have HM := Lib.hid hm
        clear hl hm
        by_cases h1 : l.1 = m.1
        · have heq := toList_same h1
          by_cases h2 : l.2 = m.2
          · have heq2 := toList_same h2
            have hlm : l = m := Prod.ext h1 h2
            have HLM := Lib.hid hlm
            clear hlm h1 h2
            go_wp2
            go_quiet (fail)
            go_wp2
            go_roundw
            case rel => exact ⟨k + 1, _, by go_num, by omega, same_step HS.out HL.out (by rw [HLM.out]; exact HM.out), rfl⟩
            case measure => simp [intOf]; omega
          · have heq2 := toList_other h2
            have hlm : l ≠ m := fun e => h2 (by rw [e])
            have HLM := Lib.hid hlm
            clear hlm h1 h2
            go_wp2
            go_quiet (fail)
            go_wp2
            go_ret
            exact ⟨ret_bool (same_no HL.out HM.out HLM.out), n + nq, by first | exact World.drewN_drewN .. | rfl⟩
        · have heq := toList_other h1
          have hlm : l ≠ m := fun e => h1 (by rw [e])
          have HLM := Lib.hid hlm
          clear hlm h1
          go_wp2
          go_quiet (fail)
          go_wp2
          go_ret
          exact ⟨ret_bool (same_no HL.out HM.out HLM.out), n + nq, by first | exact World.drewN_drewN .. | rfl⟩
      · go_wp2
        go_ret
        exact ⟨ret_bool (same_end HS.out (by omega) (by omega)), _, rfl⟩
  · go_enter Tryz.func11, Tryz.ntmps11
    have h0 : ((la.length : Int) != (lb.length : Int)) = true := by simp; omega
    go_wp2
    go_ret
    exact ⟨ret_bool (by simp; intro h; exact hne (by rw [h])), 0, rfl⟩
theorem are_same (va vb : Value) (l : Flds) (w : World) (ha : ReadsQ w va l) (hb : ReadsQ w vb l) (hl : l.length ≤ 1000000) :
    Calls Tryz.prog 11 #[va, vb] w fun e w' => e = .returned (.bool true) ∧ Below w.heap.size w w' :=
  (are_any va vb l l w ha hb hl hl).mono fun e w' ⟨he, n, hw⟩ => ⟨by rw [he, decide_eq_true rfl], by rw [hw]; exact below_drewN (Below.refl _ _) n⟩

end Go.Proofs.YtgbcpheccaldlaaGreatDoor

/- A new variable of two strings, kept over calls. -/
namespace Go.Proofs.YtgbcpheccaldlaaGreatDoor
open Go.RowKit

theorem below_draw {B : Nat} {a w : World} (h : Below B a w) (n : Nat) : Below B a (w.drewN n) := ⟨h.os, h.tape, h.output, h.size, h.block⟩
theorem below_two {w w' : World} (h : Below w.heap.size w w') (u v : Value) : Below w.heap.size w ((w'.setCell ⟨w.heap.size, 0, none⟩ u).setCell ⟨w.heap.size, 1, none⟩ v) :=
  (h.setCell (p := ⟨w.heap.size, 0, none⟩) (Nat.le_refl _) u).setCell (p := ⟨w.heap.size, 1, none⟩) (Nat.le_refl _) v
theorem below_over {a w w' : World} (h : Below a.heap.size a w) (hw : Below w.heap.size w w') : Below a.heap.size a w' := h.trans (hw.mono h.size)
/-- A new variable of two strings is as it was behind a call that leaves what was there. -/
theorem two_kept (w : World) (n : Nat) {t : TypeId} {w' : World} (h : Below ((w.alloc (.cells #[.string ⟨#[]⟩, .string ⟨#[]⟩] t)).drewN n).heap.size ((w.alloc (.cells #[.string ⟨#[]⟩, .string ⟨#[]⟩] t)).drewN n) w') :
    w'.cell? ⟨w.heap.size, 0, none⟩ = some (.string ⟨#[]⟩) ∧ w'.cell? ⟨w.heap.size, 1, none⟩ = some (.string ⟨#[]⟩) ∧ w'.frozen? ⟨w.heap.size, 0, none⟩ = false ∧ w'.frozen? ⟨w.heap.size, 1, none⟩ = false ∧ w.heap.size < w'.heap.size := by
  have hs : w.heap.size < ((w.alloc (.cells #[.string ⟨#[]⟩, .string ⟨#[]⟩] t)).drewN n).heap.size := by show w.heap.size < (w.heap.push _).size; simp
  have c : ∀ j, ((w.alloc (.cells #[.string ⟨#[]⟩, .string ⟨#[]⟩] t)).drewN n).cell? ⟨w.heap.size, j, none⟩ = (#[.string ⟨#[]⟩, .string ⟨#[]⟩] : Array Value)[j]? := fun j => by
    show (w.alloc _).cell? _ = _
    rw [World.cell?_alloc_at _ _ _ _ rfl]
  have f : ∀ j, ((w.alloc (.cells #[.string ⟨#[]⟩, .string ⟨#[]⟩] t)).drewN n).frozen? ⟨w.heap.size, j, none⟩ = false := fun j => by
    show (w.alloc _).frozen? _ = _
    exact World.frozen?_alloc_at _ _ _ _ rfl
  refine ⟨(h.cell (p := ⟨w.heap.size, 0, none⟩) hs).trans (c 0), (h.cell (p := ⟨w.heap.size, 1, none⟩) hs).trans (c 1), (h.frozen (p := ⟨w.heap.size, 0, none⟩) hs).trans (f 0), (h.frozen (p := ⟨w.heap.size, 1, none⟩) hs).trans (f 1), Nat.lt_of_lt_of_le hs h.size⟩
theorem box_kept (w : World) {a b : Value} {t : TypeId} {w' : World} (h : Below (w.alloc (.cells #[a, b] t)).heap.size (w.alloc (.cells #[a, b] t)) w') :
    w'.cell? ⟨w.heap.size, 0, none⟩ = some a ∧ w'.cell? ⟨w.heap.size, 1, none⟩ = some b ∧ w'.frozen? ⟨w.heap.size, 0, none⟩ = false ∧ w'.frozen? ⟨w.heap.size, 1, none⟩ = false ∧ w.heap.size < w'.heap.size := by
  have hs : w.heap.size < (w.alloc (.cells #[a, b] t)).heap.size := by simp
  have hc : ∀ j, (w.alloc (.cells #[a, b] t)).cell? ⟨w.heap.size, j, none⟩ = (#[a, b] : Array Value)[j]? := fun j => by rw [World.cell?_alloc_at _ _ _ _ rfl]
  have hf : ∀ j, (w.alloc (.cells #[a, b] t)).frozen? ⟨w.heap.size, j, none⟩ = false := fun j => World.frozen?_alloc_at _ _ _ _ rfl
  exact ⟨(h.cell (p := ⟨w.heap.size, 0, none⟩) hs).trans (hc 0), (h.cell (p := ⟨w.heap.size, 1, none⟩) hs).trans (hc 1),
    (h.frozen (p := ⟨w.heap.size, 0, none⟩) hs).trans (hf 0), (h.frozen (p := ⟨w.heap.size, 1, none⟩) hs).trans (hf 1), Nat.lt_of_lt_of_le hs h.size⟩
theorem two_newG (W : World) (a b : List UInt8) (T : TypeId) : ∀ (j : Nat) (u : Value), [strV a, strV b][j]? = some u →
    (W.alloc (.cells #[.string (strB a), .string (strB b)] T)).cell? ((⟨W.heap.size, 0, none⟩ : Addr).add j) = some u := by
  intro j u h
  rw [Addr.add_lit, Nat.zero_add, World.cell?_alloc_at _ _ _ _ rfl]
  match j, h with
  | 0, h => simpa using h
  | 1, h => simpa using h
  | j + 2, h => simp at h
theorem two_newS (W : World) (a b : List UInt8) (T : TypeId) (m : Nat) (hm : m = W.heap.size) : ∀ (j : Nat) (u : Value), [strV a, strV b][j]? = some u →
    (W.alloc (.cells #[.string (strB a), .string (strB b)] T)).cell? ((⟨m, 0, none⟩ : Addr).add j) = some u := by
  subst hm; exact two_newG W a b T
end Go.Proofs.YtgbcpheccaldlaaGreatDoor
