import Derived.Test.YtfmgfcddnnggeaaGreatDoorPa10
import Derived.Test.YtfmgfcddnnggeaaGreatDoorPa16
import Derived.Test.YtfmgfcddnnggeaaGreatDoorPa14
import Derived.Test.YtfmgfcddnnggeaaGreatDoorPa9
import Derived.Test.YtfmgfcddnnggeaaGreatDoorPa1
import Derived.Lib.Hide
/- A connection in memory: what its block holds, and the rows that are its own. -/
namespace Go.Proofs.YtfmgfcddnnggeaaGreatDoor
open Go.RowKit

/-- The methods that are left. -/
def MsM (Z : Nat → Prop) (w : World) (v : Value) (ms : List (List UInt8)) : Prop :=
  ∃ a cap, v = .slice a ms.length cap ∧ ms.length ≤ cap ∧ cap ≤ maxLen ∧ (ms ≠ [] → ∃ g off, a = some ⟨g, off, none⟩ ∧ Z g ∧ g < w.heap.size ∧ ∀ j l, ms[j]? = some l → w.cell? ⟨g, off + j, none⟩ = some (.string (strB l)))
theorem MsM.only {Z Y : Nat → Prop} {w w' : World} {v : Value} {ms : List (List UInt8)} (h : MsM Z w v ms) (hO : Only Y w w') (hd : ∀ k, Z k → ¬ Y k) : MsM Z w' v ms := by
  obtain ⟨a, cap, hv, h1, h2, h3⟩ := h
  refine ⟨a, cap, hv, h1, h2, fun hn => ?_⟩
  obtain ⟨g, off, ha, hz, hg, hc⟩ := h3 hn
  exact ⟨g, off, ha, hz, Nat.lt_of_lt_of_le hg hO.size, fun j l hj => (hO.cell (p := ⟨g, off + j, none⟩) hg (hd g hz)).trans (hc j l hj)⟩
theorem msM_nil (Z : Nat → Prop) (w : World) : MsM Z w (.slice none 0 0) [] := ⟨none, 0, rfl, Nat.le_refl _, by unfold maxLen; omega, fun h => absurd rfl h⟩
/-- The decoder of a chunked body, or none. -/
def DecO (B : Nat) (X : Nat → Prop) (o : Option Dc) (dv : Value) (w : World) : Prop := match o with
  | none => dv = .pointer none
  | some d => ∃ Q, dv = .pointer (some ⟨Q, 0, none⟩) ∧ Dec B Q X d w
theorem DecO.only {B : Nat} {X Y : Nat → Prop} {o : Option Dc} {dv : Value} {w w' : World} (h : DecO B X o dv w) (hO : Only Y w w') (hd : ∀ k, X k → ¬ Y k) : DecO B X o dv w' := by
  cases o with
  | none => exact h
  | some d => obtain ⟨Q, hv, hD⟩ := h; exact ⟨Q, hv, hD.only hO hd⟩
/-- The cells of a connection. -/
abbrev cnCells (s : Cn) (mv sv dv : Value) : Array Value := #[.bool s.rs, mv, .int .i64 (s.hd : Int), sv, .int .i64 (s.fk : Int), .int .i64 (s.fl : Int), dv, .bool s.cl, errV s.er]
structure ConP (B P : Nat) (X XM XD : Nat → Prop) (s : Cn) (mv sv dv : Value) (w : World) : Prop where
  h : w.heap[P]? = some (.cells (cnCells s mv sv dv) 51 (0, 0))
  m : MsM XM w mv s.ms
  t : OwnB B w sv s.st
  d : DecO B XD s.dc dv w
  p : X P
  xm : ∀ k, XM k → X k ∧ k ≠ P
  xs : ∀ k, sv.ownBlock = some k → X k ∧ k ≠ P ∧ ¬ XM k ∧ ¬ XD k
  xd : ∀ k, XD k → X k ∧ k ≠ P ∧ ¬ XM k
  lt : ∀ k, X k → B ≤ k ∧ k < w.heap.size
/-- The connection at the block P holds s; its blocks are those of X, all from B on. -/
def Con (B P : Nat) (X : Nat → Prop) (s : Cn) (w : World) : Prop := ∃ mv sv dv XM XD, ConP B P X XM XD s mv sv dv w
theorem ConP.only {B P : Nat} {X XM XD Y : Nat → Prop} {s : Cn} {mv sv dv : Value} {w w' : World} (h : ConP B P X XM XD s mv sv dv w) (hO : Only Y w w') (hd : ∀ k, X k → ¬ Y k) : ConP B P X XM XD s mv sv dv w' :=
  ⟨(hO.block P (h.lt P h.p).2 (hd P h.p)).trans h.h, h.m.only hO (fun k hk => hd k (h.xm k hk).1), h.t.only hO (fun k hk => hd k (h.xs k hk).1), h.d.only hO (fun k hk => hd k (h.xd k hk).1), h.p, h.xm, h.xs, h.xd, fun k hk => ⟨(h.lt k hk).1, Nat.lt_of_lt_of_le (h.lt k hk).2 hO.size⟩⟩
theorem Con.only {B P : Nat} {X Y : Nat → Prop} {s : Cn} {w w' : World} (h : Con B P X s w) (hO : Only Y w w') (hd : ∀ k, X k → ¬ Y k) : Con B P X s w' := by
  obtain ⟨mv, sv, dv, XM, XD, h⟩ := h
  exact ⟨mv, sv, dv, XM, XD, h.only hO hd⟩
theorem ConP.below {B P : Nat} {X XM XD : Nat → Prop} {s : Cn} {mv sv dv : Value} {w w' : World} (h : ConP B P X XM XD s mv sv dv w) (hb : Below w.heap.size w w') : ConP B P X XM XD s mv sv dv w' :=
  h.only (Y := fun _ => False) (Only.below hb) (fun _ _ h => h)
theorem Con.below {B P : Nat} {X : Nat → Prop} {s : Cn} {w w' : World} (h : Con B P X s w) (hb : Below w.heap.size w w') : Con B P X s w' :=
  h.only (Y := fun _ => False) (Only.below hb) (fun _ _ h => h)
theorem Con.lt {B P : Nat} {X : Nat → Prop} {s : Cn} {w : World} (h : Con B P X s w) : P < w.heap.size ∧ X P ∧ (∀ k, X k → B ≤ k ∧ k < w.heap.size) := by
  obtain ⟨mv, sv, dv, XM, XD, h⟩ := h
  exact ⟨(h.lt P h.p).2, h.p, h.lt⟩
/-- A store into the connection's own block. -/
theorem ConP.set {B P : Nat} {X X' XM XM' XD XD' : Nat → Prop} {s s' : Cn} {mv sv dv mv' sv' dv' : Value} {w : World} (h : ConP B P X XM XD s mv sv dv w) (j : Nat) (u : Value)
    (hc : (cnCells s mv sv dv).setIfInBounds j u = cnCells s' mv' sv' dv') (hm : MsM XM' w mv' s'.ms) (ht : OwnB B w sv' s'.st) (hd : DecO B XD' s'.dc dv' w) (hX : ∀ k, X k → X' k)
    (xm : ∀ k, XM' k → X' k ∧ k ≠ P) (xs : ∀ k, sv'.ownBlock = some k → X' k ∧ k ≠ P ∧ ¬ XM' k ∧ ¬ XD' k) (xd : ∀ k, XD' k → X' k ∧ k ≠ P ∧ ¬ XM' k) (lt : ∀ k, X' k → B ≤ k ∧ k < w.heap.size) :
    ConP B P X' XM' XD' s' mv' sv' dv' (w.setCell ⟨P, j, none⟩ u) := by
  have hO : Only (fun k => k = P) w (w.setCell ⟨P, j, none⟩ u) := Only.set (X := fun k => k = P) rfl w j u
  exact ⟨by rw [heap_setCell_same w P j _ _ u h.h, hc], hm.only hO (fun k hk => (xm k hk).2), ht.only hO (fun k hk => (xs k hk).2.1), hd.only hO (fun k hk => (xd k hk).2.1), hX P h.p, xm, xs, xd, fun k hk => ⟨(lt k hk).1, by simpa using (lt k hk).2⟩⟩
/-- A store that leaves the rows as they are. -/
theorem ConP.put {B P : Nat} {X XM XD : Nat → Prop} {s s' : Cn} {mv sv dv : Value} {w : World} (h : ConP B P X XM XD s mv sv dv w) (j : Nat) (u : Value) (hc : (cnCells s mv sv dv).setIfInBounds j u = cnCells s' mv sv dv) (hm : s'.ms = s.ms) (ht : s'.st = s.st) (hd : s'.dc = s.dc) :
    ConP B P X XM XD s' mv sv dv (w.setCell ⟨P, j, none⟩ u) :=
  h.set j u hc (by rw [hm]; exact h.m) (by rw [ht]; exact h.t) (by rw [hd]; exact h.d) (fun _ h => h) h.xm h.xs h.xd h.lt
/-- The cells that the walks read. -/
structure ConC (P : Nat) (s : Cn) (mv sv dv : Value) (w : World) : Prop where
  c0 : w.cell? ⟨P, 0, none⟩ = some (.bool s.rs)
  c1 : w.cell? ⟨P, 1, none⟩ = some mv
  c2 : w.cell? ⟨P, 2, none⟩ = some (.int .i64 (s.hd : Int))
  c3 : w.cell? ⟨P, 3, none⟩ = some sv
  c4 : w.cell? ⟨P, 4, none⟩ = some (.int .i64 (s.fk : Int))
  c5 : w.cell? ⟨P, 5, none⟩ = some (.int .i64 (s.fl : Int))
  c6 : w.cell? ⟨P, 6, none⟩ = some dv
  c7 : w.cell? ⟨P, 7, none⟩ = some (.bool s.cl)
  c8 : w.cell? ⟨P, 8, none⟩ = some (errV s.er)
  f : ∀ j, w.frozen? ⟨P, j, none⟩ = false
theorem ConP.cells {B P : Nat} {X XM XD : Nat → Prop} {s : Cn} {mv sv dv : Value} {w : World} (h : ConP B P X XM XD s mv sv dv w) : ConC P s mv sv dv w := by
  have := h.h
  constructor
  case f => exact fun j => Lib.frozen_of_heap this j
  all_goals (rw [Lib.cell_of_heap this]; rfl)
theorem ConP.er {B P : Nat} {X XM XD : Nat → Prop} {s : Cn} {mv sv dv : Value} {w : World} (h : ConP B P X XM XD s mv sv dv w) {n : Nat} {v : Value} (hv : v = errV n) : ConP B P X XM XD { s with er := n } mv sv dv (w.setCell ⟨P, 8, none⟩ v) := h.put _ _ (by rw [hv]; rfl) rfl rfl rfl
theorem ConP.cl {B P : Nat} {X XM XD : Nat → Prop} {s : Cn} {mv sv dv : Value} {w : World} (h : ConP B P X XM XD s mv sv dv w) (b : Bool) : ConP B P X XM XD { s with cl := b } mv sv dv (w.setCell ⟨P, 7, none⟩ (.bool b)) := h.put _ _ rfl rfl rfl rfl
theorem ConP.fk {B P : Nat} {X XM XD : Nat → Prop} {s : Cn} {mv sv dv : Value} {w : World} (h : ConP B P X XM XD s mv sv dv w) {n : Nat} {z : Int} (hz : z = n) : ConP B P X XM XD { s with fk := n } mv sv dv (w.setCell ⟨P, 4, none⟩ (.int .i64 z)) := h.put _ _ (by rw [hz]; rfl) rfl rfl rfl
theorem ConP.fl {B P : Nat} {X XM XD : Nat → Prop} {s : Cn} {mv sv dv : Value} {w : World} (h : ConP B P X XM XD s mv sv dv w) {n : Nat} {z : Int} (hz : z = n) : ConP B P X XM XD { s with fl := n } mv sv dv (w.setCell ⟨P, 5, none⟩ (.int .i64 z)) := h.put _ _ (by rw [hz]; rfl) rfl rfl rfl
theorem ConP.hd {B P : Nat} {X XM XD : Nat → Prop} {s : Cn} {mv sv dv : Value} {w : World} (h : ConP B P X XM XD s mv sv dv w) {n : Nat} {z : Int} (hz : z = n) : ConP B P X XM XD { s with hd := n } mv sv dv (w.setCell ⟨P, 2, none⟩ (.int .i64 z)) := h.put _ _ (by rw [hz]; rfl) rfl rfl rfl
/-- No decoder any more. -/
theorem ConP.nodc {B P : Nat} {X XM XD : Nat → Prop} {s : Cn} {mv sv dv : Value} {w : World} (h : ConP B P X XM XD s mv sv dv w) : ConP B P X XM (fun _ => False) { s with dc := none } mv sv (.pointer none) (w.setCell ⟨P, 6, none⟩ (.pointer none)) :=
  h.set 6 _ rfl h.m h.t rfl (fun _ h => h) h.xm (fun k hk => ⟨(h.xs k hk).1, (h.xs k hk).2.1, (h.xs k hk).2.2.1, fun h => h⟩) (fun _ hk => False.elim hk) h.lt
/-- No incomplete head any more. -/
theorem ConP.nost {B P : Nat} {X XM XD : Nat → Prop} {s : Cn} {mv sv dv : Value} {w : World} (h : ConP B P X XM XD s mv sv dv w) : ConP B P X XM XD { s with st := [] } mv (.slice none 0 0) dv (w.setCell ⟨P, 3, none⟩ (.slice none 0 0)) :=
  h.set 3 _ rfl h.m (OwnB.nil _ _) h.d (fun _ h => h) h.xm (fun k hk => (by cases hk)) h.xd h.lt
/-- The first method is used up. -/
theorem msM_tail2 {Z : Nat → Prop} {w : World} {v : Value} {m : List UInt8} {ms : List (List UInt8)} (h : MsM Z w v (m :: ms)) :
    ∃ g off cap, v = .slice (some ⟨g, off, none⟩) (ms.length + 1) cap ∧ ms.length + 1 ≤ cap ∧ MsM Z w (.slice (if cap = 1 then some ⟨g, off, none⟩ else some ⟨g, off + 1, none⟩) ms.length (cap - 1)) ms := by
  obtain ⟨a, cap, rfl, h1, h2, h3⟩ := h
  obtain ⟨g, off, rfl, hz, hg, hc⟩ := h3 (by simp)
  simp only [List.length_cons] at h1
  refine ⟨g, off, cap, rfl, h1, _, cap - 1, rfl, by omega, by omega, fun hn => ?_⟩
  have h2' : cap ≠ 1 := by have := List.length_pos_iff.2 hn; omega
  refine ⟨g, off + 1, by rw [if_neg h2'], hz, hg, fun j l hj => ?_⟩
  have := hc (j + 1) l (by simpa using hj)
  rw [← this]; congr 2; omega
/-- What stands from a place on. -/
theorem tail_D {w : World} {v : Value} {l : List UInt8} (h : ReadsD w v l) (k : Nat) (hk : k ≤ l.length) :
    ∃ a c, (∀ W, (Instr.slice 30 v (some (.int .i64 (k : Int))) none none).run Tryz.prog W = .ok (.slice a (l.length - k) c) W) ∧ ReadsD w (.slice a (l.length - k) c) (l.drop k) ∧ (∀ i, (Value.slice a (l.length - k) c).ownBlock = some i → v.ownBlock = some i) := by
  obtain ⟨a, cap, rfl, h1, h2, h3, h4⟩ := h
  have e : ∀ W, (Instr.slice 30 (.slice a l.length cap) (some (.int .i64 (k : Int))) none none).run Tryz.prog W = .ok (sliced a k l.length cap 1) W := by
    intro W
    rw [run_slice_l (t := 30) (ht := by kernel_rfl) (kl := .i64) (l := (k : Int)) (h0 := by omega) (h1 := by omega)]
    have hz : (Go.sizeOf (Tryz.prog.elem 30)).run Tryz.prog W = .ok 1 W := by rw [show Tryz.prog.elem 30 = 5 by kernel_rfl]; simp [go_sem]
    rw [hz, Int.toNat_natCast]; rfl
  refine ⟨if cap = k then a else a.map (·.add (k * 1)), cap - k, e, ?_, ?_⟩
  · refine ⟨_, cap - k, by rw [List.length_drop], by rw [List.length_drop]; omega, by omega, fun hn => ?_, fun j c hj => ?_⟩
    · by_cases hc : cap = k
      · omega
      · rw [if_neg hc] at hn
        have : a = none := by cases a with
          | none => rfl
          | some p => cases hn
        have := h3 this; omega
    · rw [List.getElem?_drop] at hj
      have hlt := (List.getElem?_eq_some_iff.mp hj).1
      obtain ⟨g, off, rfl, hg, hc⟩ := h4 (k + j) c hj
      refine ⟨g, off + k, by rw [if_neg (by omega)]; simp [Addr.add_lit], hg, ?_⟩
      rw [← hc]; congr 2; omega
  · intro i hi
    cases a with
    | none => by_cases hc : cap = k <;> simp [hc, Value.ownBlock] at hi
    | some p =>
      obtain ⟨b, o, q⟩ := p
      by_cases hc : cap = k
      · simpa [hc, Value.ownBlock] using hi
      · rw [if_neg hc] at hi
        by_cases hk0 : k = 0
        · simpa [hk0, Value.ownBlock, Addr.add] using hi
        · simpa [hk0, Value.ownBlock, Addr.add] using hi
end Go.Proofs.YtfmgfcddnnggeaaGreatDoor

/- What the program's elements returns: the elements of all values, or ErrForm. -/
namespace Go.Proofs.YtfmgfcddnnggeaaGreatDoor
open Go.RowKit

def ElPost (vs : List (List UInt8)) (w : World) (e : Ending) (w' : World) : Prop :=
  Below w.heap.size w w' ∧
  match elemsF vs with
  | none => e = .returned (.tuple #[.slice none 0 0, errForm])
  | some es => ∃ v, e = .returned (.tuple #[v, .nilIface]) ∧ OwnsS w.heap.size w' v es
def ElRel (vs : List (List UInt8)) (w : World) (u i : Value) (wr : World) : Prop :=
  ∃ (k : Nat) (acc : List (List UInt8)), i = .int .i64 k ∧ k ≤ vs.length ∧ elemsF (vs.take k) = some acc ∧ OwnsS w.heap.size wr u acc ∧ Below w.heap.size w wr
theorem ElRel0 (vs : List (List UInt8)) (w : World) : ElRel vs w (.slice none 0 0) (.int .i64 0) w :=
  ⟨0, [], rfl, Nat.zero_le _, rfl, World.ownsRow_nil _ _ _ _, Below.refl _ _⟩
set_option maxHeartbeats 4000000 in
set_option maxRecDepth 100000 in
theorem elements_any (vv : Value) (vs : List (List UInt8)) (w : World) (hr : ReadsS w vv vs) (hs : roomL vs ≤ 50000) :
    Calls Tryz.prog 87 #[vv] w (ElPost vs w) := by
  obtain ⟨ao, cap, rfl, hc⟩ := hr
  have hvn : vs.length ≤ 50000 := Nat.le_trans (room_len vs) hs
  have HC := Lib.hid hc
  have HS := Lib.hid hs
  clear hc hs
  go_enter Tryz.func87, Tryz.ntmps87
  go_wp2_with fail
  go_loopw [4, 11] (fun u i wr => ElRel vs w u i wr) (fun _ i _ => vs.length - (intOf i).toNat)
  case atStart => exact ElRel0 vs w
  case round =>
    obtain ⟨k, acc, rfl, hk, hacc, hO, hB⟩ := hrel
    have hbr := hB.size
    have HA := Lib.hid hacc
    have hal : acc.length ≤ 50000 := Nat.le_trans (elems_len hacc) (Nat.le_trans (room_take vs k) HS.out)
    clear hacc
    by_cases hlt : k < vs.length
    · obtain ⟨v, hv⟩ : ∃ v, vs[k]? = some v := ⟨vs[k], by simp [hlt]⟩
      obtain ⟨g, off, rfl, hg, h1⟩ := HC.out k v hv
      have hcell : wr.cell? ⟨g, off + k, none⟩ = some (.string (strB v)) := (hB.cell (p := ⟨g, off + k, none⟩) hg).trans h1
      have hvl : (strB v).size ≤ 100000 := by
        rw [strB_size]; have := room_mem (List.mem_of_getElem? hv); have := HS.out; omega
      have HV := Lib.hid hv
      have L := list_any (strB v) wr hvl
      unfold ListPost at L
      rw [strB_list] at L
      clear hv h1
      cases hl : listO v with
      | none =>
        rw [hl] at L
        have HE := Lib.hid (elems_none_at HV.out hl)
        clear hl
        go_wp2_with fail
        refine L.mono ?_
        rintro e w1 ⟨hB1, rfl⟩
        go_wp2_with fail
        go_ret2
        exact ⟨hB.trans (hB1.mono hbr), by rw [HE.out]; rfl⟩
      | some a =>
        rw [hl] at L
        have HE := Lib.hid (elems_more HV.out HA.out hl)
        have hal2 : (acc ++ a).length ≤ 50000 := Nat.le_trans (elems_len HE.out) (Nat.le_trans (room_take vs (k + 1)) HS.out)
        rw [List.length_append] at hal2
        clear hl
        go_wp2_with fail
        refine L.mono ?_
        rintro e w1 ⟨hB1, v1, rfl, hO1, _⟩
        obtain ⟨a1, c1, rfl⟩ := hO1.isSlice
        have hO0 := OwnsS.below hO hB1
        have hbr1 := hB1.size
        have hR1 := hO1.reads
        have hS1 := saneS hO1
        clear hO hO1
        go_wp2_with (at_builtin; refine wpList_appendS rfl _ _ rfl _ _ rfl rfl hO0 hR1 hS1 (by omega) (by omega) ?_; intro v' w2 hown' hgrow)
        go_roundw
        case rel => exact ⟨k + 1, acc ++ a, by go_num, by omega, HE.out, hown', below_appendS (hB.trans (hB1.mono hbr)) (by omega) hO0 hgrow⟩
        case measure => simp [intOf]; omega
    · have HE := Lib.hid (elems_all (by omega) HA.out)
      go_wp2_with fail
      go_ret2
      exact ⟨hB, by rw [HE.out]; exact ⟨_, rfl, hO⟩⟩
end Go.Proofs.YtfmgfcddnnggeaaGreatDoor

/- What the code's Number returns, for every string. -/
namespace Go.Proofs.YtfmgfcddnnggeaaGreatDoor
open Go.RowKit

def allDig (s : ByteArray) (k : Nat) : Prop := (s.data.toList.take k).all digB = true
theorem allDig0 (s : ByteArray) : allDig s 0 := by simp [allDig]
theorem allDig_step {s : ByteArray} {k : Nat} (h : k < s.size) (hn : allDig s k) (hb : digB s[k] = true) : allDig s (k + 1) := by
  unfold allDig at *; rw [take_snoc s k h, List.all_append, hn]; simp [hb]
def numV (l : List UInt8) : Nat := l.foldl (fun n c => 10 * n + (c.toNat - 48)) 0
theorem numV_snoc (l : List UInt8) (c : UInt8) : numV (l ++ [c]) = 10 * numV l + (c.toNat - 48) := by simp [numV]
theorem fold_lt : ∀ (l : List UInt8) (a : Nat), l.all digB = true → l.foldl (fun n c => 10 * n + (c.toNat - 48)) a < (a + 1) * 10 ^ l.length := by
  intro l
  induction l with
  | nil => intro a _; simp
  | cons c t ih =>
    intro a h
    simp only [List.all_cons, Bool.and_eq_true] at h
    have hc := h.1
    simp [digB] at hc
    have := ih (10 * a + (c.toNat - 48)) h.2
    rw [List.foldl_cons, List.length_cons, Nat.pow_succ]
    refine Nat.lt_of_lt_of_le this ?_
    have e : (a + 1) * (10 ^ t.length * 10) = (10 * (a + 1)) * 10 ^ t.length := by
      rw [← Nat.mul_assoc, Nat.mul_right_comm, Nat.mul_comm (a + 1) 10]
    rw [e]
    exact Nat.mul_le_mul_right _ (by omega)
theorem numV_lt (l : List UInt8) (h : l.all digB = true) : numV l < 10 ^ l.length := by
  have := fold_lt l 0 h
  simpa [numV] using this
theorem numV_le (l : List UInt8) (h : l.all digB = true) (hl : l.length ≤ 15) : numV l < 1000000000000000 := by
  have h1 := numV_lt l h
  have h2 : 10 ^ l.length ≤ 10 ^ 15 := Nat.pow_le_pow_right (by omega) hl
  have h3 : (10 : Nat) ^ 15 = 1000000000000000 := by decide
  omega
theorem int_eq {k : IntKind} {a b : Int} (h : a = b) : Value.int k a = Value.int k b := by rw [h]
abbrev errForm' : Value := .iface 32 (.int .i64 2)
abbrev errLarge' : Value := .iface 32 (.int .i64 5)
def numR (s : ByteArray) : Value := if s.size ≤ 15 then .tuple #[.int .i64 (numV s.data.toList), .nilIface] else .tuple #[.int .i64 0, errLarge']
theorem numR_large {s : ByteArray} (h : 15 < s.size) : Ending.returned (.tuple #[.int .i64 0, errLarge']) = .returned (numR s) := by unfold numR; rw [if_neg (by omega)]
theorem numR_small {s : ByteArray} {l : List UInt8} (h : ¬ 15 < s.size) (hl : l = s.data.toList) : Ending.returned (.tuple #[.int .i64 (numV l), .nilIface]) = .returned (numR s) := by unfold numR; rw [if_pos (by omega), hl]
def numGood (s : ByteArray) : Prop := s.data.toList ≠ [] ∧ s.data.toList.all digB = true

theorem digit_not {s : ByteArray} {k : Nat} (h : k < s.size) (hb : ¬ digB s[k] = true) (hg : s.data.toList.all digB = true) : False := by
  rw [List.all_eq_true] at hg
  exact hb (hg _ (get_mem s k h))
theorem digB_of {s : ByteArray} {k : Nat} (h : k < s.size) (hg : s.data.toList.all digB = true) : 48 ≤ s[k].toNat ∧ s[k].toNat ≤ 57 := by
  rw [List.all_eq_true] at hg
  have := hg _ (get_mem s k h)
  simpa [digB] using this

set_option maxHeartbeats 1000000 in
theorem number_form (s : ByteArray) (w : World) (hs : s.size ≤ maxLen) (hg : ¬ numGood s) :
    Calls Tryz.prog 56 #[.string s] w fun e w' => e = .returned (.tuple #[.int .i64 0, errForm']) ∧ w = w' := by
  unfold maxLen at hs
  by_cases he : s.data.toList = []
  · have h1 : s.toList.isEmpty = true := by rw [ByteArray.toList_eq, he]; rfl
    have h2 : s.toList = [] := by rw [ByteArray.toList_eq, he]
    have HE := Lib.hid he
    have HG := Lib.hid hg
    clear he hg
    go_enter Tryz.func56, Tryz.ntmps56
    go_wp2
    go_ret2
    exact ⟨rfl, rfl⟩
  · have h1 : s.toList.isEmpty = false := by
      rw [ByteArray.toList_eq]
      cases h : s.data.toList with
      | nil => exact absurd h he
      | cons a t => rfl
    have HE := Lib.hid he
    have HG := Lib.hid hg
    clear he hg
    go_enter Tryz.func56, Tryz.ntmps56
    go_wp2
    go_loop [4] (fun i => ∃ k : Nat, k ≤ s.size ∧ i = .int .i64 k ∧ allDig s k) (fun i => s.size - (intOf i).toNat)
    case atStart => exact ⟨0, by omega, rfl, allDig0 s⟩
    case round =>
      obtain ⟨k, hk, rfl, hn⟩ := hrel
      by_cases hlt : k < s.size
      · by_cases hb : digB s[k] = true
        all_goals
          go_wp2_with (go_at_call 79; refine (isDigit_any _ _).mono ?_; rintro e w' ⟨rfl, rfl⟩)
        · go_round
          case rel => exact ⟨k + 1, by omega, by go_num, allDig_step hlt hn hb⟩
          case measure => simp [intOf]; omega
        · go_ret2
          exact ⟨rfl, rfl⟩
      · exfalso
        apply HG.out
        refine ⟨HE.out, ?_⟩
        unfold allDig at hn
        rwa [take_all s k (by omega)] at hn
set_option maxHeartbeats 1000000 in
theorem number_good (s : ByteArray) (w : World) (hs : s.size ≤ maxLen) (hg : numGood s) :
    Calls Tryz.prog 56 #[.string s] w fun e w' => e = .returned (numR s) ∧ w = w' := by
  unfold maxLen at hs
  obtain ⟨he, hg⟩ := hg
  have h1 : s.toList.isEmpty = false := by
    rw [ByteArray.toList_eq]
    cases h : s.data.toList with
    | nil => exact absurd h he
    | cons a t => rfl
  have HG := Lib.hid hg
  clear he hg
  go_enter Tryz.func56, Tryz.ntmps56
  go_wp2
  go_loop [4] (fun i => ∃ k : Nat, k ≤ s.size ∧ i = .int .i64 k) (fun i => s.size - (intOf i).toNat)
  case atStart => exact ⟨0, by omega, rfl⟩
  case round =>
    obtain ⟨k, hk, rfl⟩ := hrel
    by_cases hlt : k < s.size
    · by_cases hb : digB s[k] = true
      · go_wp2_with (go_at_call 79; refine (isDigit_any _ _).mono ?_; rintro e w' ⟨rfl, rfl⟩)
        go_round
        case rel => exact ⟨k + 1, by omega, by go_num⟩
        case measure => simp [intOf]; omega
      · exact (digit_not hlt hb HG.out).elim
    · by_cases h15 : 15 < s.size
      · go_wp2
        go_ret2
        exact ⟨numR_large h15, rfl⟩
      · go_wp2
        go_loop [5, 6] (fun n i => ∃ k : Nat, k ≤ s.size ∧ i = .int .i64 k ∧ n = .int .i64 (numV (s.data.toList.take k))) (fun _ i => s.size - (intOf i).toNat)
        case atStart => exact ⟨0, by omega, rfl, rfl⟩
        case round =>
          obtain ⟨j, hj, rfl, rfl⟩ := hrel
          by_cases hlj : j < s.size
          · have hd := digB_of hlj HG.out
            have hd1 := hd.1
            have hd2 := hd.2
            have hv : numV (s.data.toList.take j) < 1000000000000000 := numV_le _ (by
              rw [List.all_eq_true]; intro c hc
              have := HG.out; rw [List.all_eq_true] at this
              exact this c (List.mem_of_mem_take hc)) (by simp; omega)
            have hv2 : Hid (numV (s.data.toList.take (j + 1)) = 10 * numV (s.data.toList.take j) + (s[j].toNat - 48)) := by
              rw [take_snoc s j hlj]; exact numV_snoc _ _
            clear hd
            go_wp2
            go_round
            case rel => exact ⟨j + 1, by omega, by go_num, int_eq (by rw [hv2.out]; omega)⟩
            case measure => simp [intOf]; omega
          · go_wp2
            go_ret2
            exact ⟨numR_small h15 (take_all s j (by omega)), rfl⟩
theorem number_small (s : ByteArray) (w : World) (hg : numGood s) (h15 : s.size ≤ 15) :
    Calls Tryz.prog 56 #[.string s] w fun e w' => e = .returned (.tuple #[.int .i64 (numV s.data.toList), .nilIface]) ∧ w = w' := by
  refine (number_good s w (by unfold maxLen; omega) hg).mono ?_
  rintro e w' ⟨he, hw⟩
  exact ⟨by rw [he]; unfold numR; rw [if_pos h15], hw⟩
theorem number_large (s : ByteArray) (w : World) (hs : s.size ≤ maxLen) (hg : numGood s) (h15 : 15 < s.size) :
    Calls Tryz.prog 56 #[.string s] w fun e w' => e = .returned (.tuple #[.int .i64 0, errLarge']) ∧ w = w' := by
  refine (number_good s w hs hg).mono ?_
  rintro e w' ⟨he, hw⟩
  exact ⟨by rw [he]; unfold numR; rw [if_neg (by omega)], hw⟩
end Go.Proofs.YtfmgfcddnnggeaaGreatDoor
