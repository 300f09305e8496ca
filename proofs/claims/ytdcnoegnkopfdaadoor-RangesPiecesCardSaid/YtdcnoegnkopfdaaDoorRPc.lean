/- What the code's and the reference's Piece and Pieces return. -/
import Derived.Test.YtdcnoegnkopfdaaDoorRParse
import Derived.Test.YtdcnoegnkopfdaaDoorRPiece
import Derived.Deep.RegionWith
import Derived.Deep.DeepCutAuto
import Derived.IntWalk
namespace Go.Proofs.YtdcnoegnkopfdaaDoor
open Go.RowKit

def flatN (ns : List Nat) : List Value := ns.map fun n : Nat => .int .i64 (n : Int)
def OwnsN (B : Nat) (w : World) (v : Value) (ns : List Nat) : Prop := w.ownsRow B 3 1 v ns.length (flatN ns)
/-- The value v is a slice of ints that reads as ns. -/
def ReadsN (w : World) (v : Value) (ns : List Nat) : Prop :=
  ∃ ao cap, v = .slice ao ns.length cap ∧ ∀ j n : Nat, ns[j]? = some n → ∃ g off, ao = some ⟨g, off, none⟩ ∧ g < w.heap.size ∧ w.cell? ⟨g, off + j, none⟩ = some (.int .i64 (n : Int))
theorem ReadsN.below {w w' : World} {v : Value} {ns : List Nat} (h : ReadsN w v ns) (hb : Below w.heap.size w w') : ReadsN w' v ns := by
  obtain ⟨ao, cap, rfl, hc⟩ := h
  refine ⟨ao, cap, rfl, fun j n hj => ?_⟩
  obtain ⟨g, off, h1, h2, h3⟩ := hc j n hj
  exact ⟨g, off, h1, Nat.lt_of_lt_of_le h2 hb.size, (hb.cell (p := ⟨g, off + j, none⟩) h2).trans h3⟩
theorem OwnsN.nil (B : Nat) (w : World) : OwnsN B w (.slice none 0 0) [] := World.ownsRow_nil _ _ _ _
theorem OwnsN.below {B : Nat} {w w' : World} {v : Value} {ns : List Nat} (h : OwnsN B w v ns) (hb : Below w.heap.size w w') : OwnsN B w' v ns :=
  World.ownsRow.kept h (grown_of_below hb none) (by cases hv : v.ownBlock <;> simp)
theorem OwnsN.snoc {B : Nat} {w : World} {v : Value} {ns : List Nat} {n : Nat} (h : w.ownsRow B 3 1 v (ns.length + 1) (flatN ns ++ [.int .i64 (n : Int)])) : OwnsN B w v (ns ++ [n]) := by
  unfold OwnsN flatN at *
  rw [List.map_append, List.length_append]; exact h
theorem OwnsN.reads {B : Nat} {w : World} {v : Value} {ns : List Nat} (h : OwnsN B w v ns) : ReadsN w v ns := by
  have h0 := h
  rcases h with ⟨hl, ⟨hv, hn⟩ | ⟨g, cap, cur, hv, hb, hg, hn, hm, hs, ht⟩⟩
  · have : ns = [] := List.eq_nil_of_length_eq_zero hn
    subst this
    exact ⟨none, 0, hv, fun j p h => by simp at h⟩
  · refine ⟨_, cap, hv, fun j n hj => ⟨g, 0, rfl, (World.ownsRow.lt h0 g (by rw [hv]; rfl)).2, ?_⟩⟩
    subst hv
    have hj' : j < ns.length := (List.getElem?_eq_some_iff.mp hj).1
    rw [Nat.zero_add, World.ownsRow.cellAt h0 j (by omega)]
    unfold flatN; rw [List.getElem?_map, hj]; rfl
theorem below_appendN {B : Nat} {a w w1 w2 : World} {v : Value} {ns : List Nat} {o : Obj} (hB : Below B a w) (hBs : B ≤ w.heap.size) (hb1 : Below w.heap.size w w1) (hown : OwnsN B w v ns)
    (hgrow : (w1.alloc o).grownBy w2 v.ownBlock) : Below B a w2 :=
  ((hB.trans (hb1.mono hBs)).alloc (by have := hb1.size; omega) o).grown hgrow (by have := hb1.size; simp; omega) (fun q hq => (World.ownsRow.lt hown q hq).1)
theorem new_int (w : World) (n : Int) (T : TypeId) : ∀ j u, [Value.int .i64 n][j]? = some u → (w.alloc (.cells #[.int .i64 n] T)).cell? ((⟨w.heap.size, 0, none⟩ : Addr).add j) = some u := by
  intro j u hj
  rw [Addr.add_lit, Nat.zero_add]
  match j, hj with
  | 0, hj => rw [World.cell?_alloc_at _ _ _ _ rfl]; simpa using hj
  | j + 1, hj => simp at hj
theorem Tryd.infoInt : (Tryd.prog.info? 3).map (fun i => (i.zero, i.size, i.bytes)) = some (some (.int .i64 0), 1, 8) := by kernel_rfl

set_option maxHeartbeats 400000 in
set_option maxRecDepth 100000 in
theorem bodyLen_any (n : Int) (w : World) : Calls Tryd.prog 56 #[.int .i64 n] w fun e w' => e = .returned (.int .i64 (bodyL n)) ∧ w = w' := by
  unfold bodyL
  go_enter Tryd.func56, Tryd.ntmps56
  go_wp2
  go_ret
  exact ⟨rfl, rfl⟩
def pcV : Option Rg → Value
  | none => .tuple #[rgV (0, 0), errN 1]
  | some r => .tuple #[rgV r, .nilIface]
def pcT : Option Rg → Value
  | none => .tuple #[rgV (0, 0), .bool false]
  | some r => .tuple #[rgV r, .bool true]
theorem pc_no {i n : Int} (h : ¬ (0 ≤ i ∧ i * 256 < bodyL n)) : pieceR i n = none := if_neg h
theorem pc_yes {i n : Int} (h1 : 0 ≤ i) (h2 : i * 256 < bodyL n) : pieceR i n = some (i * 256, min ((i + 1) * 256) (bodyL n)) := if_pos ⟨h1, h2⟩
set_option maxHeartbeats 4000000 in
set_option maxRecDepth 100000 in
theorem piece_any (i n : Int) (w : World) : Calls Tryd.prog 28 #[.int .i64 i, .int .i64 n] w fun e w' => e = .returned (pcV (pieceR i n)) ∧ Below w.heap.size w w' := by
  have hb := bodyL_bd n
  have HBL := Lib.hid (fun (w : World) => bodyLen_any n w)
  have HNO := Lib.hid (pc_no (i := i) (n := n))
  have HYES := Lib.hid (pc_yes (i := i) (n := n))
  generalize bodyL n = L at *
  obtain ⟨hb0, hb1⟩ := hb
  obtain ⟨c, hc⟩ : ∃ c : Int, (L + 256 - 1) / 256 = c := ⟨_, rfl⟩
  have hc0 : 0 ≤ c := by omega
  have hc1 : c ≤ 256 := by omega
  by_cases h0 : i < 0
  · have HR := Lib.hid (HNO.out (by omega))
    clear HYES HNO
    clear hc
    go_enter Tryd.func28, Tryd.ntmps28
    go_wp2_with (go_at_call 56; refine (HBL.out _).mono ?_; rintro e w' ⟨rfl, rfl⟩)
    exact bodyPost_ret (v := .tuple #[rgV (0, 0), errN 1]) (by simp [results, Tryd.results28, go_sem]) rfl ⟨by rw [HR.out]; rfl, below_new _ _⟩
  · by_cases h1 : c ≤ i
    · have HR := Lib.hid (HNO.out (by omega))
      clear HYES HNO
      have h0' : 0 ≤ i := by omega
      have hd : decide (c ≤ i) = true := decide_eq_true h1
      go_enter Tryd.func28, Tryd.ntmps28
      go_wp2_with (go_at_call 56; refine (HBL.out _).mono ?_; rintro e w' ⟨rfl, rfl⟩)
      exact bodyPost_ret (v := .tuple #[rgV (0, 0), errN 1]) (by simp [results, Tryd.results28, go_sem]) rfl ⟨by rw [HR.out]; rfl, below_new _ _⟩
    · have HR := Lib.hid (HYES.out (by omega) (by omega))
      have h0' : 0 ≤ i := by omega
      have h1' : i < c := by omega
      have hi : i ≤ 256 := by omega
      have HW := Lib.hid (fun (w : World) => (show Calls Tryd.prog 37 #[.agg #[.int .i64 (i * 256), .int .i64 ((i + 1) * 256)], .int .i64 L] w fun e w' => e = .returned (rgV (i * 256, min ((i + 1) * 256) L)) ∧ Below w.heap.size w w' from (within_any (i * 256, (i + 1) * 256) L w).mono fun e w' ⟨he, hB⟩ => ⟨by rw [he]; unfold withinR; rw [show max (i * 256) 0 = i * 256 by omega], hB⟩))
      clear HYES HNO h0 h1
      go_enter Tryd.func28, Tryd.ntmps28
      go_wp2_with (go_at_call 56; refine (HBL.out _).mono ?_; rintro e w' ⟨rfl, rfl⟩)
      refine (HW.out _).mono ?_
      rintro e w3 ⟨rfl, hB3⟩
      obtain ⟨c0, c1, f0, f1, hN⟩ := (twoI_new w 0 0 46).below hB3
      go_wp2_with fail
      exact bodyPost_ret (v := .tuple #[rgV (i * 256, min ((i + 1) * 256) L), .nilIface]) (by simp [results, Tryd.results28, go_sem, c0, c1, f0, f1]) rfl ⟨by rw [HR.out]; rfl, below_two ((below_new w _).trans (hB3.mono (by simp))) (Nat.le_refl _) _ _⟩
set_option maxHeartbeats 4000000 in
set_option maxRecDepth 100000 in
theorem refPiece_any (i n : Int) (w : World) (hi : i ≤ 9223372036854775807) : Calls Tryd.prog 29 #[.int .i64 i, .int .i64 n] w fun e w' => e = .returned (pcT (pieceR i n)) ∧ Below w.heap.size w w' := by
  have hb := bodyL_bd n
  have HNO := Lib.hid (pc_no (i := i) (n := n))
  have HYES := Lib.hid (pc_yes (i := i) (n := n))
  have hmm : max 0 (min n 65536) = bodyL n := by unfold bodyL; omega
  generalize bodyL n = L at *
  obtain ⟨hb0, hb1⟩ := hb
  by_cases h0 : i < 0
  · have HR := Lib.hid (HNO.out (by omega))
    clear HYES HNO
    go_enter Tryd.func29, Tryd.ntmps29
    go_wp2
    exact bodyPost_ret (v := .tuple #[rgV (0, 0), .bool false]) (by simp [results, Tryd.results29, go_sem]) rfl ⟨by rw [HR.out]; rfl, below_new _ _⟩
  · have h0' : 0 ≤ i := by omega
    by_cases h1 : L ≤ i
    · have HR := Lib.hid (HNO.out (by omega))
      clear HYES HNO
      go_enter Tryd.func29, Tryd.ntmps29
      go_wp2
      exact bodyPost_ret (v := .tuple #[rgV (0, 0), .bool false]) (by simp [results, Tryd.results29, go_sem]) rfl ⟨by rw [HR.out]; rfl, below_new _ _⟩
    · have h1' : i < L := by omega
      have hi2 : i ≤ 65536 := by omega
      by_cases h2 : L ≤ i * 256
      · have HR := Lib.hid (HNO.out (by omega))
        clear HYES HNO h0 h1
        go_enter Tryd.func29, Tryd.ntmps29
        go_wp2
        exact bodyPost_ret (v := .tuple #[rgV (0, 0), .bool false]) (by simp [results, Tryd.results29, go_sem]) rfl ⟨by rw [HR.out]; rfl, below_new _ _⟩
      · have HR := Lib.hid (HYES.out h0' (by omega))
        have h2' : i * 256 < L := by omega
        clear HYES HNO h0 h1 h2
        go_enter Tryd.func29, Tryd.ntmps29
        go_wp2
        exact bodyPost_ret (v := .tuple #[rgV (i * 256, min ((i + 1) * 256) L), .bool true]) (by simp [results, Tryd.results29, go_sem]) rfl ⟨by rw [HR.out]; rfl, below_new _ _⟩
end Go.Proofs.YtdcnoegnkopfdaaDoor
