import Derived.Test.YtoiampkdmjpljaaGreatDoorPa4
import Derived.Maps.OwnOps
import Derived.Maps.Views
import Derived.Test.YtoiampkdmjpljaaGreatDoorPa10
import Derived.Laws.AppendOwnNone
import Derived.Test.YtoiampkdmjpljaaGreatDoorPa6
import Derived.Test.YtoiampkdmjpljaaGreatDoorPa2
/- A map of the call's own, from names to true: made, asked, filled. -/
namespace Go.Proofs.YtoiampkdmjpljaaGreatDoor
open Go.RowKit Go.Maps

theorem keyS : Keyed Tryz.prog 9 := string_keyed Tryz.underlying9
def boolR (v : Value) : Option (DataW Unit × List MemPlace) :=
  match v with
  | .bool x => some (.lit (.bool x), [])
  | _ => none
theorem boolR_inv {v : Value} {x : Bool} {l : List MemPlace} (h : boolR v = some (.lit (.bool x), l)) : v = .bool x := by
  unfold boolR at h
  split at h
  · simp only [Option.some.injEq, Prod.mk.injEq, DataW.lit.injEq, Lit.bool.injEq] at h
    rw [h.1]
  · cases h
/-- Block b is a map of at most n names, and these are the names that it has. -/
def HasNames (w : World) (b n : Nat) (ks : List (List UInt8)) : Prop :=
  ∃ D, w.ownsMap Tryz.prog 9 boolR b n D ∧ ∀ x : List UInt8, D.atKey (.string x) (.lit (.bool false)) = .lit (.bool (decide (x ∈ ks)))
theorem HasNames.made (w : World) : HasNames (w.alloc (.map #[] 0)) w.heap.size 0 [] :=
  ⟨_, World.ownsMap_made _ _ _ _, fun x => by simp [DataW.atKey]⟩
theorem HasNames.lt {w : World} {b n : Nat} {ks : List (List UInt8)} (h : HasNames w b n ks) : b < w.heap.size := by
  obtain ⟨D, hD, _⟩ := h; exact hD.lt
theorem HasNames.kept {w w' : World} {b n : Nat} {ks : List (List UInt8)} {row : Option Nat} (h : HasNames w b n ks) (hg : w.grownBy w' row) (hne : some b ≠ row) : HasNames w' b n ks := by
  obtain ⟨D, hD, hx⟩ := h; exact ⟨D, hD.kept hg hne, hx⟩
theorem HasNames.below {w w' : World} {b n : Nat} {ks : List (List UInt8)} (h : HasNames w b n ks) (hb : Below w.heap.size w w') : HasNames w' b n ks :=
  h.kept (grown_of_below hb none) (by simp)
theorem zeroB (w : World) : (zeroValue 4).run Tryz.prog w = .ok (.bool false) w := by kernel_rfl
theorem key_of (x : List UInt8) (hx : x.length ≤ maxLen) : keyOf Tryz.prog 9 (.string (strB x)) = some (.string x) := by
  have := Go.WideMaps.keyOf_string_mk (P := Tryz.prog) Tryz.underlying9 (s := strB x) (by rw [strB_size]; exact hx)
  rw [strB_list] at this
  exact this
theorem HasNames.look {w : World} {b n : Nat} {ks : List (List UInt8)} (h : HasNames w b n ks) (x : List UInt8) (hx : x.length ≤ maxLen) :
    (Instr.lookup 72 (.map (some b)) (.string (strB x)) false).run Tryz.prog w = .ok (.bool (decide (x ∈ ks))) w := by
  obtain ⟨D, hD, hk⟩ := h
  obtain ⟨v, ps, hrun, hv⟩ := hD.lookup keyS Tryz.underlying72 (zeroB w) (zd := .lit (.bool false)) (zp := []) rfl (key_of x hx)
  rw [hk x] at hv
  rw [hrun, boolR_inv hv]
theorem HasNames.put {w : World} {b n : Nat} {ks : List (List UInt8)} (h : HasNames w b n ks) (x : List UInt8) (hx : x.length ≤ maxLen) (hn : n < maxLen) :
    ∃ w', (Instr.mapUpdate 72 (.map (some b)) (.string (strB x)) (.bool true)).run Tryz.prog w = .ok () w' ∧ HasNames w' b (n + 1) (x :: ks) ∧ w.grownBy w' (some b) := by
  obtain ⟨D, hD, hk⟩ := h
  obtain ⟨w', hrun, hD', hg⟩ := hD.update keyS Tryz.underlying72 hn (val := .bool true) (d := .lit (.bool true)) (ps := []) (key_of x hx) rfl
  refine ⟨w', hrun, ⟨_, hD', fun y => ?_⟩, hg⟩
  by_cases e : y = x
  · subst e
    rw [atKey_put_same hD.isMap (show WideAt.IsKeyLit (.string y) from True.intro)]
    simp
  · rw [atKey_put_other (fun h => e (by cases h; rfl)), hk y]
    simp [e]
end Go.Proofs.YtoiampkdmjpljaaGreatDoor

/- What the code's without returns, for every list of fields; lists of fields as the source of an append. -/
namespace Go.Proofs.YtoiampkdmjpljaaGreatDoor
open Go.RowKit

theorem flatP_get : ∀ (ps : Flds) (j : Nat) (u : Value), (flatP ps)[j]? = some u → ∃ i p, ps[i]? = some p ∧ ((j = i * 2 ∧ u = strV p.1) ∨ (j = i * 2 + 1 ∧ u = strV p.2)) := by
  intro ps
  induction ps with
  | nil => intro j u h; simp [flatP] at h
  | cons q r ih =>
    intro j u h
    have e : flatP (q :: r) = strV q.1 :: strV q.2 :: flatP r := rfl
    rw [e] at h
    match j, h with
    | 0, h => simp at h; exact ⟨0, q, rfl, .inl ⟨rfl, h.symm⟩⟩
    | 1, h => simp at h; exact ⟨0, q, rfl, .inr ⟨rfl, h.symm⟩⟩
    | j + 2, h =>
      obtain ⟨i, p, hi, hc⟩ := ih j u (by simpa using h)
      exact ⟨i + 1, p, by simpa using hi, by rcases hc with ⟨rfl, hu⟩ | ⟨rfl, hu⟩
                                             · exact .inl ⟨by omega, hu⟩
                                             · exact .inr ⟨by omega, hu⟩⟩
theorem flatP_one (ps : Flds) : ∀ u ∈ flatP ps, u.oneCell' = true := by
  intro u hu
  obtain ⟨j, hj⟩ := List.getElem?_of_mem hu
  obtain ⟨i, p, _, h | h⟩ := flatP_get ps j u hj <;> rw [h.2] <;> rfl
/-- The cells of a slice that is read, as the source of an append. -/
theorem ReadsQ.src {w : World} {ad : Addr} {n cap : Nat} {ps : Flds} (h : ReadsQ w (.slice (some ad) n cap) ps) : n = ps.length ∧ ∀ j u, (flatP ps)[j]? = some u → w.cell? (ad.add j) = some u := by
  obtain ⟨ao, c, hv, hc⟩ := h
  simp only [Value.slice.injEq] at hv
  obtain ⟨rfl, rfl, rfl⟩ := hv
  refine ⟨rfl, fun j u hj => ?_⟩
  obtain ⟨i, p, hi, hu⟩ := flatP_get ps j u hj
  obtain ⟨g, off, ha, _, h1, h2⟩ := hc i p hi
  obtain rfl : ad = ⟨g, off, none⟩ := Option.some.inj ha
  rcases hu with ⟨rfl, rfl⟩ | ⟨rfl, rfl⟩
  · rw [Addr.add_lit]; exact h1
  · rw [Addr.add_lit, ← Nat.add_assoc]; exact h2
theorem ReadsQ.none {w : World} {n cap : Nat} {ps : Flds} (h : ReadsQ w (.slice none n cap) ps) : ps = [] ∧ n = 0 := by
  obtain ⟨ao, c, hv, hc⟩ := h
  simp only [Value.slice.injEq] at hv
  obtain ⟨rfl, rfl, rfl⟩ := hv
  cases ps with
  | nil => exact ⟨rfl, rfl⟩
  | cons p r => obtain ⟨g, off, ha, _⟩ := hc 0 p rfl; cases ha

def WithoutRel (ps : Flds) (f : List UInt8 × List UInt8 → Bool) (w : World) (v i : Value) (wr : World) : Prop :=
  ∃ k : Nat, i = .int .i64 k ∧ k ≤ ps.length ∧ OwnsP 58 w.heap.size wr v ((ps.take k).filter f) ∧ Below w.heap.size w wr
theorem fil_yes {ps : Flds} {f : List UInt8 × List UInt8 → Bool} {k : Nat} {p : List UInt8 × List UInt8} (h : ps[k]? = some p) (ho : f p = true) : (ps.take (k + 1)).filter f = (ps.take k).filter f ++ [p] := by
  rw [take_more h, List.filter_append]; simp [ho]
theorem fil_no {ps : Flds} {f : List UInt8 × List UInt8 → Bool} {k : Nat} {p : List UInt8 × List UInt8} (h : ps[k]? = some p) (ho : f p = false) : (ps.take (k + 1)).filter f = (ps.take k).filter f := by
  rw [take_more h, List.filter_append]; simp [ho]
theorem fil_len (ps : Flds) (f : List UInt8 × List UInt8 → Bool) (k : Nat) : ((ps.take k).filter f).length ≤ k := Nat.le_trans (List.length_filter_le _ _) (List.length_take_le _ _)

set_option maxHeartbeats 2000000 in
set_option maxRecDepth 100000 in
theorem without_any (fv : Value) (ps : Flds) (b n : Nat) (ks : List (List UInt8)) (w : World) (hr : ReadsQ w fv ps) (hl : ps.length ≤ 100000) (hb : ∀ p ∈ ps, p.1.length + p.2.length ≤ 1000000) (hN : HasNames w b n ks) :
    Calls Tryz.prog 93 #[fv, .map (some b)] w fun e w' => ∃ v, e = .returned v ∧ OwnsP 58 w.heap.size w' v (ps.filter fun p => !decide (lowS p.1 ∈ ks)) ∧ Below w.heap.size w w' := by
  obtain ⟨i0, hi, hz0, hz1, hz2⟩ := info_parts Tryz.infoF
  obtain ⟨ao, cap, rfl, hc⟩ := hr
  have HC := Lib.hid hc
  have HBig := Lib.hid hb
  have HN := Lib.hid hN
  clear hc hb hN
  go_enter Tryz.func93, Tryz.ntmps93
  go_wp2_with fail
  go_loopw [5, 10] (fun v i wr => WithoutRel ps (fun p => !decide (lowS p.1 ∈ ks)) w v i wr) (fun _ i _ => ps.length - (intOf i).toNat)
  case atStart => exact ⟨0, rfl, Nat.zero_le _, OwnsP.nil _ _ _, Below.refl _ _⟩
  case round =>
    obtain ⟨k, rfl, hk, hO, hBr⟩ := hrel
    have hbr := hBr.size
    have hfl := fil_len ps (fun p => !decide (lowS p.1 ∈ ks)) k
    by_cases hlt : k < ps.length
    · obtain ⟨p, hp⟩ : ∃ p, ps[k]? = some p := ⟨ps[k], by simp [hlt]⟩
      obtain ⟨g, off, rfl, hg1, h1, h2⟩ := HC.out k p hp
      have hc1 : wr.cell? ⟨g, off + k * 2, none⟩ = some (.string (strB p.1)) := (hBr.cell (p := ⟨g, off + k * 2, none⟩) hg1).trans h1
      have hc2 : wr.cell? ⟨g, off + k * 2 + 1, none⟩ = some (.string (strB p.2)) := (hBr.cell (p := ⟨g, off + k * 2 + 1, none⟩) hg1).trans h2
      have hpl := HBig.out p (List.mem_of_getElem? hp)
      have HP := Lib.hid hp
      have hlw : (lowS p.1).length ≤ maxLen := by rw [lowS_len]; unfold maxLen; omega
      clear hp h1 h2
      by_cases hm : lowS p.1 ∈ ks
      · have ho : (!decide (lowS p.1 ∈ ks)) = false := by simp [hm]
        have HO := Lib.hid ho
        clear ho
        go_wp2_with fail
        refine (lowerName_any p.1 p.2 _ (by omega)).mono ?_
        rintro e w2 ⟨rfl, hB2⟩
        have hB2' := below_pair' hB2
        have hs2 := hB2'.size
        have hlook := ((HN.out.below (hBr)).below hB2').look (lowS p.1) hlw
        rw [decide_eq_true hm] at hlook
        clear hB2 hm
        go_wp2_with fail
        go_roundw
        case rel => exact ⟨k + 1, by go_num, by omega, by rw [fil_no HP.out HO.out]; exact OwnsP.below hO hB2', hBr.trans (hB2'.mono hbr)⟩
        case measure => simp [intOf]; omega
      · have ho : (!decide (lowS p.1 ∈ ks)) = true := by simp [hm]
        have HO := Lib.hid ho
        clear ho
        go_wp2_with fail
        refine (lowerName_any p.1 p.2 _ (by omega)).mono ?_
        rintro e w2 ⟨rfl, hB2⟩
        obtain ⟨d1, d2⟩ := pair_kept hB2
        have hB2' := below_pair' hB2
        have hs2 := hB2'.size
        have hlook := ((HN.out.below (hBr)).below hB2').look (lowS p.1) hlw
        rw [decide_eq_false hm] at hlook
        clear hB2 hm
        go_wp2_with (at_builtin; refine wpList_append_own _ rfl _ _ 37 rfl w.heap.size 58 i0 (.agg #[.string ByteArray.empty, .string ByteArray.empty]) 2 32 Tryz.underlying37 hi hz0 hz1 hz2 rfl (by decide) _ _ _ rfl (World.ownsRow.alloc (OwnsP.below hO hB2') _) ⟨w2.heap.size, 0, none⟩ 1 1 [strV p.1, strV p.2] rfl rfl (two_new w2 p.1 p.2 _) (fun u hu => by simp at hu; rcases hu with rfl | rfl <;> rfl) (by unfold maxLen; omega) (by omega) (by simp; omega) ?_; intro v' w4 hown' hgrow _)
        go_roundw
        case rel => exact ⟨k + 1, by go_num, by omega, by rw [fil_yes HP.out HO.out]; exact OwnsP.snoc hown', below_appendP hBr hbr hB2' hO hgrow⟩
        case measure => simp [intOf]; omega
    · have htk : ps.take k = ps := List.take_of_length_le (by omega)
      rw [htk] at hO
      go_wp2_with fail
      go_ret
      exact ⟨_, rfl, hO, hBr⟩
theorem rem_names (ps : Flds) (n : List UInt8) : (ps.filter fun p => !decide (lowS p.1 ∈ [lowS n])) = remL ps n := by
  unfold remL
  refine List.filter_congr fun p _ => ?_
  unfold ofN; simp

end Go.Proofs.YtoiampkdmjpljaaGreatDoor

/- Plain mathematics: how many parts there are, and how long they are. -/
namespace Go.Proofs.YtoiampkdmjpljaaGreatDoor
open Go.RowKit

theorem scan_ne (b : UInt8) : ∀ (l : List UInt8) (st : St) (cur : List UInt8) (ps : List (List UInt8)), scan b st cur l = some ps → ps ≠ [] := by
  intro l
  induction l with
  | nil =>
    intro st cur ps h
    cases st <;> simp [scan] at h
    rw [← h]; simp
  | cons c r ih =>
    intro st cur ps h
    cases st
    · unfold scan at h
      split at h
      · exact ih _ _ _ h
      · split at h
        · cases hr : scan b .out [] r with
          | none => rw [hr] at h; cases h
          | some qs => rw [hr] at h; simp at h; rw [← h]; simp
        · exact ih _ _ _ h
    · unfold scan at h
      split at h
      · exact ih _ _ _ h
      · split at h
        · exact ih _ _ _ h
        · exact ih _ _ _ h
    · unfold scan at h; exact ih _ _ _ h
theorem scan_len (b : UInt8) : ∀ (l : List UInt8) (st : St) (cur : List UInt8) (ps : List (List UInt8)), scan b st cur l = some ps → ∀ p ∈ ps, p.length ≤ cur.length + l.length := by
  intro l
  induction l with
  | nil =>
    intro st cur ps h p hp
    cases st <;> simp [scan] at h
    subst h; simp at hp; subst hp; simp
  | cons c r ih =>
    intro st cur ps h p hp
    cases st
    · unfold scan at h
      split at h
      · have := ih _ _ _ h p hp; simp at this ⊢; omega
      · split at h
        · cases hr : scan b .out [] r with
          | none => rw [hr] at h; cases h
          | some qs =>
            rw [hr] at h; simp at h; subst h
            rcases List.mem_cons.mp hp with e | e
            · subst e; simp
            · have := ih _ _ _ hr p e; simp at this ⊢; omega
        · have := ih _ _ _ h p hp; simp at this ⊢; omega
    · unfold scan at h
      split at h
      · have := ih _ _ _ h p hp; simp at this ⊢; omega
      · split at h
        · have := ih _ _ _ h p hp; simp at this ⊢; omega
        · have := ih _ _ _ h p hp; simp at this ⊢; omega
    · unfold scan at h; have := ih _ _ _ h p hp; simp at this ⊢; omega
theorem trimB_len (l : List UInt8) : (trimB l).length ≤ l.length := by
  rw [trimB_eq]
  have h1 : (tL l).length ≤ l.length := (List.dropWhile_sublist _).length_le
  have h2 : (tR (tL l)).length ≤ (tL l).length := by
    unfold tR; rw [List.length_reverse]
    have := (List.dropWhile_sublist (p := blank) (l := (tL l).reverse)).length_le
    simpa using this
  omega
theorem partsO_ne {b : UInt8} {l : List UInt8} {ls : List (List UInt8)} (h : partsO b l = some ls) : ls ≠ [] := by
  unfold partsO at h
  split at h
  · cases h
  · cases hs : scan b .out [] l with
    | none => rw [hs] at h; cases h
    | some ps =>
      rw [hs] at h; simp at h; subst h
      have := scan_ne b l _ _ _ hs
      simpa using this
theorem partsO_len {b : UInt8} {l : List UInt8} {ls : List (List UInt8)} (h : partsO b l = some ls) : ∀ p ∈ ls, p.length ≤ l.length := by
  unfold partsO at h
  split at h
  · cases h
  · cases hs : scan b .out [] l with
    | none => rw [hs] at h; cases h
    | some ps =>
      rw [hs] at h; simp at h; subst h
      intro p hp
      obtain ⟨q, hq, rfl⟩ := List.mem_map.mp hp
      have h1 := scan_len b l _ _ _ hs q hq
      have h2 := trimB_len q
      simp at h1; omega
end Go.Proofs.YtoiampkdmjpljaaGreatDoor
