import Derived.Test.YtacfkljpjjnlfaaGreatDoorPa14
import Derived.Test.YtacfkljpjjnlfaaGreatDoorPa6
import Derived.Test.YtacfkljpjjnlfaaGreatDoorPa12
import Derived.OneCell
/- The reference's hosted. -/
namespace Go.Proofs.YtacfkljpjjnlfaaGreatDoor
open Go.RowKit

section
variable {hs : List UInt8 → Option (List UInt8)} {lw : List UInt8 → List UInt8}
theorem hostF_app : ∀ (a b : Fs), hostF hs lw (a ++ b) = (hostF hs lw a).bind fun p => (hostF hs lw b).map fun q => (p.1 ++ q.1, p.2 + q.2) := by
  intro a
  induction a with
  | nil => intro b; simp [hostF]
  | cons f r ih =>
    intro b
    rw [List.cons_append, hostF, hostF, ih]
    by_cases hf : lw f.1 = hostN
    · rw [if_pos hf, if_pos hf]
      cases hs f.2 <;> cases hostF hs lw r <;> cases hostF hs lw b <;> simp
      omega
    · rw [if_neg hf, if_neg hf]
      cases hostF hs lw r <;> cases hostF hs lw b <;> simp
theorem hostF_len : ∀ (a : Fs) (q : Fs × Nat), hostF hs lw a = some q → q.1.length = a.length ∧ q.2 ≤ a.length := by
  intro a
  induction a with
  | nil => intro q h; simp [hostF] at h; subst h; simp
  | cons f r ih =>
    intro q h
    rw [hostF] at h
    cases e : hostF hs lw r with
    | none =>
      rw [e] at h
      by_cases hf : lw f.1 = hostN
      · rw [if_pos hf] at h; cases hs f.2 <;> simp at h
      · rw [if_neg hf] at h; simp at h
    | some p =>
      rw [e] at h
      obtain ⟨h1, h2⟩ := ih p e
      by_cases hf : lw f.1 = hostN
      · rw [if_pos hf] at h
        cases e2 : hs f.2 with
        | none => rw [e2] at h; simp at h
        | some y => rw [e2] at h; simp at h; subst h; simp; omega
      · rw [if_neg hf] at h; simp at h; subst h; simp; omega
end
/-- k fields are looked at: they are acc with their hosts, of which there are n. -/
def HostedTo (ps : Fs) (k : Nat) (acc : Fs) (n : Nat) : Prop := hostF hostO lowS (ps.take k) = some (acc, n)
theorem hostedTo0 (ps : Fs) : HostedTo ps 0 [] 0 := rfl
theorem hostedTo_other {ps acc : Fs} {k n : Nat} {p : List UInt8 × List UInt8} (h : HostedTo ps k acc n) (hp : ps[k]? = some p) (ho : lowS p.1 ≠ hostN) : HostedTo ps (k + 1) (acc ++ [p]) n := by
  unfold HostedTo at *
  rw [take_more hp, hostF_app, h]
  show Option.map _ (if lowS p.1 = hostN then _ else _) = _
  rw [if_neg ho]; rfl
theorem hostedTo_host {ps acc : Fs} {k n : Nat} {p : List UInt8 × List UInt8} {y : List UInt8} (h : HostedTo ps k acc n) (hp : ps[k]? = some p) (ho : lowS p.1 = hostN) (hy : hostO p.2 = some y) : HostedTo ps (k + 1) (acc ++ [(p.1, y)]) (n + 1) := by
  unfold HostedTo at *
  rw [take_more hp, hostF_app, h]
  show Option.map _ (if lowS p.1 = hostN then _ else _) = _
  rw [if_pos ho, hy]; rfl
theorem hostedTo_bad {ps : Fs} {k : Nat} {p : List UInt8 × List UInt8} (hp : ps[k]? = some p) (ho : lowS p.1 = hostN) (hy : hostO p.2 = none) : hosted hostO lowS ps = none := by
  have : hostF hostO lowS ps = none := hostF_none ps ⟨p.2, by
    unfold allL
    exact List.mem_map.2 ⟨p, List.mem_filter.2 ⟨List.mem_of_getElem? hp, by rw [ofN_host]; simpa using ho⟩, rfl⟩, hy⟩
  unfold hosted; rw [this]; rfl
theorem hostedTo_end {ps acc : Fs} {k n : Nat} (h : HostedTo ps k acc n) (hk : ps.length ≤ k) : hosted hostO lowS ps = if n = 1 then some acc else none := by
  unfold HostedTo at h
  rw [List.take_of_length_le hk] at h
  unfold hosted; rw [h]; rfl
def HostedPost (ps : Fs) (w : World) (e : Ending) (w' : World) : Prop :=
  ∃ v, e = .returned (.tuple #[v, .bool (hosted hostO lowS ps).isSome]) ∧ (∃ a n c, v = .slice a n c) ∧ (∀ q, hosted hostO lowS ps = some q → OwnsP 49 w.heap.size w' v q) ∧ Below w.heap.size w w'
theorem OwnsP.isSlice {T : TypeId} {B : Nat} {w : World} {v : Value} {ps : Fs} (h : OwnsP T B w v ps) : ∃ a n c, v = .slice a n c := by
  obtain ⟨ao, cap, rfl, _⟩ := h.reads; exact ⟨_, _, _, rfl⟩
set_option maxHeartbeats 8000000 in
set_option maxRecDepth 100000 in
theorem refHosted_any (v : Value) (ps : Fs) (w : World) (hr : ReadsQ w v ps) (hl : ps.length ≤ 1000) (hb : ∀ p ∈ ps, p.1.length + p.2.length ≤ 1000000) :
    Calls Tryz.prog 35 #[v] w (HostedPost ps w) := by
  obtain ⟨i0, hi, hz0, hz1, hz2⟩ := info_parts Tryz.infoG
  obtain ⟨ao, cap, rfl, hc⟩ := hr
  have HC := Lib.hid hc
  have HBig := Lib.hid hb
  clear hc hb
  go_enter Tryz.func35, Tryz.ntmps35
  go_wp2_with fail
  go_loopw [4, 5, 6] (fun u c i wr => ∃ (k n : Nat) (acc : Fs), i = .int .i64 k ∧ c = .int .i64 n ∧ k ≤ ps.length ∧ n ≤ k ∧ acc.length = k ∧ HostedTo ps k acc n ∧ OwnsP 49 w.heap.size wr u acc ∧ Below w.heap.size w wr) (fun _ _ i _ => ps.length - (intOf i).toNat)
  case atStart => exact ⟨0, 0, [], rfl, rfl, Nat.zero_le _, Nat.le_refl _, rfl, hostedTo0 _, OwnsP.nil _ _ _, Below.refl _ _⟩
  case round =>
    obtain ⟨k, n, acc, rfl, rfl, hk, hnk, hal, hn, hO, hBr⟩ := hrel
    have hbr := hBr.size
    have HN := Lib.hid hn
    have hall : acc.length ≤ k := by omega
    have HAL := Lib.hid hal
    clear hn hal
    by_cases hlt : k < ps.length
    · obtain ⟨p, hp⟩ : ∃ p, ps[k]? = some p := ⟨ps[k], by simp [hlt]⟩
      obtain ⟨g, off, rfl, hg1, h1, h2⟩ := HC.out k p hp
      have hc1 : wr.cell? ⟨g, off + k * 2, none⟩ = some (.string (strB p.1)) := (hBr.cell (p := ⟨g, off + k * 2, none⟩) hg1).trans h1
      have hc2 : wr.cell? ⟨g, off + k * 2 + 1, none⟩ = some (.string (strB p.2)) := (hBr.cell (p := ⟨g, off + k * 2 + 1, none⟩) hg1).trans h2
      have hpl := HBig.out p (List.mem_of_getElem? hp)
      have OF := fun w => of_any p.1 p.2 hostN w (by omega) (by decide)
      have HP := Lib.hid hp
      clear hp h1 h2
      by_cases ho : lowS p.1 = hostN
      · have hof : ofN hostN (p.1, p.2) = true := by rw [ofN_host]; simpa using ho
        rw [hof] at OF
        have RH := Lib.hid (fun w => refHost_any (strB p.2) w (by rw [strB_size]; omega))
        rw [strB_list] at RH
        cases hh : hostO p.2 with
        | none =>
          have HE := Lib.hid (hostedTo_bad HP.out ho hh)
          rw [refHostV_no hh] at RH
          clear hof ho hh
          go_wp2_with fail
          refine (OF _).mono ?_
          rintro e w2 ⟨rfl, hB⟩
          obtain ⟨b0, b1, bf0, bf1, bz⟩ := box_kept wr hB
          go_wp2_with fail
          refine (RH.out _).mono ?_
          rintro e w3 ⟨rfl, hB3⟩
          go_wp2_with fail
          go_ret2
          exact ⟨_, by rw [HE.out]; rfl, ⟨_, _, _, rfl⟩, (fun q hq => by rw [HE.out] at hq; cases hq), hBr.trans (((below_new wr _).trans ((hB.trans (hB3.mono hB.size)).mono (by simp))).mono hbr)⟩
        | some y =>
          have HE := Lib.hid (hostedTo_host HN.out HP.out ho hh)
          rw [refHostV_yes hh] at RH
          clear hof ho hh
          go_wp2_with fail
          refine (OF _).mono ?_
          rintro e w2 ⟨rfl, hB⟩
          obtain ⟨b0, b1, bf0, bf1, bz⟩ := box_kept wr hB
          go_wp2_with fail
          refine (RH.out _).mono ?_
          rintro e w3 ⟨rfl, hB3⟩
          have hB4 := hB.trans (hB3.mono hB.size)
          obtain ⟨d0, d1, df0, df1, dz⟩ := box_kept wr hB4
          clear b0 b1 bf0 bf1 bz
          have hB5 : Below wr.heap.size wr (w3.setCell ⟨wr.heap.size, 1, none⟩ (.string (strB y))) := ((below_new wr _).trans (hB4.mono (by simp))).setCell (p := ⟨wr.heap.size, 1, none⟩) (Nat.le_refl _) _
          have hO3 := OwnsP.below hO ((below_new wr _).trans (hB4.mono (by simp)))
          have hO2 : OwnsP 49 w.heap.size (w3.setCell ⟨wr.heap.size, 1, none⟩ (.string (strB y))) u4 acc := ownsRow_setCell_other hO3 (fun hq => by have := (World.ownsRow.lt hO _ hq).2; simp at this) _
          have hz5 := hB5.size
          clear hO3
          go_wp2_with (at_builtin; go_must (refine wpList_append_own _ rfl _ _ 32 rfl w.heap.size 49 i0 (.agg #[.string ByteArray.empty, .string ByteArray.empty]) 2 32 Tryz.underlying32 hi hz0 hz1 hz2 rfl (by decide) _ _ _ rfl (World.ownsRow.alloc hO2 _) ⟨_, 0, none⟩ 1 1 [strV p.1, strV y] rfl rfl (two_newS _ p.1 y _ _ (by simp)) (fun u hu => by simp at hu; rcases hu with rfl | rfl <;> rfl) (by unfold maxLen; omega) (by omega) (by simp; omega) ?_); intro v' w6 hown' hgrow _)
          go_roundw
          case rel => exact ⟨k + 1, n + 1, _, by go_num, by go_num, by omega, by omega, by rw [List.length_append, HAL.out]; rfl, HE.out, OwnsP.snoc (p := (p.1, y)) hown', below_appendP hBr hbr hB5 hO hgrow⟩
          case measure => simp [intOf]; omega
      · have hof : ofN hostN (p.1, p.2) = false := by rw [ofN_host]; simpa using ho
        rw [hof] at OF
        have HE := Lib.hid (hostedTo_other HN.out HP.out ho)
        clear hof ho
        go_wp2_with fail
        refine (OF _).mono ?_
        rintro e w2 ⟨rfl, hB⟩
        obtain ⟨b0, b1, bf0, bf1, bz⟩ := box_kept wr hB
        have hB' := (below_new wr _).trans (hB.mono (by simp))
        have hO2 := OwnsP.below hO hB'
        have hz2' := hB'.size
        go_wp2_with (at_builtin; go_must (refine wpList_append_own _ rfl _ _ 32 rfl w.heap.size 49 i0 (.agg #[.string ByteArray.empty, .string ByteArray.empty]) 2 32 Tryz.underlying32 hi hz0 hz1 hz2 rfl (by decide) _ _ _ rfl (World.ownsRow.alloc hO2 _) ⟨_, 0, none⟩ 1 1 [strV p.1, strV p.2] rfl rfl (two_newG _ p.1 p.2 _) (fun u hu => by simp at hu; rcases hu with rfl | rfl <;> rfl) (by unfold maxLen; omega) (by omega) (by simp; omega) ?_); intro v' w6 hown' hgrow _)
        go_roundw
        case rel => exact ⟨k + 1, n, _, by go_num, rfl, by omega, by omega, by rw [List.length_append, HAL.out]; rfl, HE.out, OwnsP.snoc (p := p) hown', below_appendP hBr hbr hB' hO hgrow⟩
        case measure => simp [intOf]; omega
    · have HE := Lib.hid (hostedTo_end HN.out (by omega))
      obtain ⟨ao2, n2, cp2, rfl⟩ := hO.isSlice
      by_cases h1 : n = 1
      · have q : ((n : Int) == 1) = true := by rw [h1]; rfl
        have HE2 := Lib.hid (show hosted hostO lowS ps = some acc by rw [HE.out, if_pos h1])
        clear h1
        go_wp2_with fail
        go_ret2
        exact ⟨_, by rw [HE2.out]; rfl, ⟨_, _, _, rfl⟩, (fun q hq => by rw [HE2.out] at hq; rw [← Option.some.inj hq]; exact hO), hBr⟩
      · have q : ((n : Int) == 1) = false := by simp; omega
        have HE2 := Lib.hid (show hosted hostO lowS ps = none by rw [HE.out, if_neg h1])
        clear h1
        go_wp2_with fail
        go_ret2
        exact ⟨_, by rw [HE2.out]; rfl, ⟨_, _, _, rfl⟩, (fun q hq => by rw [HE2.out] at hq; cases hq), hBr⟩
end Go.Proofs.YtacfkljpjjnlfaaGreatDoor

/- The reference's lines and split. -/
namespace Go.Proofs.YtacfkljpjjnlfaaGreatDoor
open Go.RowKit

/-- i bytes are looked at; the lines so far are out; the next one begins at x. -/
def LinesTo (l : List UInt8) (x i : Nat) (out : List (List UInt8)) : Prop :=
  out.length ≤ i ∧ ((x ≤ i ∧ linesF [] l = out ++ linesF ((l.drop x).take (i - x)) (l.drop i)) ∨ (x = i + 1 ∧ l[i]? = some 10 ∧ linesF [] l = out ++ linesF [] (l.drop (i + 1))))
theorem linesTo0 (l : List UInt8) : LinesTo l 0 0 [] := ⟨Nat.le_refl _, .inl ⟨Nat.le_refl _, by simp⟩⟩
theorem drop_consG {l : List UInt8} {i : Nat} (h : i < l.length) : l.drop i = (l[i]'h) :: l.drop (i + 1) := by rw [List.drop_eq_getElem_cons h]
theorem take_snoc' {l : List UInt8} {x i : Nat} (hx : x ≤ i) (hi : i < l.length) : (l.drop x).take (i + 1 - x) = (l.drop x).take (i - x) ++ [l[i]'hi] := by
  rw [show i + 1 - x = (i - x) + 1 by omega, List.take_succ_eq_append_getElem (by rw [List.length_drop]; omega), List.getElem_drop]
  congr 2
  simp only [show x + (i - x) = i by omega]
theorem linesTo_hit {l : List UInt8} {x i : Nat} {out : List (List UInt8)} (h : LinesTo l x i out) (hi : i + 2 ≤ l.length) (hm : (l.drop i).take 2 = crlf) : x ≤ i ∧ LinesTo l (i + 2) (i + 1) (out ++ [(l.drop x).take (i - x)]) := by
  have h1 := drop_consG (show i < l.length by omega)
  have h2 := drop_consG (show i + 1 < l.length by omega)
  rw [h1, h2] at hm
  unfold crlf at hm
  simp only [List.take_succ_cons, List.take_zero, List.cons.injEq, and_true] at hm
  obtain ⟨c1, c2⟩ := hm
  rcases h with ⟨ho, ⟨hx, h⟩ | ⟨_, h3, _⟩⟩
  · refine ⟨hx, by simp; omega, .inr ⟨rfl, ?_, ?_⟩⟩
    · rw [List.getElem?_eq_getElem (by omega), c2]
    · rw [h, h1, c1, linesF, h2, if_pos ⟨rfl, by rw [c2]; rfl⟩]; simp
  · rw [List.getElem?_eq_getElem (by omega), c1] at h3; exact absurd h3 (by decide)
theorem linesTo_step {l : List UInt8} {x i : Nat} {out : List (List UInt8)} (h : LinesTo l x i out) (hi : i + 2 ≤ l.length) (hm : (l.drop i).take 2 ≠ crlf) : LinesTo l x (i + 1) out := by
  have h1 := drop_consG (show i < l.length by omega)
  have h2 := drop_consG (show i + 1 < l.length by omega)
  rcases h with ⟨ho, ⟨hx, h⟩ | ⟨rfl, h3, h⟩⟩
  · refine ⟨by omega, .inl ⟨by omega, ?_⟩⟩
    rw [h, h1, linesF, if_neg, take_snoc' hx (by omega)]
    rintro ⟨a, b⟩
    apply hm
    rw [h2] at b
    rw [h1, h2, List.take_succ_cons, List.take_succ_cons, a, Option.some.inj b]; rfl
  · exact ⟨by omega, .inl ⟨Nat.le_refl _, by rw [h]; simp⟩⟩
theorem linesTo_end {l : List UInt8} {x i : Nat} {out : List (List UInt8)} (h : LinesTo l x i out) (hi : ¬ i + 2 ≤ l.length) : linesF [] l = out := by
  rcases h with ⟨_, ⟨hx, h⟩ | ⟨rfl, h3, h⟩⟩
  · rw [h]
    cases e : l.drop i with
    | nil => rw [linesF]; simp
    | cons c r =>
      have : r = [] := by
        have := congrArg List.length e
        rw [List.length_drop] at this
        exact List.eq_nil_of_length_eq_zero (by simp at this; omega)
      subst this
      rw [linesF, if_neg (by rintro ⟨_, b⟩; cases b), linesF]; simp
  · rw [h, List.drop_of_length_le (by omega), linesF]; simp
theorem crlf_yes {s : ByteArray} {k : Nat} (h : (s.data.toList.drop k).take 2 = crlf) : ((s.extract k (k + 2)).toList == ([13, 10] : List UInt8)) = true := by rw [ext_list, show k + 2 - k = 2 by omega, h]; rfl
theorem crlf_no {s : ByteArray} {k : Nat} (h : (s.data.toList.drop k).take 2 ≠ crlf) : ((s.extract k (k + 2)).toList == ([13, 10] : List UInt8)) = false := by
  rw [ext_list, show k + 2 - k = 2 by omega]
  have : ¬ (s.data.toList.drop k).take 2 = [13, 10] := h
  simpa using this
theorem seg_strV (s : ByteArray) (x k : Nat) : Value.string (s.extract x k) = strV ((s.data.toList.drop x).take (k - x)) := by
  show _ = Value.string (strB _); rw [← seg_list, strB_of]
theorem one_new (W : World) (v : Value) (T : TypeId) : ∀ (j : Nat) (u : Value), [v][j]? = some u → (W.alloc (.cells #[v] T)).cell? ((⟨W.heap.size, 0, none⟩ : Addr).add j) = some u := by
  intro j u h
  rw [Addr.add_lit, Nat.zero_add, World.cell?_alloc_at _ _ _ _ rfl]
  match j, h with
  | 0, h => simpa using h
  | j + 1, h => simp at h
set_option maxHeartbeats 4000000 in
set_option maxRecDepth 100000 in
theorem refLines_any (s : ByteArray) (w : World) (hs : s.size ≤ 10000000) :
    Calls Tryz.prog 56 #[.string s] w fun e w' => ∃ v, e = .returned v ∧ OwnsS w.heap.size w' v (linesF [] s.data.toList) ∧ Below w.heap.size w w' := by
  obtain ⟨i0, hi, hz0, hz1, hz2⟩ := info_parts Tryz.infoS
  have hsz : s.data.toList.length = s.size := by rw [Array.length_toList]; rfl
  have HSZ := Lib.hid hsz
  clear hsz
  go_enter Tryz.func56, Tryz.ntmps56
  go_wp2
  go_loopw [3, 4, 5] (fun u f i wr => ∃ (x k : Nat) (out : List (List UInt8)), f = .int .i64 x ∧ i = .int .i64 k ∧ k ≤ s.size ∧ x ≤ k + 1 ∧ LinesTo s.data.toList x k out ∧ OwnsS w.heap.size wr u out ∧ Below w.heap.size w wr) (fun _ _ i _ => s.size - (intOf i).toNat)
  case atStart => exact ⟨0, 0, [], rfl, rfl, Nat.zero_le _, by omega, linesTo0 _, World.ownsRow_nil _ _ _ _, Below.refl _ _⟩
  case round =>
    obtain ⟨x, k, out, rfl, rfl, hk, hxk, hn, hu, hB⟩ := hrel
    have hz := hB.size
    have hol := hn.1
    have HN := Lib.hid hn
    clear hn
    by_cases hlt : k + 2 ≤ s.size
    · by_cases hm : (s.data.toList.drop k).take 2 = crlf
      · have q := crlf_yes hm
        have hhit := linesTo_hit HN.out (by rw [HSZ.out]; exact hlt) hm
        have hxk2 := hhit.1
        have HE := Lib.hid hhit.2
        have hseg := seg_strV s x k
        have HS := Lib.hid hseg
        clear hm hhit hseg
        go_wp2_with (at_builtin; refine wpList_append_own _ rfl _ _ 68 rfl w.heap.size 9 i0 (.string ByteArray.empty) 1 16 Tryz.underlying68 hi hz0 hz1 hz2 rfl (by decide) _ _ _ rfl (World.ownsRow.alloc hu _) ⟨wr.heap.size, 0, none⟩ 1 1 [.string (s.extract x k)] rfl rfl (one_new _ _ _) (fun u hu => by simp at hu; subst hu; rfl) (by unfold maxLen; omega) (by omega) (by simp; omega) ?_; intro v' w2 hown' hgrow _)
        go_roundw
        case rel => exact ⟨k + 2, k + 1, _, by go_num, by go_num, by omega, by omega, HE.out, by rw [HS.out] at hown'; exact OwnsS.snoc hown', below_append hB hz (Below.refl _ _) hu hgrow⟩
        case measure => simp [intOf]; omega
      · have q := crlf_no hm
        have HE := Lib.hid (linesTo_step HN.out (by rw [HSZ.out]; exact hlt) hm)
        clear hm
        go_wp2
        go_roundw
        case rel => exact ⟨x, k + 1, out, rfl, by go_num, by omega, by omega, HE.out, hu, hB⟩
        case measure => simp [intOf]; omega
    · have HE := Lib.hid (linesTo_end HN.out (by rw [HSZ.out]; exact hlt))
      go_wp2
      go_ret
      exact ⟨_, rfl, by rw [HE.out]; exact hu, hB⟩
theorem linesF_len : ∀ (k : Nat) (l cur : List UInt8), l.length ≤ k → (linesF cur l).length ≤ l.length := by
  intro k
  induction k with
  | zero =>
    intro l cur h
    obtain rfl : l = [] := List.eq_nil_of_length_eq_zero (by omega)
    rw [linesF]; simp
  | succ k ih =>
    intro l cur h
    cases l with
    | nil => rw [linesF]; simp
    | cons c r =>
      rw [linesF]
      split
      · have h2 := List.length_tail (l := r)
        have := ih r.tail [] (by simp at h; omega)
        simp only [List.length_cons]; omega
      · have := ih r (cur ++ [c]) (by simp at h; omega)
        simp only [List.length_cons]; omega
/-- The value v is empty and nil, or a slice with room for one more that lies at the head of a block and holds these strings. -/
def RowG (w : World) (v : Value) (ls : List (List UInt8)) : Prop :=
  (ls = [] ∧ v = .slice none 0 0) ∨ ∃ g cap, v = .slice (some ⟨g, 0, none⟩) ls.length cap ∧ ls.length + 1 ≤ cap ∧ g < w.heap.size ∧ ∀ j l, ls[j]? = some l → w.cell? ⟨g, j, none⟩ = some (.string (strB l))
def RefSplitPost (l : List UInt8) (w : World) (e : Ending) (w' : World) : Prop :=
  ∃ v, e = .returned (.tuple #[v, .int .i64 ((splitG l).2.2 : Int), .int .i64 ((splitG l).1 : Int)]) ∧ RowG w' v (splitG l).2.1 ∧ Below w.heap.size w w'
theorem refSplit_err {l : List UInt8} {w w' : World} {c : Nat} (h : splitG l = (c, [], 0)) (hB : Below w.heap.size w w') : RefSplitPost l w (.returned (.tuple #[.slice none 0 0, .int .i64 0, .int .i64 (c : Int)])) w' :=
  ⟨.slice none 0 0, by rw [h]; rfl, .inl ⟨by rw [h], rfl⟩, hB⟩
theorem endO_some {l : List UInt8} {n : Nat} (h : endO l = some n) : 2 ≤ n ∧ n ≤ l.length := by
  unfold endO at h
  by_cases h2 : l.take 2 = [13, 10]
  · rw [if_pos h2] at h
    have := congrArg List.length h2
    rw [List.length_take] at this
    simp at this
    have := Option.some.inj h
    omega
  · rw [if_neg h2] at h
    have := end4_some h; omega
theorem split_none {l : List UInt8} (h : endO l = none) : splitG l = (if l.length < 8192 then 21 else 5, [], 0) := by unfold splitG; rw [h]
theorem split_large {l : List UInt8} {n : Nat} (h : endO l = some n) (h1 : 8192 < n ∨ 66 < (linesF [] (l.take n)).length) : splitG l = (5, [], 0) := by unfold splitG; rw [h]; simp only; rw [if_pos h1]
theorem split_line {l : List UInt8} {n : Nat} (h : endO l = some n) (h1 : ¬ (8192 < n ∨ 66 < (linesF [] (l.take n)).length)) (h2 : n = 2 ∨ bareF 0 (l.take n) = true) : splitG l = (22, [], 0) := by
  unfold splitG; rw [h]; simp only; rw [if_neg h1, if_pos h2]
theorem split_good {l : List UInt8} {n : Nat} (h : endO l = some n) (h1 : ¬ (8192 < n ∨ 66 < (linesF [] (l.take n)).length)) (h2 : ¬ (n = 2 ∨ bareF 0 (l.take n) = true)) : splitG l = (0, (linesF [] (l.take n)).dropLast, n) := by
  unfold splitG; rw [h]; simp only; rw [if_neg h1, if_neg h2]
theorem OwnsS.rowG {B : Nat} {w : World} {v : Value} {ls : List (List UInt8)} (hO : OwnsS B w v ls) (hne : ls ≠ []) :
    ∃ g cap, v = .slice (some ⟨g, 0, none⟩) ls.length cap ∧ ls.length ≤ cap ∧ g < w.heap.size ∧ (∀ j l, ls[j]? = some l → w.cell? ⟨g, j, none⟩ = some (.string (strB l))) := by
  rcases hO.open' with ⟨_, h⟩ | ⟨g, cap, hv, hb, hg, hc⟩
  · exact absurd h hne
  · refine ⟨g, cap, hv, ?_, hg, hc⟩
    rcases hO with ⟨hl, ⟨hv', hn⟩ | ⟨g', cap', cur, hv', hb', hg', hn, _⟩⟩
    · rw [hv'] at hv; cases hv
    · rw [hv'] at hv
      simp only [Value.slice.injEq, Option.some.injEq, Addr.mk.injEq, and_true, true_and] at hv
      obtain ⟨_, rfl⟩ := hv
      exact hn
theorem drop_last_at {ls : List (List UInt8)} {j : Nat} {l : List UInt8} (h : ls.dropLast[j]? = some l) : ls[j]? = some l := by
  have hj := (List.getElem?_eq_some_iff.1 h).1
  rw [List.length_dropLast] at hj
  rw [List.dropLast_eq_take, List.getElem?_take_of_lt hj] at h
  exact h
set_option maxHeartbeats 8000000 in
set_option maxRecDepth 100000 in
theorem refSplit_any (s : ByteArray) (w : World) (hs : s.size ≤ 1000000) :
    Calls Tryz.prog 30 #[.string s] w (RefSplitPost s.data.toList w) := by
  have hsz : s.data.toList.length = s.size := by rw [Array.length_toList]; rfl
  have E := fun w => refEnd_any s w (by omega)
  unfold endN at E
  cases he : endO s.data.toList with
  | none =>
    rw [he] at E
    have HE := Lib.hid (split_none he)
    clear he
    by_cases h8 : s.size < 8192
    · have HE2 := Lib.hid (show splitG s.data.toList = (21, [], 0) by rw [HE.out, hsz, if_pos h8])
      clear hsz
      go_enter Tryz.func30, Tryz.ntmps30
      go_wp2_with (go_at_call 55; refine (E _).mono ?_; rintro e w' ⟨rfl, rfl⟩)
      refine bodyPost_ret (v := .tuple #[.slice none 0 0, .int .i64 0, .int .i64 21]) (by simp [results, Tryz.results30, go_sem]) rfl ?_
      exact refSplit_err HE2.out (Below.refl _ _)
    · have HE2 := Lib.hid (show splitG s.data.toList = (5, [], 0) by rw [HE.out, hsz, if_neg h8])
      clear hsz
      go_enter Tryz.func30, Tryz.ntmps30
      go_wp2_with (go_at_call 55; refine (E _).mono ?_; rintro e w' ⟨rfl, rfl⟩)
      refine bodyPost_ret (v := .tuple #[.slice none 0 0, .int .i64 0, .int .i64 5]) (by simp [results, Tryz.results30, go_sem]) rfl ?_
      exact refSplit_err HE2.out (Below.refl _ _)
  | some n =>
    rw [he] at E
    obtain ⟨hn2, hnl⟩ := endO_some he
    rw [hsz] at hnl
    have hex : (s.extract 0 n).data.toList = s.data.toList.take n := by rw [seg_list]; simp
    have hexs : (s.extract 0 n).size ≤ 1000000 := by simp; omega
    have HL := Lib.hid (fun w => refLines_any (s.extract 0 n) w (by omega))
    have HBr := Lib.hid (fun w => refBare_any (s.extract 0 n) w (by omega))
    rw [hex] at HL HBr
    have hn0 : ((n : Int) == 0) = false := by simp; omega
    have H1 := Lib.hid (split_large he)
    have H2 := Lib.hid (split_line he)
    have H3 := Lib.hid (split_good he)
    have H4 := Lib.hid (fun (h : splitG s.data.toList = (0, (linesF [] (s.data.toList.take n)).dropLast, n)) => (splitG_some h).1)
    have hll : (linesF [] (s.data.toList.take n)).length ≤ n := by
      have := linesF_len _ (s.data.toList.take n) [] (Nat.le_refl _)
      rw [List.length_take, hsz] at this; omega
    clear he hex hsz
    generalize linesF [] (s.data.toList.take n) = ls at *
    generalize bareF 0 (s.data.toList.take n) = bb at *
    go_enter Tryz.func30, Tryz.ntmps30
    go_wp2_with (go_at_call 55; refine (E _).mono ?_; rintro e w' ⟨rfl, rfl⟩)
    refine (HL.out _).mono ?_
    rintro e w1 ⟨v, rfl, hO, hB⟩
    by_cases h1 : 8192 < n
    · have HE := Lib.hid (H1.out (.inl h1))
      rcases hO.open' with ⟨rfl, rfl⟩ | ⟨g, cp, rfl, _, _, _⟩
      all_goals
        go_wp2_with fail
        refine bodyPost_ret (v := .tuple #[.slice none 0 0, .int .i64 0, .int .i64 5]) (by simp [results, Tryz.results30, go_sem]) rfl ?_
        exact refSplit_err HE.out hB
    · by_cases h66 : 66 < ls.length
      · have HE := Lib.hid (H1.out (.inr h66))
        obtain ⟨g, cp, rfl, _, _, _⟩ := hO.rowG (by rintro rfl; simp at h66)
        go_wp2_with fail
        refine bodyPost_ret (v := .tuple #[.slice none 0 0, .int .i64 0, .int .i64 5]) (by simp [results, Tryz.results30, go_sem]) rfl ?_
        exact refSplit_err HE.out hB
      · have HN1 := Lib.hid (show ¬ (8192 < n ∨ 66 < ls.length) by omega)
        by_cases h2 : n = 2
        · have HE := Lib.hid (H2.out HN1.out (.inl h2))
          have q2 : ((n : Int) == 2) = true := by rw [h2]; rfl
          clear h2
          rcases hO.open' with ⟨rfl, rfl⟩ | ⟨g, cp, rfl, _, _, _⟩
          all_goals
            go_wp2_with fail
            refine bodyPost_ret (v := .tuple #[.slice none 0 0, .int .i64 0, .int .i64 22]) (by simp [results, Tryz.results30, go_sem]) rfl ?_
            exact refSplit_err HE.out hB
        · have q2 : ((n : Int) == 2) = false := by simp; omega
          cases bb with
          | true =>
            have HE := Lib.hid (H2.out HN1.out (.inr rfl))
            rcases hO.open' with ⟨rfl, rfl⟩ | ⟨g, cp, rfl, _, _, _⟩
            all_goals
              go_wp2_with fail
              refine (HBr.out _).mono ?_
              rintro e w' ⟨rfl, rfl⟩
              go_wp2_with fail
              refine bodyPost_ret (v := .tuple #[.slice none 0 0, .int .i64 0, .int .i64 22]) (by simp [results, Tryz.results30, go_sem]) rfl ?_
              exact refSplit_err HE.out hB
          | false =>
            have HE := Lib.hid (H3.out HN1.out (by simp [h2]))
            have hne := H4.out HE.out
            have hl2 : 2 ≤ ls.length := by
              have : ls.dropLast.length ≠ 0 := fun e => hne (List.eq_nil_of_length_eq_zero e)
              rw [List.length_dropLast] at this; omega
            obtain ⟨g, cp, rfl, hcp, hg, hc⟩ := hO.rowG (by rintro rfl; simp at hl2)
            have HC := Lib.hid hc
            clear hne hc hO
            go_wp2_with fail
            refine (HBr.out _).mono ?_
            rintro e w' ⟨rfl, rfl⟩
            go_wp2_with fail
            refine bodyPost_ret (v := .tuple #[.slice (some ⟨g, 0, none⟩) (ls.length - 1) cp, .int .i64 (n : Int), .int .i64 0]) (by simp [results, Tryz.results30, go_sem]) rfl ?_
            exact ⟨_, by rw [HE.out]; rfl, by rw [HE.out]; exact .inr ⟨g, cp, by rw [List.length_dropLast], by rw [List.length_dropLast]; omega, hg, fun j l hj => HC.out j l (drop_last_at hj)⟩, hB⟩
end Go.Proofs.YtacfkljpjjnlfaaGreatDoor

/- What the reference's ReadRequest returns. -/
namespace Go.Proofs.YtacfkljpjjnlfaaGreatDoor
open Go.RowKit

theorem start26 {x : List UInt8} (h : methodB (cutG 32 x).1 = false) : startC x = 26 := by
  have e : reqC (cutG 32 x).1 (cutG 32 (cutG 32 x).2).1 = 26 := by unfold reqC; rw [if_pos h]
  unfold startC; rw [e, if_pos (by decide)]
theorem start27 {x : List UInt8} (h : methodB (cutG 32 x).1 = true) (h2 : targetB (cutG 32 x).1 (cutG 32 (cutG 32 x).2).1 = false) : startC x = 27 := by
  have e : reqC (cutG 32 x).1 (cutG 32 (cutG 32 x).2).1 = 27 := by unfold reqC; rw [if_neg (by rw [h]; simp), if_pos h2]
  unfold startC; rw [e, if_pos (by decide)]
theorem reqC_good {m t : List UInt8} (h : methodB m = true) (h2 : targetB m t = true) : reqC m t = 0 := by
  unfold reqC; rw [if_neg (by rw [h]; simp), if_neg (by rw [h2]; simp)]
theorem start28 {x : List UInt8} (h : methodB (cutG 32 x).1 = true) (h2 : targetB (cutG 32 x).1 (cutG 32 (cutG 32 x).2).1 = true) (h3 : (cutG 32 (cutG 32 x).2).2 ≠ verL) : startC x = 28 := by
  unfold startC; rw [reqC_good h h2, if_neg (by simp), if_pos h3]
theorem start0 {x : List UInt8} (h : methodB (cutG 32 x).1 = true) (h2 : targetB (cutG 32 x).1 (cutG 32 (cutG 32 x).2).1 = true) (h3 : (cutG 32 (cutG 32 x).2).2 = verL) : startC x = 0 := by
  unfold startC; rw [reqC_good h h2, if_neg (by simp), if_neg (by simp [h3])]
theorem rdQ_start {l x : List UInt8} {t : List (List UInt8)} {c : Nat} (h : (splitG l).1 = 0) (hx : (splitG l).2.1 = x :: t) (h1 : startC x = c) (hc : c ≠ 0) : rdQ l = (c, ([], [], []), 0) := by
  rw [rdQ_lines h, hx, reqL_start (by rw [h1]; exact hc), h1, if_pos hc]
theorem rdQ_hR {l x : List UInt8} {t : List (List UInt8)} (h : (splitG l).1 = 0) (hx : (splitG l).2.1 = x :: t) (h1 : startC x = 0) (h2 : (readFs nmO vlO t).1 = 0) (hh : hosted hostO lowS (readFs nmO vlO t).2 = none) : rdQ l = (29, ([], [], []), 0) :=
  rdQ_h h hx h1 h2 (by rw [← hosted_with (readFs_lower t)]; exact hh)
theorem rdQ_gR {l x : List UInt8} {t : List (List UInt8)} {fs : Fs} (h : (splitG l).1 = 0) (hx : (splitG l).2.1 = x :: t) (h1 : startC x = 0) (h2 : (readFs nmO vlO t).1 = 0) (hh : hosted hostO lowS (readFs nmO vlO t).2 = some fs) : rdQ l = (0, ((cutG 32 x).1, (cutG 32 (cutG 32 x).2).1, fs), (splitG l).2.2) :=
  rdQ_g h hx h1 h2 (by rw [← hosted_with (readFs_lower t)]; exact hh)
/-- What the reference's ReadRequest leaves. -/
def RefReqPost (l : List UInt8) (w : World) (e : Ending) (w' : World) : Prop :=
  ∃ v, e = .returned (.tuple #[.agg #[.string (strB (rdQ l).2.1.1), .string (strB (rdQ l).2.1.2.1), v], .int .i64 ((rdQ l).2.2 : Int), .int .i64 ((rdQ l).1 : Int)]) ∧ OwnsP 49 w.heap.size w' v (rdQ l).2.1.2.2 ∧ Below w.heap.size w w'
theorem refReq_err {l : List UInt8} {w w' : World} {c : Nat} (h : rdQ l = (c, ([], [], []), 0)) (hB : Below w.heap.size w w') :
    RefReqPost l w (.returned (.tuple #[.agg #[.string ⟨#[]⟩, .string ⟨#[]⟩, .slice none 0 0], .int .i64 0, .int .i64 (c : Int)])) w' :=
  ⟨.slice none 0 0, by rw [h]; rfl, by rw [h]; exact OwnsP.nil _ _ _, hB⟩
theorem refCut32_any (l : List UInt8) (w : World) (hs : l.length ≤ 1000000) :
    Calls Tryz.prog 31 #[.string (strB l), .int .u8 32] w fun e w' => ∃ b, e = .returned (.tuple #[.string (strB (cutG 32 l).1), .string (strB (cutG 32 l).2), .bool b]) ∧ Below w.heap.size w w' := by
  have := refCutG_any 32 (strB l) w (by rw [strB_size]; omega)
  rw [strB_list] at this
  refine this.mono ?_
  rintro e w' ⟨rfl, hB⟩
  rw [(cutG_C 32 l).2]
  exact ⟨_, rfl, hB⟩
set_option maxHeartbeats 8000000 in
set_option maxRecDepth 100000 in
theorem refRequest_any (s : ByteArray) (w : World) (hs : s.size ≤ 100000) :
    Calls Tryz.prog 11 #[.string s] w (RefReqPost s.data.toList w) := by
  have hB0 : Below w.heap.size w (w.alloc (.cells #[.string ⟨#[]⟩, .string ⟨#[]⟩, .slice none 0 0] 34)) := below_new _ _
  have hsz : s.data.toList.length = s.size := by rw [Array.length_toList]; rfl
  have D := fun w => refSplit_any s w (by omega)
  generalize s.data.toList = l at *
  have hll : l.length ≤ 100000 := by omega
  clear hsz
  go_enter Tryz.func11, Tryz.ntmps11
  go_wp2_with fail
  refine (D _).mono ?_
  rintro e w1 ⟨v1, he, hR, hB⟩
  clear D
  by_cases hs0 : (splitG l).1 = 0
  · obtain ⟨x, t, hx, ht, hpl⟩ := split_lines hs0
    rw [hs0] at he
    rw [hx] at hR
    have HS := Lib.hid hs0
    have HX := Lib.hid hx
    have HPL := Lib.hid hpl
    have hxl := hpl x (by simp)
    have hl1 := cutG_len 32 x
    have hl2 := cutG_len 32 (cutG 32 x).2
    have C1 := Lib.hid (fun w => refCut32_any x w (by omega))
    have C2 := Lib.hid (fun w => refCut32_any (cutG 32 x).2 w (by omega))
    have M := Lib.hid (fun w => refMethod_any (strB (cutG 32 x).1) w (by rw [strB_size]; omega))
    have T := Lib.hid (fun w => refTarget_any (cutG 32 x).1 (cutG 32 (cutG 32 x).2).1 w (by omega))
    rw [strB_list] at M
    have F := Lib.hid (fun ao cp W (hr : ReadsS W (.slice ao t.length cp) t) => refFields_any (.slice ao t.length cp) t W hr (by omega) (fun y hy => by have := hpl y (by simp [hy]); omega))
    subst he
    rcases hR with ⟨hn, _⟩ | ⟨g, cap, rfl, hcap, hg, hc⟩
    · cases hn
    simp only [List.length_cons] at hcap
    rw [show (x :: t).length = t.length + 1 from rfl]
    have hc0 := hc 0 x rfl
    have HC := Lib.hid hc
    clear hs0 hx hpl hc hl1 hl2 hxl
    go_wp2_with fail
    refine (C1.out _).mono ?_
    rintro e w2 ⟨b1, rfl, hB2⟩
    have hBx := hB.trans (hB2.mono hB.size)
    have hBr := hB2
    clear hB2
    go_wp2_with fail
    refine (C2.out _).mono ?_
    rintro e w3 ⟨b2, rfl, hB2⟩
    have hBx := hBx.trans (hB2.mono hBx.size)
    have hBr := hBr.trans (hB2.mono hBr.size)
    clear hB2
    obtain ⟨c0, c1, c2, f0, f1, f2, hz⟩ := three_kept w hBx
    cases h1 : methodB (cutG 32 x).1 with
    | false =>
      have HE := Lib.hid (rdQ_start HS.out HX.out (start26 h1) (by decide))
      rw [h1] at M
      clear h1
      go_wp2_with fail
      refine (M.out _).mono ?_
      rintro e w' ⟨rfl, rfl⟩
      go_wp2_with fail
      refine bodyPost_ret (v := .tuple #[.agg #[.string ⟨#[]⟩, .string ⟨#[]⟩, .slice none 0 0], .int .i64 0, .int .i64 (26)]) (by simp [results, Tryz.results11, go_sem, c0, c1, c2]) rfl ?_
      exact refReq_err HE.out (below_three (hB0.trans (hBx.mono hB0.size)) _ _ _)
    | true =>
      rw [h1] at M
      cases h2 : targetB (cutG 32 x).1 (cutG 32 (cutG 32 x).2).1 with
      | false =>
        have HE := Lib.hid (rdQ_start HS.out HX.out (start27 h1 h2) (by decide))
        rw [h2] at T
        clear h1 h2
        go_wp2_with fail
        refine (M.out _).mono ?_
        rintro e w' ⟨rfl, rfl⟩
        go_wp2_with fail
        refine (T.out _).mono ?_
        rintro e w' ⟨rfl, rfl⟩
        go_wp2_with fail
        refine bodyPost_ret (v := .tuple #[.agg #[.string ⟨#[]⟩, .string ⟨#[]⟩, .slice none 0 0], .int .i64 0, .int .i64 (27)]) (by simp [results, Tryz.results11, go_sem, c0, c1, c2]) rfl ?_
        exact refReq_err HE.out (below_three (hB0.trans (hBx.mono hB0.size)) _ _ _)
      | true =>
        rw [h2] at T
        by_cases h3 : (cutG 32 (cutG 32 x).2).2 = verL
        · have q := list_yes h3
          unfold verL at q
          have H1 := Lib.hid (start0 h1 h2 h3)
          clear h1 h2 h3
          have hg2 : g < w3.heap.size := Nat.lt_of_lt_of_le hg hBr.size
          have HT := Lib.hid (tail_reads (some ⟨g, 1, none⟩) (cap - 1) hg2 (fun j y (hj : (x :: t)[j]? = some y) => (hBr.cell (p := ⟨g, j, none⟩) hg).trans (HC.out j y hj)) (fun _ => rfl))
          clear hBr
          go_wp2_with fail
          refine (M.out _).mono ?_
          rintro e w' ⟨rfl, rfl⟩
          go_wp2_with fail
          refine (T.out _).mono ?_
          rintro e w' ⟨rfl, rfl⟩
          go_wp2_with fail
          refine (F.out _ _ _ HT.out).mono ?_
          rintro e w4 ⟨v4, he4, hO4, hB4⟩
          have hBy := hBx.trans (hB4.mono hBx.size)
          clear hB4 c0 c1 c2 f0 f1 f2 hz
          obtain ⟨c0, c1, c2, f0, f1, f2, hz⟩ := three_kept w hBy
          by_cases h2 : (readFs nmO vlO t).1 = 0
          · rw [h2] at he4
            have H2 := Lib.hid h2
            have hlen := readFs_len (nm := nmO) (vl := vlO) t
            have H := refHosted_any v4 (readFs nmO vlO t).2 w4 hO4.q (by omega) (fun f hf => by
              obtain ⟨y, hy, rfl, _⟩ := readFs_mem f hf
              have h5 := rdF_len y
              have h6 := HPL.out y (by simp [hy])
              show (rdF y).2.1.length + (rdF y).2.2.length ≤ _
              omega)
            subst he4
            clear h2 hO4 hlen hBx c0 c1 c2 f0 f1 f2 hz
            go_wp2_with fail
            refine H.mono ?_
            rintro e w5 ⟨v5, he5, ⟨ao5, n5, cp5, rfl⟩, hO5, hB5⟩
            have hBz := hBy.trans (hB5.mono hBy.size)
            have hz4 := hBy.size
            clear H hB5 hBy
            obtain ⟨c0, c1, c2, f0, f1, f2, hz⟩ := three_kept w hBz
            cases hh : hosted hostO lowS (readFs nmO vlO t).2 with
            | none =>
              rw [hh] at he5
              have HE := Lib.hid (rdQ_hR HS.out HX.out H1.out H2.out hh)
              subst he5
              clear hh hO5
              go_wp2_with fail
              refine bodyPost_ret (v := .tuple #[.agg #[.string ⟨#[]⟩, .string ⟨#[]⟩, .slice none 0 0], .int .i64 0, .int .i64 (29)]) (by simp [results, Tryz.results11, go_sem, c0, c1, c2]) rfl ?_
              exact refReq_err HE.out (below_three (hB0.trans (hBz.mono hB0.size)) _ _ _)
            | some fs2 =>
              rw [hh] at he5
              have HE := Lib.hid (rdQ_gR HS.out HX.out H1.out H2.out hh)
              have hO6 := ownsP_three w (OwnsP.mono (show w.heap.size + 1 ≤ w4.heap.size by simp at hz4; omega) (hO5 fs2 hh))
              subst he5
              clear hh hO5
              go_wp2_with fail
              refine bodyPost_ret (v := .tuple #[.agg #[.string (strB (cutG 32 x).1), .string (strB (cutG 32 (cutG 32 x).2).1), .slice ao5 n5 cp5], .int .i64 ((splitG l).2.2 : Int), .int .i64 0]) (by simp [results, Tryz.results11, go_sem, c0, c1, c2]) rfl ?_
              exact ⟨_, by rw [HE.out]; rfl, by rw [HE.out]; exact hO6 _ _ _, below_three (hB0.trans (hBz.mono hB0.size)) _ _ _⟩
          · have HE := Lib.hid (rdQ_f HS.out HX.out H1.out h2)
            have q4 : (((readFs nmO vlO t).1 : Int) != 0) = true := by simp; omega
            subst he4
            clear h2
            go_wp2_with fail
            refine bodyPost_ret (v := .tuple #[.agg #[.string ⟨#[]⟩, .string ⟨#[]⟩, .slice none 0 0], .int .i64 0, .int .i64 (((readFs nmO vlO t).1 : Int))]) (by simp [results, Tryz.results11, go_sem, c0, c1, c2]) rfl ?_
            exact refReq_err HE.out (below_three (hB0.trans (hBy.mono hB0.size)) _ _ _)
        · have q := list_no h3
          unfold verL at q
          have HE := Lib.hid (rdQ_start HS.out HX.out (start28 h1 h2 h3) (by decide))
          clear h1 h2 h3
          go_wp2_with fail
          refine (M.out _).mono ?_
          rintro e w' ⟨rfl, rfl⟩
          go_wp2_with fail
          refine (T.out _).mono ?_
          rintro e w' ⟨rfl, rfl⟩
          go_wp2_with fail
          refine bodyPost_ret (v := .tuple #[.agg #[.string ⟨#[]⟩, .string ⟨#[]⟩, .slice none 0 0], .int .i64 0, .int .i64 (28)]) (by simp [results, Tryz.results11, go_sem, c0, c1, c2]) rfl ?_
          exact refReq_err HE.out (below_three (hB0.trans (hBx.mono hB0.size)) _ _ _)
  · have HE := Lib.hid (rdQ_split rfl hs0)
    have q : (((splitG l).1 : Int) != 0) = true := by simp; omega
    subst he
    clear hs0
    obtain ⟨c0, c1, c2, f0, f1, f2, hz⟩ := three_kept w hB
    rcases hR with ⟨_, rfl⟩ | ⟨g, cap, rfl, _, _, _⟩
    all_goals
      go_wp2_with fail
      refine bodyPost_ret (v := .tuple #[.agg #[.string ⟨#[]⟩, .string ⟨#[]⟩, .slice none 0 0], .int .i64 0, .int .i64 (((splitG l).1 : Int))]) (by simp [results, Tryz.results11, go_sem, c0, c1, c2]) rfl ?_
      exact refReq_err HE.out (below_three (hB0.trans (hB.mono hB0.size)) _ _ _)
end Go.Proofs.YtacfkljpjjnlfaaGreatDoor
