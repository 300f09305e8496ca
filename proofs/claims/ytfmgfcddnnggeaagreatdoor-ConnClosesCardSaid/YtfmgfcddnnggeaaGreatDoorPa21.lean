import Derived.Test.YtfmgfcddnnggeaaGreatDoorPa2
import Derived.Test.YtfmgfcddnnggeaaGreatDoorPa0
import Derived.Shelf.Strings.IndexAnyAll
import Derived.Lib.OthersKept
import Derived.Lib.SpaceUEq
import Derived.Lib.MapLaws
import Derived.Lib.QuoteLoop
import Derived.Deep.QuietTactic
import Derived.BigQuiet
import Derived.IntWalk
import Derived.WalkMore
import Derived.Test.YtfmgfcddnnggeaaGreatDoorPa20
import Derived.Test.YtfmgfcddnnggeaaGreatDoorPa3
import Derived.Test.YtfmgfcddnnggeaaGreatDoorPa6
import Derived.Test.YtfmgfcddnnggeaaGreatDoorPa11
/- What strings.IndexAny and ContainsAny return for every string, at characters of ASCII: bytes of longer characters are none of them. -/
namespace Go.Proofs.YtfmgfcddnnggeaaGreatDoor
open Go.RowKit

/-- A byte of 128 or more: it and its continuations are no byte of ASCII, and the rune is at least 128. -/
theorem wide_rune (s : ByteArray) (i : Nat) (hi : i < s.size) (hb : 128 ≤ (s[i]'hi).toNat) :
    i + (Utf8.decode s i).2 ≤ s.size ∧ 1 ≤ (Utf8.decode s i).2 ∧ 128 ≤ (Utf8.decode s i).1 ∧ ((Utf8.decode s i).1 < 55296 ∨ (57343 < (Utf8.decode s i).1 ∧ (Utf8.decode s i).1 ≤ 1114111)) ∧
      ∀ j, i ≤ j → j < i + (Utf8.decode s i).2 → ∀ b, s.data.toList[j]? = some b → 128 ≤ b.toNat := by
  have h0 : (s.data.toList.getD i 0) = s[i] := by
    have : i < s.data.toList.length := by simpa using hi
    rw [List.getD, List.getElem?_eq_getElem this]; rfl
  have hn : s.data.toList.length - i ≥ 1 := by simp; omega
  have hsz : s.data.toList.length = s.size := by simp
  have hd := Lib.decode_N s i
  have hb0 : 128 ≤ (s.data.toList.getD i 0).toNat := by rw [h0]; exact hb
  have hlt : (s.data.toList.getD i 0).toNat < 256 := UInt8.toNat_lt _
  have hs := Lib.decodeN_shape (s.data.toList.length - i) (s.data.toList.getD i 0).toNat (s.data.toList.getD (i + 1) 0).toNat (s.data.toList.getD (i + 2) 0).toNat (s.data.toList.getD (i + 3) 0).toNat
  have hv := Lib.decodeN_valid (s.data.toList.length - i) (s.data.toList.getD i 0).toNat (s.data.toList.getD (i + 1) 0).toNat (s.data.toList.getD (i + 2) 0).toNat (s.data.toList.getD (i + 3) 0).toNat hlt
  have hge := Lib.decodeN_ge1 (s.data.toList.length - i) (s.data.toList.getD i 0).toNat (s.data.toList.getD (i + 1) 0).toNat (s.data.toList.getD (i + 2) 0).toNat (s.data.toList.getD (i + 3) 0).toNat
  rw [← hd] at hs hv hge
  have at' : ∀ j b, s.data.toList[j]? = some b → s.data.toList.getD j 0 = b := fun j b h => by rw [List.getD, h]; rfl
  refine ⟨?_, hge, ?_, hv, ?_⟩
  · rcases hs with ⟨h, e⟩ | ⟨_, h1, _, _, e⟩ | ⟨_, h1, _, _, _, _, e⟩ | ⟨_, h1, _, _, _, _, _, e⟩ | e
    · omega
    all_goals (rw [e]; simp only; omega)
  · rcases hs with ⟨h, e⟩ | ⟨_, h1, _, h2, e⟩ | ⟨_, h1, _, _, h2, _, e⟩ | ⟨_, h1, _, _, _, h2, _, e⟩ | e
    · omega
    all_goals (rw [e]; simp only; omega)
  · intro j hj1 hj2 b hjb
    have hg := at' j b hjb
    have hcase : j = i ∨ j = i + 1 ∨ j = i + 2 ∨ j = i + 3 ∨ i + 4 ≤ j := by omega
    rcases hs with ⟨h, e⟩ | ⟨_, h1, c1, h2, e⟩ | ⟨_, h1, c1, c2, h2, _, e⟩ | ⟨_, h1, c1, c2, c3, h2, _, e⟩ | e
    · omega
    all_goals
      rw [e] at hj2
      simp only at hj2
      rcases hcase with rfl | rfl | rfl | rfl | h4
      all_goals first
        | (rw [hg] at hb0; exact hb0)
        | (rw [hg] at c1; omega)
        | (rw [hg] at c2; omega)
        | (rw [hg] at c3; omega)
        | omega
def Ascii (l : List UInt8) : Prop := ∀ b ∈ l, b.toNat < 128
theorem NoAny.wide {s : ByteArray} {chars : List UInt8} {i n : Nat} (hc : Ascii chars) (h : Lib.NoAny s.data.toList chars i) (hw : ∀ j, i ≤ j → j < i + n → ∀ b, s.data.toList[j]? = some b → 128 ≤ b.toNat) : Lib.NoAny s.data.toList chars (i + n) := by
  intro j b hj hb
  by_cases hji : j < i
  · exact h j b hji hb
  · have := hw j (by omega) hj b hb
    rw [Bool.eq_false_iff]
    intro hm
    have := hc b (by simpa using hm)
    omega
/-- The last byte of a longer character. -/
theorem encode_last (r : Int) (h1 : 128 ≤ r) (h2 : r < 55296 ∨ (57343 < r ∧ r ≤ 1114111)) :
    ∃ k, 1 ≤ k ∧ k ≤ 3 ∧ (Utf8.encode r).size = k + 1 ∧ ∀ h : k < (Utf8.encode r).size, 128 ≤ ((Utf8.encode r)[k]'h).toNat := by
  have hval : Utf8.valid r = true := by
    unfold Utf8.valid
    simp only [Bool.or_eq_true, Bool.and_eq_true, decide_eq_true_eq]
    omega
  have hn : r.toNat ≤ 1114111 := by omega
  have hn1 : 128 ≤ r.toNat := by omega
  have hb : ∀ m : Nat, 128 ≤ (UInt8.ofNat (128 + m % 64)).toNat := fun m => by
    rw [UInt8.toNat_ofNat']; omega
  have hx : ∃ x : ByteArray, Utf8.encode r = x ∧ ∃ k, 1 ≤ k ∧ k ≤ 3 ∧ x.size = k + 1 ∧ ∀ h : k < x.size, 128 ≤ (x[k]'h).toNat := by
    by_cases c1 : r.toNat < 0x800
    · exact ⟨⟨#[UInt8.ofNat (0xC0 + r.toNat / 64), UInt8.ofNat (0x80 + r.toNat % 64)]⟩, by simp only [Utf8.encode, hval, if_true]; rw [if_neg (by omega), if_pos c1], 1, by omega, by omega, rfl, fun _ => hb _⟩
    · by_cases c2 : r.toNat < 0x10000
      · exact ⟨⟨#[UInt8.ofNat (0xE0 + r.toNat / 4096), UInt8.ofNat (0x80 + r.toNat / 64 % 64), UInt8.ofNat (0x80 + r.toNat % 64)]⟩, by simp only [Utf8.encode, hval, if_true]; rw [if_neg (by omega), if_neg c1, if_pos c2], 2, by omega, by omega, rfl, fun _ => hb _⟩
      · exact ⟨⟨#[UInt8.ofNat (0xF0 + r.toNat / 262144), UInt8.ofNat (0x80 + r.toNat / 4096 % 64), UInt8.ofNat (0x80 + r.toNat / 64 % 64), UInt8.ofNat (0x80 + r.toNat % 64)]⟩, by simp only [Utf8.encode, hval, if_true]; rw [if_neg (by omega), if_neg c1, if_neg c2], 3, by omega, by omega, rfl, fun _ => hb _⟩
  obtain ⟨x, e, hk⟩ := hx
  rw [e]; exact hk
theorem conv_rune (r : Int) (w : World) : (convert 21 9 (.int .i32 r)).run Tryz.prog w = .ok (.string (Utf8.encode r)) w := by
  have e1 := run_underlying (w := w) Tryz.underlying21
  have e2 := run_underlying (w := w) Tryz.underlying9
  simp [convert, Sem.run_bind, e1, e2, Result.andThen, Conv.intToString]
theorem indexByte_wide {l : List UInt8} (h : Ascii l) (c : UInt8) (hc : 128 ≤ c.toNat) : Lib.indexByte l c = -1 := by
  induction l with
  | nil => rfl
  | cons b t ih =>
    have hb := h b (by simp)
    rw [Lib.indexByte, ih fun x hx => h x (by simp [hx]), if_neg]
    · rfl
    · intro e
      have : b = c := by simpa using e
      subst this; omega
theorem extract_list (s : ByteArray) (a b : Nat) : (s.extract a b).data.toList = (s.data.toList.drop a).take (b - a) := Lib.extract_data s a b
theorem Ascii.seg {l : List UInt8} (h : Ascii l) (a n : Nat) : Ascii ((l.drop a).take n) := fun b hb => h b (List.mem_of_mem_drop (List.mem_of_mem_take hb))
theorem Ascii.at {s : ByteArray} (h : Ascii s.data.toList) (i : Nat) (hi : i < s.size) : (s[i]'hi).toNat < 128 := h _ (get_mem s i hi)

theorem slice_from (s : ByteArray) (k : Nat) (h : k < s.size) (w : World) : (Instr.slice 9 (.string s) (some (.int .i64 ((k : Int) + 1))) none none).run Tryz.prog w = .ok (.string (s.extract (k + 1) s.size)) w := by
  rw [run_slice_string_l w 9 s Tryz.underlying9 .i64 ((k : Int) + 1) (by omega) (by omega)]
  rw [show ((k : Int) + 1).toNat = k + 1 by omega]
set_option maxHeartbeats 4000000 in
set_option maxRecDepth 1000000 in
theorem indexRune_wide (chars : ByteArray) (r : Int) (w : World) (hc : Ascii chars.data.toList) (_ : chars.size ≤ 8) (h1 : 128 ≤ r) (h2 : r < 55296 ∨ (57343 < r ∧ r ≤ 1114111)) :
    Calls Tryz.prog 94 #[.string chars, .int .i32 r] w fun e w' => e = .returned (.int .i64 (-1)) ∧ Below w.heap.size w w' := by
  have HC := Lib.hid hc
  clear hc
  have hnot : ¬ r < 128 := by omega
  have hle : (0 : Int) ≤ r := by omega
  by_cases h3 : r = 65533
  · subst h3
    clear h1 h2 hnot hle
    go_enter Tryz.func94, Tryz.ntmps94
    go_wp2
    go_loopg [5, 6] chars.size (fun g _ _ wx => ∃ i : Nat, i + g = chars.size ∧ wx = w.iter chars i)
    case atStart => exact ⟨0, by omega, rfl⟩
    case round =>
      obtain ⟨i, hig, rfl⟩ := hrel
      cases gk with
      | zero =>
        obtain rfl : i = chars.size := by omega
        have hnx := run_next_end (P := Tryz.prog) w chars chars.size
        go_wp2
        go_ret
        exact ⟨rfl, below_new _ _⟩
      | succ g =>
        have hi : i < chars.size := by omega
        have ha := HC.out.at i hi
        have hnx := fun ty => run_next_ascii (P := Tryz.prog) w chars i ty hi ha
        have hne : (((chars[i].toNat : Nat) : Int) == 65533) = false := by simp; omega
        go_wp2
        go_roundg g
        case measure => omega
        case rel => exact ⟨i + 1, by omega, rfl⟩
  · obtain ⟨k, hk1, hk3, hks, hlast⟩ := encode_last r h1 h2
    have hcv := conv_rune r
    generalize Utf8.encode r = rs at *
    have hne : (r == 65533) = false := by simpa using h3
    have hkl : k < rs.size := by omega
    have hb := hlast hkl
    have hl1 : (rs.size : Int) - 1 = (k : Int) := by omega
    have hl2 : rs.size ≤ 4 := by omega
    have hl3 : 2 ≤ rs.size := by omega
    clear hlast h3 hks
    go_enter Tryz.func94, Tryz.ntmps94
    go_wp2_with (go_at_call 109; refine (Tryz.utf8_ValidRune _ _).mono ?_; rintro e w' ⟨rfl, rfl⟩)
    · go_ret
      exact ⟨rfl, Below.refl _ _⟩
    · go_step3
      go_wp2_with fail
      go_loop [9] (fun i => i = .int .i64 k) (fun _ => 0)
      case atStart => rfl
      case round =>
        subst hrel
        by_cases hlt : k < chars.size
        · have ha := HC.out.at k hlt
          have hne2 : ((chars[k].toNat : Int) != (rs[k].toNat : Int)) = true := by simp; omega
          have hx : Lib.indexByte (chars.extract (k + 1) chars.size).data.toList rs[k] = -1 := indexByte_wide (by rw [extract_list]; exact HC.out.seg _ _) _ hb
          have hcall : ∀ W, Calls Tryz.prog 108 #[.string (chars.extract (k + 1) chars.size), .int .u8 (rs[k].toNat : Int)] W fun e w' => e = .returned (.int .i64 (-1)) ∧ w' = W := fun W => by
            refine (Tryz.strings_IndexByte _ _ W).mono ?_
            rintro e w' ⟨rfl, rfl⟩
            refine ⟨?_, rfl⟩
            rw [show ((rs[k].toNat : Int)).toNat.toUInt8 = rs[k] by simp, hx]
          have HCall := Lib.hid hcall
          have hw : IntKind.i64.wrap (↑k + 1) = (k : Int) + 1 := IntWalk.i64_in _ (by omega)
          have hw2 : ((k : Int) + 1).toNat = k + 1 := by omega
          have hsl : ∀ W : World, (Instr.slice 9 (.string chars) (some (.int .i64 ((k : Int) + 1))) none none).run Tryz.prog W = .ok (.string (chars.extract (k + 1) chars.size)) W := fun W => slice_from chars k hlt W
          clear hx hcall hb hcv
          go_wp2_with fail
          go_step3
          go_wp2_with fail
          go_quiet (fail)
          have HB : Below w'.heap.size w' (w'.drewN nq) := below_drewN (Below.refl _ _) _
          generalize w'.drewN nq = W2 at HB ⊢
          go_wp2_with fail
          go_quiet ((go_at_call 108; exact Calls.quiet_of_same (HCall.out _)))
          go_wp2_with fail
          dsimp +zetaDelta only
          repeat (first | (unfold Exit.inBlock; dsimp only) | (unfold Exit.then; dsimp only) | (unfold Exit.noGoto; dsimp only))
          go_ret
          exact ⟨rfl, HB.trans (below_drewN (Below.refl _ _) _)⟩
        · go_wp2
          change bodyPost _ _ _ Exit.ret _ _
          go_ret
          exact ⟨rfl, Below.refl _ _⟩
/-- [256]bool, as the search lays it. -/
theorem info256 : (Tryz.prog.info? 129).map (fun i => (i.zero, i.size)) = some (some (.agg (Array.replicate 256 (.bool false))), 256) := by kernel_rfl
theorem indexAny_empty {s : ByteArray} {pos : Nat} {chars : List UInt8} (h : s.size ≤ pos) (hn : Lib.NoAny s.data.toList chars pos) : Lib.indexAny s.data.toList chars = -1 :=
  Lib.indexAny_none fun j b hj hb => hn j b (by have : s.data.toList.length = s.size := by simp
                                                omega) hb
def AnyRel (s : ByteArray) (chars : List UInt8) (w wr : World) (pos : Nat) : Prop :=
  pos ≤ s.size ∧ wr.heap[w.heap.size]? = some (.stringIter s pos) ∧ Below w.heap.size w wr ∧ Lib.NoAny s.data.toList chars pos
set_option maxHeartbeats 8000000 in
set_option maxRecDepth 1000000 in
theorem indexAny_short (s chars : ByteArray) (w : World) (h2 : 2 ≤ chars.size) (hc8 : chars.size ≤ 8) (h8 : s.size ≤ 8) (hc : Ascii chars.data.toList) :
    Calls Tryz.prog 77 #[.string s, .string chars] w fun e w' => e = .returned (.int .i64 (Lib.indexAny s.data.toList chars.data.toList)) ∧ Below w.heap.size w w' := by
  have HC := Lib.hid hc
  clear hc
  have hemp : chars.toList.isEmpty = false := by
    rw [ByteArray.toList_eq]
    cases h : chars.data.toList with
    | nil => have : chars.data.toList.length = chars.size := by simp
             rw [h, List.length_nil] at this; omega
    | cons _ _ => rfl
  have hn1 : ((chars.size : Int) == 1) = false := beq_eq_false_iff_ne.2 (by omega)
  have h8z : decide ((8 : Int) < (s.size : Int)) = false := decide_eq_false (by omega)
  have hk0 : (w.iter s 0).heap[w.heap.size]? = some (.stringIter s 0) := World.iter_heap w s 0
  have HK0 := Lib.hid hk0
  clear hk0
  go_enter Tryz.func77, Tryz.ntmps77
  go_wp2_with (go_at_call 95; refine (Tryz.strings_shouldUseASCIISet _ _).mono ?_; rintro e w' ⟨rfl, hw⟩; rw [hw, h8z])
  go_loopw [9, 10] (fun _ _ wr => ∃ pos : Nat, AnyRel s chars.data.toList w wr pos) (fun _ _ wr => s.size - wr.iterPos w.heap.size)
  case atStart => exact ⟨0, Nat.zero_le _, HK0.out, below_new _ _, Lib.NoAny.zero _ _⟩
  case round =>
    obtain ⟨pos, hps, hk, hnx, hno⟩ := hrel
    have HN := Lib.hid hno
    clear hno
    by_cases hp : pos < s.size
    · have hnext : ∀ ty, (Instr.next (.pointer (some ⟨w.heap.size, 0, none⟩)) true ty).run Tryz.prog wr = _ := fun ty => Lib.run_next_any_at wr w.heap.size s pos ty hk hp
      have hk1 := Lib.iterAt_heap wr w.heap.size s pos (pos + (Utf8.decode s pos).2) hk
      have hnx1 : Below w.heap.size w (wr.iterAt w.heap.size s (pos + (Utf8.decode s pos).2)) := Lib.below_iterAt hnx (Nat.le_refl _) s _
      have hmu : wr.iterPos w.heap.size = pos := by simp [World.iterPos, hk]
      generalize wr.iterAt w.heap.size s (pos + (Utf8.decode s pos).2) = W1 at hnext hk1 hnx1
      have HK1 := Lib.hid hk1
      have HMU := Lib.hid hmu
      clear hk1 hmu hk
      have hz1 := hnx1.size
      obtain ⟨x, hx⟩ : ∃ x : UInt8, s[pos]'hp = x := ⟨_, rfl⟩
      have hxl : s.data.toList[pos]? = some x := by rw [← hx]; exact Lib.data_getElem? s pos hp
      have HX := Lib.hid hxl
      by_cases hb : 128 ≤ x.toNat
      · obtain ⟨w1, w2, w3, w4, w5⟩ := wide_rune s pos hp (by rw [hx]; exact hb)
        have HW := Lib.hid (NoAny.wide HC.out HN.out w5)
        have hr1 : (128 : Int) ≤ ((Utf8.decode s pos).1 : Int) := by omega
        have hr2 : ((Utf8.decode s pos).1 : Int) < 55296 ∨ (57343 < ((Utf8.decode s pos).1 : Int) ∧ ((Utf8.decode s pos).1 : Int) ≤ 1114111) := by omega
        clear w3 w4 w5 hxl hx
        generalize (Utf8.decode s pos).1 = r at *
        generalize (Utf8.decode s pos).2 = n at *
        go_wp2_with (go_at_call 94; refine (indexRune_wide chars _ _ HC.out hc8 hr1 hr2).mono ?_; rintro e W2 ⟨rfl, hB2⟩)
        have hk2 : W2.heap[w.heap.size]? = some (.stringIter s (pos + n)) := by rw [hB2.block w.heap.size (Array.getElem?_eq_some_iff.1 HK1.out).1]; exact HK1.out
        go_roundw
        case rel => exact ⟨pos + n, w1, hk2, hnx1.trans (hB2.mono hnx1.size), HW.out⟩
        case measure =>
          have hmu2 : W2.iterPos w.heap.size = pos + n := by simp [World.iterPos, hk2]
          rw [HMU.out, hmu2]
          omega
      · have hd : Utf8.decode s pos = (x.toNat, 1) := by rw [decode_ascii s pos hp (by rw [hx]; omega), hx]
        rw [hd] at hnext
        have HK2 := Lib.hid (show W1.heap[w.heap.size]? = some (.stringIter s (pos + 1)) by have := HK1.out; rw [hd] at this; exact this)
        have hcon := Lib.contains_iff_indexByte chars.data.toList x
        have hback : ((x.toNat : Int)).toNat.toUInt8 = x := by simp
        clear hd HK1 hxl hx
        cases hin : chars.data.toList.contains x
        · rw [hin] at hcon
          have hlt : ¬ ((0 : Int) ≤ Lib.indexByte chars.data.toList x) := of_decide_eq_false hcon.symm
          have HIN := Lib.hid hin
          clear hcon hin
          go_wp2_with (go_at_call 94; refine (Tryz.strings_IndexRune_ascii _ _ _ (by omega) (by omega)).mono ?_; rintro e w' ⟨rfl, hw⟩; rw [hw, hback])
          go_roundw
          case rel => exact ⟨pos + 1, by omega, HK2.out, hnx1, HN.out.succ HX.out HIN.out⟩
          case measure =>
            have hmu2 : W1.iterPos w.heap.size = pos + 1 := by have := HK2.out; simp [World.iterPos, this]
            rw [HMU.out, hmu2]
            omega
        · rw [hin] at hcon
          have hge : (0 : Int) ≤ Lib.indexByte chars.data.toList x := of_decide_eq_true hcon.symm
          have HIN := Lib.hid hin
          clear hcon hin
          go_wp2_with (go_at_call 94; refine (Tryz.strings_IndexRune_ascii _ _ _ (by omega) (by omega)).mono ?_; rintro e w' ⟨rfl, hw⟩; rw [hw, hback])
          go_ret
          exact ⟨by rw [Lib.indexAny_hit HN.out HX.out HIN.out]; rfl, hnx1⟩
    · have hnext : ∀ ty, (Instr.next (.pointer (some ⟨w.heap.size, 0, none⟩)) true ty).run Tryz.prog wr = _ := fun ty => Lib.run_next_end_at wr w.heap.size s pos ty hk hp
      go_wp2
      go_ret
      exact ⟨by rw [indexAny_empty (by omega) HN.out]; rfl, hnx⟩
set_option maxRecDepth 1000000 in
/-- strings.IndexAny at two to eight characters of ASCII, for every string. -/
theorem indexAny_any (s chars : ByteArray) (w : World) (hs : s.size ≤ 1000000000) (h2 : 2 ≤ chars.size) (hc8 : chars.size ≤ 8) (hc : Ascii chars.data.toList) :
    Calls Tryz.prog 77 #[.string s, .string chars] w fun e w' => e = .returned (.int .i64 (Lib.indexAny s.data.toList chars.data.toList)) ∧ Below w.heap.size w w' := by
  by_cases h8 : s.size ≤ 8
  · exact indexAny_short s chars w h2 hc8 h8 hc
  · refine (Any.strings_IndexAny_long Tryz.lays153 (zero_of_info info256).1 (zero_of_info info256).2 s chars w h2 (by omega) (by omega) (by omega) (fun j b hb => hc b (List.mem_of_getElem? hb))).mono ?_
    rintro e w' ⟨h1, h2⟩
    refine ⟨h1, ?_⟩
    rw [h2]
    exact ((Below.refl _ _).alloc (Nat.le_refl _) _).alloc (by simp) _
theorem indexAny_pos (l chars : List UInt8) : decide (0 ≤ Lib.indexAny l chars) = l.any fun c => chars.contains c := by
  induction l with
  | nil => rfl
  | cons b t ih =>
    have hge := Lib.indexAny_ge chars t
    rw [Lib.indexAny, List.any_cons, ← ih]
    cases h : chars.contains b with
    | true => rfl
    | false =>
      by_cases h2 : Lib.indexAny t chars = -1
      · rw [h2]; rfl
      · rw [Bool.false_or, if_neg (by simp), if_neg (by simpa using h2), decide_eq_decide]; omega
theorem indexAny_zero (l chars : List UInt8) : (Lib.indexAny l chars == 0) = l.head?.any fun c => chars.contains c := by
  cases l with
  | nil => rfl
  | cons b t =>
    have hge := Lib.indexAny_ge chars t
    rw [Lib.indexAny]
    cases h : chars.contains b with
    | true => rw [if_pos rfl]; exact h.symm
    | false =>
      show _ = chars.contains b
      rw [h, if_neg (by simp)]
      by_cases h2 : Lib.indexAny t chars = -1
      · rw [h2]; rfl
      · rw [if_neg (by simpa using h2)]; simp; omega
set_option maxHeartbeats 1000000 in
theorem containsAny_any (s chars : ByteArray) (w : World) (hs : s.size ≤ 1000000000) (h2 : 2 ≤ chars.size) (hc8 : chars.size ≤ 8) (hc : Ascii chars.data.toList) :
    Calls Tryz.prog 54 #[.string s, .string chars] w fun e w' => e = .returned (.bool (s.data.toList.any fun c => chars.data.toList.contains c)) ∧ Below w.heap.size w w' := by
  have H := fun w => indexAny_any s chars w hs h2 hc8 hc
  have HP := Lib.hid (indexAny_pos s.data.toList chars.data.toList)
  generalize Lib.indexAny s.data.toList chars.data.toList = z at *
  clear hs h2 hc8 hc
  go_enter Tryz.func54, Tryz.ntmps54
  go_wp2_with fail
  refine (H _).mono ?_
  rintro e w1 ⟨rfl, hB⟩
  go_wp2_with fail
  go_ret
  exact ⟨ret_bool HP.out, hB⟩
end Go.Proofs.YtfmgfcddnnggeaaGreatDoor

/- What the program's divide returns: a head's lines, its length, or the error. -/
namespace Go.Proofs.YtfmgfcddnnggeaaGreatDoor
open Go.RowKit

theorem div_pre {l : List UInt8} (h : l.take 2 = crlf) : splitG l = (22, [], 0) := by rw [splitG_div]; unfold divP; rw [if_pos h]
theorem div_end {l : List UInt8} (h : l.take 2 ≠ crlf) (hi : Lib.index (l.take 8192) crlf2 = -1) (hl : l.length < 8192) : splitG l = (21, [], 0) := by
  rw [splitG_div]; unfold divP; rw [if_neg h, if_pos hi, if_pos hl]
theorem div_large {l : List UInt8} (h : l.take 2 ≠ crlf) (hi : Lib.index (l.take 8192) crlf2 = -1) (hl : ¬ l.length < 8192) : splitG l = (5, [], 0) := by
  rw [splitG_div]; unfold divP; rw [if_neg h, if_pos hi, if_neg hl]
theorem div_many {l : List UInt8} (h : l.take 2 ≠ crlf) {k : Nat} (hi : Lib.index (l.take 8192) crlf2 = k) (hl : 65 < (spF [] (l.take k)).length) : splitG l = (5, [], 0) := by
  rw [splitG_div]; unfold divP; rw [if_neg h, hi, if_neg (by omega), Int.toNat_natCast, if_pos hl]
theorem div_bad {l : List UInt8} (h : l.take 2 ≠ crlf) {k : Nat} (hi : Lib.index (l.take 8192) crlf2 = k) (hl : ¬ 65 < (spF [] (l.take k)).length) (hb : (spF [] (l.take k)).any (·.any badC) = true) : splitG l = (22, [], 0) := by
  rw [splitG_div]; unfold divP; rw [if_neg h, hi, if_neg (by omega), Int.toNat_natCast, if_neg hl, if_pos hb]
theorem div_good {l : List UInt8} (h : l.take 2 ≠ crlf) {k : Nat} (hi : Lib.index (l.take 8192) crlf2 = k) (hl : ¬ 65 < (spF [] (l.take k)).length) (hb : (spF [] (l.take k)).any (·.any badC) = false) : splitG l = (0, spF [] (l.take k), k + 4) := by
  rw [splitG_div]; unfold divP; rw [if_neg h, hi, if_neg (by omega), Int.toNat_natCast, if_neg hl, if_neg (by rw [hb]; simp)]
/-- What divide leaves. -/
def DivPost' (l : List UInt8) (w : World) (e : Ending) (w' : World) : Prop :=
  ∃ v, e = .returned (.tuple #[v, .int .i64 ((splitG l).2.2 : Int), errV (splitG l).1]) ∧ OwnsS w.heap.size w' v (splitG l).2.1 ∧ Below w.heap.size w w'
theorem divPost_err {l : List UInt8} {w w' : World} {c : Nat} (h : splitG l = (c, [], 0)) (hc : c ≠ 0) (hB : Below w.heap.size w w') : DivPost' l w (.returned (.tuple #[.slice none 0 0, .int .i64 0, .iface 32 (.int .i64 c)])) w' := by
  refine ⟨.slice none 0 0, ?_, ?_, hB⟩
  · rw [h]; unfold errV; rw [if_neg hc]; rfl
  · rw [h]; exact World.ownsRow_nil _ _ _ _
/-- None of the first j lines has a bare byte. -/
def NoBad (ls : List (List UInt8)) (j : Nat) : Prop := ∀ x ∈ ls.take j, x.any badC = false
theorem noBad0 (ls : List (List UInt8)) : NoBad ls 0 := fun x h => by simp at h
theorem noBad_step {ls : List (List UInt8)} {j : Nat} {x : List UInt8} (h : NoBad ls j) (hx : ls[j]? = some x) (hb : x.any badC = false) : NoBad ls (j + 1) := by
  intro y hy
  rw [List.take_add_one, hx] at hy
  rcases List.mem_append.1 hy with hy | hy
  · exact h y hy
  · simp at hy; rw [hy]; exact hb
theorem noBad_end {ls : List (List UInt8)} {j : Nat} (h : NoBad ls j) (hj : ls.length ≤ j) : ls.any (·.any badC) = false := by
  unfold NoBad at h
  rw [List.take_of_length_le hj] at h
  rw [List.any_eq_false]
  intro x hx; rw [h x hx]; simp
theorem anyBad {ls : List (List UInt8)} {j : Nat} {x : List UInt8} (hx : ls[j]? = some x) (hb : x.any badC = true) : ls.any (·.any badC) = true :=
  List.any_eq_true.2 ⟨x, List.mem_of_getElem? hx, hb⟩
theorem bad_any (x : List UInt8) (w : World) (hx : x.length ≤ 1000000) :
    Calls Tryz.prog 54 #[.string (strB x), .string ⟨#[13, 10, 0]⟩] w fun e w' => e = .returned (.bool (x.any badC)) ∧ Below w.heap.size w w' := by
  have := containsAny_any (strB x) ⟨#[13, 10, 0]⟩ w (by rw [strB_size]; omega) (by decide) (by decide) (by intro b hb; have : b ∈ [13, 10, 0] := hb; simp at this; rcases this with rfl | rfl | rfl <;> decide)
  rw [strB_list] at this
  exact this
set_option maxHeartbeats 4000000 in
set_option maxRecDepth 100000 in
theorem divide_some (g off cap : Nat) (l : List UInt8) (w : World) (hc : CellsB w g off l) (hg : g < w.heap.size) (hcap : l.length ≤ cap) (hM : HasMax w) (hl : l.length ≤ 100000) :
    Calls Tryz.prog 39 #[.slice (some ⟨g, off, none⟩) l.length cap] w (DivPost' l w) := by
  have kc := fun (w : World) (C : Array Value) (n c : Nat) => Lib.run_convert_bytes_const (P := Tryz.prog) w 30 5 C n c Tryz.underlying30 Tryz.underlying5
  have HP := prefix_crlf w g off cap l hcap hg hc
  by_cases h2 : l.take 2 = crlf
  · have HE := Lib.hid (div_pre h2)
    rw [decide_eq_true h2] at HP
    clear h2
    go_enter Tryz.func39, Tryz.ntmps39
    go_wp2_with (go_at_call 51; refine HP.mono ?_; rintro e w' ⟨rfl, rfl⟩)
    exact bodyPost_ret (v := .tuple #[.slice none 0 0, .int .i64 0, .iface 32 (.int .i64 22)]) (by simp [results, Tryz.results39, go_sem]) rfl (divPost_err HE.out (by decide) (below_new _ _))
  · rw [decide_eq_false h2] at HP
    have hB1 : Below w.heap.size w (w.alloc (.cells #[.int .u8 13, .int .u8 10] 5 (2, 3))) := below_new _ _
    have hc1 := hc.below hg hB1
    have hM1 := hM.below hB1
    have hs1 : (w.alloc (.cells #[.int .u8 13, .int .u8 10] 5 (2, 3))).heap.size = w.heap.size + 1 := by simp
    have hg1 : g < (w.alloc (.cells #[.int .u8 13, .int .u8 10] 5 (2, 3))).heap.size := by omega
    have k2 := kc (w.alloc (.cells #[.int .u8 13, .int .u8 10] 5 (2, 3))) #[.int .u8 13, .int .u8 10, .int .u8 13, .int .u8 10] 4 4
    have HI := index_crlf2 _ hM1 g off cap (l.take 8192) (by rw [List.length_take]; omega) (by rw [List.length_take]; omega) hg1 (hc1.take 8192)
    rw [hs1] at k2 HI
    obtain ⟨n, hn⟩ : ∃ n, (l.take 8192).length = n := ⟨_, rfl⟩
    have hmin : (min (l.length : Int) 8192).toNat = n := by rw [List.length_take] at hn; omega
    have hnl : n ≤ cap := by rw [List.length_take] at hn; omega
    have hnl2 : n ≤ l.length := by rw [List.length_take] at hn; omega
    have hm0 : (0 : Int) ≤ min (l.length : Int) 8192 := by omega
    have hm1 : min (l.length : Int) 8192 ≤ cap := by omega
    rw [hn] at HI
    have hroom := Lib.index_room (l.take 8192) crlf2
    have hge := Lib.index_ge (l.take 8192) crlf2
    rw [hn] at hroom
    have hc4 : crlf2.length = 4 := rfl
    rw [hc4] at hroom
    clear hc4 hn hs1
    by_cases hi : Lib.index (l.take 8192) crlf2 = -1
    · rw [hi] at HI
      by_cases h8 : l.length < 8192
      · have HE := Lib.hid (div_end h2 hi h8)
        clear h2 hi hroom hge hc1 hM1 hc hM
        go_enter Tryz.func39, Tryz.ntmps39
        go_wp2_with (go_at_call 51; refine HP.mono ?_; rintro e w' ⟨rfl, rfl⟩)
        refine HI.mono ?_
        rintro e w3 ⟨rfl, hB3⟩
        go_wp2_with fail
        exact bodyPost_ret (v := .tuple #[.slice none 0 0, .int .i64 0, .iface 32 (.int .i64 21)]) (by simp [results, Tryz.results39, go_sem]) rfl (divPost_err HE.out (by decide) (hB1.trans (hB3.mono (by simp))))
      · have HE := Lib.hid (div_large h2 hi h8)
        clear h2 hi hroom hge hc1 hM1 hc hM
        go_enter Tryz.func39, Tryz.ntmps39
        go_wp2_with (go_at_call 51; refine HP.mono ?_; rintro e w' ⟨rfl, rfl⟩)
        refine HI.mono ?_
        rintro e w3 ⟨rfl, hB3⟩
        go_wp2_with fail
        exact bodyPost_ret (v := .tuple #[.slice none 0 0, .int .i64 0, .iface 32 (.int .i64 5)]) (by simp [results, Tryz.results39, go_sem]) rfl (divPost_err HE.out (by decide) (hB1.trans (hB3.mono (by simp))))
    · obtain ⟨k, hk⟩ : ∃ k : Nat, Lib.index (l.take 8192) crlf2 = k := ⟨(Lib.index (l.take 8192) crlf2).toNat, by omega⟩
      rw [hk] at HI hroom
      have hk2 : k + 4 ≤ n := by omega
      have hkl : (l.take k).length = k := by rw [List.length_take]; omega
      have HCV := Lib.hid (fun W (hB : Below w.heap.size w W) => conv_bytes W g off cap (l.take k) ((hc.below hg hB).take k))
      rw [hkl] at HCV
      have HS := Lib.hid (fun W (hM : HasMax W) => split_crlf (l.take k) W hM (by omega))
      have hlen := spF_len _ (l.take k) [] (Nat.le_refl _)
      rw [hkl] at hlen
      have HPL := Lib.hid (spF_part _ (l.take k) [] (Nat.le_refl _))
      have HM := Lib.hid hM
      have HMany := Lib.hid (div_many h2 hk)
      have HBad := Lib.hid (div_bad h2 hk)
      have HGood := Lib.hid (div_good h2 hk)
      have hkn : ¬ (k : Int) < 0 := by omega
      have hkc : k ≤ cap := by omega
      have hkl' : (l.take k).length ≤ 100000 := by omega
      have hne := spF_ne (l.take k) []
      clear h2 hi hk hroom hge hc1 hM1 hc hM hkl
      generalize spF [] (l.take k) = ls at *
      generalize l.take k = lk at *
      go_enter Tryz.func39, Tryz.ntmps39
      go_wp2_with (go_at_call 51; refine HP.mono ?_; rintro e w' ⟨rfl, rfl⟩)
      refine HI.mono ?_
      rintro e w3 ⟨rfl, hB3⟩
      have hB3' := hB1.trans (hB3.mono (by simp))
      have hcv := HCV.out w3 hB3'
      clear hB1 hB3 HI HP
      go_wp2_with fail
      refine (HS.out _ (HM.out.below hB3')).mono ?_
      rintro e w4 ⟨v, rfl, hO, hB4⟩
      have hB4' := hB3'.trans (hB4.mono hB3'.size)
      have hO4 := OwnsS.mono hB3'.size hO
      clear hcv hB4 hB3' HS HM HCV k2 kc
      have HO := Lib.hid hO4
      rcases hO.open' with ⟨rfl, hnil⟩ | ⟨g2, cap2, rfl, hg2, hg4, hcells⟩
      · exact absurd hnil hne
      clear hO hO4
      have HC := Lib.hid hcells
      have HNE := Lib.hid hne
      clear hcells hne
      by_cases hmany : 65 < ls.length
      · have HE := Lib.hid (HMany.out hmany)
        go_wp2_with fail
        exact bodyPost_ret (v := .tuple #[.slice none 0 0, .int .i64 0, .iface 32 (.int .i64 5)]) (by simp [results, Tryz.results39, go_sem]) rfl (divPost_err HE.out (by decide) hB4')
      · have HBd := Lib.hid (HBad.out hmany)
        have HGd := Lib.hid (HGood.out hmany)
        clear HMany HBad HGood
        go_wp2_with fail
        go_loopw [47] (fun i wr => ∃ j : Nat, i = .int .i64 j ∧ j ≤ ls.length ∧ NoBad ls j ∧ Below w4.heap.size w4 wr) (fun i _ => ls.length - (intOf i).toNat)
        case atStart => exact ⟨0, rfl, Nat.zero_le _, noBad0 _, Below.refl _ _⟩
        case round =>
          obtain ⟨j, rfl, hj, hnb, hBr⟩ := hrel
          have HNB := Lib.hid hnb
          clear hnb
          by_cases hlt : j < ls.length
          · obtain ⟨x, hx⟩ : ∃ x, ls[j]? = some x := ⟨ls[j], by simp [hlt]⟩
            have hcell : wr.cell? ⟨g2, j, none⟩ = some (.string (strB x)) := (hBr.cell (p := ⟨g2, j, none⟩) hg4).trans (HC.out j x hx)
            have hxl := HPL.out x (List.mem_of_getElem? hx)
            have HX := Lib.hid hx
            clear hx
            have HCA := bad_any x wr (by simp at hxl; omega)
            cases hb : x.any badC with
            | true =>
              rw [hb] at HCA
              have HE := Lib.hid (HBd.out (anyBad HX.out hb))
              clear hb hxl
              go_wp2_with fail
              refine HCA.mono ?_
              rintro e w5 ⟨rfl, hB5⟩
              go_wp2_with fail
              exact bodyPost_ret (v := .tuple #[.slice none 0 0, .int .i64 0, .iface 32 (.int .i64 22)]) (by simp [results, Tryz.results39, go_sem]) rfl (divPost_err HE.out (by decide) (hB4'.trans ((hBr.trans (hB5.mono hBr.size)).mono hB4'.size)))
            | false =>
              rw [hb] at HCA
              have HE := Lib.hid (noBad_step HNB.out HX.out hb)
              clear hb hxl
              go_wp2_with fail
              refine HCA.mono ?_
              rintro e w5 ⟨rfl, hB5⟩
              go_wp2_with fail
              go_roundw
              case rel => exact ⟨j + 1, by go_num, by omega, HE.out, hBr.trans (hB5.mono hBr.size)⟩
              case measure => simp [intOf]; omega
          · have HE := Lib.hid (HGd.out (noBad_end HNB.out (by omega)))
            go_wp2_with fail
            exact bodyPost_ret (v := .tuple #[.slice (some ⟨g2, 0, none⟩) ls.length cap2, .int .i64 ((k : Int) + 4), .nilIface]) (by simp [results, Tryz.results39, go_sem]) rfl
              ⟨_, by rw [HE.out]; rfl, by rw [HE.out]; exact HO.out.below hBr, hB4'.trans (hBr.mono hB4'.size)⟩
set_option maxHeartbeats 4000000 in
set_option maxRecDepth 100000 in
theorem divide_nil (w : World) : Calls Tryz.prog 39 #[.slice none 0 0] w (DivPost' [] w) := by
  have kc := fun (w : World) (C : Array Value) (n c : Nat) => Lib.run_convert_bytes_const (P := Tryz.prog) w 30 5 C n c Tryz.underlying30 Tryz.underlying5
  have HP := Tryz.bytes_HasPrefix_all none (some ⟨w.heap.size, 0, none⟩) 0 0 2 2 [] [13, 10] (w.alloc (.cells #[.int .u8 13, .int .u8 10] 5 (2, 3))) rfl rfl (Nat.le_refl _) (Lib.BytesIn.nil _ _ _) (fun _ => ⟨w.heap.size, 0, rfl, fun i hi => two_cells w 13 10 _ _ i hi⟩)
  rw [show Lib.hasPrefix (Lib.bytesOf []) (Lib.bytesOf [13, 10]) = false by decide] at HP
  have hs1 : (w.alloc (.cells #[.int .u8 13, .int .u8 10] 5 (2, 3))).heap.size = w.heap.size + 1 := by simp
  have k2 := kc (w.alloc (.cells #[.int .u8 13, .int .u8 10] 5 (2, 3))) #[.int .u8 13, .int .u8 10, .int .u8 13, .int .u8 10] 4 4
  rw [hs1] at k2
  have HI := fun W => Tryz.bytes_Index_nil (some ⟨w.heap.size + 1, 0, none⟩) 4 4 W (by decide) (fun h => absurd h (by decide))
  have HE := Lib.hid (div_end (l := []) (by decide) rfl (by decide))
  clear hs1
  go_enter Tryz.func39, Tryz.ntmps39
  go_wp2_with (go_at_call 51; refine HP.mono ?_; rintro e w' ⟨rfl, rfl⟩)
  refine (HI _).mono ?_
  rintro e w3 ⟨rfl, rfl⟩
  go_wp2_with fail
  exact bodyPost_ret (v := .tuple #[.slice none 0 0, .int .i64 0, .iface 32 (.int .i64 21)]) (by simp [results, Tryz.results39, go_sem]) rfl (divPost_err HE.out (by decide) ((below_new _ _).alloc (by simp) _))
theorem divideG_any (v : Value) (l : List UInt8) (w : World) (hr : ReadsB w v l) (hM : HasMax w) (hl : l.length ≤ 100000) :
    Calls Tryz.prog 39 #[v] w (DivPost' l w) := by
  rcases hr.cases with ⟨rfl, rfl⟩ | ⟨g, off, cap, rfl, hcap, hg, hc⟩
  · exact divide_nil w
  · exact divide_some g off cap l w hc hg hcap hM hl
end Go.Proofs.YtfmgfcddnnggeaaGreatDoor

/- The request line: what the program's isMethod, isPath, checkRequestLine and readRequestLine return. -/
namespace Go.Proofs.YtfmgfcddnnggeaaGreatDoor
open Go.RowKit

def upC (c : UInt8) : Bool := decide (65 ≤ c.toNat) && decide (c.toNat ≤ 90)
def tgC (c : UInt8) : Bool := decide (33 ≤ c.toNat) && decide (c.toNat ≤ 126)
def optL : List UInt8 := [79, 80, 84, 73, 79, 78, 83]
def pathL (t : List UInt8) : Bool := t.all tgC && decide (t.head? = some 47) && decide (t.length ≤ 2048)
theorem target_eq (m t : List UInt8) : targetB m t = (pathL t || (decide (t = [42]) && decide (m = optL))) := by
  unfold targetB pathL optL
  have ht : (t.all fun c => decide (33 ≤ c.toNat) && decide (c.toNat ≤ 126)) = t.all tgC := rfl
  rw [ht]
  by_cases h1 : t.all tgC = true
  · rw [h1]
    by_cases h2 : t.head? = some 47
    · have hl : 1 ≤ t.length := by cases t with
        | nil => cases h2
        | cons a b => simp
      have h3 : t ≠ [42] := by rintro rfl; exact absurd h2 (by decide)
      simp [h2, hl, h3]
    · by_cases h4 : t = [42]
      · subst h4; simp
      · simp [h2, h4]
  · have h1' : t.all tgC = false := by simpa using h1
    rw [h1']
    have h4 : t ≠ [42] := by rintro rfl; exact absurd h1' (by decide)
    simp [h4]
theorem upC_mk {c : UInt8} (h : 65 ≤ c.toNat) (h2 : c.toNat ≤ 90) : upC c = true := by simp [upC, h, h2]
theorem upC_not {c : UInt8} (h : ¬ (65 ≤ c.toNat ∧ c.toNat ≤ 90)) : upC c = false := by rw [Bool.eq_false_iff]; simp [upC]; omega
theorem tgC_mk {c : UInt8} (h : 33 ≤ c.toNat) (h2 : c.toNat ≤ 126) : tgC c = true := by simp [tgC, h, h2]
theorem tgC_not {c : UInt8} (h : ¬ (33 ≤ c.toNat ∧ c.toNat ≤ 126)) : tgC c = false := by rw [Bool.eq_false_iff]; simp [tgC]; omega
theorem method_bad {m : List UInt8} (h : m.all upC = false) : methodB m = false := by
  unfold methodB
  have ht : (m.all fun c => decide (65 ≤ c.toNat) && decide (c.toNat ≤ 90)) = m.all upC := rfl
  rw [ht, h]; rfl
theorem method_good {m : List UInt8} (h : m.all upC = true) : methodB m = (decide (1 ≤ m.length) && decide (m.length ≤ 16)) := by
  unfold methodB
  have ht : (m.all fun c => decide (65 ≤ c.toNat) && decide (c.toNat ≤ 90)) = m.all upC := rfl
  rw [ht, h]; rfl
set_option maxHeartbeats 4000000 in
set_option maxRecDepth 100000 in
theorem isMethod_any (s : ByteArray) (w : World) (hs : s.size ≤ 1000000000) :
    Calls Tryz.prog 82 #[.string s] w fun e w' => e = .returned (.bool (methodB s.data.toList)) ∧ w = w' := by
  have hsz : s.data.toList.length = s.size := by rw [Array.length_toList]; rfl
  have HSZ := Lib.hid hsz
  have e1 : s.toList.isEmpty = decide (s.size = 0) := by
    rw [ByteArray.toList_eq]
    cases h : s.data.toList with
    | nil => rw [h, List.length_nil] at hsz; rw [← hsz]; rfl
    | cons a b => rw [h, List.length_cons] at hsz; rw [List.isEmpty_cons, eq_comm, decide_eq_false_iff_not]; omega
  have HE := Lib.hid e1
  clear e1 hsz
  go_enter Tryz.func82, Tryz.ntmps82
  go_wp2
  go_loop [3] (fun i => ∃ k : Nat, k ≤ s.size ∧ i = .int .i64 k ∧ okTo upC s k) (fun i => s.size - (intOf i).toNat)
  case atStart => exact ⟨0, by omega, rfl, okTo0 _ s⟩
  case round =>
    obtain ⟨k, hk, rfl, hn⟩ := hrel
    by_cases hlt : k < s.size
    · by_cases h1 : 65 ≤ s[k].toNat
      · by_cases h2 : s[k].toNat ≤ 90
        · go_wp2
          go_round
          case rel => exact ⟨k + 1, by omega, by go_num, okTo_step hlt hn (upC_mk h1 h2)⟩
          case measure => simp [intOf]; omega
        · go_wp2
          go_ret
          exact ⟨ret_bool (method_bad (okTo_no hlt (upC_not (by omega)))).symm, rfl⟩
      · go_wp2
        go_ret
        exact ⟨ret_bool (method_bad (okTo_no hlt (upC_not (by omega)))).symm, rfl⟩
    · have HG := Lib.hid (method_good (okTo_end (by omega) hn))
      by_cases hz : s.size = 0
      · have e0 : s.toList.isEmpty = true := by rw [HE.out, decide_eq_true hz]
        have e2 : (s.toList == ([] : List UInt8)) = true := by simpa using e0
        go_wp2
        go_ret
        exact ⟨ret_bool (by rw [HG.out, HSZ.out, Bool.eq_iff_iff]; simp; omega), rfl⟩
      · have e0 : s.toList.isEmpty = false := by rw [HE.out, decide_eq_false hz]
        have e2 : (s.toList == ([] : List UInt8)) = false := by simpa using e0
        by_cases h16 : s.size ≤ 16
        · go_wp2
          go_ret
          exact ⟨ret_bool (by rw [HG.out, HSZ.out, Bool.eq_iff_iff]; simp; omega), rfl⟩
        · go_wp2
          go_ret
          exact ⟨ret_bool (by rw [HG.out, HSZ.out, Bool.eq_iff_iff]; simp; omega), rfl⟩
theorem path_bad {m : List UInt8} (h : m.all tgC = false) : pathL m = false := by unfold pathL; rw [h]; rfl
theorem path_good {m : List UInt8} (h : m.all tgC = true) : pathL m = (Lib.hasPrefix m [47] && decide (m.length ≤ 2048)) := by
  unfold pathL Lib.hasPrefix
  rw [h]
  cases m with
  | nil => rfl
  | cons a b =>
    simp [List.isPrefixOf]
    by_cases ha : a = 47
    · subst ha; simp
    · simp [ha, Ne.symm ha]
set_option maxHeartbeats 4000000 in
set_option maxRecDepth 100000 in
theorem isPath_any (s : ByteArray) (w : World) (hs : s.size ≤ 1000000000) :
    Calls Tryz.prog 83 #[.string s] w fun e w' => e = .returned (.bool (pathL s.data.toList)) ∧ w = w' := by
  have hsz : s.data.toList.length = s.size := by rw [Array.length_toList]; rfl
  have HSZ := Lib.hid hsz
  clear hsz
  go_enter Tryz.func83, Tryz.ntmps83
  go_wp2
  go_loop [3] (fun i => ∃ k : Nat, k ≤ s.size ∧ i = .int .i64 k ∧ okTo tgC s k) (fun i => s.size - (intOf i).toNat)
  case atStart => exact ⟨0, by omega, rfl, okTo0 _ s⟩
  case round =>
    obtain ⟨k, hk, rfl, hn⟩ := hrel
    by_cases hlt : k < s.size
    · by_cases h1 : 33 ≤ s[k].toNat
      · by_cases h2 : s[k].toNat ≤ 126
        · go_wp2
          go_round
          case rel => exact ⟨k + 1, by omega, by go_num, okTo_step hlt hn (tgC_mk h1 h2)⟩
          case measure => simp [intOf]; omega
        · go_wp2
          go_ret
          exact ⟨ret_bool (path_bad (okTo_no hlt (tgC_not (by omega)))).symm, rfl⟩
      · go_wp2
        go_ret
        exact ⟨ret_bool (path_bad (okTo_no hlt (tgC_not (by omega)))).symm, rfl⟩
    · have HG := Lib.hid (path_good (okTo_end (by omega) hn))
      cases hp : Lib.hasPrefix s.data.toList [47] with
      | false =>
        have HP := Lib.hid hp
        go_wp2_with (go_at_call 101; refine (Tryz.strings_HasPrefix s ⟨#[47]⟩ _).mono ?_; rintro e w' ⟨rfl, rfl⟩; rw [show Lib.hasPrefix s.data.toList (⟨#[47]⟩ : ByteArray).data.toList = false from HP.out])
        go_ret
        exact ⟨ret_bool (by rw [HG.out, HP.out]; rfl), rfl⟩
      | true =>
        have HP := Lib.hid hp
        by_cases h16 : s.size ≤ 2048
        · go_wp2_with (go_at_call 101; refine (Tryz.strings_HasPrefix s ⟨#[47]⟩ _).mono ?_; rintro e w' ⟨rfl, rfl⟩; rw [show Lib.hasPrefix s.data.toList (⟨#[47]⟩ : ByteArray).data.toList = true from HP.out])
          go_ret
          exact ⟨ret_bool (by rw [HG.out, HP.out, HSZ.out, Bool.eq_iff_iff]; simp; omega), rfl⟩
        · go_wp2_with (go_at_call 101; refine (Tryz.strings_HasPrefix s ⟨#[47]⟩ _).mono ?_; rintro e w' ⟨rfl, rfl⟩; rw [show Lib.hasPrefix s.data.toList (⟨#[47]⟩ : ByteArray).data.toList = true from HP.out])
          go_ret
          exact ⟨ret_bool (by rw [HG.out, HP.out, HSZ.out, Bool.eq_iff_iff]; simp; omega), rfl⟩
/-- The number of the error of a method and a target. -/
def reqC (m t : List UInt8) : Nat := if methodB m = false then 26 else if targetB m t = false then 27 else 0
theorem list_yes {a b : List UInt8} (h : a = b) : ((strB a).toList == b) = true := by subst h; rw [ByteArray.toList_eq, strB_list]; exact beq_self_eq_true _
theorem list_no {a b : List UInt8} (h : a ≠ b) : ((strB a).toList == b) = false := by rw [ByteArray.toList_eq, strB_list]; simpa using h
set_option maxHeartbeats 2000000 in
set_option maxRecDepth 100000 in
theorem checkLine_any (m t : List UInt8) (w : World) (hm : m.length ≤ 1000000) (ht : t.length ≤ 1000000) :
    Calls Tryz.prog 60 #[.string (strB m), .string (strB t)] w fun e w' => e = .returned (errV (reqC m t)) ∧ w = w' := by
  have H1 := fun w => isMethod_any (strB m) w (by rw [strB_size]; omega)
  have H2 := fun w => isPath_any (strB t) w (by rw [strB_size]; omega)
  rw [strB_list] at H1 H2
  clear hm ht
  cases h1 : methodB m with
  | false =>
    rw [h1] at H1
    have HE := Lib.hid (show reqC m t = 26 by unfold reqC; rw [if_pos h1])
    clear h1
    go_enter Tryz.func60, Tryz.ntmps60
    go_wp2_with (go_at_call 82; refine (H1 _).mono ?_; rintro e w' ⟨rfl, rfl⟩)
    go_ret
    exact ⟨by rw [HE.out]; rfl, rfl⟩
  | true =>
    rw [h1] at H1
    cases h2 : pathL t with
    | true =>
      rw [h2] at H2
      have HE := Lib.hid (show reqC m t = 0 by unfold reqC; rw [if_neg (by rw [h1]; simp), target_eq, h2, if_neg (by simp)])
      clear h1 h2
      go_enter Tryz.func60, Tryz.ntmps60
      go_wp2_with (go_at_call 82; refine (H1 _).mono ?_; rintro e w' ⟨rfl, rfl⟩)
      refine (H2 _).mono ?_
      rintro e w' ⟨rfl, rfl⟩
      go_wp2_with fail
      go_ret
      exact ⟨by rw [HE.out]; rfl, rfl⟩
    | false =>
      rw [h2] at H2
      by_cases h3 : t = [42]
      · have q3 := list_yes h3
        by_cases h4 : m = optL
        · have q4 := list_yes h4
          unfold optL at q4
          have HE := Lib.hid (show reqC m t = 0 by unfold reqC; rw [if_neg (by rw [h1]; simp), target_eq, h2, if_neg (by simp [h3, h4])])
          clear h1 h2 h3 h4
          go_enter Tryz.func60, Tryz.ntmps60
          go_wp2_with (go_at_call 82; refine (H1 _).mono ?_; rintro e w' ⟨rfl, rfl⟩)
          refine (H2 _).mono ?_
          rintro e w' ⟨rfl, rfl⟩
          go_wp2_with fail
          go_ret
          exact ⟨by rw [HE.out]; rfl, rfl⟩
        · have q4 := list_no h4
          unfold optL at q4
          have HE := Lib.hid (show reqC m t = 27 by unfold reqC; rw [if_neg (by rw [h1]; simp), target_eq, h2, if_pos (by simp [h4])])
          clear h1 h2 h3 h4
          go_enter Tryz.func60, Tryz.ntmps60
          go_wp2_with (go_at_call 82; refine (H1 _).mono ?_; rintro e w' ⟨rfl, rfl⟩)
          refine (H2 _).mono ?_
          rintro e w' ⟨rfl, rfl⟩
          go_wp2_with fail
          go_ret
          exact ⟨by rw [HE.out]; rfl, rfl⟩
      · have q3 := list_no h3
        have HE := Lib.hid (show reqC m t = 27 by unfold reqC; rw [if_neg (by rw [h1]; simp), target_eq, h2, if_pos (by simp [h3])])
        clear h1 h2 h3
        go_enter Tryz.func60, Tryz.ntmps60
        go_wp2_with (go_at_call 82; refine (H1 _).mono ?_; rintro e w' ⟨rfl, rfl⟩)
        refine (H2 _).mono ?_
        rintro e w' ⟨rfl, rfl⟩
        go_wp2_with fail
        go_ret
        exact ⟨by rw [HE.out]; rfl, rfl⟩
theorem cutG_C (c : UInt8) : ∀ l : List UInt8, cut1 c l = (if (cutC c l).2.2 = true then some ((cutC c l).1, (cutC c l).2.1) else none) ∧ cutG c l = ((cutC c l).1, (cutC c l).2.1) := by
  intro l
  induction l with
  | nil => exact ⟨rfl, rfl⟩
  | cons x t ih =>
    have h1 : cut1 c (x :: t) = (if (cutC c (x :: t)).2.2 = true then some ((cutC c (x :: t)).1, (cutC c (x :: t)).2.1) else none) := by
      rw [cut1, cutC]
      by_cases hx : x = c
      · rw [if_pos hx, if_pos hx]; rfl
      · rw [if_neg hx, if_neg hx, ih.1]
        cases h : (cutC c t).2.2 <;> simp
    refine ⟨h1, ?_⟩
    unfold cutG
    rw [h1]
    by_cases h : (cutC c (x :: t)).2.2 = true
    · rw [if_pos h]; rfl
    · rw [if_neg h]
      have : ∀ l : List UInt8, (cutC c l).2.2 = false → cutC c l = (l, [], false) := by
        intro l
        induction l with
        | nil => intro _; rfl
        | cons y r ih2 =>
          intro h2
          rw [cutC] at h2 ⊢
          by_cases hy : y = c
          · rw [if_pos hy] at h2; cases h2
          · rw [if_neg hy] at h2 ⊢
            rw [ih2 h2]
      rw [this _ (by simpa using h)]; rfl
/-- The number of the error of a request line. -/
def startC (l : List UInt8) : Nat :=
  if reqC (cutG 32 l).1 (cutG 32 (cutG 32 l).2).1 ≠ 0 then reqC (cutG 32 l).1 (cutG 32 (cutG 32 l).2).1 else if (cutG 32 (cutG 32 l).2).2 ≠ verL then 28 else 0
def startV (l : List UInt8) : Value :=
  if startC l = 0 then .tuple #[.string (strB (cutG 32 l).1), .string (strB (cutG 32 (cutG 32 l).2).1), .nilIface] else .tuple #[.string (strB []), .string (strB []), .iface 32 (.int .i64 (startC l))]
theorem cutGM_any (l : List UInt8) (w : World) (hM : HasMax w) (hs : l.length ≤ 1000000) :
    Calls Tryz.prog 55 #[.string (strB l), .string ⟨#[32]⟩] w fun e w' => ∃ b, e = .returned (.tuple #[.string (strB (cutG 32 l).1), .string (strB (cutG 32 l).2), .bool b]) ∧ Below w.heap.size w w' := by
  refine (cutM_any 32 (strB l) w hM (by rw [strB_size]; omega)).mono ?_
  rintro e w' ⟨rfl, n, rfl⟩
  rw [strB_list, (cutG_C 32 l).2]
  exact ⟨_, rfl, below_drewN (Below.refl _ _) n⟩
theorem cutG_len (c : UInt8) (l : List UInt8) : (cutG c l).1.length ≤ l.length ∧ (cutG c l).2.length ≤ l.length := by
  rw [(cutG_C c l).2]; exact cutC_len c l
set_option maxHeartbeats 2000000 in
set_option maxRecDepth 100000 in
theorem readLine_any (l : List UInt8) (w : World) (hM : HasMax w) (hs : l.length ≤ 1000000) :
    Calls Tryz.prog 42 #[.string (strB l)] w fun e w' => e = .returned (startV l) ∧ Below w.heap.size w w' := by
  have hl1 := cutG_len 32 l
  have hl2 := cutG_len 32 (cutG 32 l).2
  have C1 := Lib.hid (fun w hM => cutGM_any l w hM hs)
  have C2 := Lib.hid (fun w hM => cutGM_any (cutG 32 l).2 w hM (by omega))
  have H := fun w => checkLine_any (cutG 32 l).1 (cutG 32 (cutG 32 l).2).1 w (by omega) (by omega)
  have HM := Lib.hid hM
  clear hl1 hl2 hM
  by_cases h1 : reqC (cutG 32 l).1 (cutG 32 (cutG 32 l).2).1 = 0
  · rw [h1, show errV 0 = .nilIface from rfl] at H
    by_cases h2 : (cutG 32 (cutG 32 l).2).2 = verL
    · have HE := Lib.hid (show startV l = .tuple #[.string (strB (cutG 32 l).1), .string (strB (cutG 32 (cutG 32 l).2).1), .nilIface] by
        unfold startV; rw [if_pos (by unfold startC; rw [if_neg (by simp [h1]), if_neg (by simp [h2])])])
      have q := list_yes h2
      unfold verL at q
      clear h1 h2
      go_enter Tryz.func42, Tryz.ntmps42
      go_wp2_with fail
      refine (C1.out _ HM.out).mono ?_
      rintro e w1 ⟨b1, rfl, hB1⟩
      go_wp2_with fail
      refine (C2.out _ (HM.out.below hB1)).mono ?_
      rintro e w2 ⟨b2, rfl, hB2⟩
      have hB2' := hB1.trans (hB2.mono hB1.size)
      go_wp2_with fail
      refine (H _).mono ?_
      rintro e w3 ⟨rfl, rfl⟩
      go_wp2_with fail
      refine bodyPost_ret (v := .tuple #[.string (strB (cutG 32 l).1), .string (strB (cutG 32 (cutG 32 l).2).1), .nilIface]) (by simp [results, Tryz.results42, go_sem]) rfl ?_
      exact ⟨by rw [HE.out], hB2'⟩
    · have HE := Lib.hid (show startV l = .tuple #[.string (strB []), .string (strB []), .iface 32 (.int .i64 28)] by
        unfold startV
        have e : startC l = 28 := by unfold startC; rw [if_neg (by simp [h1]), if_pos h2]
        rw [e]; rfl)
      have q := list_no h2
      unfold verL at q
      clear h1 h2
      go_enter Tryz.func42, Tryz.ntmps42
      go_wp2_with fail
      refine (C1.out _ HM.out).mono ?_
      rintro e w1 ⟨b1, rfl, hB1⟩
      go_wp2_with fail
      refine (C2.out _ (HM.out.below hB1)).mono ?_
      rintro e w2 ⟨b2, rfl, hB2⟩
      have hB2' := hB1.trans (hB2.mono hB1.size)
      go_wp2_with fail
      refine (H _).mono ?_
      rintro e w3 ⟨rfl, rfl⟩
      go_wp2_with fail
      refine bodyPost_ret (v := .tuple #[.string ⟨#[]⟩, .string ⟨#[]⟩, .iface 32 (.int .i64 28)]) (by simp [results, Tryz.results42, go_sem]) rfl ?_
      exact ⟨by rw [HE.out]; rfl, hB2'⟩
  · have HE := Lib.hid (show startV l = .tuple #[.string (strB []), .string (strB []), .iface 32 (.int .i64 (reqC (cutG 32 l).1 (cutG 32 (cutG 32 l).2).1))] by
      unfold startV
      have e : startC l = reqC (cutG 32 l).1 (cutG 32 (cutG 32 l).2).1 := by unfold startC; rw [if_pos h1]
      rw [e, if_neg h1])
    unfold errV at H
    rw [if_neg h1] at H
    clear h1
    generalize reqC (cutG 32 l).1 (cutG 32 (cutG 32 l).2).1 = c at *
    go_enter Tryz.func42, Tryz.ntmps42
    go_wp2_with fail
    refine (C1.out _ HM.out).mono ?_
    rintro e w1 ⟨b1, rfl, hB1⟩
    go_wp2_with fail
    refine (C2.out _ (HM.out.below hB1)).mono ?_
    rintro e w2 ⟨b2, rfl, hB2⟩
    have hB2' := hB1.trans (hB2.mono hB1.size)
    go_wp2_with fail
    refine (H _).mono ?_
    rintro e w3 ⟨rfl, rfl⟩
    go_wp2_with fail
    refine bodyPost_ret (v := .tuple #[.string ⟨#[]⟩, .string ⟨#[]⟩, .iface 32 (.int .i64 c)]) (by simp [results, Tryz.results42, go_sem]) rfl ?_
    exact ⟨by rw [HE.out]; rfl, hB2'⟩
end Go.Proofs.YtfmgfcddnnggeaaGreatDoor
