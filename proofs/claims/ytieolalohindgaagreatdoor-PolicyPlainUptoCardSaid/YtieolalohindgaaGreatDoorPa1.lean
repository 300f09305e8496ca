import Derived.Lib.SlTrimSet
import Derived.Test.YtieolalohindgaaGreatDoorPa0
import Derived.Test.YtieolalohindgaaGreatDoorPa37
import Derived.Lib.Hide
/- Plain mathematics: the parts of a list of bytes between separators outside of quoted parts; nothing of the program. -/
namespace Go.Proofs.YtieolalohindgaaGreatDoor

inductive St where
  | out | inn | esc

def scan (b : UInt8) : St → List UInt8 → List UInt8 → Option (List (List UInt8))
  | .out, cur, [] => some [cur]
  | .inn, _, [] => none
  | .esc, _, [] => none
  | .out, cur, c :: r => if c = 34 then scan b .inn (cur ++ [c]) r else if c = b then (scan b .out [] r).map (cur :: ·) else scan b .out (cur ++ [c]) r
  | .inn, cur, c :: r => if c = 34 then scan b .out (cur ++ [c]) r else if c = 92 then scan b .esc (cur ++ [c]) r else scan b .inn (cur ++ [c]) r
  | .esc, cur, c :: r => scan b .inn (cur ++ [c]) r

def stOf (q : Bool) : St := if q then .inn else .out

/-- After the bytes before k, with the part that began at st, 'acc' are the parts that are done. -/
def Inv (b : UInt8) (L : List UInt8) (acc : List (List UInt8)) (st k : Nat) (q : Bool) : Prop :=
  st ≤ k ∧ st ≤ L.length ∧ (k ≤ L.length ∨ (k = L.length + 1 ∧ q = true)) ∧ acc.length ≤ k ∧
  scan b .out [] L = (scan b (stOf q) ((L.drop st).take (k - st)) (L.drop k)).map (acc ++ ·)

theorem Inv0 (b : UInt8) (L : List UInt8) : Inv b L [] 0 0 false := by
  refine ⟨Nat.le_refl _, Nat.zero_le _, .inl (Nat.zero_le _), Nat.le_refl _, ?_⟩
  simp [stOf]
theorem drop_cons (L : List UInt8) (k : Nat) (h : k < L.length) : L.drop k = L[k] :: L.drop (k + 1) := by
  rw [List.drop_eq_getElem_cons h]
theorem seg_snoc (L : List UInt8) (st k : Nat) (hs : st ≤ k) (h : k < L.length) : (L.drop st).take (k + 1 - st) = (L.drop st).take (k - st) ++ [L[k]] := by
  have e : k + 1 - st = (k - st) + 1 := by omega
  rw [e, List.take_succ_eq_append_getElem (by simp; omega), List.getElem_drop]
  have e2 : st + (k - st) = k := by omega
  simp only [e2]

theorem Inv.quote {b : UInt8} {L acc st k q} (h : Inv b L acc st k q) (hk : k < L.length) (hc : L[k] = 34) : Inv b L acc st (k + 1) (!q) := by
  obtain ⟨h1, h2, h3, h4, h5⟩ := h
  refine ⟨by omega, h2, .inl (by omega), by omega, ?_⟩
  rw [h5, drop_cons L k hk, seg_snoc L st k h1 hk, hc]
  generalize L.drop (k + 1) = r
  cases q <;> simp [stOf, scan]
theorem Inv.escape {b : UInt8} {L acc st k} (h : Inv b L acc st k true) (hk : k < L.length) (hc : L[k] = 92) : Inv b L acc st (k + 2) true := by
  obtain ⟨h1, h2, h3, h4, h5⟩ := h
  refine ⟨by omega, h2, ?_, by omega, ?_⟩
  · by_cases h : k + 2 ≤ L.length
    · exact .inl h
    · exact .inr ⟨by omega, rfl⟩
  rw [h5, drop_cons L k hk, hc]
  by_cases h : k + 1 < L.length
  · have e := seg_snoc L st (k + 1) (by omega) h
    rw [seg_snoc L st k h1 hk, hc] at e
    rw [drop_cons L (k + 1) h, show k + 2 - st = k + 1 + 1 - st by omega, e]
    show _ = Option.map _ (scan b (stOf true) _ (L.drop (k + 1 + 1)))
    generalize L.drop (k + 1 + 1) = r
    simp [stOf, scan]
  · have e1 : L.drop (k + 1) = [] := List.drop_eq_nil_of_le (by omega)
    have e2 : L.drop (k + 2) = [] := List.drop_eq_nil_of_le (by omega)
    rw [e1, e2]
    simp [stOf, scan]
theorem Inv.cut {b : UInt8} {L acc st k} (h : Inv b L acc st k false) (hk : k < L.length) (hc : L[k] = b) (h34 : L[k] ≠ 34) :
    Inv b L (acc ++ [(L.drop st).take (k - st)]) (k + 1) (k + 1) false := by
  obtain ⟨h1, h2, h3, h4, h5⟩ := h
  refine ⟨by omega, by omega, .inl (by omega), by simp; omega, ?_⟩
  rw [h5, drop_cons L k hk, Nat.sub_self, List.take_zero]
  generalize L.drop (k + 1) = r
  show Option.map _ (scan b .out _ _) = Option.map _ (scan b .out [] r)
  rw [scan, if_neg h34, if_pos hc]
  cases scan b St.out [] r <;> simp
theorem Inv.other {b : UInt8} {L acc st k q} (h : Inv b L acc st k q) (hk : k < L.length) (h34 : L[k] ≠ 34) (h92 : q = true → L[k] ≠ 92) (hb : q = false → L[k] ≠ b) : Inv b L acc st (k + 1) q := by
  obtain ⟨h1, h2, h3, h4, h5⟩ := h
  refine ⟨by omega, h2, .inl (by omega), by omega, ?_⟩
  rw [h5, drop_cons L k hk, seg_snoc L st k h1 hk]
  generalize L.drop (k + 1) = r
  cases q
  · simp [stOf, scan, h34, hb rfl]
  · simp [stOf, scan, h34, h92 rfl]
theorem Inv.open' {b : UInt8} {L acc st k} (h : Inv b L acc st k true) (hk : L.length ≤ k) : scan b .out [] L = none := by
  obtain ⟨h1, h2, h3, h4, h5⟩ := h
  rw [h5, List.drop_eq_nil_of_le hk]; simp [stOf, scan]
theorem Inv.done {b : UInt8} {L acc st k} (h : Inv b L acc st k false) (hk : L.length ≤ k) : scan b .out [] L = some (acc ++ [L.drop st]) := by
  obtain ⟨h1, h2, h3, h4, h5⟩ := h
  have : k = L.length := by
    rcases h3 with h3 | ⟨_, h3⟩
    · omega
    · cases h3
  subst this
  rw [h5, List.drop_eq_nil_of_le hk, List.take_of_length_le (by simp)]; simp [stOf, scan]

def trimB (l : List UInt8) : List UInt8 := Lib.trimS l [32, 9]
end Go.Proofs.YtieolalohindgaaGreatDoor

/- What the code's Trim returns. -/
namespace Go.Proofs.YtieolalohindgaaGreatDoor
open Go.RowKit

abbrev errForm : Value := .iface 92 (.int .i64 2)
theorem trim_any (s : ByteArray) (w : World) (hs : s.size ≤ 9223372036854775807) :
    Calls Tryz.prog 111 #[.string s, .string ⟨#[32, 9]⟩] w fun e w' => e = .returned (.string ⟨(trimB s.data.toList).toArray⟩) ∧ Below w.heap.size w w' :=
  Any.strings_Trim_laid Tryz.lays160 (by kernel_rfl) s ⟨#[32, 9]⟩ w hs (by decide) (ascii_of_all (by decide))

set_option maxHeartbeats 400000 in
set_option maxRecDepth 100000 in
theorem trimA_any (s : ByteArray) (w : World) (hs : s.size ≤ 9223372036854775807) :
    Calls Tryz.prog 93 #[.string s] w fun e w' => e = .returned (.string (strB (trimB s.data.toList))) ∧ Below w.heap.size w w' := by
  go_enter Tryz.func93, Tryz.ntmps93
  go_wp2_with fail
  refine (trim_any s _ hs).mono ?_
  rintro e w1 ⟨rfl, hb⟩
  go_wp2_with fail
  go_ret
  exact ⟨rfl, hb⟩
end Go.Proofs.YtieolalohindgaaGreatDoor

/- What the code's divide returns: the trimmed parts of a string between separators outside of quoted parts, or ErrForm. -/
namespace Go.Proofs.YtieolalohindgaaGreatDoor
open Go.RowKit

theorem trim_seg (s : ByteArray) (x k : Nat) (w : World) (hs : s.size ≤ 100000) :
    Calls Tryz.prog 93 #[.string (s.extract x k)] w fun e w' => e = .returned (strV (trimB ((s.data.toList.drop x).take (k - x)))) ∧ Below w.heap.size w w' := by
  refine (trimA_any (s.extract x k) w (by simp; omega)).mono ?_
  rintro e w' ⟨rfl, hb⟩
  exact ⟨by rw [seg_list], hb⟩
def DivRel (s : ByteArray) (b : UInt8) (w : World) (v q st i : Value) (wr : World) : Prop :=
  ∃ (acc : List (List UInt8)) (x k : Nat) (qb : Bool), i = .int .i64 k ∧ st = .int .i64 x ∧ q = .bool qb ∧ Inv b s.data.toList acc x k qb ∧
    OwnsS w.heap.size wr v (acc.map trimB) ∧ Below w.heap.size w wr
theorem DivRel0 (s : ByteArray) (b : UInt8) (w : World) : DivRel s b w (.slice none 0 0) (.bool false) (.int .i64 0) (.int .i64 0) w :=
  ⟨[], 0, 0, false, rfl, rfl, rfl, Inv0 _ _, World.ownsRow_nil _ _ _ _, Below.refl _ _⟩

def partsO (b : UInt8) (l : List UInt8) : Option (List (List UInt8)) := if ctlS l then none else (scan b .out [] l).map (·.map trimB)

def DivPost (s : ByteArray) (b : UInt8) (w : World) (e : Ending) (w' : World) : Prop :=
  Below w.heap.size w w' ∧
  match partsO b s.data.toList with
  | none => e = .returned (.tuple #[.slice none 0 0, errForm])
  | some ls => ∃ v, e = .returned (.tuple #[v, .nilIface]) ∧ OwnsS w.heap.size w' v ls ∧ ls.length ≤ 100002

set_option maxHeartbeats 2000000 in
set_option maxRecDepth 100000 in
theorem divide_any (s : ByteArray) (b : UInt8) (w : World) (hs : s.size ≤ 100000) :
    Calls Tryz.prog 78 #[.string s, .int .u8 (b.toNat : Int)] w fun e w' => DivPost s b w e w' := by
  obtain ⟨i0, hi, hz0, hz1, hz2⟩ := info_parts Tryz.infoS
  by_cases hc : ctlS s.data.toList = true
  · go_enter Tryz.func78, Tryz.ntmps78
    go_wp2_with (go_at_call 92; refine (hasControl_any _ _ (by unfold maxLen; omega)).mono ?_; rintro e w' ⟨rfl, rfl⟩)
    go_ret2
    exact ⟨Below.refl _ _, by simp [partsO, hc, errForm]⟩
  · have hc' : ctlS s.data.toList = false := by simpa using hc
    go_enter Tryz.func78, Tryz.ntmps78
    go_wp2_with (go_at_call 92; refine (hasControl_any _ _ (by unfold maxLen; omega)).mono ?_; rintro e w' ⟨rfl, rfl⟩)
    go_loopw [6, 7, 8, 9] (fun v q st i wr => DivRel s b w v q st i wr) (fun _ _ _ i _ => s.size - (intOf i).toNat)
    case atStart => exact DivRel0 s b w
    case round =>
      obtain ⟨acc, x, k, qb, rfl, rfl, rfl, hI, hown, hB⟩ := hrel
      have hL : s.data.toList.length = s.size := by simp
      have HI := Lib.hid hI
      have HL := Lib.hid hL
      have hxk : x ≤ k := hI.1
      have hxs : x ≤ s.size := by have := hI.2.1; omega
      have hal : acc.length ≤ k := hI.2.2.2.1
      have hBs := hB.size
      have hke : k ≤ s.size + 1 := by rcases hI.2.2.1 with h | h <;> omega
      clear hI hL
      by_cases hlt : k < s.size
      · by_cases h34 : s[k].toNat = 34
        · have h34a : 34 ≤ s[k].toNat := by omega
          have h34b : s[k].toNat ≤ 34 := by omega
          clear h34
          cases qb
          all_goals
            go_wp2
            go_roundw
            case rel => exact ⟨acc, x, k + 1, _, by go_num, rfl, rfl, HI.out.quote (by rw [HL.out]; omega) (nat_of_u8 (by show s[k].toNat = 34; omega)), hown, hB⟩
            case measure => simp [intOf]; omega
        · cases qb
          · by_cases hb : s[k].toNat = b.toNat
            · have hba : b.toNat ≤ s[k].toNat := by omega
              have hbb : s[k].toNat ≤ b.toNat := by omega
              clear hb
              go_wp2_with (first
                | (go_at_call 93; refine (trim_seg s x k _ hs).mono ?_; rintro e w1 ⟨rfl, hb1⟩; have hs1 := hb1.size)
                | (at_builtin; refine wpList_append_own _ rfl _ _ 94 rfl w.heap.size 9 i0 (.string ByteArray.empty) 1 16 Tryz.underlying94 hi hz0 hz1 hz2 rfl (by decide) _ _ _ rfl ((OwnsS.below hown hb1).alloc _) ⟨w1.heap.size, 0, none⟩ 1 1 [strV (trimB ((s.data.toList.drop x).take (k - x)))] rfl rfl (cell_one_new _ _ _) (fun u hu => by simp at hu; subst hu; rfl) (by unfold maxLen; simp; omega) (by simp; omega) (by simp; omega) ?_; intro v' w2 hown' hgrow _))
              all_goals
                go_roundw
                case rel => exact ⟨acc ++ [(s.data.toList.drop x).take (k - x)], k + 1, k + 1, _, by go_num, by go_num, rfl, HI.out.cut (by rw [HL.out]; omega) (nat_of_u8 (by show s[k].toNat = b.toNat; omega)) (fun h => h34 (congrArg UInt8.toNat h)), by rw [List.map_append]; exact OwnsS.snoc hown', below_append hB hBs hb1 hown hgrow⟩
                case measure => simp [intOf]; omega
            · go_wp2
              all_goals
                go_roundw
                case rel => exact ⟨acc, x, k + 1, _, by go_num, rfl, rfl, HI.out.other (by rw [HL.out]; omega) (fun h => h34 (congrArg UInt8.toNat h)) (fun h => by cases h) (fun _ h => hb (congrArg UInt8.toNat h)), hown, hB⟩
                case measure => simp [intOf]; omega
          · by_cases h92 : s[k].toNat = 92
            · have h92a : 92 ≤ s[k].toNat := by omega
              have h92b : s[k].toNat ≤ 92 := by omega
              clear h92 h34
              go_wp2
              go_roundw
              case rel => exact ⟨acc, x, k + 2, _, by go_num, rfl, rfl, HI.out.escape (by rw [HL.out]; omega) (nat_of_u8 (by show s[k].toNat = 92; omega)), hown, hB⟩
              case measure => simp [intOf]; omega
            · go_wp2
              all_goals
                go_roundw
                case rel => exact ⟨acc, x, k + 1, _, by go_num, rfl, rfl, HI.out.other (by rw [HL.out]; omega) (fun h => h34 (congrArg UInt8.toNat h)) (fun _ h => h92 (congrArg UInt8.toNat h)) (fun h => by cases h), hown, hB⟩
                case measure => simp [intOf]; omega
      · cases qb
        · go_wp2_with (first
            | (go_at_call 93; refine (trim_seg s x s.size _ hs).mono ?_; rintro e w1 ⟨rfl, hb1⟩; have hs1 := hb1.size)
            | (at_builtin; refine wpList_append_own _ rfl _ _ 94 rfl w.heap.size 9 i0 (.string ByteArray.empty) 1 16 Tryz.underlying94 hi hz0 hz1 hz2 rfl (by decide) _ _ _ rfl ((OwnsS.below hown hb1).alloc _) ⟨w1.heap.size, 0, none⟩ 1 1 [strV (trimB ((s.data.toList.drop x).take (s.size - x)))] rfl rfl (cell_one_new _ _ _) (fun u hu => by simp at hu; subst hu; rfl) (by unfold maxLen; simp; omega) (by simp; omega) (by simp; omega) ?_; intro v' w2 hown' hgrow _))
          go_ret2
          refine ⟨below_append hB hBs hb1 hown hgrow, ?_⟩
          have hp : partsO b s.data.toList = some ((acc ++ [s.data.toList.drop x]).map trimB) := by
            simp [partsO, hc', HI.out.done (by rw [HL.out]; omega)]
          rw [hp]
          refine ⟨v', rfl, ?_, by simp; omega⟩
          rw [List.map_append]
          rw [List.take_of_length_le (by simp)] at hown'
          exact OwnsS.snoc hown'
        · go_wp2
          go_ret2
          exact ⟨hB, by simp [partsO, hc', HI.out.open' (by rw [HL.out]; omega), errForm]⟩
end Go.Proofs.YtieolalohindgaaGreatDoor
