import Derived.Test.YtieolalohindgaaGreatDoorPa1
import Derived.Test.YtieolalohindgaaGreatDoorPa0
/- What the code's List returns: the parts between commas that are not empty, or ErrForm. What Texts says of two slices of strings. -/
namespace Go.Proofs.YtieolalohindgaaGreatDoor
open Go.RowKit

def listO (l : List UInt8) : Option (List (List UInt8)) := (partsO 44 l).map (·.filter (!·.isEmpty))

def fil (ls : List (List UInt8)) : List (List UInt8) := ls.filter (!·.isEmpty)
def ListRel (ls : List (List UInt8)) (w : World) (u i : Value) (wr : World) : Prop :=
  ∃ k : Nat, i = .int .i64 k ∧ k ≤ ls.length ∧ OwnsS w.heap.size wr u (fil (ls.take k)) ∧ Below w.heap.size w wr
theorem ListRel0 (ls : List (List UInt8)) (w : World) : ListRel ls w (.slice none 0 0) (.int .i64 0) w :=
  ⟨0, rfl, Nat.zero_le _, World.ownsRow_nil _ _ _ _, Below.refl _ _⟩
theorem fil_le (ls : List (List UInt8)) (k : Nat) : (fil (ls.take k)).length ≤ k :=
  Nat.le_trans (List.length_filter_le _ _) (List.length_take_le _ _)
theorem fil_keep {ls : List (List UInt8)} {k : Nat} {l : List UInt8} (h : ls[k]? = some l) (hl : l ≠ []) : fil (ls.take (k + 1)) = fil (ls.take k) ++ [l] := by
  unfold fil; rw [List.take_add_one, List.filter_append, h]
  cases l with
  | nil => exact absurd rfl hl
  | cons a t => rfl
theorem fil_drop {ls : List (List UInt8)} {k : Nat} {l : List UInt8} (h : ls[k]? = some l) (hl : l = []) : fil (ls.take (k + 1)) = fil (ls.take k) := by
  unfold fil; rw [List.take_add_one, List.filter_append, h]; subst hl; simp
def ListPost (s : ByteArray) (w : World) (e : Ending) (w' : World) : Prop :=
  Below w.heap.size w w' ∧
  match listO s.data.toList with
  | none => e = .returned (.tuple #[.slice none 0 0, errForm])
  | some ls => ∃ v, e = .returned (.tuple #[v, .nilIface]) ∧ OwnsS w.heap.size w' v ls ∧ ls.length ≤ 100002

set_option maxHeartbeats 2000000 in
set_option maxRecDepth 100000 in
theorem list_any (s : ByteArray) (w : World) (hs : s.size ≤ 100000) :
    Calls Tryz.prog 52 #[.string s] w fun e w' => ListPost s w e w' := by
  obtain ⟨i0, hi, hz0, hz1, hz2⟩ := info_parts Tryz.infoS
  have D := divide_any s 44 w hs
  cases hp : partsO 44 s.data.toList with
  | none =>
    go_enter Tryz.func52, Tryz.ntmps52
    go_wp2_with (go_at_call 78; refine D.mono ?_; rintro e w1 ⟨hB, he⟩; rw [hp] at he; subst he)
    go_ret2
    exact ⟨hB, by simp [listO, hp]⟩
  | some ls =>
    go_enter Tryz.func52, Tryz.ntmps52
    go_wp2_with (go_at_call 78; refine D.mono ?_; rintro e w1 ⟨hB, he⟩; rw [hp] at he; obtain ⟨v, rfl, hv, hle⟩ := he; have hsz := hB.size; rcases hv.open' with ⟨rfl, rfl⟩ | ⟨g, cap, rfl, hBg, hgs, hcells⟩)
    · go_loopw [6, 19] (fun u i wr => ListRel [] w1 u i wr) (fun _ i _ => 0 - (intOf i).toNat)
      case atStart => exact ListRel0 [] w1
      case round =>
        obtain ⟨k, rfl, hk, hu, hBw⟩ := hrel
        obtain rfl : k = 0 := by simpa using hk
        go_wp2
        go_ret2
        have hlo : listO s.data.toList = some (fil []) := by unfold listO; rw [hp]; rfl
        refine ⟨hB.trans (hBw.mono hsz), ?_⟩
        rw [hlo]
        exact ⟨_, rfl, OwnsS.mono hsz hu, by simp [fil]⟩
    · have Hcells := Lib.hid hcells
      have HP := Lib.hid hp
      clear hcells hp D
      go_loopw [6, 19] (fun u i wr => ListRel ls w1 u i wr) (fun _ i _ => ls.length - (intOf i).toNat)
      case atStart => exact ListRel0 ls w1
      case round =>
        obtain ⟨k, rfl, hk, hu, hBw⟩ := hrel
        have hwz := hBw.size
        have hfl := fil_le ls k
        by_cases hlt : k < ls.length
        · obtain ⟨l, hl⟩ : ∃ l, ls[k]? = some l := ⟨ls[k], by simp [hlt]⟩
          have hcell : wr.cell? ⟨g, k, none⟩ = some (.string (strB l)) := (hBw.cell (p := ⟨g, k, none⟩) hgs).trans (Hcells.out k l hl)
          have HL := Lib.hid hl
          clear hl
          by_cases he : l = []
          · have he1 := empty_yes he
            have HE := Lib.hid he
            clear he
            go_wp2
            go_roundw
            case rel => exact ⟨k + 1, by go_num, by omega, by rw [fil_drop HL.out HE.out]; exact hu, hBw⟩
            case measure => simp [intOf]; omega
          · have he1 := empty_no he
            go_wp2_with (at_builtin; refine wpList_append_own _ rfl _ _ 94 rfl w1.heap.size 9 i0 (.string ByteArray.empty) 1 16 Tryz.underlying94 hi hz0 hz1 hz2 rfl (by decide) _ _ _ rfl (World.ownsRow.alloc hu _) ⟨wr.heap.size, 0, none⟩ 1 1 [strV l] rfl rfl (cell_one_new _ _ _) (fun u hu => by simp at hu; subst hu; rfl) (by unfold maxLen; omega) (by omega) (by simp; omega) ?_; intro v' w2 hown' hgrow _)
            go_roundw
            case rel => exact ⟨k + 1, by go_num, by omega, by rw [fil_keep HL.out he]; exact OwnsS.snoc hown', below_append hBw hwz (Below.refl _ _) hu hgrow⟩
            case measure => simp [intOf]; omega
        · go_wp2
          go_ret2
          have hk' : fil (ls.take k) = fil ls := by rw [List.take_of_length_le (by omega)]
          rw [hk'] at hu
          have hlo : listO s.data.toList = some (fil ls) := by unfold listO; rw [HP.out]; rfl
          refine ⟨hB.trans (hBw.mono hsz), ?_⟩
          rw [hlo]
          exact ⟨_, rfl, OwnsS.mono hsz hu, by rw [hk'] at hfl; omega⟩
end Go.Proofs.YtieolalohindgaaGreatDoor

/- Lower case; what the code's lower returns. -/
namespace Go.Proofs.YtieolalohindgaaGreatDoor
open Go.RowKit

def lowB (c : UInt8) : UInt8 := if 65 ≤ c.toNat ∧ c.toNat ≤ 90 then c + 32 else c
def lowS (l : List UInt8) : List UInt8 := l.map lowB
theorem lowB_up {c : UInt8} (h1 : 65 ≤ c.toNat) (h2 : c.toNat ≤ 90) : (lowB c).toNat = c.toNat + 32 := by
  unfold lowB; rw [if_pos ⟨h1, h2⟩, UInt8.toNat_add]; simp; omega
theorem lowB_not {c : UInt8} (h : ¬ (65 ≤ c.toNat ∧ c.toNat ≤ 90)) : lowB c = c := by unfold lowB; rw [if_neg h]
theorem lowS_take (s : ByteArray) (k : Nat) (h : k < s.size) : lowS (s.data.toList.take (k + 1)) = lowS (s.data.toList.take k) ++ [lowB s[k]] := by
  rw [take_snoc s k h]; simp [lowS]
theorem lowS_len (l : List UInt8) : (lowS l).length = l.length := by simp [lowS]
theorem conv_one (z : Int) (c : UInt8) (hz : z = (c.toNat : Int)) (W : World) :
    (convert 123 9 (.slice (some ⟨W.heap.size, 0, none⟩) 1 1)).run Tryz.prog (W.alloc (.cells #[.int .u8 z] 5)) = .ok (.string ⟨#[c]⟩) (W.alloc (.cells #[.int .u8 z] 5)) :=
  run_convert_bytes_back _ _ _ 5 ⟨W.heap.size, 0, none⟩ 1 [c] Tryz.underlying123 Tryz.underlying5 Tryz.underlying9 (fun j hj => by
    have : j = 0 := by simp at hj; omega
    subst this
    subst hz
    simp [Addr.add])
/-- The bytes after k rounds: those before k in lower case. -/
def lowTo (l : List UInt8) (k j : Nat) : Int := if j < k then ((lowB (l.getD j 0)).toNat : Int) else ((l.getD j 0).toNat : Int)
def LowC (s : ByteArray) (w : World) (i : Value) (wr : World) : Prop :=
  ∃ k : Nat, i = .int .i64 k ∧ k ≤ s.size ∧ (∀ j, j < s.size → wr.cell? ⟨w.heap.size, j, none⟩ = some (.int .u8 (lowTo s.data.toList k j)) ∧ wr.frozen? ⟨w.heap.size, j, none⟩ = false) ∧ Below w.heap.size w wr
theorem getD_list (s : ByteArray) (j : Nat) (h : j < s.size) : s.data.toList.getD j 0 = s[j] := by
  have h' : j < s.data.toList.length := by simpa using h
  rw [List.getD, List.getElem?_eq_getElem h']; rfl
theorem lowTo_at {s : ByteArray} {k : Nat} (h : k < s.size) : lowTo s.data.toList k k = (s[k].toNat : Int) := by
  unfold lowTo; rw [if_neg (by omega), getD_list s k h]
theorem row_at (s : ByteArray) (cap j : Nat) (h : j < s.size) : (bytesRow s cap)[j]? = some (.int .u8 (s[j].toNat : Int)) := by
  have h' : j < s.data.size := h
  unfold bytesRow
  rw [Array.getElem?_append_left (by simpa using h')]
  rw [Array.getElem?_map, Array.getElem?_eq_getElem h']; rfl
theorem LowC0 (s : ByteArray) (w : World) (cap : Nat) : LowC s w (.int .i64 0) (w.alloc (.cells (bytesRow s cap) 5 ((bytesRow s cap).size, (bytesRow s cap).size + 1))).drew := by
  refine ⟨0, rfl, Nat.zero_le _, fun j hj => ⟨?_, ?_⟩, ((Below.refl _ _).alloc (Nat.le_refl _) _).drew⟩
  · show (w.alloc _).cell? _ = _
    rw [World.cell?_alloc_mark, row_at s cap j hj]
    unfold lowTo; rw [if_neg (by omega), getD_list s j hj]
  · have hz : s.size ≤ (bytesRow s cap).size := by unfold bytesRow; simp
    have e : (w.alloc (.cells (bytesRow s cap) 5 ((bytesRow s cap).size, (bytesRow s cap).size + 1))).drew.heap[w.heap.size]? = some (.cells (bytesRow s cap) 5 ((bytesRow s cap).size, (bytesRow s cap).size + 1)) := by
      show (w.heap.push _)[w.heap.size]? = _
      simp
    unfold World.frozen?
    rw [e]
    simp
    omega
theorem LowC_up {s : ByteArray} {w wr : World} {k : Nat} (h : k < s.size) (h1 : 65 ≤ s[k].toNat) (h2 : s[k].toNat ≤ 90)
    (hc : ∀ j, j < s.size → wr.cell? ⟨w.heap.size, j, none⟩ = some (.int .u8 (lowTo s.data.toList k j)) ∧ wr.frozen? ⟨w.heap.size, j, none⟩ = false)
    (hk : wr.cell? ⟨w.heap.size, k, none⟩ = some (.int .u8 (s[k].toNat : Int))) :
    ∀ j, j < s.size → (wr.setCell ⟨w.heap.size, k, none⟩ (.int .u8 ((s[k].toNat : Int) - 65 + 97))).cell? ⟨w.heap.size, j, none⟩ = some (.int .u8 (lowTo s.data.toList (k + 1) j)) ∧
      (wr.setCell ⟨w.heap.size, k, none⟩ (.int .u8 ((s[k].toNat : Int) - 65 + 97))).frozen? ⟨w.heap.size, j, none⟩ = false := by
  intro j hj
  refine ⟨?_, (World.frozen?_setCell _ _ _ _).trans (hc j hj).2⟩
  by_cases e : j = k
  · subst e
    rw [World.cell?_setCell_same _ _ _ hk]
    unfold lowTo
    rw [if_pos (by omega), getD_list s j hj, lowB_up h1 h2]
    congr 2; omega
  · rw [World.cell?_setCell_other _ _ _ _ (by first | (simp; done) | (simp; exact fun h => e h.symm)), (hc j hj).1]
    unfold lowTo
    by_cases hjk : j < k
    · rw [if_pos hjk, if_pos (by omega)]
    · rw [if_neg hjk, if_neg (by omega)]
theorem LowC_not {s : ByteArray} {w wr : World} {k : Nat} (h : k < s.size) (hn : ¬ (65 ≤ s[k].toNat ∧ s[k].toNat ≤ 90))
    (hc : ∀ j, j < s.size → wr.cell? ⟨w.heap.size, j, none⟩ = some (.int .u8 (lowTo s.data.toList k j)) ∧ wr.frozen? ⟨w.heap.size, j, none⟩ = false) :
    ∀ j, j < s.size → wr.cell? ⟨w.heap.size, j, none⟩ = some (.int .u8 (lowTo s.data.toList (k + 1) j)) ∧ wr.frozen? ⟨w.heap.size, j, none⟩ = false := by
  intro j hj
  refine ⟨?_, (hc j hj).2⟩
  rw [(hc j hj).1]
  unfold lowTo
  by_cases hjk : j < k
  · rw [if_pos hjk, if_pos (by omega)]
  · rw [if_neg hjk]
    by_cases e : j = k
    · subst e; rw [if_pos (by omega), getD_list s j hj, lowB_not hn]
    · rw [if_neg (by omega)]
theorem low_conv (s : ByteArray) (w wr : World) (cap : Nat)
    (hc : ∀ j, j < s.size → wr.cell? ⟨w.heap.size, j, none⟩ = some (.int .u8 (lowTo s.data.toList s.size j)) ∧ wr.frozen? ⟨w.heap.size, j, none⟩ = false) :
    (convert 123 9 (.slice (some ⟨w.heap.size, 0, none⟩) s.size cap)).run Tryz.prog wr = .ok (.string (strB (lowS s.data.toList))) wr := by
  have hl : (lowS s.data.toList).length = s.size := by rw [lowS_len]; simp
  have := run_convert_bytes_back wr 123 9 5 ⟨w.heap.size, 0, none⟩ cap (lowS s.data.toList) Tryz.underlying123 Tryz.underlying5 Tryz.underlying9 (fun j hj => by
    rw [Addr.add_lit, Nat.zero_add, (hc j (by omega)).1]
    unfold lowTo
    rw [if_pos (by omega)]
    have hj' : j < s.data.toList.length := by rw [lowS_len] at hj; exact hj
    rw [List.getD, List.getElem?_eq_getElem hj']
    simp [lowS])
  rw [hl] at this
  exact this
set_option maxHeartbeats 2000000 in
set_option maxRecDepth 100000 in
theorem lower_any (s : ByteArray) (w : World) (hs : s.size ≤ 1000000000) :
    Calls Tryz.prog 76 #[.string s] w fun e w' => e = .returned (.string (strB (lowS s.data.toList))) ∧ Below w.heap.size w w' := by
  have hcb := fun W : World => run_bytes_of_string (P := Tryz.prog) W 9 123 5 s Tryz.underlying9 Tryz.underlying123 Tryz.underlying5
  go_enter Tryz.func76, Tryz.ntmps76
  go_wp2
  have HCB := Lib.hid hcb
  clear hcb
  go_loopw [10] (fun i wr => LowC s w i wr) (fun i _ => s.size - (intOf i).toNat)
  case atStart => exact LowC0 s w _
  case round =>
    obtain ⟨k, rfl, hk, hc, hB⟩ := hrel
    have HC := Lib.hid hc
    clear hc
    have hsz := hB.size
    by_cases hlt : k < s.size
    · have hcell : wr.cell? ⟨w.heap.size, k, none⟩ = some (.int .u8 (s[k].toNat : Int)) := by rw [(HC.out k hlt).1, lowTo_at hlt]
      have hfz := (HC.out k hlt).2
      by_cases h1 : 65 ≤ s[k].toNat
      · by_cases h2 : s[k].toNat ≤ 90
        · go_wp2
          go_roundw
          case rel => exact ⟨k + 1, by go_num, by omega, LowC_up hlt h1 h2 HC.out hcell, hB.setCell (p := ⟨w.heap.size, k, none⟩) (Nat.le_refl _) _⟩
          case measure => simp [intOf]; omega
        · go_wp2
          go_roundw
          case rel => exact ⟨k + 1, by go_num, by omega, LowC_not hlt (by omega) HC.out, hB⟩
          case measure => simp [intOf]; omega
      · go_wp2
        go_roundw
        case rel => exact ⟨k + 1, by go_num, by omega, LowC_not hlt (by omega) HC.out, hB⟩
        case measure => simp [intOf]; omega
    · obtain rfl : k = s.size := by omega
      have hcv := low_conv s w wr (grownCap w s.size 0 5) HC.out
      go_wp2
      go_ret
      exact ⟨rfl, hB⟩
end Go.Proofs.YtieolalohindgaaGreatDoor

/- Plain mathematics: what a quoted string is, and what it stands for. -/
namespace Go.Proofs.YtieolalohindgaaGreatDoor

def esc (c : UInt8) : List UInt8 := if c = 34 ∨ c = 92 then [92, c] else [c]
def escS (l : List UInt8) : List UInt8 := l.flatMap esc
def quoS (l : List UInt8) : List UInt8 := 34 :: escS l ++ [34]
theorem escS_snoc (l : List UInt8) (c : UInt8) : escS (l ++ [c]) = escS l ++ esc c := by simp [escS]
theorem escS_le (l : List UInt8) : (escS l).length ≤ 2 * l.length := by
  induction l with
  | nil => simp [escS]
  | cons c t ih =>
    have : escS (c :: t) = esc c ++ escS t := rfl
    rw [this, List.length_append, List.length_cons]
    have : (esc c).length ≤ 2 := by unfold esc; split <;> simp
    omega
theorem escS_take (s : ByteArray) (k : Nat) (h : k < s.size) : escS (s.data.toList.take (k + 1)) = escS (s.data.toList.take k) ++ esc s[k] := by
  rw [take_snoc s k h, escS_snoc]
theorem escS_le_take (s : ByteArray) (k : Nat) : (escS (s.data.toList.take k)).length ≤ 2 * k := by
  have := escS_le (s.data.toList.take k)
  have := List.length_take_le k s.data.toList
  omega

/-- What the items stand for; 'true': behind a backslash. -/
def uq : Bool → List UInt8 → Option (List UInt8)
  | false, [] => some []
  | true, [] => none
  | false, c :: r => if c = 34 then none else if c = 92 then uq true r else (uq false r).map (c :: ·)
  | true, c :: r => (uq false r).map (c :: ·)
/-- The same, with the closing quote. -/
def rq : Bool → List UInt8 → Option (List UInt8)
  | _, [] => none
  | false, c :: r => if c = 34 then (if r = [] then some [] else none) else if c = 92 then rq true r else (rq false r).map (c :: ·)
  | true, c :: r => (rq false r).map (c :: ·)
theorem rq_uq (x : UInt8) : ∀ (l : List UInt8) (e : Bool), rq e (l ++ [x]) = if x = 34 then uq e l else none := by
  intro l
  induction l with
  | nil =>
    intro e
    cases e
    · by_cases h : x = 34
      · subst h; simp [rq, uq]
      · by_cases h2 : x = 92 <;> simp [rq, h]
    · simp [rq, uq]
  | cons c r ih =>
    intro e
    cases e
    · by_cases h : c = 34
      · subst h; simp [rq, uq]
      · by_cases h2 : c = 92
        · subst h2; simp only [List.cons_append, rq, uq, if_neg h, ih]; simp
        · simp only [List.cons_append, rq, uq, if_neg h, if_neg h2, ih]
          split <;> simp
    · simp only [List.cons_append, rq, uq, ih]
      split <;> simp

def unqO (l : List UInt8) : Option (List UInt8) := if ctlS l = true ∨ l.length < 2 ∨ l.headD 0 ≠ 34 then none else rq false (l.drop 1)

/-- Unquote of Quote: the escaped bytes stand for the bytes. -/
theorem uq_esc (l : List UInt8) : uq false (escS l) = some l := by
  induction l with
  | nil => rfl
  | cons c t ih =>
    have e : escS (c :: t) = esc c ++ escS t := rfl
    rw [e]
    unfold esc
    by_cases h : c = 34 ∨ c = 92
    · rw [if_pos h]
      show uq false (92 :: c :: escS t) = _
      simp [uq, ih]
    · rw [if_neg h]
      have h1 : c ≠ 34 := fun e => h (.inl e)
      have h2 : c ≠ 92 := fun e => h (.inr e)
      show uq false (c :: escS t) = _
      simp [uq, ih, h1, h2]
theorem ctl_esc (c : UInt8) (h : ctlB c = false) : ctlS (esc c) = false := by
  unfold esc ctlS
  split
  · simp [h]; decide
  · simp [h]
theorem ctl_escS (l : List UInt8) (h : ctlS l = false) : ctlS (escS l) = false := by
  induction l with
  | nil => rfl
  | cons c t ih =>
    have e : escS (c :: t) = esc c ++ escS t := rfl
    have h' : ctlB c = false ∧ ctlS t = false := by simpa [ctlS] using h
    rw [e]
    have a := ctl_esc c h'.1
    have b := ih h'.2
    unfold ctlS at *
    rw [List.any_append, a, b]; rfl
theorem unq_quo (l : List UInt8) (h : ctlS l = false) : unqO (quoS l) = some l := by
  have hc : ctlS (quoS l) = false := by
    have := ctl_escS l h
    unfold quoS ctlS at *
    simp [this]; decide
  unfold unqO
  rw [if_neg]
  · show rq false (escS l ++ [34]) = _
    rw [rq_uq, if_pos rfl, uq_esc]
  · rintro (h1 | h1 | h1)
    · rw [hc] at h1; cases h1
    · simp [quoS] at h1; omega
    · exact h1 rfl
/-- The state of the reader of items: out is what the items before j stand for. -/
def UInv (l out : List UInt8) (j : Nat) : Prop := j ≤ l.length ∧ out.length ≤ j ∧ uq false l = (uq false (l.drop j)).map (out ++ ·)
theorem UInv0 (l : List UInt8) : UInv l [] 0 := ⟨Nat.zero_le _, by simp, by simp⟩
theorem UInv.bad {l out : List UInt8} {j : Nat} (h : UInv l out j) (hj : j < l.length) (hc : l[j] = 34) : uq false l = none := by
  rw [h.2.2, List.drop_eq_getElem_cons hj, hc]; rfl
theorem UInv.step {l out : List UInt8} {j : Nat} (h : UInv l out j) (hj : j < l.length) (h34 : l[j] ≠ 34) (h92 : l[j] ≠ 92) : UInv l (out ++ [l[j]]) (j + 1) := by
  obtain ⟨_, h1, h2⟩ := h
  refine ⟨hj, by simp; omega, ?_⟩
  rw [h2, List.drop_eq_getElem_cons hj]
  generalize l.drop (j + 1) = r
  rw [uq, if_neg h34, if_neg h92]
  cases uq false r <;> simp
theorem UInv.last {l out : List UInt8} {j : Nat} (h : UInv l out j) (hj : j < l.length) (h92 : l[j] = 92) (hl : l.length ≤ j + 1) : uq false l = none := by
  rw [h.2.2, List.drop_eq_getElem_cons hj, h92, List.drop_eq_nil_of_le hl]; rfl
theorem UInv.two {l out : List UInt8} {j : Nat} (h : UInv l out j) (hj : j + 1 < l.length) (h92 : l[j] = 92) : UInv l (out ++ [l[j + 1]]) (j + 2) := by
  obtain ⟨_, h1, h2⟩ := h
  refine ⟨hj, by simp; omega, ?_⟩
  rw [h2, List.drop_eq_getElem_cons (by omega : j < l.length), List.drop_eq_getElem_cons hj, h92]
  show _ = Option.map _ (uq false (l.drop (j + 1 + 1)))
  generalize l.drop (j + 1 + 1) = r
  show Option.map _ (uq true (l[j + 1] :: r)) = _
  rw [uq]
  cases uq false r <;> simp
theorem UInv.done {l out : List UInt8} {j : Nat} (h : UInv l out j) (hj : l.length ≤ j) : uq false l = some out := by
  rw [h.2.2, List.drop_eq_nil_of_le hj]; simp [uq]
/-- The same for the reader that looks for the closing quote: l is the whole string, its first byte is read. -/
def RInv (l out : List UInt8) (i : Nat) : Prop :=
  1 ≤ i ∧ out.length ≤ i ∧ ((i ≤ l.length ∧ rq false (l.drop 1) = (rq false (l.drop i)).map (out ++ ·)) ∨ (i = l.length + 1 ∧ rq false (l.drop 1) = none))
theorem RInv0 (l : List UInt8) (h : 1 ≤ l.length) : RInv l [] 1 := ⟨Nat.le_refl _, by simp, .inl ⟨h, by simp⟩⟩
theorem RInv.eq {l out : List UInt8} {i : Nat} (h : RInv l out i) (hi : i ≤ l.length) : rq false (l.drop 1) = (rq false (l.drop i)).map (out ++ ·) := by
  rcases h.2.2 with h | h
  · exact h.2
  · omega
theorem RInv.step {l out : List UInt8} {i : Nat} (h : RInv l out i) (hi : i < l.length) (h34 : l[i] ≠ 34) (h92 : l[i] ≠ 92) : RInv l (out ++ [l[i]]) (i + 1) := by
  have e := h.eq (by omega)
  refine ⟨by omega, by have := h.2.1; simp; omega, .inl ⟨hi, ?_⟩⟩
  rw [e, List.drop_eq_getElem_cons hi]
  generalize l.drop (i + 1) = r
  rw [rq, if_neg h34, if_neg h92]
  cases rq false r <;> simp
theorem RInv.two {l out : List UInt8} {i : Nat} (h : RInv l out i) (hi : i + 1 < l.length) (h92 : l[i] = 92) : RInv l (out ++ [l[i + 1]]) (i + 2) := by
  have e := h.eq (by omega)
  refine ⟨by omega, by have := h.2.1; simp; omega, .inl ⟨hi, ?_⟩⟩
  rw [e, List.drop_eq_getElem_cons (by omega : i < l.length), List.drop_eq_getElem_cons hi, h92]
  show _ = Option.map _ (rq false (l.drop (i + 1 + 1)))
  generalize l.drop (i + 1 + 1) = r
  show Option.map _ (rq true (l[i + 1] :: r)) = _
  rw [rq]
  cases rq false r <;> simp
theorem RInv.last {l out : List UInt8} {i : Nat} (h : RInv l out i) (hi : i < l.length) (h92 : l[i] = 92) (hl : l.length ≤ i + 1) : RInv l out (i + 2) := by
  have e := h.eq (by omega)
  refine ⟨by omega, by have := h.2.1; omega, .inr ⟨by omega, ?_⟩⟩
  rw [e, List.drop_eq_getElem_cons hi, h92, List.drop_eq_nil_of_le hl]; rfl
theorem RInv.stop {l out : List UInt8} {i : Nat} (h : RInv l out i) (hi : i < l.length) (hc : l[i] = 34) : rq false (l.drop 1) = if i + 1 = l.length then some out else none := by
  rw [h.eq (by omega), List.drop_eq_getElem_cons hi, hc]
  by_cases hl : i + 1 = l.length
  · rw [if_pos hl, List.drop_eq_nil_of_le (by omega)]; simp [rq]
  · rw [if_neg hl]
    have : l.drop (i + 1) ≠ [] := by simp; omega
    simp [rq, this]
theorem RInv.past {l out : List UInt8} {i : Nat} (h : RInv l out i) (hi : l.length ≤ i) : rq false (l.drop 1) = none := by
  rcases h.2.2 with h | h
  · rw [h.2, List.drop_eq_nil_of_le hi]; rfl
  · exact h.2
end Go.Proofs.YtieolalohindgaaGreatDoor
