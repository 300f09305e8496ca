import Derived.Test.YtacfkljpjjnlfaaGreatDoorPa15
import Derived.Test.YtacfkljpjjnlfaaGreatDoorPa18
import Derived.Test.YtacfkljpjjnlfaaGreatDoorPa3
import Derived.Test.YtacfkljpjjnlfaaGreatDoorTie
import Derived.Test.YtacfkljpjjnlfaaGreatDoorCards
import Derived.WalkKit
import Derived.ProofKit
import Derived.OpenShut
import Derived.LaidMore
import Derived.Lay
import Derived.SevenTiedAt
import Derived.Stop.Joined
import Derived.Below
import Derived.Stop.LaidErr
import Derived.Shelf.Vars
import Derived.Deep.DeepHandedRow
import Derived.Test.YtacfkljpjjnlfaaGreatDoorPa2
import Derived.Test.YtacfkljpjjnlfaaGreatDoorPa17
/- HeadRequests: for every text the statement's function returns true: the walk. -/
namespace Go.Proofs.YtacfkljpjjnlfaaGreatDoor
open Go.RowKit

/-- A row of bytes that is made of a string: its cells, none of them frozen. -/
theorem bytes_new (s : ByteArray) (w : World) (cap : Nat) (T : TypeId) (hc : s.size ≤ (bytesRow s cap).size) :
    CellsB (w.alloc (.cells (bytesRow s cap) T ((bytesRow s cap).size, (bytesRow s cap).size + 1))).drew w.heap.size 0 s.data.toList ∧
    ∀ j, j < s.size → (w.alloc (.cells (bytesRow s cap) T ((bytesRow s cap).size, (bytesRow s cap).size + 1))).drew.frozen? ⟨w.heap.size, j, none⟩ = false := by
  have e : (w.alloc (.cells (bytesRow s cap) T ((bytesRow s cap).size, (bytesRow s cap).size + 1))).drew.heap[w.heap.size]? = some (.cells (bytesRow s cap) T ((bytesRow s cap).size, (bytesRow s cap).size + 1)) := by
    show (w.heap.push _)[w.heap.size]? = _
    simp
  refine ⟨fun i hi => ?_, fun j hj => ?_⟩
  · show (w.alloc _).cell? _ = _
    have hi' : i < s.size := by simpa using hi
    rw [Nat.zero_add, World.cell?_alloc_mark, row_at s cap i hi']; rfl
  · unfold World.frozen?
    rw [e]
    simp
    omega
theorem bytesRow_size (s : ByteArray) (cap : Nat) : s.size ≤ (bytesRow s cap).size := by unfold bytesRow; simp
theorem below_bytes (s : ByteArray) (w : World) (cap : Nat) (T : TypeId) : Below w.heap.size w (w.alloc (.cells (bytesRow s cap) T ((bytesRow s cap).size, (bytesRow s cap).size + 1))).drew := ((Below.refl _ _).alloc (Nat.le_refl _) _).drew
theorem rdQ_flen (l : List UInt8) : (rdQ l).2.1.2.2.length ≤ 64 := by
  by_cases h : (rdQ l).1 = 0
  · obtain ⟨m, t, fs, n, e⟩ : ∃ m t fs n, rdQ l = (0, (m, t, fs), n) := ⟨_, _, _, _, Prod.ext h rfl⟩
    obtain ⟨_, _, ls, fs0, h3, h4, _, _, _, _, _, h10⟩ := readQ_some e
    rw [e]
    show fs.length ≤ 64
    unfold hosted at h4
    cases hf : hostF hostO lowS fs0 with
    | none => rw [hf] at h4; cases h4
    | some q =>
      rw [hf] at h4
      have h5 : (if q.2 = 1 then some q.1 else none) = some fs := h4
      split at h5
      · have h6 := (hostF_len fs0 q hf).1
        have h7 := readFs_len (nm := nmO) (vl := vlO) ls
        rw [h3] at h7
        rw [← Option.some.inj h5, h6]
        have : fs0.length ≤ ls.length := h7
        omega
      · cases h5
  · have := readQ_err (nm := nmO) (vl := vlO) (hs := hostO) (lw := lowS) h
    show (readQ nmO vlO hostO lowS l).2.1.2.2.length ≤ 64
    rw [this]; simp
theorem num_any (c : Nat) (w : World) : Calls Tryz.prog 12 #[errV c] w fun e w' => e = .returned (.int .i64 (c : Int)) ∧ w = w' := by
  unfold errV
  by_cases h : c = 0
  · rw [if_pos h, h]; exact num_nil w
  · rw [if_neg h]; exact num_errno _ w
/-- The bytes of the input, whatever they have become. -/
def Spare (w : World) (g n : Nat) : Prop := ∀ j, j < n → (∃ z : Int, 0 ≤ z ∧ z < 256 ∧ w.cell? ⟨g, j, none⟩ = some (.int .u8 z)) ∧ w.frozen? ⟨g, j, none⟩ = false
theorem Spare.below {w w' : World} {g n : Nat} (h : Spare w g n) (hg : g < w.heap.size) (hb : Below w.heap.size w w') : Spare w' g n := by
  intro j hj
  obtain ⟨⟨z, h1, h2, h3⟩, h4⟩ := h j hj
  exact ⟨⟨z, h1, h2, (hb.cell (p := ⟨g, j, none⟩) hg).trans h3⟩, (hb.frozen (p := ⟨g, j, none⟩) hg).trans h4⟩
theorem Spare.set {w : World} {g n k : Nat} (h : Spare w g n) (hk : k < n) (z : Int) (h1 : 0 ≤ z) (h2 : z < 256) : Spare (w.setCell ⟨g, k, none⟩ (.int .u8 z)) g n := by
  intro j hj
  refine ⟨?_, (World.frozen?_setCell _ _ _ _).trans (h j hj).2⟩
  by_cases e : j = k
  · subst e
    obtain ⟨⟨z', _, _, h3⟩, _⟩ := h j hj
    exact ⟨z, h1, h2, World.cell?_setCell_same _ _ _ h3⟩
  · obtain ⟨⟨z', h1', h2', h3⟩, _⟩ := h j hj
    exact ⟨z', h1', h2', by rw [World.cell?_setCell_other _ _ _ _ (by first | (simp; done) | (simp; exact fun h => e h.symm))]; exact h3⟩
/-- While the input is spoilt: the request that was read stays. -/
def ReqRel (n g b : Nat) (m t : List UInt8) (ao : Option Addr) (nn cp : Nat) (fs : Fs) (w wr : World) : Prop :=
  Spare wr g n ∧ OwnsP 91 w.heap.size wr (.slice ao nn cp) fs ∧ wr.cell? ⟨b, 0, none⟩ = some (.string (strB m)) ∧ wr.cell? ⟨b, 1, none⟩ = some (.string (strB t)) ∧ wr.cell? ⟨b, 2, none⟩ = some (.slice ao nn cp) ∧ b < wr.heap.size ∧ Below w.heap.size w wr
set_option maxHeartbeats 8000000 in
set_option maxRecDepth 100000 in
theorem requests_walk (s : ByteArray) (w : World) (hM : HasMax w) (hT : HasTab w) (hs : s.size ≤ 9223372036854775807) :
    Calls Tryz.prog 3 #[.string s] w fun e w' => e = .returned (.bool true) ∧ Below w.heap.size w w' := by
  have HM := Lib.hid hM
  have HT := Lib.hid hT
  clear hM hT
  by_cases hbig : 20000 < s.size
  · go_enter Tryz.func3, Tryz.ntmps3
    go_wp2_with fail
    refine (awake_any _ HT.out).mono ?_
    rintro e w1 ⟨rfl, hB⟩
    go_wp2_with fail
    refine (awake_any _ (HT.out.below hB)).mono ?_
    rintro e w2 ⟨rfl, hB2⟩
    go_wp2_with fail
    go_ret
    exact ⟨rfl, hB.trans (hB2.mono hB.size)⟩
  · have hcb := fun W : World => run_bytes_of_string (P := Tryz.prog) W 9 23 5 s Tryz.underlying9 Tryz.underlying23 Tryz.underlying5
    go_enter Tryz.func3, Tryz.ntmps3
    go_wp2_with fail
    refine (awake_any _ HT.out).mono ?_
    rintro e w1 ⟨rfl, hB⟩
    go_wp2_with fail
    have hcap := grownCap_ge w1 s.size 0 5
    have hBc := below_bytes s w1 (grownCap w1 s.size 0 5) 5
    obtain ⟨hcells, hfz⟩ := bytes_new s w1 (grownCap w1 s.size 0 5) 5 (bytesRow_size _ _)
    have hgW : w1.heap.size < (w1.alloc (.cells (bytesRow s (grownCap w1 s.size 0 5)) 5 ((bytesRow s (grownCap w1 s.size 0 5)).size, (bytesRow s (grownCap w1 s.size 0 5)).size + 1))).drew.heap.size := by
      show w1.heap.size < (w1.heap.push _).size; simp
    generalize (w1.alloc (.cells (bytesRow s (grownCap w1 s.size 0 5)) 5 ((bytesRow s (grownCap w1 s.size 0 5)).size, (bytesRow s (grownCap w1 s.size 0 5)).size + 1))).drew = W2 at *
    generalize grownCap w1 s.size 0 5 = cap at *
    have hsl : s.data.toList.length = s.size := by rw [Array.length_toList]; rfl
    have hr2 : ReadsB W2 (.slice (some ⟨w1.heap.size, 0, none⟩) s.size cap) s.data.toList := ⟨_, cap, by rw [hsl], by rw [hsl]; exact hcap, .inr ⟨_, _, rfl, hgW, hcells⟩⟩
    have hSp : Spare W2 w1.heap.size s.size := fun j hj => ⟨⟨((s.data.toList[j]'(by rw [hsl]; exact hj)).toNat : Int), by omega, by have := UInt8.toNat_lt (s.data.toList[j]'(by rw [hsl]; exact hj)); omega, by have := hcells j (by rw [hsl]; exact hj); rw [Nat.zero_add] at this; exact this⟩, hfz j hj⟩
    have hB2 := hB.trans (hBc.mono hB.size)
    have R := readRequest_any _ s.data.toList W2 hr2 (HM.out.below hB2) (by rw [hsl]; omega)
    have FL := rdQ_flen s.data.toList
    have RR := Lib.hid (fun w => refRequest_any s w (by omega))
    unfold RefReqPost at RR
    unfold ReqPost at R
    generalize rdQ s.data.toList = q at *
    obtain ⟨c, ⟨m, t, fs⟩, n⟩ := q
    have hBsz := hB.size
    clear hr2 hcells hfz hcb hsl hcap hBc hB
    refine R.mono ?_
    rintro e w3 ⟨v3, rfl, hO3, hB3⟩
    simp only at FL hO3 RR
    have hG : ∀ k, v3.ownBlock ≠ some (⟨w1.heap.size, k, none⟩ : Addr).block := fun k hq => by have := (World.ownsRow.lt hO3 _ hq).1; simp at this; omega
    have hSp3 := hSp.below hgW hB3
    have hB3' := hB2.trans (hB3.mono hB2.size)
    have hg3 : w1.heap.size < w3.heap.size := Nat.lt_of_lt_of_le hgW hB3.size
    obtain ⟨ao, nn, cp, rfl⟩ : ∃ a n c, v3 = .slice a n c := by obtain ⟨ao, cap, rfl, _⟩ := hO3.reads; exact ⟨_, _, _, rfl⟩
    have hO3 := OwnsP.mono hB2.size hO3
    have hgw : w.heap.size ≤ w1.heap.size := hBsz
    clear R hSp hB3 hB2
    go_wp2_with fail
    have hB4 : Below w.heap.size w (w3.alloc (.cells #[.string (strB m), .string (strB t), .slice ao nn cp] 27)) := hB3'.alloc (by have := hB3'.size; omega) _
    have hx : ∀ j, (w3.alloc (.cells #[.string (strB m), .string (strB t), .slice ao nn cp] 27)).cell? ⟨w3.heap.size, j, none⟩ = (#[.string (strB m), .string (strB t), .slice ao nn cp] : Array Value)[j]? := fun j => by rw [World.cell?_alloc_at _ _ _ _ rfl]
    have HX0 := Lib.hid (hx 0)
    have HX1 := Lib.hid (hx 1)
    have HX2 := Lib.hid (hx 2)
    have hS4 := hSp3.below hg3 (below_new w3 (.cells #[.string (strB m), .string (strB t), .slice ao nn cp] 27))
    have hO4 := OwnsP.below hO3 (below_new w3 (.cells #[.string (strB m), .string (strB t), .slice ao nn cp] 27))
    have hz4 : w3.heap.size < (w3.alloc (.cells #[.string (strB m), .string (strB t), .slice ao nn cp] 27)).heap.size := by simp
    clear hx hSp3 hO3
    go_loopw [7] (fun i wr => ∃ k : Nat, i = .int .i64 k ∧ k ≤ s.size ∧ ReqRel s.size w1.heap.size w3.heap.size m t ao nn cp fs w wr) (fun i _ => s.size - (intOf i).toNat)
    case atStart => exact ⟨0, rfl, Nat.zero_le _, hS4, hO4, HX0.out, HX1.out, HX2.out, hz4, hB4⟩
    case round =>
      obtain ⟨k, rfl, hk, hS, hO, x0, x1, x2, hzr, hBr⟩ := hrel
      by_cases hlt : k < s.size
      · obtain ⟨⟨z, hz0, hz1, hzc⟩, hzf⟩ := hS k hlt
        have HS := Lib.hid hS
        clear hS
        have hne : ∀ j, (⟨w1.heap.size, k, none⟩ : Addr) ≠ ⟨w3.heap.size, j, none⟩ := fun j h => absurd (congrArg Addr.block h) (by show w1.heap.size ≠ w3.heap.size; omega)
        go_wp2_with fail
        go_roundw
        case rel =>
          refine ⟨k + 1, by go_num, by omega, HS.out.set hlt _ ?_ ?_, ownsRow_setCell_other hO (hG k) _, ?_, ?_, ?_, by simpa using hzr, hBr.setCell (p := ⟨w1.heap.size, k, none⟩) hgw _⟩
          · omega
          · omega
          · rw [World.cell?_setCell_other _ _ _ _ (hne 0)]; exact x0
          · rw [World.cell?_setCell_other _ _ _ _ (hne 1)]; exact x1
          · rw [World.cell?_setCell_other _ _ _ _ (hne 2)]; exact x2
        case measure => simp [intOf]; omega
      · have hBr' := hBr
        go_wp2_with fail
        refine (RR.out _).mono ?_
        rintro e w5 ⟨v5, rfl, hO5, hB5⟩
        have y0 := (hB5.cell (p := ⟨w3.heap.size, 0, none⟩) hzr).trans x0
        have y1 := (hB5.cell (p := ⟨w3.heap.size, 1, none⟩) hzr).trans x1
        have y2 := (hB5.cell (p := ⟨w3.heap.size, 2, none⟩) hzr).trans x2
        have hO6 := OwnsP.below hO hB5
        have hB6 := hBr.trans (hB5.mono hBr.size)
        obtain ⟨ao5, n5, cp5, rfl⟩ : ∃ a n c, v5 = .slice a n c := by obtain ⟨ao, cap, rfl, _⟩ := hO5.reads; exact ⟨_, _, _, rfl⟩
        go_wp2_with fail
        have hx5 : ∀ j, (w5.alloc (.cells #[.string (strB m), .string (strB t), .slice ao5 n5 cp5] 34)).cell? ⟨w5.heap.size, j, none⟩ = (#[.string (strB m), .string (strB t), .slice ao5 n5 cp5] : Array Value)[j]? := fun j => by rw [World.cell?_alloc_at _ _ _ _ rfl]
        have u0 := hx5 0
        have u1 := hx5 1
        have u2 := hx5 2
        have z5 := hB5.size
        have hB7 := below_new w5 (.cells #[.string (strB m), .string (strB t), .slice ao5 n5 cp5] 34)
        have hg5 : w3.heap.size < w5.heap.size := by omega
        have y0 := (hB7.cell (p := ⟨w3.heap.size, 0, none⟩) hg5).trans y0
        have y1 := (hB7.cell (p := ⟨w3.heap.size, 1, none⟩) hg5).trans y1
        have y2 := (hB7.cell (p := ⟨w3.heap.size, 2, none⟩) hg5).trans y2
        have A := same_any m t _ _ fs (w5.alloc (.cells #[.string (strB m), .string (strB t), .slice ao5 n5 cp5] 34)) ((OwnsP.below hO6 hB7).q) ((OwnsP.below hO5 hB7).q) (by omega)
        clear hx5 hO5 hO6 hS hO x0 x1 x2
        refine (num_any c _).mono ?_
        rintro e w' ⟨rfl, rfl⟩
        go_wp2_with fail
        refine A.mono ?_
        rintro e w6 ⟨rfl, hB8⟩
        go_wp2_with fail
        go_ret
        exact ⟨rfl, hB6.trans ((hB7.trans (hB8.mono hB7.size)).mono hB6.size)⟩
end Go.Proofs.YtacfkljpjjnlfaaGreatDoor

/- What every row of layer 5 shares: the program's knob, the start that lays the listed variables, what the walks ask of a world, and the row's last step. -/
namespace Go.Proofs.YtacfkljpjjnlfaaGreatDoor
open Go.ChangeShapes Go.WideShapes Go.ChangeAt Go.RowKit

theorem own : ownKnob Tryz.prog.godebug = none := by kernel_rfl
def laidL : List (String × DataW Unit) := [("math/bits.deBruijn32tab", Rows.laid_math_bits_deBruijn32tab), ("math/bits.deBruijn64tab", Rows.laid_math_bits_deBruijn64tab), ("internal/strconv.uint64pow10", Rows.laid_internal_strconv_uint64pow10), ("unicode/utf8.acceptRanges", Rows.laid_unicode_utf8_acceptRanges), ("bytes.ErrTooLarge", Rows.laid_bytes_ErrTooLarge), ("unicode/utf8.first", Rows.laid_unicode_utf8_first)]
theorem laid_plain (w : World) : laidMetH Tryz.prog laidL w = laidMet Tryz.prog laidL w := MakeChecks.laidMetH_plain _ _ _ (by kernel_rfl)
set_option maxRecDepth 100000 in
theorem laid_met (os : Os) (args : Array Value) : laidMetH Tryz.prog laidL ((World.laidAll Tryz.prog os laidL).forCall (fun _ _ => 0) ⟨#[], args, []⟩).memory := by
  rw [laid_plain]; exact laidMet_laidAll _ (by kernel_rfl) (by kernel_rfl)

theorem tTab : (Tryz.prog.globals[(2 : Nat)]?).map (·.type) = some 156 := by kernel_rfl
theorem eTab : (Rows.laid_internal_strconv_uint64pow10 : DataW Unit) = Lib.tabData .u64 Lib.pow10Tab := by rfl
theorem tab_of {W : World} {rest : List (String × DataW Unit)} (h : laidMet Tryz.prog (("internal/strconv.uint64pow10", Rows.laid_internal_strconv_uint64pow10) :: rest) W) : Lib.TabIs Tryz.prog W "internal/strconv.uint64pow10" .u64 Lib.pow10Tab := by
  rw [eTab] at h
  exact Lib.tabIs_of_head gTab tTab Tryz.underlying156 Tryz.underlying143 (by kernel_rfl) (by kernel_rfl) h
theorem max_len {W : World} (h : W.ShapedOpen Tryz.prog) : ∃ m, W.cell? ⟨0, 0, none⟩ = some (.int .i64 m) :=
  cell_of_shapedOpen_int (P := Tryz.prog) (g := 0) (t := 3) (zero := #[.int .i64 0]) h (of_decide_eq_true (by kernel_rfl)) (by kernel_rfl) rfl (by kernel_rfl) (by kernel_rfl) Tryz.underlying3
/-- What the walks ask of a world holds where a row's call begins. -/
theorem has_max {W : World} (hsh : W.ShapedOpen Tryz.prog) : HasMax W := max_len hsh
theorem has_tab {W : World} (hL : laidMetH Tryz.prog laidL W) : HasTab W := by
  rw [laid_plain] at hL
  exact tab_of hL.tail.tail
section
variable {H : Type} {enc : TypeId × Value → H}
/-- The witness of a row at a world of one's own making whose shape is shown by other means. -/
theorem witness_row_shaped {C : Checked} {os : Os} {f : FuncId} {fn : Func} {s : OpenSpec} {conds : List PathCond} {apart : Bool} {laid : List (String × DataW Unit)} (modest : Bool) (w0 : World) (args : Array Value) (hos : w0.os = os)
    (hsh : (w0.forCall (fun _ _ => 0) ⟨#[], args, []⟩).Shaped C.prog)
    (hok : Input.okWideB C.prog (w0.forCall (fun _ _ => 0) ⟨#[], args, []⟩) f ⟨#[], args, []⟩ = true)
    (hrow : s.preRow enc C.prog fn conds apart laid (w0.forCall (fun _ _ => 0) ⟨#[], args, []⟩).memory args) :
    ∃ (w : World) (tape : Tape) (i : Input), w.os = os ∧ (w.forCall tape i).Shaped C.prog ∧ i.vars = [] ∧ Input.okWide C.prog (w.forCall tape i) .any w.heap.size f i ∧
      s.preRow enc C.prog fn conds apart laid (w.forCall tape i).memory i.args ∧ ({ modest := modest } : Assume).holds C.prog (lone (Frame.enter C.prog f i.args .normal) [] (w.forCall tape i)) :=
  ⟨w0, fun _ _ => 0, ⟨#[], args, []⟩, hos, hsh, (Input.okWide_of_okWideB (base := 0) hok).1, (Input.okWide_of_okWideB hok).2, hrow, by
    simp only [Assume.holds]
    exact ⟨by simp, by simp, fun _ => Modest.zero, by simp, by simp⟩⟩
end
section
variable {H : Type} {enc : TypeId × Value → H} {P : Program}
/-- The row's last step from 'Below': what was there when the call began is as it was; new blocks may have come. -/
theorem post_below {f : Func} {s : ChangeSpec} {apart fresh handsOn again : Bool} {W W' : World} {args : Array Value} {v : Value} {ds gs : List (DataW H)} {before pa pv : List MemPlace}
    (hW : DataW.Whole enc P f.params.toList s.vars apart W args.toList ds gs before)
    (hres : ∀ (b : Nat) (sp : Nat → Bool) (hd : Bool), DataW.TrodAll enc P W' b sp hd f.resultTypes.toList (v.resultList f.resultTypes.size) (s.fn H (ds ++ gs)).results [])
    (hargs : ∀ sp : Nat → Bool, (∀ p ∈ before, sp p.block = true) → DataW.TrodAll enc P W' 0 sp true f.params.toList args.toList (s.fn H (ds ++ gs)).args pa)
    (hvars : ∀ sp : Nat → Bool, (∀ p ∈ before, sp p.block = true) → DataW.TrodVars enc P W' sp s.vars (s.fn H (ds ++ gs)).vars pv)
    (hps : before = pa ++ pv) (hb : Below W.heap.size W W')
    (hok : ∀ (j : Nat) (t : TypeId) (r : Value), f.resultTypes[j]? = some t → (v.resultList f.resultTypes.size)[j]? = some r → Value.okWide P W' .any 0 t r) :
    s.post enc P f apart fresh handsOn again W args v W' := by
  have lt : ∀ p ∈ before, p.block < W.heap.size := fun p hp => hW.lt p hp
  have old : ∀ p ∈ before, (fun b => decide (b < W.heap.size)) p.block = true := fun p hp => by simpa using lt p hp
  refine ⟨ds, gs, before, [], pa, pv, hW, hres _ _ _, hargs _ old, hvars _ old, World.keptBut_mono (fun p hp => ⟨hp, ?_⟩) (hb.frame (· ∈ before)), fun _ => ?_⟩
  · rw [hps, List.mem_append] at hp
    exact Or.inr hp
  · obtain ⟨_, _, _, _, _, hz, hn⟩ := hW
    refine ⟨hok, _, _, ([] ++ pa) ++ pv, ⟨[] ++ pa, pv, trodAll_append (hargs _ (fun _ _ => rfl)) (hres _ _ _), hvars _ (fun _ _ => rfl), rfl, ?_, ?_⟩, ?_⟩
    · intro b off hp
      have hin : MemPlace.cell b off ∈ before := by rw [hps]; simpa using hp
      rw [hb.frozen (lt _ hin)]
      exact hz b off hin
    · intro ha
      have := hn ha
      rw [hps] at this
      simpa using this
    · intro p hp _
      rw [hps]
      simpa using hp
end
end Go.Proofs.YtacfkljpjjnlfaaGreatDoor
