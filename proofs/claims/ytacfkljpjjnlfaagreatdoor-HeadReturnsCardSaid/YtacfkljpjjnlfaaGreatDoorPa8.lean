import Derived.Test.YtacfkljpjjnlfaaGreatDoorPa7
import Derived.Test.YtacfkljpjjnlfaaGreatDoorPa5
import Derived.Test.YtacfkljpjjnlfaaGreatDoorPa0
/- What the program's divide returns: a head's lines, its length, or the error. -/
namespace Go.Proofs.YtacfkljpjjnlfaaGreatDoor
open Go.RowKit

theorem div_pre {l : List UInt8} (h : l.take 2 = crlf) : splitG l = (22, [], 0) := by rw [splitG_div]; unfold divP; rw [if_pos h]
theorem div_end {l : List UInt8} (h : l.take 2 ≠ crlf) (hi : Lib.index (l.take 8192) crlf2 = -1) (hl : l.length < 8192) : splitG l = (21, [], 0) := by
  rw [splitG_div]; unfold divP; rw [if_neg h, if_pos hi, if_pos hl]
theorem div_large {l : List UInt8} (h : l.take 2 ≠ crlf) (hi : Lib.index (l.take 8192) crlf2 = -1) (hl : ¬ l.length < 8192) : splitG l = (5, [], 0) := by
  rw [splitG_div]; unfold divP; rw [if_neg h, if_pos hi, if_neg hl]
theorem div_many {l : List UInt8} (h : l.take 2 ≠ crlf) {k : Nat} (hi : Lib.index (l.take 8192) crlf2 = k) (hl : 65 < (spF [] (l.take k)).length) : splitG l = (5, [], 0) := by
  rw [splitG_div]; unfold divP; rw [if_neg h, hi, if_neg (by omega), Int.toNat_natCast, if_pos hl]
theorem div_bad {l : List UInt8} (h : l.take 2 ≠ crlf) {k : Nat} (hi : Lib.index (l.take 8192) crlf2 = k) (hl : ¬ 65 < (spF [] (l.take k)).length) (hb : (spF [] (l.take k)).any (·.any badC) = true) : splitG l = (22, [], 0) := by
  rw [splitG_div]; unfold divP; rw [if_neg h, hi, if_neg (by omega), Int.toNat_natCast, if_neg hl, if_pos hb]
theorem div_good {l : List UInt8} (h : l.take 2 ≠ crlf) {k : Nat} (hi : Lib.index (l.take 8192) crlf2 = k) (hl : ¬ 65 < (spF [] (l.take k)).length) (hb : (spF [] (l.take k)).any (·.any badC) = false) : splitG l = (0, spF [] (l.take k), k + 4) := by
  rw [splitG_div]; unfold divP; rw [if_neg h, hi, if_neg (by omega), Int.toNat_natCast, if_neg hl, if_neg (by rw [hb]; simp)]
/-- What divide leaves. -/
def DivPost' (l : List UInt8) (w : World) (e : Ending) (w' : World) : Prop :=
  ∃ v, e = .returned (.tuple #[v, .int .i64 ((splitG l).2.2 : Int), errV (splitG l).1]) ∧ OwnsS w.heap.size w' v (splitG l).2.1 ∧ Below w.heap.size w w'
theorem divPost_err {l : List UInt8} {w w' : World} {c : Nat} (h : splitG l = (c, [], 0)) (hc : c ≠ 0) (hB : Below w.heap.size w w') : DivPost' l w (.returned (.tuple #[.slice none 0 0, .int .i64 0, .iface 64 (.int .i64 c)])) w' := by
  refine ⟨.slice none 0 0, ?_, ?_, hB⟩
  · rw [h]; unfold errV; rw [if_neg hc]; rfl
  · rw [h]; exact World.ownsRow_nil _ _ _ _
/-- None of the first j lines has a bare byte. -/
def NoBad (ls : List (List UInt8)) (j : Nat) : Prop := ∀ x ∈ ls.take j, x.any badC = false
theorem noBad0 (ls : List (List UInt8)) : NoBad ls 0 := fun x h => by simp at h
theorem noBad_step {ls : List (List UInt8)} {j : Nat} {x : List UInt8} (h : NoBad ls j) (hx : ls[j]? = some x) (hb : x.any badC = false) : NoBad ls (j + 1) := by
  intro y hy
  rw [List.take_add_one, hx] at hy
  rcases List.mem_append.1 hy with hy | hy
  · exact h y hy
  · simp at hy; rw [hy]; exact hb
theorem noBad_end {ls : List (List UInt8)} {j : Nat} (h : NoBad ls j) (hj : ls.length ≤ j) : ls.any (·.any badC) = false := by
  unfold NoBad at h
  rw [List.take_of_length_le hj] at h
  rw [List.any_eq_false]
  intro x hx; rw [h x hx]; simp
theorem anyBad {ls : List (List UInt8)} {j : Nat} {x : List UInt8} (hx : ls[j]? = some x) (hb : x.any badC = true) : ls.any (·.any badC) = true :=
  List.any_eq_true.2 ⟨x, List.mem_of_getElem? hx, hb⟩
theorem bad_any (x : List UInt8) (w : World) (hx : x.length ≤ 1000000) :
    Calls Tryz.prog 49 #[.string (strB x), .string ⟨#[13, 10, 0]⟩] w fun e w' => e = .returned (.bool (x.any badC)) ∧ Below w.heap.size w w' := by
  have := containsAny_any (strB x) ⟨#[13, 10, 0]⟩ w (by rw [strB_size]; omega) (by decide) (by decide) (by intro b hb; have : b ∈ [13, 10, 0] := hb; simp at this; rcases this with rfl | rfl | rfl <;> decide)
  rw [strB_list] at this
  exact this
set_option maxHeartbeats 4000000 in
set_option maxRecDepth 100000 in
theorem divide_some (g off cap : Nat) (l : List UInt8) (w : World) (hc : CellsB w g off l) (hg : g < w.heap.size) (hcap : l.length ≤ cap) (hM : HasMax w) (hl : l.length ≤ 100000) :
    Calls Tryz.prog 26 #[.slice (some ⟨g, off, none⟩) l.length cap] w (DivPost' l w) := by
  have kc := fun (w : World) (C : Array Value) (n c : Nat) => Lib.run_convert_bytes_const (P := Tryz.prog) w 23 5 C n c Tryz.underlying23 Tryz.underlying5
  have HP := prefix_crlf w g off cap l hcap hg hc
  by_cases h2 : l.take 2 = crlf
  · have HE := Lib.hid (div_pre h2)
    rw [decide_eq_true h2] at HP
    clear h2
    go_enter Tryz.func26, Tryz.ntmps26
    go_wp2_with (go_at_call 46; refine HP.mono ?_; rintro e w' ⟨rfl, rfl⟩)
    exact bodyPost_ret (v := .tuple #[.slice none 0 0, .int .i64 0, .iface 64 (.int .i64 22)]) (by simp [results, Tryz.results26, go_sem]) rfl (divPost_err HE.out (by decide) (below_new _ _))
  · rw [decide_eq_false h2] at HP
    have hB1 : Below w.heap.size w (w.alloc (.cells #[.int .u8 13, .int .u8 10] 5 (2, 3))) := below_new _ _
    have hc1 := hc.below hg hB1
    have hM1 := hM.below hB1
    have hs1 : (w.alloc (.cells #[.int .u8 13, .int .u8 10] 5 (2, 3))).heap.size = w.heap.size + 1 := by simp
    have hg1 : g < (w.alloc (.cells #[.int .u8 13, .int .u8 10] 5 (2, 3))).heap.size := by omega
    have k2 := kc (w.alloc (.cells #[.int .u8 13, .int .u8 10] 5 (2, 3))) #[.int .u8 13, .int .u8 10, .int .u8 13, .int .u8 10] 4 4
    have HI := index_crlf2 _ hM1 g off cap (l.take 8192) (by rw [List.length_take]; omega) (by rw [List.length_take]; omega) hg1 (hc1.take 8192)
    rw [hs1] at k2 HI
    obtain ⟨n, hn⟩ : ∃ n, (l.take 8192).length = n := ⟨_, rfl⟩
    have hmin : (min (l.length : Int) 8192).toNat = n := by rw [List.length_take] at hn; omega
    have hnl : n ≤ cap := by rw [List.length_take] at hn; omega
    have hnl2 : n ≤ l.length := by rw [List.length_take] at hn; omega
    have hm0 : (0 : Int) ≤ min (l.length : Int) 8192 := by omega
    have hm1 : min (l.length : Int) 8192 ≤ cap := by omega
    rw [hn] at HI
    have hroom := Lib.index_room (l.take 8192) crlf2
    have hge := Lib.index_ge (l.take 8192) crlf2
    rw [hn] at hroom
    have hc4 : crlf2.length = 4 := rfl
    rw [hc4] at hroom
    clear hc4 hn hs1
    by_cases hi : Lib.index (l.take 8192) crlf2 = -1
    · rw [hi] at HI
      by_cases h8 : l.length < 8192
      · have HE := Lib.hid (div_end h2 hi h8)
        clear h2 hi hroom hge hc1 hM1 hc hM
        go_enter Tryz.func26, Tryz.ntmps26
        go_wp2_with (go_at_call 46; refine HP.mono ?_; rintro e w' ⟨rfl, rfl⟩)
        refine HI.mono ?_
        rintro e w3 ⟨rfl, hB3⟩
        go_wp2_with fail
        exact bodyPost_ret (v := .tuple #[.slice none 0 0, .int .i64 0, .iface 64 (.int .i64 21)]) (by simp [results, Tryz.results26, go_sem]) rfl (divPost_err HE.out (by decide) (hB1.trans (hB3.mono (by simp))))
      · have HE := Lib.hid (div_large h2 hi h8)
        clear h2 hi hroom hge hc1 hM1 hc hM
        go_enter Tryz.func26, Tryz.ntmps26
        go_wp2_with (go_at_call 46; refine HP.mono ?_; rintro e w' ⟨rfl, rfl⟩)
        refine HI.mono ?_
        rintro e w3 ⟨rfl, hB3⟩
        go_wp2_with fail
        exact bodyPost_ret (v := .tuple #[.slice none 0 0, .int .i64 0, .iface 64 (.int .i64 5)]) (by simp [results, Tryz.results26, go_sem]) rfl (divPost_err HE.out (by decide) (hB1.trans (hB3.mono (by simp))))
    · obtain ⟨k, hk⟩ : ∃ k : Nat, Lib.index (l.take 8192) crlf2 = k := ⟨(Lib.index (l.take 8192) crlf2).toNat, by omega⟩
      rw [hk] at HI hroom
      have hk2 : k + 4 ≤ n := by omega
      have hkl : (l.take k).length = k := by rw [List.length_take]; omega
      have HCV := Lib.hid (fun W (hB : Below w.heap.size w W) => conv_bytes W g off cap (l.take k) ((hc.below hg hB).take k))
      rw [hkl] at HCV
      have HS := Lib.hid (fun W (hM : HasMax W) => split_crlf (l.take k) W hM (by omega))
      have hlen := spF_len _ (l.take k) [] (Nat.le_refl _)
      rw [hkl] at hlen
      have HPL := Lib.hid (spF_part _ (l.take k) [] (Nat.le_refl _))
      have HM := Lib.hid hM
      have HMany := Lib.hid (div_many h2 hk)
      have HBad := Lib.hid (div_bad h2 hk)
      have HGood := Lib.hid (div_good h2 hk)
      have hkn : ¬ (k : Int) < 0 := by omega
      have hkc : k ≤ cap := by omega
      have hkl' : (l.take k).length ≤ 100000 := by omega
      have hne := spF_ne (l.take k) []
      clear h2 hi hk hroom hge hc1 hM1 hc hM hkl
      generalize spF [] (l.take k) = ls at *
      generalize l.take k = lk at *
      go_enter Tryz.func26, Tryz.ntmps26
      go_wp2_with (go_at_call 46; refine HP.mono ?_; rintro e w' ⟨rfl, rfl⟩)
      refine HI.mono ?_
      rintro e w3 ⟨rfl, hB3⟩
      have hB3' := hB1.trans (hB3.mono (by simp))
      have hcv := HCV.out w3 hB3'
      clear hB1 hB3 HI HP
      go_wp2_with fail
      refine (HS.out _ (HM.out.below hB3')).mono ?_
      rintro e w4 ⟨v, rfl, hO, hB4⟩
      have hB4' := hB3'.trans (hB4.mono hB3'.size)
      have hO4 := OwnsS.mono hB3'.size hO
      clear hcv hB4 hB3' HS HM HCV k2 kc
      have HO := Lib.hid hO4
      rcases hO.open' with ⟨rfl, hnil⟩ | ⟨g2, cap2, rfl, hg2, hg4, hcells⟩
      · exact absurd hnil hne
      clear hO hO4
      have HC := Lib.hid hcells
      have HNE := Lib.hid hne
      clear hcells hne
      by_cases hmany : 65 < ls.length
      · have HE := Lib.hid (HMany.out hmany)
        go_wp2_with fail
        exact bodyPost_ret (v := .tuple #[.slice none 0 0, .int .i64 0, .iface 64 (.int .i64 5)]) (by simp [results, Tryz.results26, go_sem]) rfl (divPost_err HE.out (by decide) hB4')
      · have HBd := Lib.hid (HBad.out hmany)
        have HGd := Lib.hid (HGood.out hmany)
        clear HMany HBad HGood
        go_wp2_with fail
        go_loopw [47] (fun i wr => ∃ j : Nat, i = .int .i64 j ∧ j ≤ ls.length ∧ NoBad ls j ∧ Below w4.heap.size w4 wr) (fun i _ => ls.length - (intOf i).toNat)
        case atStart => exact ⟨0, rfl, Nat.zero_le _, noBad0 _, Below.refl _ _⟩
        case round =>
          obtain ⟨j, rfl, hj, hnb, hBr⟩ := hrel
          have HNB := Lib.hid hnb
          clear hnb
          by_cases hlt : j < ls.length
          · obtain ⟨x, hx⟩ : ∃ x, ls[j]? = some x := ⟨ls[j], by simp [hlt]⟩
            have hcell : wr.cell? ⟨g2, j, none⟩ = some (.string (strB x)) := (hBr.cell (p := ⟨g2, j, none⟩) hg4).trans (HC.out j x hx)
            have hxl := HPL.out x (List.mem_of_getElem? hx)
            have HX := Lib.hid hx
            clear hx
            have HCA := bad_any x wr (by simp at hxl; omega)
            cases hb : x.any badC with
            | true =>
              rw [hb] at HCA
              have HE := Lib.hid (HBd.out (anyBad HX.out hb))
              clear hb hxl
              go_wp2_with fail
              refine HCA.mono ?_
              rintro e w5 ⟨rfl, hB5⟩
              go_wp2_with fail
              exact bodyPost_ret (v := .tuple #[.slice none 0 0, .int .i64 0, .iface 64 (.int .i64 22)]) (by simp [results, Tryz.results26, go_sem]) rfl (divPost_err HE.out (by decide) (hB4'.trans ((hBr.trans (hB5.mono hBr.size)).mono hB4'.size)))
            | false =>
              rw [hb] at HCA
              have HE := Lib.hid (noBad_step HNB.out HX.out hb)
              clear hb hxl
              go_wp2_with fail
              refine HCA.mono ?_
              rintro e w5 ⟨rfl, hB5⟩
              go_wp2_with fail
              go_roundw
              case rel => exact ⟨j + 1, by go_num, by omega, HE.out, hBr.trans (hB5.mono hBr.size)⟩
              case measure => simp [intOf]; omega
          · have HE := Lib.hid (HGd.out (noBad_end HNB.out (by omega)))
            go_wp2_with fail
            exact bodyPost_ret (v := .tuple #[.slice (some ⟨g2, 0, none⟩) ls.length cap2, .int .i64 ((k : Int) + 4), .nilIface]) (by simp [results, Tryz.results26, go_sem]) rfl
              ⟨_, by rw [HE.out]; rfl, by rw [HE.out]; exact HO.out.below hBr, hB4'.trans (hBr.mono hB4'.size)⟩
set_option maxHeartbeats 4000000 in
set_option maxRecDepth 100000 in
theorem divide_nil (w : World) : Calls Tryz.prog 26 #[.slice none 0 0] w (DivPost' [] w) := by
  have kc := fun (w : World) (C : Array Value) (n c : Nat) => Lib.run_convert_bytes_const (P := Tryz.prog) w 23 5 C n c Tryz.underlying23 Tryz.underlying5
  have HP := Tryz.bytes_HasPrefix_all none (some ⟨w.heap.size, 0, none⟩) 0 0 2 2 [] [13, 10] (w.alloc (.cells #[.int .u8 13, .int .u8 10] 5 (2, 3))) rfl rfl (Nat.le_refl _) (Lib.BytesIn.nil _ _ _) (fun _ => ⟨w.heap.size, 0, rfl, fun i hi => two_cells w 13 10 _ _ i hi⟩)
  rw [show Lib.hasPrefix (Lib.bytesOf []) (Lib.bytesOf [13, 10]) = false by decide] at HP
  have hs1 : (w.alloc (.cells #[.int .u8 13, .int .u8 10] 5 (2, 3))).heap.size = w.heap.size + 1 := by simp
  have k2 := kc (w.alloc (.cells #[.int .u8 13, .int .u8 10] 5 (2, 3))) #[.int .u8 13, .int .u8 10, .int .u8 13, .int .u8 10] 4 4
  rw [hs1] at k2
  have HI := fun W => Tryz.bytes_Index_nil (some ⟨w.heap.size + 1, 0, none⟩) 4 4 W (by decide) (fun h => absurd h (by decide))
  have HE := Lib.hid (div_end (l := []) (by decide) rfl (by decide))
  clear hs1
  go_enter Tryz.func26, Tryz.ntmps26
  go_wp2_with (go_at_call 46; refine HP.mono ?_; rintro e w' ⟨rfl, rfl⟩)
  refine (HI _).mono ?_
  rintro e w3 ⟨rfl, rfl⟩
  go_wp2_with fail
  exact bodyPost_ret (v := .tuple #[.slice none 0 0, .int .i64 0, .iface 64 (.int .i64 21)]) (by simp [results, Tryz.results26, go_sem]) rfl (divPost_err HE.out (by decide) ((below_new _ _).alloc (by simp) _))
theorem divideG_any (v : Value) (l : List UInt8) (w : World) (hr : ReadsB w v l) (hM : HasMax w) (hl : l.length ≤ 100000) :
    Calls Tryz.prog 26 #[v] w (DivPost' l w) := by
  rcases hr.cases with ⟨rfl, rfl⟩ | ⟨g, off, cap, rfl, hcap, hg, hc⟩
  · exact divide_nil w
  · exact divide_some g off cap l w hc hg hcap hM hl
end Go.Proofs.YtacfkljpjjnlfaaGreatDoor

/- A new variable of two strings, kept over calls. -/
namespace Go.Proofs.YtacfkljpjjnlfaaGreatDoor
open Go.RowKit

theorem below_draw {B : Nat} {a w : World} (h : Below B a w) (n : Nat) : Below B a (w.drewN n) := ⟨h.os, h.tape, h.output, h.size, h.block⟩
theorem below_two {w w' : World} (h : Below w.heap.size w w') (u v : Value) : Below w.heap.size w ((w'.setCell ⟨w.heap.size, 0, none⟩ u).setCell ⟨w.heap.size, 1, none⟩ v) :=
  (h.setCell (p := ⟨w.heap.size, 0, none⟩) (Nat.le_refl _) u).setCell (p := ⟨w.heap.size, 1, none⟩) (Nat.le_refl _) v
theorem below_over {a w w' : World} (h : Below a.heap.size a w) (hw : Below w.heap.size w w') : Below a.heap.size a w' := h.trans (hw.mono h.size)
/-- A new variable of two strings is as it was behind a call that leaves what was there. -/
theorem two_kept (w : World) (n : Nat) {t : TypeId} {w' : World} (h : Below ((w.alloc (.cells #[.string ⟨#[]⟩, .string ⟨#[]⟩] t)).drewN n).heap.size ((w.alloc (.cells #[.string ⟨#[]⟩, .string ⟨#[]⟩] t)).drewN n) w') :
    w'.cell? ⟨w.heap.size, 0, none⟩ = some (.string ⟨#[]⟩) ∧ w'.cell? ⟨w.heap.size, 1, none⟩ = some (.string ⟨#[]⟩) ∧ w'.frozen? ⟨w.heap.size, 0, none⟩ = false ∧ w'.frozen? ⟨w.heap.size, 1, none⟩ = false ∧ w.heap.size < w'.heap.size := by
  have hs : w.heap.size < ((w.alloc (.cells #[.string ⟨#[]⟩, .string ⟨#[]⟩] t)).drewN n).heap.size := by show w.heap.size < (w.heap.push _).size; simp
  have c : ∀ j, ((w.alloc (.cells #[.string ⟨#[]⟩, .string ⟨#[]⟩] t)).drewN n).cell? ⟨w.heap.size, j, none⟩ = (#[.string ⟨#[]⟩, .string ⟨#[]⟩] : Array Value)[j]? := fun j => by
    show (w.alloc _).cell? _ = _
    rw [World.cell?_alloc_at _ _ _ _ rfl]
  have f : ∀ j, ((w.alloc (.cells #[.string ⟨#[]⟩, .string ⟨#[]⟩] t)).drewN n).frozen? ⟨w.heap.size, j, none⟩ = false := fun j => by
    show (w.alloc _).frozen? _ = _
    exact World.frozen?_alloc_at _ _ _ _ rfl
  refine ⟨(h.cell (p := ⟨w.heap.size, 0, none⟩) hs).trans (c 0), (h.cell (p := ⟨w.heap.size, 1, none⟩) hs).trans (c 1), (h.frozen (p := ⟨w.heap.size, 0, none⟩) hs).trans (f 0), (h.frozen (p := ⟨w.heap.size, 1, none⟩) hs).trans (f 1), Nat.lt_of_lt_of_le hs h.size⟩
theorem box_kept (w : World) {a b : Value} {t : TypeId} {w' : World} (h : Below (w.alloc (.cells #[a, b] t)).heap.size (w.alloc (.cells #[a, b] t)) w') :
    w'.cell? ⟨w.heap.size, 0, none⟩ = some a ∧ w'.cell? ⟨w.heap.size, 1, none⟩ = some b ∧ w'.frozen? ⟨w.heap.size, 0, none⟩ = false ∧ w'.frozen? ⟨w.heap.size, 1, none⟩ = false ∧ w.heap.size < w'.heap.size := by
  have hs : w.heap.size < (w.alloc (.cells #[a, b] t)).heap.size := by simp
  have hc : ∀ j, (w.alloc (.cells #[a, b] t)).cell? ⟨w.heap.size, j, none⟩ = (#[a, b] : Array Value)[j]? := fun j => by rw [World.cell?_alloc_at _ _ _ _ rfl]
  have hf : ∀ j, (w.alloc (.cells #[a, b] t)).frozen? ⟨w.heap.size, j, none⟩ = false := fun j => World.frozen?_alloc_at _ _ _ _ rfl
  exact ⟨(h.cell (p := ⟨w.heap.size, 0, none⟩) hs).trans (hc 0), (h.cell (p := ⟨w.heap.size, 1, none⟩) hs).trans (hc 1),
    (h.frozen (p := ⟨w.heap.size, 0, none⟩) hs).trans (hf 0), (h.frozen (p := ⟨w.heap.size, 1, none⟩) hs).trans (hf 1), Nat.lt_of_lt_of_le hs h.size⟩
theorem two_newG (W : World) (a b : List UInt8) (T : TypeId) : ∀ (j : Nat) (u : Value), [strV a, strV b][j]? = some u →
    (W.alloc (.cells #[.string (strB a), .string (strB b)] T)).cell? ((⟨W.heap.size, 0, none⟩ : Addr).add j) = some u := by
  intro j u h
  rw [Addr.add_lit, Nat.zero_add, World.cell?_alloc_at _ _ _ _ rfl]
  match j, h with
  | 0, h => simpa using h
  | 1, h => simpa using h
  | j + 2, h => simp at h
theorem two_newS (W : World) (a b : List UInt8) (T : TypeId) (m : Nat) (hm : m = W.heap.size) : ∀ (j : Nat) (u : Value), [strV a, strV b][j]? = some u →
    (W.alloc (.cells #[.string (strB a), .string (strB b)] T)).cell? ((⟨m, 0, none⟩ : Addr).add j) = some u := by
  subst hm; exact two_newG W a b T
end Go.Proofs.YtacfkljpjjnlfaaGreatDoor

/- Slices of two-string structs in memory: those that a call makes, and those that it reads. -/
namespace Go.Proofs.YtacfkljpjjnlfaaGreatDoor
open Go.RowKit

def flatP (ps : List (List UInt8 × List UInt8)) : List Value := ps.flatMap fun p => [strV p.1, strV p.2]
theorem flatP_len (ps : List (List UInt8 × List UInt8)) : (flatP ps).length = ps.length * 2 := by
  induction ps with
  | nil => rfl
  | cons p r ih =>
    have e : flatP (p :: r) = strV p.1 :: strV p.2 :: flatP r := rfl
    rw [e, List.length_cons, List.length_cons, ih, List.length_cons]; omega
/-- The value v is a slice of the call's own, of parameters of type T, that holds ps. -/
def OwnsP (T : TypeId) (B : Nat) (w : World) (v : Value) (ps : List (List UInt8 × List UInt8)) : Prop := w.ownsRow B T 2 v ps.length (flatP ps)
theorem OwnsP.nil (T : TypeId) (B : Nat) (w : World) : OwnsP T B w (.slice none 0 0) [] := World.ownsRow_nil _ _ _ _
theorem OwnsP.below {T : TypeId} {B : Nat} {w w' : World} {v : Value} {ps : List (List UInt8 × List UInt8)} (h : OwnsP T B w v ps) (hb : Below w.heap.size w w') : OwnsP T B w' v ps :=
  World.ownsRow.kept h (grown_of_below hb none) (by cases hv : v.ownBlock <;> simp)
theorem OwnsP.mono {T : TypeId} {B C : Nat} {w : World} {v : Value} {ps : List (List UInt8 × List UInt8)} (hBC : B ≤ C) (h : OwnsP T C w v ps) : OwnsP T B w v ps := by
  rcases h with ⟨hl, hv | ⟨g, cap, cur, hv, hb, hg, hn, hm, hs, ht⟩⟩
  · exact ⟨hl, .inl hv⟩
  · exact ⟨hl, .inr ⟨g, cap, cur, hv, Nat.le_trans hBC hb, hg, hn, hm, hs, ht⟩⟩
theorem OwnsP.snoc {T : TypeId} {B : Nat} {w : World} {v : Value} {ps : List (List UInt8 × List UInt8)} {p : List UInt8 × List UInt8} (h : w.ownsRow B T 2 v (ps.length + 1) (flatP ps ++ [strV p.1, strV p.2])) : OwnsP T B w v (ps ++ [p]) := by
  unfold OwnsP
  have e : flatP (ps ++ [p]) = flatP ps ++ [strV p.1, strV p.2] := by simp [flatP]
  rw [e, List.length_append]; exact h
theorem below_appendP {T : TypeId} {B : Nat} {a w w1 w2 : World} {v : Value} {ps : List (List UInt8 × List UInt8)} {o : Obj} (hB : Below B a w) (hBs : B ≤ w.heap.size) (hb1 : Below w.heap.size w w1) (hown : OwnsP T B w v ps)
    (hgrow : (w1.alloc o).grownBy w2 v.ownBlock) : Below B a w2 :=
  ((hB.trans (hb1.mono hBs)).alloc (by have := hb1.size; omega) o).grown hgrow (by have := hb1.size; simp; omega) (fun q hq => (World.ownsRow.lt hown q hq).1)
theorem flatP_at : ∀ (ps : List (List UInt8 × List UInt8)) (j : Nat) (p : List UInt8 × List UInt8), ps[j]? = some p → (flatP ps)[j * 2]? = some (strV p.1) ∧ (flatP ps)[j * 2 + 1]? = some (strV p.2) := by
  intro ps
  induction ps with
  | nil => intro j p h; simp at h
  | cons q r ih =>
    intro j p h
    cases j with
    | zero => simp at h; subst h; exact ⟨rfl, rfl⟩
    | succ j =>
      have := ih j p (by simpa using h)
      have e : flatP (q :: r) = strV q.1 :: strV q.2 :: flatP r := rfl
      rw [e, show (j + 1) * 2 = j * 2 + 1 + 1 by omega]
      exact ⟨by simpa using this.1, by simpa using this.2⟩
/-- The value v is a slice of parameters that reads as ps in the world w. -/
def ReadsP (w : World) (v : Value) (ps : List (List UInt8 × List UInt8)) : Prop :=
  ∃ ao cap, v = .slice ao ps.length cap ∧ ∀ j p, ps[j]? = some p → ∃ g, ao = some ⟨g, 0, none⟩ ∧ g < w.heap.size ∧ w.cell? ⟨g, j * 2, none⟩ = some (.string (strB p.1)) ∧ w.cell? ⟨g, j * 2 + 1, none⟩ = some (.string (strB p.2))
theorem OwnsP.reads {T : TypeId} {B : Nat} {w : World} {v : Value} {ps : List (List UInt8 × List UInt8)} (h : OwnsP T B w v ps) : ReadsP w v ps := by
  have h0 := h
  rcases h with ⟨hl, ⟨hv, hn⟩ | ⟨g, cap, cur, hv, hb, hg, hn, hm, hs, ht⟩⟩
  · have : ps = [] := List.eq_nil_of_length_eq_zero hn
    subst this
    exact ⟨none, 0, hv, fun j p h => by simp at h⟩
  · refine ⟨_, cap, hv, fun j p hj => ⟨g, rfl, ?_, ?_, ?_⟩⟩
    · exact (World.ownsRow.lt h0 g (by rw [hv]; rfl)).2
    all_goals
      subst hv
      have hj' : j < ps.length := (List.getElem?_eq_some_iff.mp hj).1
      have hf := flatP_at ps j p hj
    · rw [World.ownsRow.cellAt h0 (j * 2) (by omega), hf.1]
    · rw [World.ownsRow.cellAt h0 (j * 2 + 1) (by omega), hf.2]
theorem ReadsP.below {w w' : World} {v : Value} {ps : List (List UInt8 × List UInt8)} (h : ReadsP w v ps) (hb : Below w.heap.size w w') : ReadsP w' v ps := by
  obtain ⟨ao, cap, rfl, hc⟩ := h
  refine ⟨ao, cap, rfl, fun j p hj => ?_⟩
  obtain ⟨g, h1, h2, h3, h4⟩ := hc j p hj
  exact ⟨g, h1, Nat.lt_of_lt_of_le h2 hb.size, (hb.cell (p := ⟨g, j * 2, none⟩) h2).trans h3, (hb.cell (p := ⟨g, j * 2 + 1, none⟩) h2).trans h4⟩
/-- The value v, an argument, is a slice of parameters that reads as ps in the world w. -/
def ReadsQ (w : World) (v : Value) (ps : List (List UInt8 × List UInt8)) : Prop :=
  ∃ ao cap, v = .slice ao ps.length cap ∧ ∀ j p, ps[j]? = some p → ∃ g off, ao = some ⟨g, off, none⟩ ∧ g < w.heap.size ∧ w.cell? ⟨g, off + j * 2, none⟩ = some (.string (strB p.1)) ∧ w.cell? ⟨g, off + j * 2 + 1, none⟩ = some (.string (strB p.2))
theorem ReadsQ.below {w w' : World} {v : Value} {ps : List (List UInt8 × List UInt8)} (h : ReadsQ w v ps) (hb : Below w.heap.size w w') : ReadsQ w' v ps := by
  obtain ⟨ao, cap, rfl, hc⟩ := h
  refine ⟨ao, cap, rfl, fun j p hj => ?_⟩
  obtain ⟨g, off, h1, h2, h3, h4⟩ := hc j p hj
  exact ⟨g, off, h1, Nat.lt_of_lt_of_le h2 hb.size, (hb.cell (p := ⟨g, off + j * 2, none⟩) h2).trans h3, (hb.cell (p := ⟨g, off + j * 2 + 1, none⟩) h2).trans h4⟩
end Go.Proofs.YtacfkljpjjnlfaaGreatDoor
