/- What the code's Unquote and the reference's Unquote return, for every string up to a bound. -/
import Derived.Test.YtjcekkgoohkomaaDoorRefQuote
namespace Go.Proofs.YtjcekkgoohkomaaDoor
open Go.RowKit

theorem getU (s : ByteArray) (k : Nat) (h : k < s.data.toList.length) : s.data.toList[k] = s[k]'(by simpa using h) := rfl
theorem unq_short {s : ByteArray} (h : s.size < 2) : unqO s.data.toList = none := by
  unfold unqO; rw [if_pos (.inr (.inl (by simpa using h)))]
theorem unq_ctl {s : ByteArray} (h : ctlS s.data.toList = true) : unqO s.data.toList = none := by
  unfold unqO; rw [if_pos (.inl h)]
theorem headD_get {s : ByteArray} (h : 0 < s.size) : s.data.toList.headD 0 = s[0] := by
  have : s.data.toList ≠ [] := by
    intro e
    have h2 : s.data.toList.length = s.size := by simp
    rw [e] at h2; simp at h2; omega
  cases hl : s.data.toList with
  | nil => exact absurd hl this
  | cons c t =>
    have e : s.data.toList[0]'(by simpa using h) = c := by simp [hl]
    rw [List.headD_cons, ← e]; rfl
theorem unq_head {s : ByteArray} (h0 : 0 < s.size) (h : s[0] ≠ 34) : unqO s.data.toList = none := by
  unfold unqO; rw [if_pos (.inr (.inr (by rw [headD_get h0]; exact h)))]
theorem unq_go {s : ByteArray} (h2 : 2 ≤ s.size) (hc : ctlS s.data.toList = false) (h : s[0] = 34) : unqO s.data.toList = rq false (s.data.toList.drop 1) := by
  unfold unqO; rw [if_neg]
  rintro (h1 | h1 | h1)
  · rw [hc] at h1; cases h1
  · simp at h1; omega
  · exact h1 (by rw [headD_get (by omega)]; exact h)
theorem drop_last {s : ByteArray} (h2 : 2 ≤ s.size) : s.data.toList.drop 1 = (s.extract 1 (s.size - 1)).data.toList ++ [s[s.size - 1]] := by
  rw [seg_list, ← List.take_append_drop (s.size - 1 - 1) (s.data.toList.drop 1)]
  congr 1
  · rw [List.take_append_drop]
  · rw [List.drop_drop, show 1 + (s.size - 1 - 1) = s.size - 1 by omega, List.drop_eq_getElem_cons (by simp; omega), List.drop_eq_nil_of_le (by simp; omega)]
    rfl
theorem unq_last {s : ByteArray} (h2 : 2 ≤ s.size) (h : s[s.size - 1] ≠ 34) : unqO s.data.toList = none := by
  unfold unqO; split
  · rfl
  · rw [drop_last h2, rq_uq, if_neg h]
theorem unq_items {s : ByteArray} (h2 : 2 ≤ s.size) (hc : ctlS s.data.toList = false) (h : s[0] = 34) (hl : s[s.size - 1] = 34) :
    unqO s.data.toList = uq false (s.extract 1 (s.size - 1)).data.toList := by
  rw [unq_go h2 hc h, drop_last h2, rq_uq, if_pos hl]

def UnqPost (s : ByteArray) (w : World) (e : Ending) (w' : World) : Prop :=
  Below w.heap.size w w' ∧
  match unqO s.data.toList with
  | none => e = .returned (.tuple #[.string ⟨#[]⟩, errForm])
  | some l => e = .returned (.tuple #[.string (strB l), .nilIface])
theorem UnqPost.none {s : ByteArray} {w w' : World} (h : unqO s.data.toList = none) (hb : Below w.heap.size w w') : UnqPost s w (.returned (.tuple #[.string ⟨#[]⟩, errForm])) w' :=
  ⟨hb, by rw [h]⟩

def UnqRel (it : ByteArray) (w : World) (i : Value) (wr : World) : Prop :=
  ∃ (k : Nat) (out : List UInt8), i = .int .i64 k ∧ UInv it.data.toList out k ∧ Bld w.heap.size w.heap.size out wr ∧ Below w.heap.size w wr
set_option maxHeartbeats 2000000 in
set_option maxRecDepth 100000 in
theorem unquote_any (s : ByteArray) (w : World) (hs : s.size ≤ 1000000000) :
    Calls Tryd.prog 25 #[.string s] w fun e w' => UnqPost s w e w' := by
  by_cases h2 : s.size < 2
  · go_enter Tryd.func25, Tryd.ntmps25
    go_wp2
    go_ret2
    exact UnqPost.none (unq_short h2) (Below.refl _ _)
  · by_cases h0 : s[0] = 34
    · have t0 : ((s[0].toNat : Int) != 34) = false := by rw [h0]; rfl
      have H0 := Lib.hid h0
      clear h0
      by_cases hl : s[s.size - 1] = 34
      · have tl : ((s[s.size - 1].toNat : Int) != 34) = false := by rw [hl]; rfl
        have HL := Lib.hid hl
        clear hl
        by_cases hc : ctlS s.data.toList = true
        · go_enter Tryd.func25, Tryd.ntmps25
          go_wp2_with (go_at_call 48; refine (hasControl_any _ _ (by unfold maxLen; omega)).mono ?_; rintro e w' ⟨rfl, rfl⟩)
          go_ret2
          exact UnqPost.none (unq_ctl hc) (Below.refl _ _)
        · have hc' : ctlS s.data.toList = false := by simpa using hc
          clear hc
          have hu := unq_items (by omega) hc' H0.out HL.out
          have HU := Lib.hid hu
          clear hu
          go_enter Tryd.func25, Tryd.ntmps25
          go_wp2_with (go_at_call 48; refine (hasControl_any _ _ (by unfold maxLen; omega)).mono ?_; rintro e w' ⟨rfl, rfl⟩)
          have hB0 : Below w.heap.size w (w.alloc (.cells #[.pointer none, .slice none 0 0] 78)) := (Below.refl _ _).alloc (Nat.le_refl _) _
          have hits : (s.extract 1 (s.size - 1)).size ≤ 1000000000 := by simp; omega
          revert HU hits
          generalize s.extract 1 (s.size - 1) = it
          intro HU hits
          go_loopw [6] (fun i wr => UnqRel it w i wr) (fun i _ => it.size - (intOf i).toNat)
          case atStart => exact ⟨0, [], rfl, UInv0 _, bld_new w, hB0⟩
          case round =>
            obtain ⟨k, out, rfl, hI, hb, hB⟩ := hrel
            have hL : it.data.toList.length = it.size := by simp
            have HI := Lib.hid hI
            have HLen := Lib.hid hL
            have hk : k ≤ it.size := by have := hI.1; omega
            have ho : out.length ≤ k := hI.2.1
            have hsz := hB.size
            clear hI hL
            by_cases hlt : k < it.size
            · by_cases h34 : it[k] = 34
              · have t34 : ((it[k].toNat : Int) == 34) = true := by rw [h34]; rfl
                have H34 := Lib.hid h34
                clear h34
                go_wp2
                go_ret2
                exact UnqPost.none (by rw [HU.out]; exact HI.out.bad (by rw [HLen.out]; exact hlt) H34.out) hB
              · have t34 : ((it[k].toNat : Int) == 34) = false := by
                  simp; intro h; exact h34 (UInt8.toNat_inj.mp (by show it[k].toNat = 34; omega))
                have H34 := Lib.hid h34
                clear h34
                by_cases h92 : it[k] = 92
                · have t92 : ((it[k].toNat : Int) == 92) = true := by rw [h92]; rfl
                  have H92 := Lib.hid h92
                  clear h92
                  by_cases hend : k + 1 < it.size
                  · have te : ((k : Int) + 1 == (it.size : Int)) = false := by simp; omega
                    go_wp2_with fail
                    refine (writeByte_any _ _ out it[k + 1] _ hb (by omega) hsz).mono ?_
                    rintro e w2 ⟨rfl, hb2, hBB⟩
                    go_wp2_with fail
                    go_roundw
                    case rel => exact ⟨k + 2, out ++ [it[k + 1]], by go_num, HI.out.two (by rw [HLen.out]; exact hend) H92.out, hb2, hB.trans hBB⟩
                    case measure => simp [intOf]; omega
                  · have te : ((k : Int) + 1 == (it.size : Int)) = true := by simp; omega
                    go_wp2
                    go_ret2
                    exact UnqPost.none (by rw [HU.out]; exact HI.out.last (by rw [HLen.out]; exact hlt) H92.out (by rw [HLen.out]; omega)) hB
                · have t92 : ((it[k].toNat : Int) == 92) = false := by
                    simp; intro h; exact h92 (UInt8.toNat_inj.mp (by show it[k].toNat = 92; omega))
                  have H92 := Lib.hid h92
                  clear h92
                  go_wp2_with fail
                  refine (writeByte_any _ _ out it[k] _ hb (by omega) hsz).mono ?_
                  rintro e w2 ⟨rfl, hb2, hBB⟩
                  go_wp2_with fail
                  go_roundw
                  case rel => exact ⟨k + 1, out ++ [it[k]], by go_num, HI.out.step (by rw [HLen.out]; exact hlt) H34.out H92.out, hb2, hB.trans hBB⟩
                  case measure => simp [intOf]; omega
            · go_wp2_with fail
              refine (builder_string _ _ _ _ hb hsz).mono ?_
              rintro e w3 ⟨rfl, hBB⟩
              go_wp2_with fail
              go_ret2
              refine ⟨hB.trans hBB, ?_⟩
              rw [HU.out, HI.out.done (by rw [HLen.out]; omega)]
              rfl
      · have tl : ((s[s.size - 1].toNat : Int) != 34) = true := by
          simp; intro h; exact hl (UInt8.toNat_inj.mp (by show s[s.size - 1].toNat = 34; omega))
        have HL := Lib.hid hl
        clear hl
        go_enter Tryd.func25, Tryd.ntmps25
        go_wp2
        go_ret2
        exact UnqPost.none (unq_last (by omega) HL.out) (Below.refl _ _)
    · have t0 : ((s[0].toNat : Int) != 34) = true := by
        simp; intro h; exact h0 (UInt8.toNat_inj.mp (by show s[0].toNat = 34; omega))
      have H0 := Lib.hid h0
      clear h0
      go_enter Tryd.func25, Tryd.ntmps25
      go_wp2
      go_ret2
      exact UnqPost.none (unq_head (by omega) H0.out) (Below.refl _ _)
end Go.Proofs.YtjcekkgoohkomaaDoor
