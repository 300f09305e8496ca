/- What Under and the reference's Under return. -/
import Derived.Test.YtllkldbiagkbcaaDoorAOf
import Derived.Test.YtllkldbiagkbcaaDoorALabel
import Derived.Deep.QuietTactic
import Derived.BigQuiet
namespace Go.Proofs.YtllkldbiagkbcaaDoor
open Go.RowKit

/-- The rest of a path behind a prefix begins a segment, or the prefix ends one. -/
def restB (rest p : List UInt8) : Bool := rest.isEmpty || rest.head? == some 47 || p.getLast? == some 47
def underB (a b : Adr) : Bool := decide (a.h = b.h) && b.p.isPrefixOf a.p && restB (a.p.drop b.p.length) b.p
theorem under_host {a b : Adr} (h : a.h ≠ b.h) : underB a b = false := by unfold underB; rw [decide_eq_false h]; rfl
theorem under_path {a b : Adr} (h : b.p.isPrefixOf a.p = false) : underB a b = false := by unfold underB; rw [h]; simp
theorem under_rest {a b : Adr} (h1 : a.h = b.h) (h2 : b.p.isPrefixOf a.p = true) : underB a b = restB (a.p.drop b.p.length) b.p := by unfold underB; rw [decide_eq_true h1, h2]; rfl
theorem suffix47 (l : List UInt8) : Lib.hasSuffix l [47] = (l.getLast? == some 47) := by
  unfold Lib.hasSuffix
  rw [Bool.eq_iff_iff, List.isSuffixOf_iff_suffix, beq_iff_eq]
  constructor
  · rintro ⟨r, rfl⟩; simp
  · intro h
    obtain ⟨r, rfl⟩ := List.getLast?_eq_some_iff.mp h
    exact ⟨r, rfl⟩
theorem rest_nil (p : List UInt8) : restB [] p = true := rfl
theorem rest_slash {c : UInt8} (h : c.toNat = 47) (t p : List UInt8) : restB (c :: t) p = true := by
  rw [nat_of_u8 (a := c) (b := 47) h]; simp [restB]
theorem rest_other {c : UInt8} (h : c.toNat ≠ 47) (t p : List UInt8) : restB (c :: t) p = (p.getLast? == some 47) := by
  have : (some c == some (47 : UInt8)) = false := by simp; intro e; exact h (by rw [e]; rfl)
  unfold restB; simp [this]
set_option maxHeartbeats 4000000 in
set_option maxRecDepth 100000 in
theorem under_any (a b : Adr) (w : World) (hb : AdrLe 140737488355328 b) :
    Calls Tryd.prog 19 #[adrV a, adrV b] w fun e w' => e = .returned (.bool (underB a b)) ∧ Below w.heap.size w w' := by
  have hbp := hb.2.1
  have HCP := Lib.hid (fun (w : World) => Tryd.strings_CutPrefix (strB a.p) (strB b.p) w)
  have HHS := Lib.hid (fun (w : World) => Tryd.strings_HasSuffix (strB b.p) ⟨#[47]⟩ w (by omega))
  rw [strB_list, strB_list] at HCP
  rw [strB_list] at HHS
  clear hb
  by_cases hh : a.h = b.h
  · have hhe : ((strB a.h).toList == (strB b.h).toList) = true := by rw [hh]; exact beq_self_eq_true _
    cases hp : b.p.isPrefixOf a.p with
    | false =>
      have HR := Lib.hid (under_path (a := a) (b := b) hp)
      have HP := Lib.hid (show Lib.hasPrefix a.p b.p = false from hp)
      clear hp hh
      obtain ⟨ah, ap, aq, ab⟩ := a
      obtain ⟨bh, bp, bq, bb⟩ := b
      simp only at *
      go_enter Tryd.func19, Tryd.ntmps19
      go_wp2_with (go_at_call 41; refine (HCP.out _).mono ?_; rintro e w' ⟨rfl, rfl⟩; rw [HP.out])
      go_ret
      exact ⟨ret_bool HR.out.symm, (below_new _ _).alloc (by simp) _⟩
    | true =>
      have HU := Lib.hid (under_rest (a := a) (b := b) hh hp)
      have HP := Lib.hid (show Lib.hasPrefix a.p b.p = true from hp)
      have HTP := Lib.hid (show Lib.trimPrefix a.p b.p = a.p.drop b.p.length by
        unfold Lib.trimPrefix; rw [show Lib.hasPrefix a.p b.p = true from hp]; rfl)
      have HSX := Lib.hid (suffix47 b.p)
      clear hp hh
      obtain ⟨ah, ap, aq, ab⟩ := a
      obtain ⟨bh, bp, bq, bb⟩ := b
      simp only at *
      cases hr : ap.drop bp.length with
      | nil =>
        rw [hr] at HU HTP
        have HR := Lib.hid (HU.out.trans (rest_nil bp))
        have e0 : ((strB []).toList == ([] : List UInt8)) = true := by rw [ByteArray.toList_eq]; rfl
        have e1 : (strB []).toList.isEmpty = true := by rw [ByteArray.toList_eq]; rfl
        clear hr
        go_enter Tryd.func19, Tryd.ntmps19
        go_wp2_with (go_at_call 41; refine (HCP.out _).mono ?_; rintro e w' ⟨rfl, rfl⟩; rw [HP.out, HTP.out])
        go_ret
        exact ⟨ret_bool HR.out.symm, (below_new _ _).alloc (by simp) _⟩
      | cons c t =>
        rw [hr] at HU HTP
        obtain ⟨r, hrr⟩ : ∃ r, r = strB (c :: t) := ⟨_, rfl⟩
        have HC2 := Lib.hid (show ∀ w : World, Calls Tryd.prog 41 #[.string (strB ap), .string (strB bp)] w fun e w' => e = .returned (.tuple #[.string r, .bool true]) ∧ w = w' from fun w => by
          refine (HCP.out w).mono ?_
          rintro e w' ⟨rfl, rfl⟩
          rw [HP.out, HTP.out, hrr]
          exact ⟨rfl, rfl⟩)
        have hz : 0 < r.size := by rw [hrr, strB_size]; simp
        have e0 : (r.toList == ([] : List UInt8)) = false := by rw [hrr, ByteArray.toList_eq, strB_list]; rfl
        have e1 : r.toList.isEmpty = false := by rw [hrr, ByteArray.toList_eq, strB_list]; rfl
        have h0 : r[0] = c := by subst hrr; rfl
        clear hr hrr HCP HTP HP
        by_cases hc : c.toNat = 47
        · have HR := Lib.hid (HU.out.trans (rest_slash hc t bp))
          have h0' : ((r[0].toNat : Int) == 47) = true := by rw [h0, hc]; rfl
          clear hc h0 HU
          go_enter Tryd.func19, Tryd.ntmps19
          go_wp2_with (go_at_call 41; refine (HC2.out _).mono ?_; rintro e w' ⟨rfl, rfl⟩)
          go_ret
          exact ⟨ret_bool HR.out.symm, (below_new _ _).alloc (by simp) _⟩
        · have HR := Lib.hid (HU.out.trans ((rest_other hc t bp).trans HSX.out.symm))
          have h0' : ((r[0].toNat : Int) == 47) = false := by rw [h0]; simp; omega
          clear hc h0 HU
          go_enter Tryd.func19, Tryd.ntmps19
          go_wp2_with (first
            | (go_at_call 41; refine (HC2.out _).mono ?_; rintro e w' ⟨rfl, rfl⟩)
            | (go_at_call 42; refine (HHS.out _).mono ?_; rintro e w' ⟨rfl, rfl⟩))
          go_ret
          exact ⟨ret_bool HR.out.symm, (below_new _ _).alloc (by simp) _⟩
  · have hhe : ((strB a.h).toList == (strB b.h).toList) = false := by rw [ByteArray.toList_eq, ByteArray.toList_eq, strB_list, strB_list]; simpa using hh
    have HR := Lib.hid (under_host (b := b) hh)
    clear hh
    obtain ⟨ah, ap, aq, ab⟩ := a
    obtain ⟨bh, bp, bq, bb⟩ := b
    simp only at *
    generalize Lib.hasPrefix ap bp = hp at *
    generalize Lib.trimPrefix ap bp = tp at *
    go_enter Tryd.func19, Tryd.ntmps19
    go_wp2_with (go_at_call 41; refine (HCP.out _).mono ?_; rintro e w' ⟨rfl, rfl⟩)
    go_ret
    exact ⟨ret_bool HR.out.symm, (below_new _ _).alloc (by simp) _⟩
end Go.Proofs.YtllkldbiagkbcaaDoor
