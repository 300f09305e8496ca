/- FieldKeeps: for every list of fields, two names and a value the statement's function returns true: the walk. -/
import Derived.Test.YthpjemihbobjfaaFAdd
import Derived.Test.YthpjemihbobjfaaTexts
import Derived.Test.YthpjemihbobjfaaFAppS
import Derived.Deep.RegionHeld3
import Derived.Deep.DeepCutAuto
import Derived.BigFrame
namespace Go.Proofs.Ythpjemihbobjfaa.keeps
open Go.RowKit

theorem texts_same (va vb : Value) (l : List (List UInt8)) (w : World) (ha : ReadsS w va l) (hb : ReadsS w vb l) (hl : l.length ≤ 1000000) :
    Calls Try.prog 13 #[va, vb] w fun e w' => e = .returned (.bool true) ∧ Below w.heap.size w w' :=
  (texts_any va vb l l w ha hb hl hl).mono fun e w' ⟨he, n, hw⟩ => ⟨by rw [he, decide_eq_true rfl], by rw [hw]; exact below_drewN (Below.refl _ _) n⟩

/-- The two names are where they were put, and what was there before the call is as it was. -/
def KS (w : World) (s0 s1 : ByteArray) (vf : Value) (ps : Flds) (w' : World) : Prop :=
  w'.cell? ⟨w.heap.size, 0, none⟩ = some (.string s0) ∧ w'.cell? ⟨w.heap.size, 1, none⟩ = some (.string s1) ∧ Below w.heap.size w w' ∧ ReadsQ w' vf ps
theorem KS.below {w : World} {s0 s1 : ByteArray} {vf : Value} {ps : Flds} {w1 w2 : World} (h : KS w s0 s1 vf ps w1) (hb : Below w1.heap.size w1 w2) : KS w s0 s1 vf ps w2 :=
  ⟨(hb.cell (World.block_lt_of_cell? w1 _ h.1)).trans h.1, (hb.cell (World.block_lt_of_cell? w1 _ h.2.1)).trans h.2.1, h.2.2.1.trans (hb.mono h.2.2.1.size), h.2.2.2.below hb⟩
theorem KS.drew {w : World} {s0 s1 : ByteArray} {vf : Value} {ps : Flds} {w1 : World} (h : KS w s0 s1 vf ps w1) : KS w s0 s1 vf ps w1.drew := h.below (below_drewN (Below.refl _ _) 1)
def St (w : World) (s0 s1 : ByteArray) (vf v1 v2 v3 : Value) (ps l1 l2 l3 : Flds) (w' : World) : Prop :=
  KS w s0 s1 vf ps w' ∧ ReadsQ w' v1 l1 ∧ ReadsQ w' v2 l2 ∧ ReadsQ w' v3 l3
theorem St.below {w : World} {s0 s1 : ByteArray} {vf v1 v2 v3 : Value} {ps l1 l2 l3 : Flds} {w1 w2 : World} (h : St w s0 s1 vf v1 v2 v3 ps l1 l2 l3 w1) (hb : Below w1.heap.size w1 w2) : St w s0 s1 vf v1 v2 v3 ps l1 l2 l3 w2 :=
  ⟨h.1.below hb, h.2.1.below hb, h.2.2.1.below hb, h.2.2.2.below hb⟩
theorem St.drew {w : World} {s0 s1 : ByteArray} {vf v1 v2 v3 : Value} {ps l1 l2 l3 : Flds} {w1 : World} (h : St w s0 s1 vf v1 v2 v3 ps l1 l2 l3 w1) : St w s0 s1 vf v1 v2 v3 ps l1 l2 l3 w1.drew := h.below (below_drewN (Below.refl _ _) 1)
theorem mem_rem {ps : Flds} {n : List UInt8} {p : List UInt8 × List UInt8} (h : p ∈ remL ps n) : p ∈ ps := (List.mem_filter.mp h).1
theorem mem_set {ps : Flds} {n v : List UInt8} {p : List UInt8 × List UInt8} (h : p ∈ setL ps n v) : p ∈ ps ∨ p = (lowS n, v) := by
  induction ps with
  | nil => simp [setL] at h; exact .inr h
  | cons q r ih =>
    rw [setL] at h
    split at h
    · rcases List.mem_cons.1 h with h | h
      · exact .inr h
      · exact .inl (List.mem_cons_of_mem _ (mem_rem h))
    · rcases List.mem_cons.1 h with h | h
      · exact .inl (by rw [h]; exact List.mem_cons_self ..)
      · exact (ih h).imp (List.mem_cons_of_mem _) id
theorem bound_new {n v : List UInt8} (h : n.length + v.length ≤ 1000000) {p : List UInt8 × List UInt8} (hp : p = (lowS n, v)) : p.1.length + p.2.length ≤ 1000000 := by rw [hp]; show (lowS n).length + _ ≤ _; rw [lowS_len]; exact h
theorem bound_set {ps : Flds} {n v : List UInt8} (hb : ∀ p ∈ ps, p.1.length + p.2.length ≤ 1000000) (h : n.length + v.length ≤ 1000000) : ∀ p ∈ setL ps n v, p.1.length + p.2.length ≤ 1000000 :=
  fun p hp => (mem_set hp).elim (hb p) (bound_new h)
theorem bound_add {ps : Flds} {n v : List UInt8} (hb : ∀ p ∈ ps, p.1.length + p.2.length ≤ 1000000) (h : n.length + v.length ≤ 1000000) : ∀ p ∈ addL ps n v, p.1.length + p.2.length ≤ 1000000 :=
  fun p hp => (List.mem_append.1 hp).elim (hb p) fun h' => bound_new h (by simpa using h')
theorem bound_rem {ps : Flds} {n : List UInt8} (hb : ∀ p ∈ ps, p.1.length + p.2.length ≤ 1000000) : ∀ p ∈ remL ps n, p.1.length + p.2.length ≤ 1000000 := fun p hp => hb p (mem_rem hp)
/-- What All gives, for a list that is read. -/
theorem all_k (v : Value) (l : Flds) (s : ByteArray) (x : List (List UInt8)) (hx : allL l s.data.toList = x) (hs : s.size ≤ 1000000000) (hl : l.length ≤ 1000000) (hb : ∀ p ∈ l, p.1.length + p.2.length ≤ 1000000) :
    ∀ w, ReadsQ w v l → Calls Try.prog 14 #[v, .string s] w fun e w' => ∃ u, e = .returned u ∧ OwnsS w.heap.size w' u x ∧ Below w.heap.size w w' := by
  intro w hr
  subst hx
  exact all_any v l s w hr hs hl hb
theorem lower_k (w : World) (s0 s1 : ByteArray) (vf v1 v2 v3 : Value) (ps l1 l2 l3 : Flds) (s : ByteArray) (hs : s.size ≤ 1000000000) : ∀ w', St w s0 s1 vf v1 v2 v3 ps l1 l2 l3 w' →
    Calls Try.prog 23 #[.string s] w' fun e w'' => e = .returned (.string (strB (lowS s.data.toList))) ∧ St w s0 s1 vf v1 v2 v3 ps l1 l2 l3 w'' :=
  fun w' h => (refLower_any s w' hs).mono fun e w'' ⟨he, hb⟩ => ⟨he, h.below hb⟩
end Go.Proofs.Ythpjemihbobjfaa.keeps
