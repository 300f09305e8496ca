/- FieldKeeps: for every list of fields, two names and a value the statement's function returns true: the walk. -/
import Derived.Test.YthpjemihbobjfaaFAdd
import Derived.Test.YthpjemihbobjfaaTexts
import Derived.Deep.RegionHeld3
import Derived.Deep.DeepCutAuto
import Derived.BigFrame
namespace Go.Proofs.Ythpjemihbobjfaa.keeps
open Go.RowKit

theorem own_madeS (w : World) : OwnsS w.heap.size (w.alloc (.cells #[] 9)) (.slice (some ⟨w.heap.size, 0, none⟩) 0 0) [] :=
  World.ownsRow_made w #[] 0 (Nat.le_refl _) (Nat.zero_le _) (by simp)
theorem saneS {B : Nat} {w : World} {v : Value} {ls : List (List UInt8)} (h : OwnsS B w v ls) : Sane v := by
  rcases h with ⟨hl, ⟨hv, hn⟩ | ⟨g, cap, cur, hv, hb, hg, hn, _⟩⟩
  · intro a n c e; rw [hv] at e; cases e; exact ⟨Nat.le_refl _, fun _ => rfl⟩
  · intro a n c e; rw [hv] at e; cases e; exact ⟨hn, fun h => by cases h⟩
theorem reads_one (w : World) (s : ByteArray) : ReadsS (w.alloc (.cells #[.string s] 9)) (.slice (some ⟨w.heap.size, 0, none⟩) 1 1) [s.data.toList] := by
  refine ⟨_, 1, rfl, fun j l hj => ⟨w.heap.size, 0, rfl, by simp, ?_⟩⟩
  rw [World.cell?_alloc_at _ _ _ _ rfl]
  match j, hj with
  | 0, hj => simp at hj; subst hj; rw [strB_of]; rfl
  | j + 1, hj => simp at hj
theorem own_appS {B : Nat} {w : World} {v : Value} {ls ms : List (List UInt8)} (h : w.ownsRow B 9 1 v (ls.length + ms.length) (ls.map strV ++ ms.map strV)) : OwnsS B w v (ls ++ ms) := by
  unfold OwnsS; rw [List.length_append, List.map_append]; exact h
/-- An append of strings that are read to a slice that the call made, whatever the guard. -/
theorem wpList_appendS {B : Nat} {w : World} {ops : Array Oper} {rest : List Oper} {o : Oper} {a : Act} {Q : Exit → Act → World → Prop} (hw : Region.wanted o (yielded ops a.tmps) = true) (s x : Operand)
    (ho : o.op = .call { callee := .builtin .append, args := #[s, x], argTypes := #[32, 32] }) (v v2 : Value) (hs : a.eval s = v) (hx : a.eval x = v2) {ls ms : List (List UInt8)} (hown : OwnsS B w v ls) (hr : ReadsS w v2 ms) (hp : Sane v2)
    (hn : ls.length + ms.length ≤ 100000) (hB : B ≤ w.heap.size) (h : ∀ v' w', OwnsS B w' v' (ls ++ ms) → w.grownBy w' v.ownBlock → wpList Try.prog ops Q rest (a.put o.dst v') w') :
    wpList Try.prog ops Q (o :: rest) a w := by
  obtain ⟨i0, hi, hz0, hz1, hz2⟩ := info_parts Try.infoS
  refine BigFrame.wpList_want hw fun K hK => ?_
  obtain ⟨ao, cap, rfl, hc⟩ := hr
  cases ao with
  | none =>
    have hm : ms = [] := by
      cases ms with
      | nil => rfl
      | cons m r => obtain ⟨g, off, ha, _⟩ := hc 0 m rfl; cases ha
    subst hm
    obtain rfl := (hp _ _ _ rfl).2 rfl
    have hrun := run_append_owned_none (P := Try.prog) (w := w) B 32 o.type 9 i0 1 Try.underlying32 hi v ls.length (ls.map strV) hown
    unfold Oper.wp
    simp [execOp, ho, resolve, invoke, builtin, hs, hx, hrun, Result.andThen]
    exact hK _ _ (h v w (by rw [List.append_nil]; exact hown) ⟨rfl, rfl, rfl, Nat.le_refl _, fun _ _ _ => rfl⟩)
  | some ad =>
    refine wp_append_own w s x 32 ho B 9 i0 _ 1 16 Try.underlying32 hi hz0 hz1 hz2 rfl (by decide) v ls.length (ls.map strV) hs hown ad ms.length cap (ms.map strV) hx (by simp) (fun j u hj => ?_) (fun u hu => ?_) (by unfold maxLen; omega) (by omega) hB
      fun v' w' h1 h2 _ => hK _ _ (h v' w' (own_appS h1) h2)
    · rw [List.getElem?_map] at hj
      cases hm : ms[j]? with
      | none => rw [hm] at hj; cases hj
      | some m =>
        rw [hm] at hj
        simp only [Option.map_some, Option.some.injEq] at hj
        obtain ⟨g, off, ha, _, h1⟩ := hc j m hm
        obtain rfl : ad = ⟨g, off, none⟩ := Option.some.inj ha
        rw [Addr.add_lit, ← hj]; exact h1
    · obtain ⟨m, _, rfl⟩ := List.mem_map.mp hu; rfl
theorem texts_same (va vb : Value) (l : List (List UInt8)) (w : World) (ha : ReadsS w va l) (hb : ReadsS w vb l) (hl : l.length ≤ 1000000) :
    Calls Try.prog 13 #[va, vb] w fun e w' => e = .returned (.bool true) ∧ Below w.heap.size w w' :=
  (texts_any va vb l l w ha hb hl hl).mono fun e w' ⟨he, n, hw⟩ => ⟨by rw [he, decide_eq_true rfl], by rw [hw]; exact below_drewN (Below.refl _ _) n⟩

/-- The two names are where they were put, and what was there before the call is as it was. -/
def KS (w : World) (s0 s1 : ByteArray) (vf : Value) (ps : Flds) (w' : World) : Prop :=
  w'.cell? ⟨w.heap.size, 0, none⟩ = some (.string s0) ∧ w'.cell? ⟨w.heap.size, 1, none⟩ = some (.string s1) ∧ Below w.heap.size w w' ∧ ReadsQ w' vf ps
theorem KS.below {w : World} {s0 s1 : ByteArray} {vf : Value} {ps : Flds} {w1 w2 : World} (h : KS w s0 s1 vf ps w1) (hb : Below w1.heap.size w1 w2) : KS w s0 s1 vf ps w2 :=
  ⟨(hb.cell (World.block_lt_of_cell? w1 _ h.1)).trans h.1, (hb.cell (World.block_lt_of_cell? w1 _ h.2.1)).trans h.2.1, h.2.2.1.trans (hb.mono h.2.2.1.size), h.2.2.2.below hb⟩
theorem KS.drew {w : World} {s0 s1 : ByteArray} {vf : Value} {ps : Flds} {w1 : World} (h : KS w s0 s1 vf ps w1) : KS w s0 s1 vf ps w1.drew := h.below (below_drewN (Below.refl _ _) 1)
def St (w : World) (s0 s1 : ByteArray) (vf v1 v2 v3 : Value) (ps l1 l2 l3 : Flds) (w' : World) : Prop :=
  KS w s0 s1 vf ps w' ∧ ReadsQ w' v1 l1 ∧ ReadsQ w' v2 l2 ∧ ReadsQ w' v3 l3
theorem St.below {w : World} {s0 s1 : ByteArray} {vf v1 v2 v3 : Value} {ps l1 l2 l3 : Flds} {w1 w2 : World} (h : St w s0 s1 vf v1 v2 v3 ps l1 l2 l3 w1) (hb : Below w1.heap.size w1 w2) : St w s0 s1 vf v1 v2 v3 ps l1 l2 l3 w2 :=
  ⟨h.1.below hb, h.2.1.below hb, h.2.2.1.below hb, h.2.2.2.below hb⟩
theorem St.drew {w : World} {s0 s1 : ByteArray} {vf v1 v2 v3 : Value} {ps l1 l2 l3 : Flds} {w1 : World} (h : St w s0 s1 vf v1 v2 v3 ps l1 l2 l3 w1) : St w s0 s1 vf v1 v2 v3 ps l1 l2 l3 w1.drew := h.below (below_drewN (Below.refl _ _) 1)
theorem mem_rem {ps : Flds} {n : List UInt8} {p : List UInt8 × List UInt8} (h : p ∈ remL ps n) : p ∈ ps := (List.mem_filter.mp h).1
theorem mem_set {ps : Flds} {n v : List UInt8} {p : List UInt8 × List UInt8} (h : p ∈ setL ps n v) : p ∈ ps ∨ p = (lowS n, v) := by
  induction ps with
  | nil => simp [setL] at h; exact .inr h
  | cons q r ih =>
    rw [setL] at h
    split at h
    · rcases List.mem_cons.1 h with h | h
      · exact .inr h
      · exact .inl (List.mem_cons_of_mem _ (mem_rem h))
    · rcases List.mem_cons.1 h with h | h
      · exact .inl (by rw [h]; exact List.mem_cons_self ..)
      · exact (ih h).imp (List.mem_cons_of_mem _) id
theorem bound_new {n v : List UInt8} (h : n.length + v.length ≤ 1000000) {p : List UInt8 × List UInt8} (hp : p = (lowS n, v)) : p.1.length + p.2.length ≤ 1000000 := by rw [hp]; show (lowS n).length + _ ≤ _; rw [lowS_len]; exact h
theorem bound_set {ps : Flds} {n v : List UInt8} (hb : ∀ p ∈ ps, p.1.length + p.2.length ≤ 1000000) (h : n.length + v.length ≤ 1000000) : ∀ p ∈ setL ps n v, p.1.length + p.2.length ≤ 1000000 :=
  fun p hp => (mem_set hp).elim (hb p) (bound_new h)
theorem bound_add {ps : Flds} {n v : List UInt8} (hb : ∀ p ∈ ps, p.1.length + p.2.length ≤ 1000000) (h : n.length + v.length ≤ 1000000) : ∀ p ∈ addL ps n v, p.1.length + p.2.length ≤ 1000000 :=
  fun p hp => (List.mem_append.1 hp).elim (hb p) fun h' => bound_new h (by simpa using h')
theorem bound_rem {ps : Flds} {n : List UInt8} (hb : ∀ p ∈ ps, p.1.length + p.2.length ≤ 1000000) : ∀ p ∈ remL ps n, p.1.length + p.2.length ≤ 1000000 := fun p hp => hb p (mem_rem hp)
/-- What All gives, for a list that is read. -/
theorem all_k (v : Value) (l : Flds) (s : ByteArray) (x : List (List UInt8)) (hx : allL l s.data.toList = x) (hs : s.size ≤ 1000000000) (hl : l.length ≤ 1000000) (hb : ∀ p ∈ l, p.1.length + p.2.length ≤ 1000000) :
    ∀ w, ReadsQ w v l → Calls Try.prog 14 #[v, .string s] w fun e w' => ∃ u, e = .returned u ∧ OwnsS w.heap.size w' u x ∧ Below w.heap.size w w' := by
  intro w hr
  subst hx
  exact all_any v l s w hr hs hl hb
theorem lower_k (w : World) (s0 s1 : ByteArray) (vf v1 v2 v3 : Value) (ps l1 l2 l3 : Flds) (s : ByteArray) (hs : s.size ≤ 1000000000) : ∀ w', St w s0 s1 vf v1 v2 v3 ps l1 l2 l3 w' →
    Calls Try.prog 23 #[.string s] w' fun e w'' => e = .returned (.string (strB (lowS s.data.toList))) ∧ St w s0 s1 vf v1 v2 v3 ps l1 l2 l3 w'' :=
  fun w' h => (refLower_any s w' hs).mono fun e w'' ⟨he, hb⟩ => ⟨he, h.below hb⟩
theorem sane_one (a : Addr) : Sane (.slice (some a) 1 1) := fun x n c e => by cases e; exact ⟨Nat.le_refl _, fun h => by cases h⟩
end Go.Proofs.Ythpjemihbobjfaa.keeps
