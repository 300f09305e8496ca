/- What vary.isLike, New and Put of a set return, and what they leave. -/
import Derived.Test.YtbmbcdbldbjddaaGreatDoorVyDel
import Derived.Test.YtbmbcdbldbjddaaGreatDoorVyPut
import Derived.Test.YtbmbcdbldbjddaaGreatDoorVyEq
namespace Go.Proofs.YtbmbcdbldbjddaaGreatDoor
open Go.RowKit

set_option maxHeartbeats 4000000 in
set_option maxRecDepth 100000 in
theorem like_any (e f : Vr) (na : Option Addr) (nn nc : Nat) (ma : Option Addr) (mn mc : Nat) (w : World) (he : ReadsS w (.slice na nn nc) e.ns) (hf : ReadsS w (.slice ma mn mc) f.ns) (hl : e.ns.length ≤ 100000000) :
    Calls Tryz.prog 25 #[.agg #[.slice na nn nc, .string (strB e.key), .int .i64 e.id], .agg #[.slice ma mn mc, .string (strB f.key), .int .i64 f.id]] w fun x w' => x = .returned (.bool (sameV f.ns f.key e)) ∧ Below w.heap.size w w' := by
  have hB1 := below_new w (.cells #[.slice na nn nc, .string (strB e.key), .int .i64 e.id] 62)
  have hB2 := hB1.trans ((below_new (w.alloc (.cells #[.slice na nn nc, .string (strB e.key), .int .i64 e.id] 62)) (.cells #[.slice ma mn mc, .string (strB f.key), .int .i64 f.id] 62)).mono hB1.size)
  have HB2 := Lib.hid hB2
  have hk := three_kept (below_new (w.alloc (.cells #[.slice na nn nc, .string (strB e.key), .int .i64 e.id] 62)) (.cells #[.slice ma mn mc, .string (strB f.key), .int .i64 f.id] 62))
  obtain ⟨k0, k1, k2⟩ := hk
  obtain ⟨j0, j1, j2⟩ := new_three (w.alloc (.cells #[.slice na nn nc, .string (strB e.key), .int .i64 e.id] 62)) (.slice ma mn mc) (.string (strB f.key)) (.int .i64 f.id) 62
  have HQ := Lib.hid (fun (W : World) (hB : Below w.heap.size w W) => equalT_any _ _ e.ns f.ns W (he.below hB) (hf.below hB) hl)
  clear he hf hB1 hB2
  by_cases hk : e.key = f.key
  · have hq : ((strB e.key).toList == (strB f.key).toList) = true := toList_same hk
    have HV := Lib.hid (show sameV f.ns f.key e = decide (e.ns = f.ns) by unfold sameV; simp [hk])
    clear hk
    go_enter Tryz.func25, Tryz.ntmps25
    go_wp2_with fail
    refine (HQ.out _ HB2.out).mono ?_
    rintro x w2 ⟨rfl, n, rfl⟩
    have HB3 := Lib.hid (below_drewN HB2.out n)
    cases hd : decide (e.ns = f.ns) with
    | true =>
      rw [hd] at HV
      clear hd
      go_wp2_with fail
      go_ret
      exact ⟨by rw [HV.out]; rfl, HB3.out⟩
    | false =>
      rw [hd] at HV
      clear hd
      go_wp2_with fail
      go_ret
      exact ⟨by rw [HV.out]; rfl, HB3.out⟩
  · have hq : ((strB e.key).toList == (strB f.key).toList) = false := toList_other hk
    have HV := Lib.hid (show sameV f.ns f.key e = false by unfold sameV; simp [hk])
    clear hk
    go_enter Tryz.func25, Tryz.ntmps25
    go_wp2_with fail
    go_ret
    exact ⟨by rw [HV.out]; rfl, HB2.out⟩
/-- A new set: no variants. -/
theorem setNew_any (w : World) :
    Calls Tryz.prog 10 #[] w fun x w' => x = .returned (.pointer (some ⟨w.heap.size, 0, none⟩)) ∧ SetO (fun k => k = w.heap.size) w' w.heap.size [] ∧ Below w.heap.size w w' := by
  have HS := Lib.hid (show SetO (fun k => k = w.heap.size) (w.alloc (.cells #[.slice none 0 0] 60)) w.heap.size [] from
    ⟨⟨.slice none 0 0, fun _ => False, heap_alloc_new w _, OwnsV.nil _ _ _, fun h => h, by simp [Value.ownBlock], fun _ h => h.elim, fun k h => by simp [Value.ownBlock] at h⟩, rfl, fun k hk => by rw [hk]; simp⟩)
  go_enter Tryz.func10, Tryz.ntmps10
  go_wp2
  go_ret
  exact ⟨rfl, HS.out, below_new _ _⟩
/-- An int is appended to a list of ints. -/
theorem wpList_appendI {B : Nat} {w : World} {ops : Array Oper} {rest : List Oper} {o : Oper} {a : Act} {Q : Exit → Act → World → Prop} (hgd : o.guard = none) (s x : Operand)
    (ho : o.op = .call { callee := .builtin .append, args := #[s, x], argTypes := #[40, 40] }) (v : Value) (hs : a.eval s = v) {zs : List Int} (hown : OwnsI B w v zs) (g : Nat) (hx : a.eval x = .slice (some ⟨g, 0, none⟩) 1 1)
    {z : Int} (hc : ∀ j u, [Value.int .i64 z][j]? = some u → w.cell? ((⟨g, 0, none⟩ : Addr).add j) = some u) (hn : zs.length ≤ 1000000000) (hB : B ≤ w.heap.size)
    (h : ∀ v' w', OwnsI B w' v' (zs ++ [z]) → w.grownBy w' v.ownBlock → (v'.ownBlock = v.ownBlock ∨ v'.ownBlock = some w.heap.size) → wpList Tryz.prog ops Q rest (a.put o.dst v') w') :
    wpList Tryz.prog ops Q (o :: rest) a w := by
  obtain ⟨i0, hi, hz0, hz1, hz2⟩ := info_parts Tryz.infoI
  refine wpList_plain hgd fun K hK => ?_
  obtain ⟨v', w', hr', hrow, hg, _, hat⟩ := run_append_own_at (P := Tryz.prog) w B 40 o.type 3 i0 _ 1 8 Tryz.underlying40 hi hz0 hz1 hz2 rfl (by decide) v zs.length (zs.map (Value.int .i64)) hown ⟨g, 0, none⟩ 1 1 [.int .i64 z] rfl hc (fun u hu => by simp at hu; subst hu; rfl) (by unfold maxLen; omega) (by omega) hB
  unfold Oper.wp execOp
  simp only [ho, resolve, invoke, builtin, Sem.run_bind, Sem.run_pure, Result.andThen_ok, List.map_toArray, List.map_cons, List.map_nil, hs, hx, hr']
  exact hK _ _ (h v' w' (OwnsI.snoc hrow) hg hat)
/-- A list of one variant, made by the program. -/
theorem OwnsV.single {T : TypeId} {B : Nat} {Z : Nat → Prop} {w : World} {e : Vr} {n : Value} (hE : ReadsG Z w n e.ns) (hZ : ∀ k, Z k → k < w.heap.size) (hB : B ≤ w.heap.size) :
    OwnsV T B Z (w.alloc (.cells #[n, .string (strB e.key), .int .i64 e.id] T)) (.slice (some ⟨w.heap.size, 0, none⟩) 1 1) [e] := by
  refine ⟨[vrC e n], ?_, rfl, fun i x f hx hf => ?_, fun k hk hz => ?_, fun k hk => Nat.lt_of_lt_of_le (hZ k hk) (by simp)⟩
  · exact ⟨rfl, .inr ⟨w.heap.size, 1, _, rfl, hB, heap_alloc_new w _, Nat.le_refl _, by unfold maxLen; omega, rfl, rfl⟩⟩
  · cases i with
    | zero =>
      simp at hx hf
      subst hx hf
      exact ⟨n, rfl, hE.only (Only.below (X := fun _ => False) (below_new _ _)) (fun _ _ _ h => h)⟩
    | succ i => simp at hx
  · have e : w.heap.size = k := Option.some.inj hk
    subst e
    exact Nat.lt_irrefl _ (hZ _ hz)
theorem putS_gone {ns : List (List UInt8)} {key : List UInt8} {M : List Vr} {x K : List Vr} {R : List Int} {k : Nat} {p : Vr} (hp : M[k]? = some p) (h : (M.take k).foldl (stP ns key) (x, []) = (K, R)) (hc : sameV ns key p = true ∨ K.length = 16) :
    (M.take (k + 1)).foldl (stP ns key) (x, []) = (K, R ++ [p.id]) := by
  rw [take_more hp, List.foldl_append, h, List.foldl_cons, List.foldl_nil]; unfold stP; rw [if_pos hc]
theorem putS_kept {ns : List (List UInt8)} {key : List UInt8} {M : List Vr} {x K : List Vr} {R : List Int} {k : Nat} {p : Vr} (hp : M[k]? = some p) (h : (M.take k).foldl (stP ns key) (x, []) = (K, R)) (h1 : sameV ns key p = false) (h2 : K.length ≠ 16) :
    (M.take (k + 1)).foldl (stP ns key) (x, []) = (K ++ [p], R) := by
  rw [take_more hp, List.foldl_append, h, List.foldl_cons, List.foldl_nil]; unfold stP; rw [if_neg (by simp [h1, h2])]
theorem putS_gl (ns : List (List UInt8)) (key : List UInt8) (M : List Vr) : ∀ x : List Vr × List Int, (M.foldl (stP ns key) x).2.length ≤ x.2.length + M.length := by
  induction M with
  | nil => intro x; simp
  | cons v t ih =>
    intro x
    rw [List.foldl_cons, List.length_cons]
    have h1 := ih (stP ns key x v)
    have h2 : (stP ns key x v).2.length ≤ x.2.length + 1 := by
      unfold stP
      split
      · simp
      · exact Nat.le_succ _
    omega
theorem putS_ne (ns : List (List UInt8)) (key : List UInt8) (M : List Vr) : ∀ x : List Vr × List Int, x.1 ≠ [] → (M.foldl (stP ns key) x).1 ≠ [] := by
  induction M with
  | nil => intro x h; exact h
  | cons v t ih =>
    intro x h
    rw [List.foldl_cons]
    refine ih _ ?_
    unfold stP
    split
    · exact h
    · simp
/-- What Put leaves. -/
def PutPost (F : Nat → Prop) (sa : Nat) (l : List Vr) (ns : List (List UInt8)) (key : List UInt8) (id : Int) (w w' : World) (v : Value) : Prop :=
  ∃ F' : Nat → Prop, OwnsI w.heap.size w' v (goneV l ns key id) ∧ SetO F' w' sa (putV l ns key id) ∧ Only F w w' ∧ ∀ k, F' k → F k ∨ w.heap.size ≤ k
/-- The list of the loop: what it kept, what it removed. -/
structure PuR (B : Nat) (Y : Nat → Prop) (ns : List (List UInt8)) (key : List UInt8) (M : List Vr) (p0 : Vr) (w0 : World) (k : Nat) (K : List Vr) (R : List Int) (u r : Value) (wr : World) : Prop where
  lt : ∀ j, Y j → j < B
  fold : (M.take k).foldl (stP ns key) ([p0], []) = (K, R)
  own : OwnsV 62 B Y wr u K
  ints : OwnsI B wr r R
  two : ∀ j, u.ownBlock = some j → r.ownBlock ≠ some j
  l : Below B w0 wr
theorem PuR.len {B : Nat} {Y : Nat → Prop} {ns : List (List UInt8)} {key : List UInt8} {M : List Vr} {p0 : Vr} {w0 : World} {k : Nat} {K : List Vr} {R : List Int} {u r : Value} {wr : World} (h : PuR B Y ns key M p0 w0 k K R u r wr) (hM : M.length ≤ 16) : K.length ≤ 16 ∧ R.length ≤ 16 := by
  have h1 := stP_len ns key (M.take k) ([p0], []) (by simp)
  have h2 := putS_gl ns key (M.take k) ([p0], [])
  rw [h.fold] at h1 h2
  simp only [List.length_nil, List.length_take] at h2
  exact ⟨h1, by omega⟩
theorem own_lt {T : TypeId} {B : Nat} {Y : Nat → Prop} {w : World} {v : Value} {es : List Vr} (h : OwnsV T B Y w v es) : ∀ k, v.ownBlock = some k → B ≤ k ∧ k < w.heap.size := by
  obtain ⟨xs, h1, _⟩ := h
  exact fun k hk => World.ownsRow.lt h1 k hk
/-- A number more is removed. -/
theorem PuR.gone {B : Nat} {Y : Nat → Prop} {ns : List (List UInt8)} {key : List UInt8} {M : List Vr} {p0 : Vr} {w0 : World} {k : Nat} {K : List Vr} {R : List Int} {u r : Value} {wr w1 w2 : World} {p : Vr} {r' : Value} {o : Obj} (h : PuR B Y ns key M p0 w0 k K R u r wr) (hp : M[k]? = some p) (hc : sameV ns key p = true ∨ K.length = 16)
    (hB1 : Below wr.heap.size wr w1) (hBs : B ≤ wr.heap.size) (ho : OwnsI B w2 r' (R ++ [p.id])) (hg : (w1.alloc o).grownBy w2 r.ownBlock) (hat : r'.ownBlock = r.ownBlock ∨ r'.ownBlock = some (w1.alloc o).heap.size) : PuR B Y ns key M p0 w0 (k + 1) K (R ++ [p.id]) u r' w2 := by
  have h1 : Below wr.heap.size wr (w1.alloc o) := hB1.alloc hB1.size o
  have hO : Only (fun j => r.ownBlock = some j) (w1.alloc o) w2 := Only.grown hg (fun j hj => .inl hj)
  have hown := h.own.below h1
  refine ⟨h.lt, putS_gone hp h.fold hc, hown.only hO (fun j hj e => ?_) (fun j hj e => h.two j hj e), ho, fun j hj e => ?_, h.l.trans ((h1.mono hBs).trans (hO.to (fun j hj => (World.ownsRow.lt h.ints j hj).1) (by have := h1.size; omega)))⟩
  · exact Nat.lt_irrefl _ (Nat.lt_of_lt_of_le (h.lt j hj) (World.ownsRow.lt h.ints j e).1)
  · rcases hat with a | a
    · exact h.two j hj (by rw [← a]; exact e)
    · rw [a] at e
      have e := Option.some.inj e
      subst e
      exact Nat.lt_irrefl _ (own_lt hown _ hj).2
/-- A variant more is kept. -/
theorem PuR.kept {B : Nat} {Y : Nat → Prop} {ns : List (List UInt8)} {key : List UInt8} {M : List Vr} {p0 : Vr} {w0 : World} {k : Nat} {K : List Vr} {R : List Int} {u r : Value} {wr w1 w2 : World} {p : Vr} {u' : Value} {o : Obj} {Z : Nat → Prop} (h : PuR B Y ns key M p0 w0 k K R u r wr) (hp : M[k]? = some p) (h1 : sameV ns key p = false) (h2 : K.length ≠ 16)
    (hB1 : Below wr.heap.size wr w1) (hBs : B ≤ wr.heap.size) (hZ : ∀ j, Z j → Y j) (ho : OwnsV 62 B (fun j => Y j ∨ Z j) w2 u' (K ++ [p])) (hg : (w1.alloc o).grownBy w2 u.ownBlock) (hat : u'.ownBlock = u.ownBlock ∨ u'.ownBlock = some (w1.alloc o).heap.size) : PuR B Y ns key M p0 w0 (k + 1) (K ++ [p]) R u' r w2 := by
  have hb1 : Below wr.heap.size wr (w1.alloc o) := hB1.alloc hB1.size o
  have hO : Only (fun j => u.ownBlock = some j) (w1.alloc o) w2 := Only.grown hg (fun j hj => .inl hj)
  have hi := h.ints.below hb1
  have hsz : B ≤ w2.heap.size := by have a := hb1.size; have b := hO.size; omega
  refine ⟨h.lt, putS_kept hp h.fold h1 h2, ho.wide (fun j hj => hj.elim id (hZ j)) (fun j hj => Nat.lt_of_lt_of_le (h.lt j hj) hsz) (fun j hj e => Nat.lt_irrefl _ (Nat.lt_of_lt_of_le (h.lt j e) (own_lt ho j hj).1)), hi.only hO (fun j hj e => h.two j e hj), fun j hj e => ?_, h.l.trans ((hb1.mono hBs).trans (hO.to (fun j hj => (own_lt h.own j hj).1) (by have := hb1.size; omega)))⟩
  rcases hat with a | a
  · exact h.two j (by rw [← a]; exact hj) e
  · rw [a] at hj
    have hj := Option.some.inj hj
    subst hj
    exact Nat.lt_irrefl _ (World.ownsRow.lt hi _ e).2
theorem put_fin {F Y4 : Nat → Prop} {sa : Nat} {l : List Vr} {ns : List (List UInt8)} {key : List UInt8} {id : Int} {w w1 w4 wr : World} {M K : List Vr} {R : List Int} {u r : Value} {ao : Option Addr} {cap k : Nat}
    (hPR : PuR w4.heap.size (fun j => Y4 j ∨ (w.heap.size ≤ j ∧ j < w1.heap.size)) ns key M ⟨ns, key, id⟩ w4 k K R u r wr) (hk : M.length ≤ k) (hPF : M.foldl (stP ns key) ([⟨ns, key, id⟩], []) = (putV l ns key id, goneV l ns key id))
    (hbx : w4.heap[sa]? = some (.cells #[.slice ao M.length cap] 60 (0, 0))) (hYS : ¬ Y4 sa) (hYF : ∀ k, Y4 k → F k) (hme : F sa) (hFL : ∀ k, F k → k < w.heap.size) (hsa4 : sa < w4.heap.size)
    (hN4 : Only F w w4) (hZ2 : ∀ k, (w.heap.size ≤ k ∧ k < w1.heap.size) → k < w4.heap.size) : PutPost F sa l ns key id w (wr.setCell ⟨sa, 0, none⟩ u) r := by
  have hBr := hPR.l
  have hbr := hBr.size
  have hfo := hPR.fold
  rw [List.take_of_length_le hk, hPF] at hfo
  have hKe : putV l ns key id = K := congrArg Prod.fst hfo
  have hRe : goneV l ns key id = R := congrArg Prod.snd hfo
  have hsx : wr.heap[sa]? = some (.cells #[.slice ao M.length cap] 60 (0, 0)) := (hBr.block sa hsa4).trans hbx
  have hsw : sa < w.heap.size := hFL sa hme
  have hww : w.heap.size ≤ w4.heap.size := hN4.size
  have hset : Only (fun j => j = sa) wr (wr.setCell ⟨sa, 0, none⟩ u) := Only.set (X := fun j => j = sa) rfl wr 0 u
  refine ⟨fun j => F j ∨ (w.heap.size ≤ j ∧ j < wr.heap.size), ?_, ⟨⟨u, fun j => Y4 j ∨ (w.heap.size ≤ j ∧ j < w1.heap.size), ?_, ?_, ?_, ?_, ?_, ?_⟩, .inl hme, fun j hj => ?_⟩, ?_, fun j hj => hj.elim .inl (fun e => .inr e.1)⟩
  · rw [hRe]
    exact (OwnsI.only hPR.ints hset (fun j hj e => by have := (World.ownsRow.lt hPR.ints j hj).1; omega)).mono hww
  · have := Go.Joins.block_setCell (i := 0) hsx u
    simpa using this
  · rw [hKe]
    exact (hPR.own.only hset (fun j hj e => by
      rcases hj with hj | hj
      · exact hYS (e ▸ hj)
      · omega) (fun j hj e => by have := (own_lt hPR.own j hj).1; omega)).base (fun _ _ => Nat.zero_le _)
  · rintro (h | h)
    · exact hYS h
    · omega
  · intro e
    have := (own_lt hPR.own sa e).1
    omega
  · intro j hj
    rcases hj with hj | hj
    · exact .inl (hYF j hj)
    · refine .inr ⟨hj.1, ?_⟩
      have := hZ2 j hj
      omega
  · intro j hj
    have := own_lt hPR.own j hj
    exact .inr ⟨by omega, this.2⟩
  · refine Nat.lt_of_lt_of_le ?_ hset.size
    rcases hj with hj | hj
    · have := hFL j hj; omega
    · exact hj.2
  · exact (hN4.trans (Only.below (X := fun _ => False) ⟨hBr.os, hBr.tape, hBr.output, hBr.size, hBr.block⟩) (fun _ h => h.elim)).trans' (Only.set (X := F) hme wr 0 u)
theorem infoV3 : (Tryz.prog.info? 62).map (fun i => (i.zero, i.size, i.bytes)) = some (some (.agg #[.slice none 0 0, .string ByteArray.empty, .int .i64 0]), 3, 48) := by kernel_rfl
set_option maxHeartbeats 16000000 in
set_option maxRecDepth 100000 in
theorem setPut_any (sa : Nat) (l : List Vr) (nv : Value) (ns : List (List UInt8)) (fv : Value) (ps : Flds) (id : Int) (F : Nat → Prop) (w : World) (hS : SetO F w sa l) (hI : InvV l) (hl : FitV l) (hn : ReadsS w nv ns) (hq : ReadsQ w fv ps) (hfn : FitN ns) (hfk : FitK ps) :
    Calls Tryz.prog 11 #[.pointer (some ⟨sa, 0, none⟩), nv, fv, .int .i64 id] w fun x w' => ∃ v, x = .returned v ∧ PutPost F sa l ns (keyL ns ps) id w w' v := by
  have hFl := hS.lt
  have HFL := Lib.hid hFl
  have HME := Lib.hid hS.me
  have HS := Lib.hid hS
  have HL := Lib.hid hl
  have HC := Lib.hid (cloneT_any nv ns w hn (by have := hfn.len; omega))
  have HK := Lib.hid (fun (W : World) (hB : Below w.heap.size w W) => key_any nv ns fv ps W (hn.below hB) (hq.below hB) hfn hfk)
  have HPF := Lib.hid (put_fold hI ns (keyL ns ps) id)
  have hol : (otherV l id).length ≤ 16 := Nat.le_trans (List.length_filter_le ..) hl.len
  have HOE := Lib.hid (fun v (hv : v ∈ otherV l id) => hl.each v (List.mem_filter.mp hv).1)
  have hnl := hfn.len
  clear hFl hS hI hl hn hq hfn hfk
  obtain ⟨key, hkey⟩ : ∃ key, keyL ns ps = key := ⟨_, rfl⟩
  rw [hkey] at HK HPF ⊢
  clear hkey
  go_enter Tryz.func11, Tryz.ntmps11
  go_wp2_with fail
  refine HC.out.mono ?_
  rintro x w1 ⟨v1, rfl, hO1, hB1⟩
  obtain ⟨na, nc, rfl, _⟩ := id_ hO1.reads
  have HB1 := Lib.hid hB1
  have hG1 := hO1.g
  go_wp2_with fail
  refine (HK.out _ hB1).mono ?_
  rintro x w2 ⟨rfl, hB2⟩
  have HB2 := Lib.hid (hB1.trans (hB2.mono hB1.size))
  have HG2 := Lib.hid (hG1.only (Only.below (X := fun _ => False) hB2) (fun _ _ _ h => h))
  have hs2 := HB2.out.size
  have HZ2 := Lib.hid (fun k (hk : w.heap.size ≤ k ∧ k < w1.heap.size) => Nat.lt_of_lt_of_le hk.2 hB2.size)
  clear hO1 hG1 hB1 hB2 HC HK
  obtain ⟨k0, k1, k2⟩ := new_three w2 (.slice na ns.length nc) (.string (strB key)) (.int .i64 id) 62
  have hB3 := HB2.out.trans ((below_new w2 (.cells #[.slice na ns.length nc, .string (strB key), .int .i64 id] 62)).mono hs2)
  have HR := Lib.hid (setRemove_any sa l id F (w2.alloc (.cells #[.slice na ns.length nc, .string (strB key), .int .i64 id] 62)) (HS.out.below hB3) (by have := HL.out.len; omega))
  have HG3 := Lib.hid (HG2.out.only (Only.below (X := fun _ => False) (below_new w2 (.cells #[.slice na ns.length nc, .string (strB key), .int .i64 id] 62))) (fun _ _ _ h => h))
  have HB3 := Lib.hid hB3
  clear hB3 HG2
  go_wp2_with fail
  refine HR.out.mono ?_
  rintro x w4 ⟨rfl, hS4, hN4⟩
  have hnF : ¬ F w2.heap.size := fun e => by have := HFL.out _ e; omega
  have hlt3 : w2.heap.size < (w2.alloc (.cells #[.slice na ns.length nc, .string (strB key), .int .i64 id] 62)).heap.size := by simp
  have c0 := (hN4.cell (p := ⟨w2.heap.size, 0, none⟩) hlt3 hnF).trans k0
  have c1 := (hN4.cell (p := ⟨w2.heap.size, 1, none⟩) hlt3 hnF).trans k1
  have c2 := (hN4.cell (p := ⟨w2.heap.size, 2, none⟩) hlt3 hnF).trans k2
  have h24 : w2.heap.size < w4.heap.size := Nat.lt_of_lt_of_le hlt3 hN4.size
  have HG4 := Lib.hid (HG3.out.only hN4 (fun k _ hk e => by have := HFL.out _ e; omega))
  have HN4 := Lib.hid ((Only.below (X := F) HB3.out).trans' hN4)
  obtain ⟨⟨v4, Y4, hb4, hO4, hYs4, hvs4, hYF4, hvF4⟩, _, hlt4⟩ := hS4
  obtain ⟨ao, cap, hv4, _⟩ := id_ (hO4.reads (G := fun _ => True) (fun _ _ _ => trivial) (fun _ _ _ => trivial))
  subst hv4
  have hcs : w4.cell? ⟨sa, 0, none⟩ = some (.slice ao (otherV l id).length cap) := by simp [World.cell?, hb4]
  have HBX := Lib.hid hb4
  have HO4 := Lib.hid hO4
  have HYS := Lib.hid hYs4
  have HYF := Lib.hid hYF4
  have HLT := Lib.hid hlt4
  clear hb4 hO4 hYs4 hvs4 hYF4 hvF4 hlt4 hN4 k0 k1 k2 HR HG3 HB3
  have HYL := Lib.hid (show ∀ j, (Y4 j ∨ (w.heap.size ≤ j ∧ j < w1.heap.size)) → j < w4.heap.size from fun j hj => hj.elim (fun e => HLT.out j (HYF.out j e)) (fun e => by have := HZ2.out j e; omega))
  have HP0 := Lib.hid (OwnsV.single (T := 62) (B := w4.heap.size) (Z := fun j => Y4 j ∨ (w.heap.size ≤ j ∧ j < w1.heap.size)) (e := ⟨ns, key, id⟩) (n := .slice na ns.length nc) (HG4.out.mono (fun k _ hk => .inr hk)) (fun k hk => HYL.out k hk) (Nat.le_refl _))
  have HB5 := Lib.hid (below_new w4 (.cells #[.slice na ns.length nc, .string (strB key), .int .i64 id] 62))
  have hs5 : w4.heap.size ≤ (w4.alloc (.cells #[.slice na ns.length nc, .string (strB key), .int .i64 id] 62)).heap.size := HB5.out.size
  have hsa4 := HLT.out sa HME.out
  have hcs5 : (w4.alloc (.cells #[.slice na ns.length nc, .string (strB key), .int .i64 id] 62)).cell? ⟨sa, 0, none⟩ = some (.slice ao (otherV l id).length cap) := (HB5.out.cell (p := ⟨sa, 0, none⟩) hsa4).trans hcs
  clear hcs
  have HC0 := Lib.hid c0
  have HC1 := Lib.hid c1
  have HC2 := Lib.hid c2
  obtain ⟨M, hM⟩ : ∃ M, otherV l id = M := ⟨_, rfl⟩
  rw [hM] at hol HOE HO4 HBX hcs5 HPF
  clear hM
  go_wp2_with fail
  go_loopw [10, 11, 33] (fun u r i wr => ∃ (k : Nat) (K : List Vr) (R : List Int), i = .int .i64 k ∧ k ≤ M.length ∧ PuR w4.heap.size (fun j => Y4 j ∨ (w.heap.size ≤ j ∧ j < w1.heap.size)) ns key M ⟨ns, key, id⟩ w4 k K R u r wr) (fun _ _ i _ => M.length - (intOf i).toNat)
  case atStart => exact ⟨0, [⟨ns, key, id⟩], [], rfl, Nat.zero_le _, HYL.out, rfl, HP0.out, OwnsI.nil _ _, fun j _ h => by simp [Value.ownBlock] at h, HB5.out⟩
  case round =>
    obtain ⟨k, K, R, rfl, hk, hPR⟩ := hrel
    have hBr := hPR.l
    have hbr := hBr.size
    obtain ⟨hKl, hRl⟩ := hPR.len hol
    by_cases hlt : k < M.length
    · obtain ⟨p, hp⟩ : ∃ p, M[k]? = some p := ⟨M[k], by simp [hlt]⟩
      obtain ⟨g, cap', n, e1, _, hg, _, d0, d1, d2, hrn, _⟩ := (HO4.out.below hBr).at hp
      simp only [Value.slice.injEq, true_and] at e1
      obtain ⟨rfl, rfl⟩ := e1
      obtain ⟨ma, mc, rfl, _⟩ := id_ hrn
      have b0 := (hBr.cell (p := ⟨w2.heap.size, 0, none⟩) h24).trans HC0.out
      have b1 := (hBr.cell (p := ⟨w2.heap.size, 1, none⟩) h24).trans HC1.out
      have b2 := (hBr.cell (p := ⟨w2.heap.size, 2, none⟩) h24).trans HC2.out
      have HRn := Lib.hid hrn
      have HR0 := Lib.hid (show ReadsS wr (.slice na ns.length nc) ns from by
        obtain ⟨ao', cap', e1, hc⟩ := HG4.out
        refine ⟨ao', cap', e1, fun j s hj => ?_⟩
        obtain ⟨q, off, a1, a2, _, a3⟩ := hc j s hj
        exact ⟨q, off, a1, Nat.lt_of_lt_of_le a2 hbr, (hBr.cell (p := ⟨q, off + j, none⟩) a2).trans a3⟩)
      have hpl := (HOE.out p (List.mem_of_getElem? hp)).len
      have HX := Lib.hid (fun (W : World) (hB : Below wr.heap.size wr W) => like_any p ⟨ns, key, id⟩ ma p.ns.length mc na ns.length nc W (HRn.out.s.below hB) (HR0.out.below hB) (by omega))
      have HP := Lib.hid hp
      have HPR := Lib.hid hPR
      have h2r : w2.heap.size < wr.heap.size := by omega
      clear hrn hp hPR hBr
      cases hd : sameV ns key p with
      | true =>
        rw [show sameV (⟨ns, key, id⟩ : Vr).ns (⟨ns, key, id⟩ : Vr).key p = true from hd] at HX
        have HD := Lib.hid hd
        clear hd
        go_wp2_with fail
        refine (HX.out _ (below_new _ _)).mono ?_
        rintro x w5 ⟨rfl, hB5⟩
        obtain ⟨q0, q1, q2⟩ := three_kept hB5
        have HB5b := Lib.hid (below_three hB5)
        have hs5b := HB5b.out.size
        clear hB5
        go_wp2_with (at_builtin; refine wpList_appendI rfl _ _ rfl _ rfl (HPR.out.ints.below ((HB5b.out.alloc HB5b.out.size _))) w5.heap.size rfl (z := p.id) (cell_one_new _ _ _) (by omega) (by simp; omega) ?_; intro r' w6 hown' hgrow hat)
        go_roundw
        case rel => exact ⟨k + 1, K, R ++ [p.id], by go_num, by omega, HPR.out.gone HP.out (.inl HD.out) HB5b.out hbr hown' hgrow hat⟩
        case measure => simp [intOf]; omega
      | false =>
        rw [show sameV (⟨ns, key, id⟩ : Vr).ns (⟨ns, key, id⟩ : Vr).key p = false from hd] at HX
        have HD := Lib.hid hd
        clear hd
        go_wp2_with fail
        refine (HX.out _ (below_new _ _)).mono ?_
        rintro x w5 ⟨rfl, hB5⟩
        obtain ⟨q0, q1, q2⟩ := three_kept hB5
        have HB5b := Lib.hid (below_three hB5)
        have hs5b := HB5b.out.size
        clear hB5
        rcases HPR.out.own.val with ⟨rfl, hnil⟩ | ⟨ug, ucap, rfl, hub, hug, hul⟩
        · exfalso
          have h1 := putS_ne ns key (M.take k) ([⟨ns, key, id⟩], []) (by simp)
          rw [HPR.out.fold] at h1
          exact h1 hnil
        · by_cases h16 : K.length = 16
          · have HD16 := Lib.hid h16
            have e16 : ((K.length : Int) == 16) = true := by rw [h16]; rfl
            clear h16
            go_wp2_with (at_builtin; refine wpList_appendI rfl _ _ rfl _ rfl (HPR.out.ints.below ((HB5b.out.alloc HB5b.out.size _))) w5.heap.size rfl (z := p.id) (cell_one_new _ _ _) (by omega) (by simp; omega) ?_; intro r' w6 hown' hgrow hat)
            go_roundw
            case rel => exact ⟨k + 1, K, R ++ [p.id], by go_num, by omega, HPR.out.gone HP.out (.inr HD16.out) HB5b.out hbr hown' hgrow hat⟩
            case measure => simp [intOf]; omega
          · have HD16 := Lib.hid h16
            have e16 : ((K.length : Int) == 16) = false := by simp; omega
            clear h16
            go_wp2_with (at_builtin; refine wpList_appendV (T := 62) (Z := Y4) Tryz.underlying58 infoV3 rfl _ _ rfl _ rfl (HPR.out.own.below ((HB5b.out.alloc HB5b.out.size _))) w5.heap.size rfl (e := p) (n := .slice ma p.ns.length mc) (cell_three_new _ _ _ _ _) rfl (HRn.out.only (Only.below (X := fun _ => False) (HB5b.out.alloc HB5b.out.size _)) (fun _ _ _ h => h)) (fun j hj => by have h1 := HYL.out j (.inl hj); exact ⟨by simp; omega, fun e => Nat.lt_irrefl _ (Nat.lt_of_lt_of_le h1 (own_lt HPR.out.own j e).1)⟩) (by omega) (by simp; omega) ?_; intro u' w6 hown' hgrow hat)
            go_roundw
            case rel => exact ⟨k + 1, K ++ [p], R, by go_num, by omega, HPR.out.kept HP.out HD.out HD16.out HB5b.out hbr (fun _ h => .inl h) hown' hgrow hat⟩
            case measure => simp [intOf]; omega
    · have hBr2 := hPR.l
      have hsx : wr.heap[sa]? = some (.cells #[.slice ao M.length cap] 60 (0, 0)) := (hBr2.block sa hsa4).trans HBX.out
      have hcr : wr.cell? ⟨sa, 0, none⟩ = some (.slice ao M.length cap) := by simp [World.cell?, hsx]
      have hfr : wr.frozen? ⟨sa, 0, none⟩ = false := by simp [World.frozen?, hsx]
      rcases hPR.own.val with ⟨rfl, hnil⟩ | ⟨ug, ucap, rfl, _, _, _⟩
      · exfalso
        have h1 := putS_ne ns key (M.take k) ([⟨ns, key, id⟩], []) (by simp)
        rw [hPR.fold] at h1
        exact h1 hnil
      · have HFin := Lib.hid (put_fin hPR (by omega) HPF.out HBX.out HYS.out HYF.out HME.out HFL.out hsa4 HN4.out (fun k hk => Nat.lt_trans (HZ2.out k hk) h24))
        clear hPR hsx hBr2
        go_wp2_with fail
        go_ret
        exact ⟨_, rfl, HFin.out⟩
end Go.Proofs.YtbmbcdbldbjddaaGreatDoor
