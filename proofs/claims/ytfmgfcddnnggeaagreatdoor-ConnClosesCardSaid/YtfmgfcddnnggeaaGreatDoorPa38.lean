import Derived.Test.YtfmgfcddnnggeaaGreatDoorPa34
import Derived.Test.YtfmgfcddnnggeaaGreatDoorPa9
import Derived.Test.YtfmgfcddnnggeaaGreatDoorPa35
import Derived.Laws.IdiomStrings
import Derived.Test.YtfmgfcddnnggeaaGreatDoorPa33
/- What Responses returns: a connection with a copy of the methods. -/
namespace Go.Proofs.YtfmgfcddnnggeaaGreatDoor
open Go.RowKit

theorem own_madeS (w : World) : OwnsS w.heap.size (w.alloc (.cells #[] 9)) (.slice (some ⟨w.heap.size, 0, none⟩) 0 0) [] :=
  World.ownsRow_made w #[] 0 (Nat.le_refl _) (Nat.zero_le _) (by simp)
theorem readsS_none {w : World} {n c : Nat} {ls : List (List UInt8)} (h : ReadsS w (.slice none n c) ls) : ls = [] := by
  obtain ⟨a, c', hv, hc⟩ := h
  simp only [Value.slice.injEq] at hv
  obtain ⟨rfl, _, _⟩ := hv
  cases ls with
  | nil => rfl
  | cons x t => obtain ⟨g, off, e, _⟩ := hc 0 x rfl; cases e
set_option maxHeartbeats 1000000 in
set_option maxRecDepth 100000 in
theorem cloneS_any (v : Value) (ls : List (List UInt8)) (w : World) (hr : ReadsS w v ls) (hp : Sane v) (hl : ls.length ≤ 100000) :
    Calls Tryz.prog 16 #[v] w fun e w' => ∃ v', e = .returned v' ∧ OwnsS w.heap.size w' v' ls ∧ Below w.heap.size w w' := by
  have q22 : ∀ (w : World) (a : Option Addr) (n c n' c' : Nat), (binOp .eql 34 (.slice a n c) (.slice none n' c')).run Tryz.prog w = .ok (.bool a.isNone) w := fun w a n c n' c' => Lib.run_eql_slice_nil w _ _ a n c n' c' Tryz.underlying34
  have HR := Lib.hid hr
  have HS := Lib.hid hp
  obtain ⟨ao, cap, rfl, _⟩ := id hr
  clear hr hp
  cases ao with
  | none =>
    obtain rfl := readsS_none HR.out
    obtain rfl := (HS.out _ _ _ rfl).2 rfl
    go_enter Tryz.func16, Tryz.ntmps16
    go_wp2_with fail
    go_ret
    exact ⟨_, rfl, World.ownsRow_nil _ _ _ _, Below.refl _ _⟩
  | some ad =>
    have HM := Lib.hid (own_madeS w)
    have HR' := Lib.hid (HR.out.below (below_new w (.cells #[] 9)))
    go_enter Tryz.func16, Tryz.ntmps16
    go_wp2_with (at_builtin; refine wpList_appendS (by rfl) _ _ (by rfl) _ _ (by rfl) (by rfl) HM.out HR'.out HS.out (by simp; omega) (by simp) ?_; intro v' w1 hown hgrow)
    go_wp2_with fail
    go_ret
    refine ⟨v', rfl, by simpa using hown, ?_⟩
    exact ((Below.refl _ w).alloc (Nat.le_refl _) _).grown hgrow (by simp) (fun k hk => (World.ownsRow.lt HM.out k hk).1)
theorem msM_own {B : Nat} {w : World} {v : Value} {ms : List (List UInt8)} (h : OwnsS B w v ms) : MsM (fun k => v.ownBlock = some k) w v ms := by
  have h0 := h
  rcases h with ⟨hl, ⟨hv, hn⟩ | ⟨g, cap, cur, hv, hb, hg, hn, hm, hs, ht⟩⟩
  · have : ms = [] := List.eq_nil_of_length_eq_zero hn
    subst this
    exact ⟨none, 0, hv, Nat.le_refl _, by unfold maxLen; omega, fun h => absurd rfl h⟩
  · have hlt := World.ownsRow.lt h0 g (by rw [hv]; rfl)
    refine ⟨_, cap, hv, hn, hm, fun _ => ⟨g, 0, rfl, by rw [hv]; rfl, hlt.2, fun j l hj => ?_⟩⟩
    subst hv
    rw [Nat.zero_add, World.ownsRow.cellAt h0 j (by have := (List.getElem?_eq_some_iff.1 hj).1; omega), List.getElem?_map, hj]; rfl
theorem con_resps {B : Nat} {w : World} {v : Value} {ms : List (List UInt8)} (h : OwnsS B w v ms) (hB : B ≤ w.heap.size) :
    Con B w.heap.size (fun k => k = w.heap.size ∨ v.ownBlock = some k) (Cn.resps ms) (w.alloc (.cells #[.bool true, v, .int .i64 0, .slice none 0 0, .int .i64 0, .int .i64 0, .pointer none, .bool false, .nilIface] 51)) := by
  have hb := below_new w (.cells #[.bool true, v, .int .i64 0, .slice none 0 0, .int .i64 0, .int .i64 0, .pointer none, .bool false, .nilIface] 51)
  have hlt := fun k hk => World.ownsRow.lt h k hk
  refine ⟨v, .slice none 0 0, .pointer none, fun k => v.ownBlock = some k, fun _ => False, heap_alloc_new w _, (msM_own h).only (Only.below (X := fun _ => False) hb) (fun _ _ h => h), OwnB.nil _ _, rfl, .inl rfl, fun k hk => ⟨.inr hk, fun e => by have := (hlt k hk).2; omega⟩, fun k hk => (by cases hk), fun _ h => False.elim h, fun k hk => ?_⟩
  rcases hk with rfl | hk
  · exact ⟨hB, by simp⟩
  · have := hlt k hk
    exact ⟨this.1, by simp; omega⟩
set_option maxHeartbeats 1000000 in
set_option maxRecDepth 100000 in
theorem responses_any (v : Value) (ms : List (List UInt8)) (w : World) (hr : ReadsS w v ms) (hp : Sane v) (hl : ms.length ≤ 100000) :
    Calls Tryz.prog 10 #[v] w fun e w' => ∃ P X, e = .returned (.pointer (some ⟨P, 0, none⟩)) ∧ Con w.heap.size P X (Cn.resps ms) w' ∧ Below w.heap.size w w' := by
  have HC := Lib.hid (cloneS_any v ms w hr hp hl)
  go_enter Tryz.func10, Tryz.ntmps10
  go_wp2_with fail
  refine HC.out.mono ?_
  rintro e w1 ⟨v', rfl, hO, hB⟩
  have HD := Lib.hid (con_resps hO hB.size)
  have HB := Lib.hid hB
  obtain ⟨a, c, rfl⟩ : ∃ a c, v' = .slice a ms.length c := by
    obtain ⟨a, c, h, _⟩ := hO.reads; exact ⟨a, c, h⟩
  clear hO hB
  go_wp2_with fail
  go_ret
  exact ⟨_, _, rfl, HD.out, HB.out.alloc HB.out.size _⟩
end Go.Proofs.YtfmgfcddnnggeaaGreatDoor

/- Write of a string's bytes, and of a literal's. -/
namespace Go.Proofs.YtfmgfcddnnggeaaGreatDoor
open Go.RowKit

theorem reads_strV (s : ByteArray) (w : World) (fr : Nat × Nat) (hs : s.size ≤ 1000000000) :
    ReadsD (w.alloc (.cells (bytesRow s (grownCap w s.size 0 5)) 5 fr)) (.slice (some ⟨w.heap.size, 0, none⟩) s.size (grownCap w s.size 0 5)) s.data.toList := by
  have hsl : s.data.toList.length = s.size := by rw [Array.length_toList]; rfl
  refine ⟨_, _, by rw [hsl], by rw [hsl]; exact grownCap_ge w s.size 0 _, grownCap_le_maxLen w s.size 0 _ (by unfold maxLen; omega), fun h => (by cases h), fun j c hj => ⟨w.heap.size, 0, rfl, by simp, ?_⟩⟩
  rw [Nat.zero_add, World.cell?_alloc_mark]
  have hj2 : j < s.data.size := by
    have := (List.getElem?_eq_some_iff.1 hj).1
    simpa using this
  unfold bytesRow
  rw [Array.getElem?_append_left (by simpa using hj2)]
  have hj3 : s.data[j]? = some c := by rw [← Array.getElem?_toList]; exact hj
  simp [hj3]
/-- What a Write of a new block's bytes leaves, said of the world before that block. -/
def WsPost (B P : Nat) (X : Nat → Prop) (s : Cn) (l : List UInt8) (w : World) (e : Ending) (w' : World) : Prop :=
  ∃ v X' B', e = .returned (.tuple #[v, errV (runC s l).1.er]) ∧ (∀ i, X' i → X i ∨ w.heap.size ≤ i) ∧ Con B P X' (runC s l).1 w' ∧ LsE B' X' v (joinE (runC s l).2) w' ∧ Only X w w'
theorem WsPost.of {B P : Nat} {X : Nat → Prop} {s s' : Cn} {l : List UInt8} {es os : List Ev} {w w' : World} {e : Ending} (h : WsPost B P X s l w e w') (hr : runC s l = (s', es)) (hj : joinE es = os) {ev : Value} (he : errV s'.er = ev) :
    ∃ v X' B', e = .returned (.tuple #[v, ev]) ∧ (∀ i, X' i → X i ∨ w.heap.size ≤ i) ∧ Con B P X' s' w' ∧ LsE B' X' v os w' ∧ Only X w w' := by
  obtain ⟨v, X', B', h1, h2, h3, h4, h5⟩ := h
  rw [hr] at h1 h3 h4
  rw [hj] at h4
  exact ⟨v, X', B', by rw [h1, ← he], h2, h3, h4, h5⟩
theorem ws_of {B P : Nat} {X : Nat → Prop} {s : Cn} {l : List UInt8} {w W : World} {e : Ending} {w' : World} (h : WrPost B P X s l W e w') (hb : Below w.heap.size w W) : WsPost B P X s l w e w' := by
  obtain ⟨v, X', h1, h2, h3, h4, h5⟩ := h
  exact ⟨v, X', _, h1, fun i hi => (h2 i hi).imp id (fun a => Nat.le_trans hb.size a), h3, h4, (Only.below (X := X) hb).trans' h5⟩
/-- Write of a string's bytes. -/
theorem write_str {B P : Nat} {X : Nat → Prop} {s : Cn} (t : ByteArray) (z : Nat) (W : World) (g : Nat) (hz : z = t.size) (hg : g = W.heap.size) (h : Con B P X s W) (hok : s.Ok) (hM : MaxB B W) (hl : t.size ≤ 100000) :
    Calls Tryz.prog 8 #[.pointer (some ⟨P, 0, none⟩), .slice (some ⟨g, 0, none⟩) z (grownCap W z 0 5)]
      (W.alloc (.cells (bytesRow t (grownCap W z 0 5)) 5 ((bytesRow t (grownCap W z 0 5)).size, (bytesRow t (grownCap W z 0 5)).size + 1))).drew
      (WsPost B P X s t.data.toList W) := by
  subst hz hg
  have hb : Below W.heap.size W (W.alloc (.cells (bytesRow t (grownCap W t.size 0 5)) 5 ((bytesRow t (grownCap W t.size 0 5)).size, (bytesRow t (grownCap W t.size 0 5)).size + 1))).drew := (below_new W _).drew
  have hr := reads_strV t W ((bytesRow t (grownCap W t.size 0 5)).size, (bytesRow t (grownCap W t.size 0 5)).size + 1) (by omega)
  have hlt := h.lt
  have hsl : t.data.toList.length = t.size := by rw [Array.length_toList]; rfl
  refine (write_any (.slice (some ⟨W.heap.size, 0, none⟩) t.size (grownCap W t.size 0 5)) t.data.toList _ (h.below hb) hok (hr.below (Below.refl _ _).drew) (fun _ k hk e => ?_) (hM.to (hb.mono (by have := hlt.2.2 P hlt.2.1; omega))) (by omega)).mono fun e w' hp => ws_of hp hb
  simp [Value.ownBlock] at hk
  have := (hlt.2.2 k e).2
  omega
/-- Write of a literal's bytes. -/
theorem write_lit {B P : Nat} {X : Nat → Prop} {s : Cn} (l : List UInt8) (n : Nat) (W : World) (hn : n = l.length) (h : Con B P X s W) (hok : s.Ok) (hM : MaxB B W) (hl : l.length ≤ 1000) :
    Calls Tryz.prog 8 #[.pointer (some ⟨P, 0, none⟩), .slice (some ⟨W.heap.size, 0, none⟩) n n] (W.alloc (.cells (Lib.byteCells l).toArray 5 (n, n + 1))) (WsPost B P X s l W) := by
  subst hn
  have hb := below_new W (.cells (Lib.byteCells l).toArray 5 (l.length, l.length + 1))
  have hlt := h.lt
  refine (write_any (.slice (some ⟨W.heap.size, 0, none⟩) l.length l.length) l _ (h.below hb) hok (readsB_lit W l (l.length, l.length + 1) hl) (fun _ k hk e => ?_) (hM.to (hb.mono (by have := hlt.2.2 P hlt.2.1; omega))) (by omega)).mono fun e w' hp => ws_of hp hb
  simp [Value.ownBlock] at hk
  have := (hlt.2.2 k e).2
  omega
/-- Close, with what it leaves spelled out. -/
theorem close_of {B P : Nat} {X : Nat → Prop} {s s' : Cn} {os : List Ev} {w w' : World} {e : Ending} (h : ClPost B P X (closeC s) w e w') (hX : ∀ k, X k → k < w.heap.size) (hr : closeC s = (s', os)) {ev : Value} (he : errV s'.er = ev) :
    ∃ v B', e = .returned (.tuple #[v, ev]) ∧ Con B P X s' w' ∧ LsE B' X v os w' ∧ Only X w w' := by
  rw [hr] at h
  obtain ⟨v, Y, h1, h2, h3, h4, h5⟩ := h
  exact ⟨v, w.heap.size, by rw [h1, ← he], h4, ⟨Y, h2, h3, fun i hi hx => by have := (h2.lt.1 i hi).1; have := hX i hx; omega⟩, h5⟩
end Go.Proofs.YtfmgfcddnnggeaaGreatDoor

/- Pure: what the connections of ConnCloses hold and make. -/
namespace Go.Proofs.YtfmgfcddnnggeaaGreatDoor

/-- "HTTP/1.1 200 OK", and an empty line. -/
def okR : List UInt8 := [72, 84, 84, 80, 47, 49, 46, 49, 32, 50, 48, 48, 32, 79, 75, 13, 10, 13, 10]
def okHead : Ev := ⟨1, noQ, (200, []), [], []⟩
def getM : List UInt8 := [71, 69, 84]
theorem okR_hd : (hdR true okR).1 = 0 ∧ (hdR true okR).2.1 = okHead ∧ (hdR true okR).2.2 = 19 := by
  have h : readP nmO vlO okR = (0, (200, []), 19) := by decide +kernel
  unfold hdR
  rw [if_pos rfl, h]
  exact ⟨rfl, rfl, rfl⟩
/-- A connection in whose body bytes arrive until it ends. -/
def okC : Cn := ⟨true, [getM], 1, [], 4, 0, none, false, 0⟩
theorem okC_head : headC (Cn.resps [getM]) okHead = (okC, [okHead]) := by
  have h : frC (Cn.resps [getM]) okHead = (0, 4, 0) := by decide +kernel
  unfold headC
  rw [if_neg (by decide), h, if_neg (by decide), if_neg (by decide)]
  rfl
theorem okC_run (d : List UInt8) : runC (Cn.resps [getM]) (okR ++ d) = (okC, okHead :: bytesE d) := by
  obtain ⟨h1, h2, h3⟩ := okR_hd
  obtain ⟨_, _, h4⟩ := runC_head okR (s := Cn.resps [getM]) ⟨rfl, rfl, by simp [Cn.resps]⟩ (hdR_nil _) h1
  have e1 : (hdR (Cn.resps [getM]).rs ((Cn.resps [getM]).st ++ okR)) = hdR true okR := rfl
  rw [e1, h2, h3, okC_head] at h4
  have e2 : okR.take (19 - (Cn.resps [getM]).st.length) = okR := by decide
  rw [e2] at h4
  rw [runC_app, h4, runC_close d rfl rfl]
  rfl
theorem okC_join (d : List UInt8) : joinE (okHead :: bytesE d) = okHead :: datL d := by
  have := fold_bytes (o := [okHead]) (notDat_end [] (by decide)) d
  exact this
def okE : Cn := { endC okC with er := 0, cl := true }
theorem okC_close : closeC okC = (okE, [endE okC]) := rfl
theorem okE_run (c : UInt8) (l : List UInt8) : runC okE (c :: l) = ({ okE with er := 6 }, []) := by
  have h : stepC okE c = ({ okE with er := 6 }, []) := by
    unfold stepC
    rw [if_neg (by decide), if_neg (by decide), if_pos (.inl rfl)]
  rw [runC, h, runC_stop (by decide)]; rfl
theorem okC_ok : okC.Ok := ok_to _ (ok_resps _) (okC_run [])
theorem okE_ok : okE.Ok := by have := ok_closeC okC_ok; rw [okC_close] at this; exact this
/-- A request with a body of three bytes. -/
def whl : List UInt8 := [80, 79, 83, 84, 32, 47, 32, 72, 84, 84, 80, 47, 49, 46, 49, 13, 10, 104, 111, 115, 116, 58, 32, 97, 13, 10, 99, 111, 110, 116, 101, 110, 116, 45, 108, 101, 110, 103, 116, 104, 58, 32, 51, 13, 10, 13, 10, 97, 98, 99]
/-- What the connection holds after the first k bytes, what Close leaves then, and a second Close. -/
def cutW (k : Nat) : Cn := (runC Cn.reqs (whl.take k)).1
theorem cutW_all : ∀ k < 51, (cutW k).er = 0 ∧ (closeC (cutW k)).2.length = 0 ∧ (closeC (cutW k)).1.er = (if k = 0 ∨ k = 50 then 0 else 21) ∧ (closeC (closeC (cutW k)).1).2.length = 0 ∧ (k = 0 ∨ k = 50 → (closeC (closeC (cutW k)).1).1.er = 0) := by decide +kernel
abbrev whlB : ByteArray := ⟨#[80, 79, 83, 84, 32, 47, 32, 72, 84, 84, 80, 47, 49, 46, 49, 13, 10, 104, 111, 115, 116, 58, 32, 97, 13, 10, 99, 111, 110, 116, 101, 110, 116, 45, 108, 101, 110, 103, 116, 104, 58, 32, 51, 13, 10, 13, 10, 97, 98, 99]⟩
theorem whlB_list : whlB.data.toList = whl := rfl
theorem whlB_size : whlB.size = 50 := rfl
theorem cutW_ok (k : Nat) : (cutW k).Ok := ok_runC _ ok_reqs
theorem len0 {l : List Ev} (h : l.length = 0) : l = [] := List.eq_nil_of_length_eq_zero h
end Go.Proofs.YtfmgfcddnnggeaaGreatDoor
