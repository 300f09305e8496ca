/- VaryUnique: the walk. -/
import Derived.Test.YtbmbcdbldbjddaaVyLaw1
import Derived.Test.YtbmbcdbldbjddaaVyStep
import Derived.Test.YtbmbcdbldbjddaaVyMap
namespace Go.Proofs.Ytbmbcdbldbjddaa
open Go.RowKit

/-- The ids of a set are those of steps. -/
def IdOk (l : List Vr) : Prop := ∀ z ∈ idsV l, -128 ≤ z ∧ z ≤ 127
theorem idOk_nil : IdOk [] := fun z hz => by cases hz
theorem idOk_all {l : List Vr} {ns : List (List UInt8)} {key : List UInt8} {id : Int} (h : IdOk l) (hi : -128 ≤ id ∧ id ≤ 127) : (∀ z ∈ idsV (putV l ns key id), -128 ≤ z ∧ z ≤ 127) ∧ ∀ z ∈ goneV l ns key id, -128 ≤ z ∧ z ≤ 127 := by
  have hall : ∀ v ∈ allV l ns key id, -128 ≤ v.id ∧ v.id ≤ 127 := fun v hv => by
    rcases List.mem_cons.mp hv with e | e
    · subst e; exact hi
    · exact h v.id (List.mem_map.mpr ⟨v, (keep_sub l ns key id).subset e, rfl⟩)
  refine ⟨fun z hz => ?_, fun z hz => ?_⟩
  · obtain ⟨v, hv, rfl⟩ := List.mem_map.mp hz
    exact hall v (List.mem_of_mem_take hv)
  · rcases List.mem_append.mp hz with e | e
    · obtain ⟨v, hv, rfl⟩ := List.mem_map.mp e
      exact h v.id (List.mem_map.mpr ⟨v, (List.mem_filter.mp (List.mem_filter.mp hv).1).1, rfl⟩)
    · obtain ⟨v, hv, rfl⟩ := List.mem_map.mp e
      exact hall v (List.mem_of_mem_drop hv)
theorem not_in_take {zs : List Int} {j : Nat} {z : Int} (hn : zs.Nodup) (h : zs[j]? = some z) : decide (z ∈ zs.take j) = false := by
  refine decide_eq_false fun hm => ?_
  obtain ⟨i, hi⟩ := List.getElem?_of_mem hm
  have hij := (List.getElem?_eq_some_iff.mp hi).1
  rw [List.length_take] at hij
  rw [List.getElem?_take, if_pos (by omega)] at hi
  have h1 := (List.getElem?_inj (show i < zs.length by omega) hn).mp (hi.trans h.symm)
  omega
theorem nd_right {xs ys : List Int} {j : Nat} {z : Int} (hn : (xs ++ ys).Nodup) (h : ys[j]? = some z) : decide (z ∈ xs ++ ys.take j) = false := by
  have h1 : (xs ++ ys)[xs.length + j]? = some z := by rw [List.getElem?_append_right (by omega)]; rw [show xs.length + j - xs.length = j by omega]; exact h
  have h2 := not_in_take hn h1
  rwa [List.take_append, List.take_of_length_le (by omega), show xs.length + j - xs.length = j by omega] at h2
theorem mem_next {zs : List Int} {j : Nat} {z : Int} (h : zs[j]? = some z) (x : Int) : x ∈ z :: zs.take j ↔ x ∈ zs.take (j + 1) := by
  rw [take_more h, List.mem_cons, List.mem_append, List.mem_singleton]
  exact Or.comm
theorem mem_next2 {xs ys : List Int} {j : Nat} {z : Int} (h : ys[j]? = some z) (x : Int) : x ∈ z :: (xs ++ ys.take j) ↔ x ∈ xs ++ ys.take (j + 1) := by
  rw [take_more h, List.mem_cons, List.mem_append, List.mem_append, List.mem_append, List.mem_singleton]
  constructor
  · rintro (e | e | e)
    · exact .inr (.inr e)
    · exact .inl e
    · exact .inr (.inl e)
  · rintro (e | e | e)
    · exact .inr (.inl e)
    · exact .inr (.inr e)
    · exact .inl e
theorem ids_head (l : List Vr) (ns : List (List UInt8)) (key : List UInt8) (id : Int) : (idsV (putV l ns key id))[0]? = some id := by rw [put_front]; rfl
theorem find_head (l : List Vr) (ns : List (List UInt8)) (f : Flds) (id : Int) : (findV (putV l ns (keyL ns f) id) f)[0]? = some id := by
  have := put_find l ns f id
  rwa [List.head?_eq_getElem?] at this
theorem gone_len (l : List Vr) (h : l.length ≤ 16) (ns : List (List UInt8)) (key : List UInt8) (id : Int) : (goneV l ns key id).length ≤ 40 := by
  unfold goneV
  rw [List.length_append, List.length_map, List.length_map]
  have h1 : (dupV l ns key id).length ≤ l.length := Nat.le_trans (List.length_filter_le ..) (List.length_filter_le ..)
  have h2 : (allV l ns key id).length ≤ l.length + 1 := by
    have := (keep_sub l ns key id).length_le
    show (keepV l ns key id).length + 1 ≤ _
    omega
  rw [List.length_drop]
  omega
/-- A list of ints, as a slice of its length. -/
theorem ReadsZ.slc {w : World} {v : Value} {zs : List Int} (h : ReadsZ w v zs) : ∃ a c, v = .slice a zs.length c := by
  obtain ⟨a, c, rfl, _⟩ := h; exact ⟨a, c, rfl⟩
/-- The step's box, where the loop has put it. -/
structure BoxT (N : Nat) (s : Stp) (na : Option Addr) (nc : Nat) (fa : Option Addr) (fc : Nat) (w : World) : Prop where
  c0 : w.cell? ⟨N, 0, none⟩ = some (.int .u8 s.what)
  c1 : w.cell? ⟨N, 1, none⟩ = some (.slice na s.ns.length nc)
  c2 : w.cell? ⟨N, 2, none⟩ = some (.slice fa s.ps.length fc)
  c3 : w.cell? ⟨N, 3, none⟩ = some (.int .i8 s.id)
  lt : N < w.heap.size
theorem BoxT.new (w : World) (s : Stp) (na : Option Addr) (nc : Nat) (fa : Option Addr) (fc : Nat) (T : TypeId) : BoxT w.heap.size s na nc fa fc (w.alloc (.cells #[.int .u8 s.what, .slice na s.ns.length nc, .slice fa s.ps.length fc, .int .i8 s.id] T)) := by
  refine ⟨?_, ?_, ?_, ?_, by simp⟩ <;> rw [World.cell?_alloc_at _ _ _ _ rfl] <;> rfl
theorem BoxT.only {N : Nat} {s : Stp} {na : Option Addr} {nc : Nat} {fa : Option Addr} {fc : Nat} {w w' : World} {X : Nat → Prop} (h : BoxT N s na nc fa fc w) (hO : Only X w w') (hx : ¬ X N) : BoxT N s na nc fa fc w' :=
  ⟨(hO.cell (p := ⟨N, 0, none⟩) h.lt hx).trans h.c0, (hO.cell (p := ⟨N, 1, none⟩) h.lt hx).trans h.c1, (hO.cell (p := ⟨N, 2, none⟩) h.lt hx).trans h.c2, (hO.cell (p := ⟨N, 3, none⟩) h.lt hx).trans h.c3, Nat.lt_of_lt_of_le h.lt hO.size⟩
theorem BoxT.below {N : Nat} {s : Stp} {na : Option Addr} {nc : Nat} {fa : Option Addr} {fc : Nat} {w w' : World} (h : BoxT N s na nc fa fc w) (hb : Below w.heap.size w w') : BoxT N s na nc fa fc w' :=
  h.only (X := fun _ => False) (Only.below hb) (fun h => h)
set_option maxHeartbeats 16000000 in
set_option maxRecDepth 100000 in
theorem vy_unique_walk (a : Option Addr) (c : Nat) (ss : List Stp) (w : World) (hr : ReadsT w (.slice a ss.length c) ss) (ho : ∀ s ∈ ss, s.Ok ∧ s.ns.length + sumL s.ns ≤ 90000000 ∧ 2 * s.ps.length + totL s.ps ≤ 90000000) (hsl : ss.length ≤ 90000000) :
    Calls Try.prog 7 #[.slice a ss.length c] w fun e w' => e = .returned (.bool true) ∧ Below w.heap.size w w' := by
  have HA := Lib.hid (fun (W : World) => awake16_any W)
  have HT := Lib.hid hr
  have HOk := Lib.hid ho
  clear hr ho
  by_cases h60 : 60 < ss.length
  · go_enter Try.func7, Try.ntmps7
    go_wp2_with fail
    go_ret
    exact ⟨by first | rfl | exact ret_bool (decide_eq_true (by omega)), Below.refl _ _⟩
  · go_enter Try.func7, Try.ntmps7
    go_wp2_with fail
    refine (HA.out _).mono ?_
    rintro e w1 ⟨rfl, hB1⟩
    have HB1 := Lib.hid hB1
    have hs1 := hB1.size
    clear hB1
    go_wp2_with fail
    refine (setNew_any w1).mono ?_
    rintro e w4 ⟨rfl, hS4, hB4⟩
    have HB4 := Lib.hid (HB1.out.trans (hB4.mono hs1))
    have HS4 := Lib.hid hS4
    have hs14 : w1.heap.size < w4.heap.size := hS4.lt _ rfl
    clear hS4 hB4
    go_wp2_with fail
    go_loopw [31] (fun i wr => ∃ (k : Nat) (l : List Vr) (F : Nat → Prop), i = .int .i64 k ∧ k ≤ ss.length ∧ SetO F wr w1.heap.size l ∧ InvV l ∧ FitV l ∧ IdOk l ∧ (∀ j, F j → w.heap.size ≤ j) ∧ Below w.heap.size w wr) (fun i _ => ss.length - (intOf i).toNat)
    case atStart => exact ⟨0, [], _, rfl, Nat.zero_le _, HS4.out, inv_nil, fitV_nil, idOk_nil, fun j hj => by omega, HB4.out⟩
    case round =>
      obtain ⟨k, l, F, rfl, hk, hS, hI, hFv, hId, hFw, hBr⟩ := hrel
      have hbr := hBr.size
      have HS := Lib.hid hS
      have HI := Lib.hid hI
      have HFv := Lib.hid hFv
      have HId := Lib.hid hId
      have HFw := Lib.hid hFw
      have HBr := Lib.hid hBr
      clear hS hI hFv hId hFw hBr
      by_cases hlt : k < ss.length
      · obtain ⟨s, hs⟩ : ∃ s, ss[k]? = some s := ⟨ss[k], by simp [hlt]⟩
        obtain ⟨_, _, e0, hcx⟩ := HT.out
        simp only [Value.slice.injEq, true_and] at e0
        obtain ⟨rfl, rfl⟩ := e0
        obtain ⟨g, off, na, nc, fa, fc, rfl, hg, g0, g1, g2, g3, hrn, hrf⟩ := hcx k s hs
        have d0 := (HBr.out.cell (p := ⟨g, off + k * 4, none⟩) hg).trans g0
        have d1 := (HBr.out.cell (p := ⟨g, off + k * 4 + 1, none⟩) hg).trans g1
        have d2 := (HBr.out.cell (p := ⟨g, off + k * 4 + 2, none⟩) hg).trans g2
        have d3 := (HBr.out.cell (p := ⟨g, off + k * 4 + 3, none⟩) hg).trans g3
        obtain ⟨hsok, hsn, hsp⟩ := HOk.out s (List.mem_of_getElem? hs)
        obtain ⟨hi1, hi2⟩ := hsok.i0
        have HN := Lib.hid hrn
        have HR := Lib.hid hrf
        have HL := Lib.hid (fun (W : World) (hB : Below w.heap.size w W) => long16_any _ s.ns W (hrn.below hB) hsn)
        have HG := Lib.hid (fun (W : World) (hB : Below w.heap.size w W) => largeOne_any _ s.ps W (hrf.below hB) hsp)
        have HOi := Lib.hid hsok.i0
        clear hs hcx g0 g1 g2 g3 hrn hrf hsok hsn hsp
        go_upto_region 7 with fail
        have HX := Lib.hid (BoxT.new wr s na nc fa fc 45)
        have HBx := Lib.hid (HBr.out.trans ((below_new wr (.cells #[.int .u8 s.what, .slice na s.ns.length nc, .slice fa s.ps.length fc, .int .i8 s.id] 45)).mono hbr))
        have HSx := Lib.hid (HS.out.below (below_new wr (.cells #[.int .u8 s.what, .slice na s.ns.length nc, .slice fa s.ps.length fc, .int .i8 s.id] 45)))
        have HNF := Lib.hid (show ¬ F wr.heap.size from fun e => Nat.lt_irrefl _ (HS.out.lt _ e))
        change Code.wp _ _ _ _ (wr.alloc (.cells #[.int .u8 s.what, .slice na s.ns.length nc, .slice fa s.ps.length fc, .int .i8 s.id] 45))
        generalize (wr.alloc (.cells #[.int .u8 s.what, .slice na s.ns.length nc, .slice fa s.ps.length fc, .int .i8 s.id] 45)) = W0 at *
        generalize hNb : wr.heap.size = N at *
        clear d0 d1 d2 d3 HS hNb
        obtain ⟨k0, k1, k2, k3, _⟩ := HX.out
        cases h1 : lonB s.ns with
        | true =>
          rw [h1] at HL
          clear h1
          go_wp2_with fail
          refine (HL.out _ HBx.out).mono ?_
          rintro e w5 ⟨rfl, hw5⟩
          obtain rfl := hw5.symm
          go_wp2_with fail
          go_ret
          exact ⟨rfl, HBx.out⟩
        | false =>
          rw [h1] at HL
          have hfn := lon_fit h1
          clear h1
          cases h2 : lgV [(Value.slice fa s.ps.length fc, s.ps)] with
          | true =>
            rw [h2] at HG
            clear h2
            go_wp2_with fail
            refine (HL.out _ HBx.out).mono ?_
            rintro e w5 ⟨rfl, hw5⟩
            obtain rfl := hw5.symm
            go_wp2_with fail
            refine (HG.out _ HBx.out).mono ?_
            rintro e w6 ⟨rfl, hB6⟩
            go_wp2_with fail
            go_ret
            exact ⟨rfl, HBx.out.trans (hB6.mono HBx.out.size)⟩
          | false =>
            rw [h2] at HG
            have hb3 := lg_fit1 h2
            have HFn := Lib.hid hfn
            have HFk := Lib.hid (fitK_of hb3)
            have HF := Lib.hid (fun (W : World) (hB : Below w.heap.size w W) => fieldsK_any fa fc s.ps W (HR.out.below hB) hb3)
            clear h2 hb3 hfn
            go_wp2_with fail
            refine (HL.out _ HBx.out).mono ?_
            rintro e w5 ⟨rfl, hw5⟩
            obtain rfl := hw5.symm
            go_wp2_with fail
            refine (HG.out _ HBx.out).mono ?_
            rintro e w6 ⟨rfl, hB6⟩
            have HB6 := Lib.hid (HBx.out.trans (hB6.mono HBx.out.size))
            have HS6 := Lib.hid (HSx.out.below hB6)
            have HX6 := Lib.hid (HX.out.below hB6)
            obtain ⟨q0, q1, q2, q3, _⟩ := HX6.out
            clear hB6 k0 k1 k2 k3 HX HSx HBx
            go_wp2_with fail
            refine (HF.out _ HB6.out).mono ?_
            rintro e w7 ⟨a7, c7, rfl, hR7, hO7, hB7⟩
            have HB7 := Lib.hid (HB6.out.trans (hB7.mono HB6.out.size))
            have HS7 := Lib.hid (HS6.out.below hB7)
            have HX7 := Lib.hid (HX6.out.below hB7)
            have HR7 := Lib.hid hR7
            have HN7 := Lib.hid (show ∀ j, (Value.slice a7 s.ps.length c7).ownBlock = some j → ¬ F j from fun j hj e => by have := (hO7 j hj).1; have := HS6.out.lt j e; omega)
            clear hB7 hR7 hO7 q0 q1 q2 q3 HX6 HS6
            go_wp2_with fail
            refine (setIDs_any _ l F w7 HS7.out HFv.out).mono ?_
            rintro e w8 ⟨v8, rfl, hO8, hB8⟩
            obtain ⟨a8, c8, rfl⟩ := hO8.reads.slc
            have HB8 := Lib.hid (HB7.out.trans (hB8.mono HB7.out.size))
            have HS8 := Lib.hid (HS7.out.below hB8)
            have HX8 := Lib.hid (HX7.out.below hB8)
            have HR8 := Lib.hid (HR7.out.below hB8)
            have HO8 := Lib.hid hO8
            have HN8 := Lib.hid (show ∀ j, (Value.slice a8 (idsV l).length c8).ownBlock = some j → ¬ F j from fun j hj e => by have := (World.ownsRow.lt hO8 j hj).1; have := HS7.out.lt j e; omega)
            obtain ⟨k0, k1, k2, k3, _⟩ := HX8.out
            have HP := Lib.hid (setPut_any w1.heap.size l _ s.ns _ s.ps s.id F w8 HS8.out HI.out HFv.out (HN.out.below HB8.out) HR8.out HFn.out HFk.out)
            clear hB8 hO8 HS7 HX7 HR7
            go_wp2_with fail
            refine HP.out.mono ?_
            rintro e w9 ⟨v9, rfl, F', hO9, hS9, hN9, hF9⟩
            obtain ⟨a9, c9, rfl⟩ := hO9.reads.slc
            have HB9 := Lib.hid (HB8.out.trans (hN9.to HFw.out HB8.out.size))
            have HX9 := Lib.hid (HX8.out.only hN9 HNF.out)
            have HR9 := Lib.hid (readsQ_by HR8.out hN9 HN7.out)
            have HO8b := Lib.hid (HO8.out.only hN9 HN8.out)
            have HO9 := Lib.hid hO9
            have HS9 := Lib.hid hS9
            have HF9 := Lib.hid hF9
            have hs89 := hN9.size
            clear hO9 hS9 hN9 hF9 HP HX8 HS8 k0 k1 k2 k3 HO8
            go_wp2_with fail
            have HFv9 := Lib.hid (fitV_put (ns := s.ns) (key := keyL s.ns s.ps) (id := s.id) HFv.out HFn.out)
            refine (setIDs_any _ _ F' w9 HS9.out HFv9.out).mono ?_
            rintro e w10 ⟨v10, rfl, hO10, hB10⟩
            obtain ⟨a10, c10, rfl⟩ := hO10.reads.slc
            have HB10 := Lib.hid (HB9.out.trans (hB10.mono HB9.out.size))
            have HS10 := Lib.hid (HS9.out.below hB10)
            have HX10 := Lib.hid (HX9.out.below hB10)
            have HR10 := Lib.hid (HR9.out.below hB10)
            have HZ8 := Lib.hid (HO8b.out.below hB10).reads
            have HZ9 := Lib.hid (HO9.out.below hB10).reads
            have HZ10 := Lib.hid hO10.reads
            have HF10 := Lib.hid (show ∀ j, F' j → w.heap.size ≤ j from fun j hj => (HF9.out j hj).elim (HFw.out j) (fun e => Nat.le_trans HB8.out.size e))
            have HI10 := Lib.hid (inv_put HI.out s.ns (keyL s.ns s.ps) s.id)
            have HND := Lib.hid (put_ids HI.out.ids s.ns (keyL s.ns s.ps) s.id)
            have HAll := Lib.hid (put_all l s.ns (keyL s.ns s.ps) s.id)
            have HHd := Lib.hid (ids_head l s.ns (keyL s.ns s.ps) s.id)
            have HFd := Lib.hid (find_head l s.ns s.ps s.id)
            have HFl := Lib.hid (find_len (putV l s.ns (keyL s.ns s.ps) s.id) s.ps)
            have HOA := Lib.hid (idOk_all (ns := s.ns) (key := keyL s.ns s.ps) HId.out HOi.out)
            have hil : (idsV (putV l s.ns (keyL s.ns s.ps) s.id)).length ≤ 16 := by unfold idsV; rw [List.length_map]; exact HFv9.out.len
            have hgl := gone_len l HFv.out.len s.ns (keyL s.ns s.ps) s.id
            have hbl : (idsV l).length ≤ 16 := by unfold idsV; rw [List.length_map]; exact HFv.out.len
            have HFind := Lib.hid (fun (W : World) (hB : Below w10.heap.size w10 W) => setFind_any w1.heap.size _ _ s.ps F' W (HS10.out.below hB) HFv9.out (HR10.out.below hB) HFk.out)
            have HIdB := Lib.hid (fun z (hz : z ∈ idsV l) => HId.out z hz)
            clear hO10 hB10 HS9 HX9 HR9 HO8b HO9
            obtain ⟨L2, hL2⟩ : ∃ L2, putV l s.ns (keyL s.ns s.ps) s.id = L2 := ⟨_, rfl⟩
            rw [hL2] at HS10 HI10 HND HAll HHd HFd HFl HOA hil HFv9 HFind HZ10
            rw [hL2]
            clear hL2
            obtain ⟨ids, hids⟩ : ∃ x, idsV L2 = x := ⟨_, rfl⟩
            obtain ⟨gone, hgone⟩ : ∃ x, goneV l s.ns (keyL s.ns s.ps) s.id = x := ⟨_, rfl⟩
            obtain ⟨bef, hbef⟩ : ∃ x, idsV l = x := ⟨_, rfl⟩
            obtain ⟨fnd, hfnd⟩ : ∃ x, findV L2 s.ps = x := ⟨_, rfl⟩
            have HIdOk : Hid (IdOk L2) := Lib.hid (by intro z hz; exact HOA.out.1 z hz)
            rw [hids] at HND HHd hil HZ10 HOA
            rw [hgone] at HND HZ9 hgl HOA
            rw [hbef] at HAll HZ8 hbl HIdB
            rw [hfnd] at HFd HFl HFind
            have HAll2 := Lib.hid (show ∀ z ∈ bef, z ∈ ids ++ gone from fun z hz => List.mem_append.mpr (by have := HAll.out z hz; rw [hids, hgone] at this; exact this))
            clear HAll
            rw [hids, hgone, hbef]
            clear hids hgone hbef hfnd
            obtain ⟨k0, k1, k2, k3, _⟩ := HX10.out
            have hi0 : 0 < ids.length := (List.getElem?_eq_some_iff.mp HHd.out).1
            have hin : ((ids.length : Int) == 0) = false := beq_eq_false_iff_ne.mpr (by omega)
            obtain ⟨_, _, e1, hc10⟩ := HZ10.out
            simp only [Value.slice.injEq, true_and] at e1
            obtain ⟨rfl, rfl⟩ := e1
            obtain ⟨ga, oa, rfl, hga, z0⟩ := hc10 0 _ HHd.out
            simp only [Nat.add_zero] at z0
            clear hc10
            go_upto_region 13 with fail
            go_quiet (fail)
            have HBq := Lib.hid (below_drewN (Below.refl w10.heap.size w10) nq)
            have HBq2 := Lib.hid (below_drewN HB10.out nq)
            generalize w10.drewN nq = w11 at *
            clear k0 k1 k2 k3 z0
            have hmm := @run_makeMap Try.prog
            have HM0 := Lib.hid (HasInts.made w11)
            have HBm := Lib.hid (below_new w11 (.map #[] 0))
            have hs1011 := HBq.out.size
            go_wp2_with fail
            go_loopw [79] (fun i wr => ∃ j : Nat, i = .int .i64 j ∧ j ≤ ids.length ∧ HasInts wr w11.heap.size j (ids.take j) ∧ Below w11.heap.size w11 wr) (fun i _ => ids.length - (intOf i).toNat)
            case atStart => exact ⟨0, rfl, Nat.zero_le _, HM0.out, HBm.out⟩
            case round =>
              obtain ⟨j, rfl, hj, hH, hBj⟩ := hrel
              have hbj := hBj.size
              have HH := Lib.hid hH
              have HBj := Lib.hid hBj
              have HC := Lib.hid (HBq.out.trans (hBj.mono hs1011))
              clear hH hBj
              by_cases hlj : j < ids.length
              · obtain ⟨z, hz⟩ : ∃ z, ids[j]? = some z := ⟨ids[j], by simp [hlj]⟩
                obtain ⟨_, _, e2, hcz⟩ := HZ10.out
                simp only [Value.slice.injEq, true_and] at e2
                obtain ⟨e3, rfl⟩ := e2
                subst e3
                obtain ⟨g2, o2, e4, hg2, z2⟩ := hcz j z hz
                simp only [Option.some.injEq, Addr.mk.injEq, and_true] at e4
                obtain ⟨rfl, rfl⟩ := e4
                have zc := (HC.out.cell (p := ⟨ga, oa + j, none⟩) hg2).trans z2
                have hzr := HOA.out.1 z (List.mem_of_getElem? hz)
                have hlk := HH.out.look z hzr
                rw [not_in_take (List.nodup_append.mp HND.out).1 hz] at hlk
                obtain ⟨w12, hrun, hH2, hg3⟩ := HH.out.put z hzr (by unfold maxLen; omega)
                have HH2 := Lib.hid (hH2.same (mem_next hz))
                have HB2 := Lib.hid (HBj.out.grown hg3 hbj (fun q hq => by cases hq; exact Nat.le_refl _))
                clear hcz z2 hz hzr hH2 hg3
                go_wp2_with fail
                go_roundw
                case rel => exact ⟨j + 1, by go_num, by omega, HH2.out, HB2.out⟩
                case measure => simp [intOf]; omega
              · have HH0 := Lib.hid ((show HasInts wr w11.heap.size (ids.length + 0) (ids ++ gone.take 0) from by
                  have h := HH.out
                  rw [List.take_of_length_le (by omega)] at h
                  have hje : j = ids.length := by omega
                  subst hje
                  simpa using h))
                have hBj := HBj.out
                clear HH HBj HC
                go_wp2_with fail
                go_loopw [91] (fun i wr => ∃ j : Nat, i = .int .i64 j ∧ j ≤ gone.length ∧ HasInts wr w11.heap.size (ids.length + j) (ids ++ gone.take j) ∧ Below w11.heap.size w11 wr) (fun i _ => gone.length - (intOf i).toNat)
                case atStart => exact ⟨0, rfl, Nat.zero_le _, HH0.out, hBj⟩
                case round =>
                  obtain ⟨j, rfl, hj, hH, hBj⟩ := hrel
                  have hbj := hBj.size
                  have HH := Lib.hid hH
                  have HBj := Lib.hid hBj
                  have HC := Lib.hid (HBq.out.trans (hBj.mono hs1011))
                  clear hH hBj
                  by_cases hlj : j < gone.length
                  · obtain ⟨z, hz⟩ : ∃ z, gone[j]? = some z := ⟨gone[j], by simp [hlj]⟩
                    obtain ⟨_, _, e2, hcz⟩ := HZ9.out
                    simp only [Value.slice.injEq, true_and] at e2
                    obtain ⟨e3, rfl⟩ := e2
                    subst e3
                    obtain ⟨g2, o2, e4, hg2, z2⟩ := hcz j z hz
                    subst e4
                    have zc := (HC.out.cell (p := ⟨g2, o2 + j, none⟩) hg2).trans z2
                    have hzr := HOA.out.2 z (List.mem_of_getElem? hz)
                    have hlk := HH.out.look z hzr
                    rw [nd_right HND.out hz] at hlk
                    obtain ⟨w12, hrun, hH2, hg3⟩ := HH.out.put z hzr (by unfold maxLen; omega)
                    have HH2 := Lib.hid (hH2.same (mem_next2 hz))
                    have HB2 := Lib.hid (HBj.out.grown hg3 hbj (fun q hq => by cases hq; exact Nat.le_refl _))
                    clear hcz z2 hz hzr hH2 hg3
                    go_wp2_with fail
                    go_roundw
                    case rel => exact ⟨j + 1, by go_num, by omega, HH2.out, HB2.out⟩
                    case measure => simp [intOf]; omega
                  · have HH0 := Lib.hid ((show HasInts wr w11.heap.size (ids.length + gone.length) (ids ++ gone) from by
                      have h := HH.out
                      rw [List.take_of_length_le (by omega)] at h
                      have hje : j = gone.length := by omega
                      subst hje
                      exact h))
                    have hBj := HBj.out
                    clear HH HBj HC
                    go_wp2_with fail
                    go_loopw [103] (fun i wr => ∃ j : Nat, i = .int .i64 j ∧ j ≤ bef.length ∧ HasInts wr w11.heap.size (ids.length + gone.length) (ids ++ gone) ∧ Below w11.heap.size w11 wr) (fun i _ => bef.length - (intOf i).toNat)
                    case atStart => exact ⟨0, rfl, Nat.zero_le _, HH0.out, hBj⟩
                    case round =>
                      obtain ⟨j, rfl, hj, hH, hBj⟩ := hrel
                      have hbj := hBj.size
                      have HH := Lib.hid hH
                      have HBj := Lib.hid hBj
                      have HC := Lib.hid (HBq.out.trans (hBj.mono hs1011))
                      clear hH hBj
                      by_cases hlj : j < bef.length
                      · obtain ⟨z, hz⟩ : ∃ z, bef[j]? = some z := ⟨bef[j], by simp [hlj]⟩
                        obtain ⟨_, _, e2, hcz⟩ := HZ8.out
                        simp only [Value.slice.injEq, true_and] at e2
                        obtain ⟨e3, rfl⟩ := e2
                        subst e3
                        obtain ⟨g2, o2, e4, hg2, z2⟩ := hcz j z hz
                        subst e4
                        have zc := (HC.out.cell (p := ⟨g2, o2 + j, none⟩) hg2).trans z2
                        have hzr := HIdB.out z (List.mem_of_getElem? hz)
                        have hlk := HH.out.look z hzr
                        rw [decide_eq_true (HAll2.out z (List.mem_of_getElem? hz))] at hlk
                        clear hcz z2 hz hzr
                        go_wp2_with fail
                        go_roundw
                        case rel => exact ⟨j + 1, by go_num, by omega, HH.out, HBj.out⟩
                        case measure => simp [intOf]; omega
                      · clear HH HBj
                        go_wp2_with fail
                        refine (HFind.out _ HC.out).mono ?_
                        rintro e w13 ⟨v13, rfl, hO13, hB13⟩
                        have HC13 := Lib.hid (HC.out.trans (hB13.mono HC.out.size))
                        obtain ⟨a13, c13, rfl⟩ := hO13.reads.slc
                        obtain ⟨_, _, e2, hcz⟩ := hO13.reads
                        simp only [Value.slice.injEq, true_and] at e2
                        obtain ⟨rfl, rfl⟩ := e2
                        obtain ⟨gf, of, rfl, hgf, z2⟩ := hcz 0 _ HFd.out
                        simp only [Nat.add_zero] at z2
                        have hf0 : 0 < fnd.length := (List.getElem?_eq_some_iff.mp HFd.out).1
                        have hfn0 : ((fnd.length : Int) == 0) = false := beq_eq_false_iff_ne.mpr (by omega)
                        obtain ⟨k0, k1, k2, k3, _⟩ := HX10.out.below HC13.out
                        have hfl : fnd.length ≤ 16 := Nat.le_trans HFl.out HFv9.out.len
                        clear hcz hO13 hB13 HC
                        go_upto_region 37 with fail
                        go_quiet (fail)
                        rename Nat => nq2
                        have HE := Lib.hid (below_drewN HC13.out nq2)
                        clear k0 k1 k2 k3 z2
                        go_wp2_with fail
                        go_roundw
                        case rel => exact ⟨k + 1, L2, F', by go_num, by omega, HS10.out.below HE.out, HI10.out, HFv9.out, HIdOk.out, HF10.out, HB10.out.trans (HE.out.mono HB10.out.size)⟩
                        case measure => simp [intOf]; omega
      · have hBr := HBr.out
        go_wp2_with fail
        go_ret
        exact ⟨rfl, hBr⟩
end Go.Proofs.Ytbmbcdbldbjddaa
