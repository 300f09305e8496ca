/- SyntaxElements: for all texts and blanks up to a bound the statement's function returns true: the walk. -/
import Derived.Test.YtjcekkgoohkomaaDoorElemSpec
import Derived.Test.YtjcekkgoohkomaaDoorQuote
import Derived.Test.YtjcekkgoohkomaaDoorAwake
import Derived.RegionTactic
import Derived.ChangeAlike
import Derived.Deep.DeepCutAuto
namespace Go.Proofs.YtjcekkgoohkomaaDoor.elements
open Go.RowKit

/-- The value v is a slice of bytes that reads as bs in the world w. -/
def ReadsU (w : World) (v : Value) (bs : List UInt8) : Prop :=
  ∃ ao cap, v = .slice ao bs.length cap ∧ ∀ j c, bs[j]? = some c → ∃ g off, ao = some ⟨g, off, none⟩ ∧ g < w.heap.size ∧ w.cell? ⟨g, off + j, none⟩ = some (.int .u8 (c.toNat : Int))

def preA : Array Value := #[.string ⟨#[]⟩, .string ⟨#[32]⟩, .string ⟨#[9]⟩, .string ⟨#[32, 9, 32]⟩]
def postA : Array Value := #[.string ⟨#[44]⟩, .string ⟨#[32, 44]⟩, .string ⟨#[44, 44, 32, 44]⟩, .string ⟨#[9, 44]⟩]
theorem pre_at (k : Nat) (hk : k < 4) : preA[k]? = some (.string (strB (preL k))) := by
  rcases (show k = 0 ∨ k = 1 ∨ k = 2 ∨ k = 3 by omega) with rfl | rfl | rfl | rfl <;> rfl
theorem post_at (k : Nat) (hk : k < 4) : postA[k]? = some (.string (strB (postL k))) := by
  rcases (show k = 0 ∨ k = 1 ∨ k = 2 ∨ k = 3 by omega) with rfl | rfl | rfl | rfl <;> rfl

set_option maxHeartbeats 4000000 in
set_option maxRecDepth 100000 in
theorem walk_long (va vb : Value) (ao : Option Addr) (n cap : Nat) (w : World) (ha : va = .slice ao n cap) (hn : 12 < n) (hm : n ≤ 9223372036854775807) :
    Calls Tryd.prog 10 #[va, vb] w fun e w' => e = .returned (.bool true) ∧ Below w.heap.size w w' := by
  subst ha
  go_enter Tryd.func10, Tryd.ntmps10
  go_wp2_with fail
  refine (awake_any _).mono ?_
  rintro e w1 ⟨rfl, hB⟩
  go_wp2_with fail
  refine (awake_any _).mono ?_
  rintro e w2 ⟨rfl, hB2⟩
  go_wp2_with fail
  go_ret
  exact ⟨rfl, hB.trans (hB2.mono hB.size)⟩

theorem new_pre (W : World) (k : Nat) (hk : k < 4) : (W.alloc (.cells #[.string ⟨#[]⟩, .string ⟨#[32]⟩, .string ⟨#[9]⟩, .string ⟨#[32, 9, 32]⟩] 9)).cell? ⟨W.heap.size, k, none⟩ = some (.string (strB (preL k))) := by
  rw [World.cell?_alloc_at _ _ _ _ rfl]; exact pre_at k hk
theorem new_post (W : World) (k : Nat) (hk : k < 4) : (W.alloc (.cells #[.string ⟨#[44]⟩, .string ⟨#[32, 44]⟩, .string ⟨#[44, 44, 32, 44]⟩, .string ⟨#[9, 44]⟩] 9)).cell? ⟨W.heap.size, k, none⟩ = some (.string (strB (postL k))) := by
  rw [World.cell?_alloc_at _ _ _ _ rfl]; exact post_at k hk
theorem pq_pre (W : World) (k : Nat) (hk : k < 4) : ((W.alloc (.cells #[.string ⟨#[]⟩, .string ⟨#[32]⟩, .string ⟨#[9]⟩, .string ⟨#[32, 9, 32]⟩] 9)).alloc (.cells #[.string ⟨#[44]⟩, .string ⟨#[32, 44]⟩, .string ⟨#[44, 44, 32, 44]⟩, .string ⟨#[9, 44]⟩] 9)).cell? ⟨W.heap.size, k, none⟩ = some (.string (strB (preL k))) := by
  rw [World.cell?_alloc_past _ _ _ (by simp)]; exact new_pre W k hk
theorem pq_post (W : World) (k : Nat) (hk : k < 4) : ((W.alloc (.cells #[.string ⟨#[]⟩, .string ⟨#[32]⟩, .string ⟨#[9]⟩, .string ⟨#[32, 9, 32]⟩] 9)).alloc (.cells #[.string ⟨#[44]⟩, .string ⟨#[32, 44]⟩, .string ⟨#[44, 44, 32, 44]⟩, .string ⟨#[9, 44]⟩] 9)).cell? ⟨W.heap.size + 1, k, none⟩ = some (.string (strB (postL k))) := by
  have := new_post (W.alloc (.cells #[.string ⟨#[]⟩, .string ⟨#[32]⟩, .string ⟨#[9]⟩, .string ⟨#[32, 9, 32]⟩] 9)) k hk
  simpa using this
theorem qp_post (W : World) (k : Nat) (hk : k < 4) : ((W.alloc (.cells #[.string ⟨#[44]⟩, .string ⟨#[32, 44]⟩, .string ⟨#[44, 44, 32, 44]⟩, .string ⟨#[9, 44]⟩] 9)).alloc (.cells #[.string ⟨#[]⟩, .string ⟨#[32]⟩, .string ⟨#[9]⟩, .string ⟨#[32, 9, 32]⟩] 9)).cell? ⟨W.heap.size, k, none⟩ = some (.string (strB (postL k))) := by
  rw [World.cell?_alloc_past _ _ _ (by simp)]; exact new_post W k hk
theorem qp_pre (W : World) (k : Nat) (hk : k < 4) : ((W.alloc (.cells #[.string ⟨#[44]⟩, .string ⟨#[32, 44]⟩, .string ⟨#[44, 44, 32, 44]⟩, .string ⟨#[9, 44]⟩] 9)).alloc (.cells #[.string ⟨#[]⟩, .string ⟨#[32]⟩, .string ⟨#[9]⟩, .string ⟨#[32, 9, 32]⟩] 9)).cell? ⟨W.heap.size + 1, k, none⟩ = some (.string (strB (preL k))) := by
  have := new_pre (W.alloc (.cells #[.string ⟨#[44]⟩, .string ⟨#[32, 44]⟩, .string ⟨#[44, 44, 32, 44]⟩, .string ⟨#[9, 44]⟩] 9)) k hk
  simpa using this
theorem pre_size (k : Nat) : (strB (preL k)).size ≤ 3 := by rw [strB_size]; unfold preL; repeat' split
                                                            all_goals simp
theorem post_size (k : Nat) : (strB (postL k)).size ≤ 4 := by rw [strB_size]; unfold postL; repeat' split
                                                              all_goals simp

theorem tok_elem {t : List UInt8} (h : tokS t = true) : t ≠ [] ∧ t.all tokB = true := by
  unfold tokS at h; simp at h; exact ⟨h.2, by rw [List.all_eq_true]; intro c hc; exact h.1 c hc⟩

theorem strB_cat (x p q r : List UInt8) : strB x ++ (strB p ++ strB q ++ strB r) = strB (x ++ (p ++ q ++ r)) := by apply ByteArray.ext; simp [strB]
theorem step_len {x q : List UInt8} {a b k : Nat} (hq : (strB q).size ≤ 802) (hx : x.length ≤ 900 * k) : (x ++ (preL a ++ q ++ postL b)).length ≤ 900 * (k + 1) := by
  have h1 := pre_size a
  have h2 := post_size b
  rw [strB_size] at hq h1 h2
  simp only [List.length_append]
  omega

def ElRel (ts : List (List UInt8)) (w : World) (s v i : Value) (wr : World) : Prop :=
  ∃ (k : Nat) (x : List UInt8) (qs : List (List UInt8)), i = .int .i64 k ∧ k ≤ ts.length ∧ s = .string (strB x) ∧ Els x qs ∧ OwnsS w.heap.size wr v qs ∧ qs.length ≤ k ∧ x.length ≤ 900 * k ∧ Below w.heap.size w wr

set_option maxHeartbeats 4000000 in
set_option maxRecDepth 100000 in
theorem walk (va vb : Value) (ts : List (List UInt8)) (bs : List UInt8) (w : World) (ha : ReadsS w va ts) (hb : ReadsU w vb bs) (hts : ∀ t ∈ ts, t.length ≤ 1048576) (hn : ts.length ≤ 12) (_hbs : bs.length ≤ 9223372036854775807) :
    Calls Tryd.prog 10 #[va, vb] w fun e w' => e = .returned (.bool true) ∧ Below w.heap.size w w' := by
  obtain ⟨i0, hi, hz0, hz1, hz2⟩ := info_parts Tryd.infoS
  obtain ⟨ao, ca, rfl, hca⟩ := ha
  obtain ⟨bo, cb, rfl, hcb⟩ := hb
  have HA := Lib.hid hca
  have HBb := Lib.hid hcb
  have HT := Lib.hid hts
  clear hca hcb hts
  go_enter Tryd.func10, Tryd.ntmps10
  go_wp2_with fail
  refine (awake_any _).mono ?_
  rintro e w1 ⟨rfl, hB⟩
  have hB1 := hB.size
  go_wp2_with fail
  go_loopw [5, 6, 24] (fun s v i wr => ElRel ts w1 s v i wr) (fun _ _ i _ => ts.length - (intOf i).toNat)
  case atStart => exact ⟨0, [], [], rfl, Nat.zero_le _, rfl, Els0, World.ownsRow_nil _ _ _ _, by simp, by simp, Below.refl _ _⟩
  case round =>
    obtain ⟨k, x, qs, rfl, hk, rfl, hE, hO, hq, hx, hBr⟩ := hrel
    have hbr := hBr.size
    have HE := Lib.hid hE
    clear hE
    have hxs : (strB x).size ≤ 10800 := by rw [strB_size]; omega
    by_cases hlt : k < ts.length
    · obtain ⟨t, ht⟩ : ∃ t, ts[k]? = some t := ⟨ts[k], by simp [hlt]⟩
      have htl : t.length ≤ 1048576 := HT.out t (List.mem_of_getElem? ht)
      obtain ⟨g, off, rfl, hg, hc1⟩ := HA.out k t ht
      have hcell : wr.cell? ⟨g, off + k, none⟩ = some (.string (strB t)) := ((hBr.cell (p := ⟨g, off + k, none⟩) (by show g < _; omega)).trans (hB.cell (p := ⟨g, off + k, none⟩) hg)).trans hc1
      have hts : (strB t).size ≤ 1048576 := by rw [strB_size]; exact htl
      clear ht hc1
      by_cases hc : ctlS t = true
      · go_wp2_with fail
        refine (quote_bad (strB t) _ (by omega) (by rw [strB_list]; exact hc)).mono ?_
        rintro e w' ⟨rfl, rfl⟩
        go_wp2_with fail
        go_roundw
        case rel => exact ⟨k + 1, x, qs, by go_num, by omega, rfl, HE.out, hO, by omega, by omega, hBr⟩
        case measure => simp [intOf]; omega
      · have hc' : ctlS t = false := by simpa using hc
        have HC := Lib.hid hc'
        clear hc hc'
        by_cases h400 : (strB t).size ≤ 400
        · go_wp2_with fail
          refine (quote_good (strB t) _ (by omega) (by rw [strB_list]; exact HC.out)).mono ?_
          rintro e w2 ⟨rfl, hB2⟩
          have hb2 := hB2.size
          go_wp2_with fail
          refine (token_any (strB t) _ (by unfold maxLen; omega)).mono ?_
          rintro e w' ⟨rfl, rfl⟩
          rw [strB_list]
          have ho2 : OwnsS w1.heap.size w2 _ qs := OwnsS.below hO hB2
          have hB3 := hBr.trans (hB2.mono hbr)
          clear hcell hB2 hO hBr
          cases htk : tokS t with
          | true =>
            have hel : Elem (t) := .inl (tok_elem htk)
            have HEL := Lib.hid hel
            have hqs : (strB (t)).size ≤ 802 := by omega
            clear htk hel HC
            by_cases hkb : k < bs.length
            · obtain ⟨c, hcb⟩ : ∃ c, bs[k]? = some c := ⟨bs[k], by simp [hkb]⟩
              obtain ⟨g2, off2, rfl, hg2, hc2⟩ := HBb.out k c hcb
              have hcell2 : w2.cell? ⟨g2, off2 + k, none⟩ = some (.int .u8 (c.toNat : Int)) := ((hB.trans (hB3.mono hB1)).cell (p := ⟨g2, off2 + k, none⟩) hg2).trans hc2
              clear hcb hc2
              go_upto_region 15 with fail
              go_cut [5] (fun s5 wx => ∃ a b : Nat, s5 = .string (strB (x ++ (preL a ++ t ++ postL b))) ∧ Below w2.heap.size w2 wx)
              case first =>
                have f1 := new_pre w2 (c.toNat % 4) (by omega)
                have f2 := new_post w2 (c.toNat / 4 % 4) (by omega)
                have f3 := pq_pre w2 (c.toNat % 4) (by omega)
                have f4 := pq_post w2 (c.toNat / 4 % 4) (by omega)
                have f5 := qp_post w2 (c.toNat / 4 % 4) (by omega)
                have f6 := qp_pre w2 (c.toNat % 4) (by omega)
                have z1 := pre_size (c.toNat % 4)
                have z2 := post_size (c.toNat / 4 % 4)
                go_region
                all_goals
                  go_wp2_with fail
                  go_meet
                  exact ⟨c.toNat % 4, c.toNat / 4 % 4, by rw [strB_cat], (((Below.refl _ _).alloc (Nat.le_refl _) _).alloc (by simp) _).drew⟩
              case rest =>
                obtain ⟨a, b, rfl, hBx⟩ := hcut
                have hbx := hBx.size
                go_wp2_with (at_builtin; refine wpList_append_own _ rfl _ _ 36 rfl w1.heap.size 9 i0 (.string ByteArray.empty) 1 16 Tryd.underlying36 hi hz0 hz1 hz2 rfl (by decide) _ _ _ rfl ((OwnsS.below ho2 hBx).alloc _) ⟨_, 0, none⟩ 1 1 [.string (strB (t))] rfl rfl (cell_one_new _ _ _) (fun u hu => by simp at hu; subst hu; rfl) (by unfold maxLen; omega) (by omega) (by simp; omega) ?_; intro v' w4 hown' hgrow _)
                go_roundw
                case rel => exact ⟨k + 1, x ++ (preL a ++ t ++ postL b), qs ++ [t], by go_num, by omega, by simp, HE.out.step HEL.out a b, OwnsS.snoc hown', by simp; omega, step_len hqs hx, below_append hB3 (by omega) hBx ho2 hgrow⟩
                case measure => simp [intOf]; omega
            · go_upto_region 15 with fail
              go_cut [5] (fun s5 wx => ∃ a b : Nat, s5 = .string (strB (x ++ (preL a ++ t ++ postL b))) ∧ Below w2.heap.size w2 wx)
              case first =>
                have f1 := new_pre w2 (0) (by omega)
                have f2 := new_post w2 (0) (by omega)
                have f3 := pq_pre w2 (0) (by omega)
                have f4 := pq_post w2 (0) (by omega)
                have f5 := qp_post w2 (0) (by omega)
                have f6 := qp_pre w2 (0) (by omega)
                have z1 := pre_size (0)
                have z2 := post_size (0)
                go_region
                all_goals
                  go_wp2_with fail
                  go_meet
                  exact ⟨0, 0, by rw [strB_cat], (((Below.refl _ _).alloc (Nat.le_refl _) _).alloc (by simp) _).drew⟩
              case rest =>
                obtain ⟨a, b, rfl, hBx⟩ := hcut
                have hbx := hBx.size
                go_wp2_with (at_builtin; refine wpList_append_own _ rfl _ _ 36 rfl w1.heap.size 9 i0 (.string ByteArray.empty) 1 16 Tryd.underlying36 hi hz0 hz1 hz2 rfl (by decide) _ _ _ rfl ((OwnsS.below ho2 hBx).alloc _) ⟨_, 0, none⟩ 1 1 [.string (strB (t))] rfl rfl (cell_one_new _ _ _) (fun u hu => by simp at hu; subst hu; rfl) (by unfold maxLen; omega) (by omega) (by simp; omega) ?_; intro v' w4 hown' hgrow _)
                go_roundw
                case rel => exact ⟨k + 1, x ++ (preL a ++ t ++ postL b), qs ++ [t], by go_num, by omega, by simp, HE.out.step HEL.out a b, OwnsS.snoc hown', by simp; omega, step_len hqs hx, below_append hB3 (by omega) hBx ho2 hgrow⟩
                case measure => simp [intOf]; omega
          | false =>
            have hel : Elem (quoS t) := .inr ⟨t, rfl, HC.out⟩
            have HEL := Lib.hid hel
            have hqs : (strB (quoS t)).size ≤ 802 := by rw [strB_size] at *; have := escS_le t; simp [quoS] at *; omega
            clear htk hel HC
            by_cases hkb : k < bs.length
            · obtain ⟨c, hcb⟩ : ∃ c, bs[k]? = some c := ⟨bs[k], by simp [hkb]⟩
              obtain ⟨g2, off2, rfl, hg2, hc2⟩ := HBb.out k c hcb
              have hcell2 : w2.cell? ⟨g2, off2 + k, none⟩ = some (.int .u8 (c.toNat : Int)) := ((hB.trans (hB3.mono hB1)).cell (p := ⟨g2, off2 + k, none⟩) hg2).trans hc2
              clear hcb hc2
              go_upto_region 15 with fail
              go_cut [5] (fun s5 wx => ∃ a b : Nat, s5 = .string (strB (x ++ (preL a ++ quoS t ++ postL b))) ∧ Below w2.heap.size w2 wx)
              case first =>
                have f1 := new_pre w2 (c.toNat % 4) (by omega)
                have f2 := new_post w2 (c.toNat / 4 % 4) (by omega)
                have f3 := pq_pre w2 (c.toNat % 4) (by omega)
                have f4 := pq_post w2 (c.toNat / 4 % 4) (by omega)
                have f5 := qp_post w2 (c.toNat / 4 % 4) (by omega)
                have f6 := qp_pre w2 (c.toNat % 4) (by omega)
                have z1 := pre_size (c.toNat % 4)
                have z2 := post_size (c.toNat / 4 % 4)
                go_region
                all_goals
                  go_wp2_with fail
                  go_meet
                  exact ⟨c.toNat % 4, c.toNat / 4 % 4, by rw [strB_cat], (((Below.refl _ _).alloc (Nat.le_refl _) _).alloc (by simp) _).drew⟩
              case rest =>
                obtain ⟨a, b, rfl, hBx⟩ := hcut
                have hbx := hBx.size
                go_wp2_with (at_builtin; refine wpList_append_own _ rfl _ _ 36 rfl w1.heap.size 9 i0 (.string ByteArray.empty) 1 16 Tryd.underlying36 hi hz0 hz1 hz2 rfl (by decide) _ _ _ rfl ((OwnsS.below ho2 hBx).alloc _) ⟨_, 0, none⟩ 1 1 [.string (strB (quoS t))] rfl rfl (cell_one_new _ _ _) (fun u hu => by simp at hu; subst hu; rfl) (by unfold maxLen; omega) (by omega) (by simp; omega) ?_; intro v' w4 hown' hgrow _)
                go_roundw
                case rel => exact ⟨k + 1, x ++ (preL a ++ quoS t ++ postL b), qs ++ [quoS t], by go_num, by omega, by simp, HE.out.step HEL.out a b, OwnsS.snoc hown', by simp; omega, step_len hqs hx, below_append hB3 (by omega) hBx ho2 hgrow⟩
                case measure => simp [intOf]; omega
            · go_upto_region 15 with fail
              go_cut [5] (fun s5 wx => ∃ a b : Nat, s5 = .string (strB (x ++ (preL a ++ quoS t ++ postL b))) ∧ Below w2.heap.size w2 wx)
              case first =>
                have f1 := new_pre w2 (0) (by omega)
                have f2 := new_post w2 (0) (by omega)
                have f3 := pq_pre w2 (0) (by omega)
                have f4 := pq_post w2 (0) (by omega)
                have f5 := qp_post w2 (0) (by omega)
                have f6 := qp_pre w2 (0) (by omega)
                have z1 := pre_size (0)
                have z2 := post_size (0)
                go_region
                all_goals
                  go_wp2_with fail
                  go_meet
                  exact ⟨0, 0, by rw [strB_cat], (((Below.refl _ _).alloc (Nat.le_refl _) _).alloc (by simp) _).drew⟩
              case rest =>
                obtain ⟨a, b, rfl, hBx⟩ := hcut
                have hbx := hBx.size
                go_wp2_with (at_builtin; refine wpList_append_own _ rfl _ _ 36 rfl w1.heap.size 9 i0 (.string ByteArray.empty) 1 16 Tryd.underlying36 hi hz0 hz1 hz2 rfl (by decide) _ _ _ rfl ((OwnsS.below ho2 hBx).alloc _) ⟨_, 0, none⟩ 1 1 [.string (strB (quoS t))] rfl rfl (cell_one_new _ _ _) (fun u hu => by simp at hu; subst hu; rfl) (by unfold maxLen; omega) (by omega) (by simp; omega) ?_; intro v' w4 hown' hgrow _)
                go_roundw
                case rel => exact ⟨k + 1, x ++ (preL a ++ quoS t ++ postL b), qs ++ [quoS t], by go_num, by omega, by simp, HE.out.step HEL.out a b, OwnsS.snoc hown', by simp; omega, step_len hqs hx, below_append hB3 (by omega) hBx ho2 hgrow⟩
                case measure => simp [intOf]; omega
        · go_wp2_with fail
          refine (quote_good (strB t) _ (by omega) (by rw [strB_list]; exact HC.out)).mono ?_
          rintro e w2 ⟨rfl, hB2⟩
          go_wp2_with fail
          go_roundw
          case rel => exact ⟨k + 1, x, qs, by go_num, by omega, rfl, HE.out, OwnsS.below hO hB2, by omega, by omega, hBr.trans (hB2.mono hbr)⟩
          case measure => simp [intOf]; omega
    · have hl := HE.out.list
      have HL := Lib.hid hl
      clear hl
      go_wp2_with fail
      refine (list_any (strB x) _ (by omega)).mono ?_
      rintro e w2 ⟨hB2, he⟩
      rw [strB_list, HL.out] at he
      obtain ⟨v, rfl, hv, hle⟩ := he
      go_wp2_with fail
      refine (texts_any _ _ qs qs _ hv.reads (OwnsS.below hO hB2).reads (by omega) (by omega)).mono ?_
      rintro e w' ⟨he, n, rfl⟩
      rw [decide_eq_true rfl] at he
      subst he
      go_wp2_with fail
      go_ret
      exact ⟨rfl, below_drewN (hB.trans ((hBr.trans (hB2.mono hbr)).mono hB1)) n⟩
end Go.Proofs.YtjcekkgoohkomaaDoor.elements
