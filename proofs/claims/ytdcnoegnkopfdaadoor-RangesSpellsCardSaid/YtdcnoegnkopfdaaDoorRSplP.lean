/- Plain mathematics of chapter 9: the three ways to write one range. -/
import Derived.Test.YtdcnoegnkopfdaaDoorRBack
namespace Go.Proofs.YtdcnoegnkopfdaaDoor

theorem parse_one {t : List UInt8} (hE : Elem t) {n : Int} (h0 : 0 ≤ n) {r : Rg} (h : elemR t n = some r) :
    parseR (preB ++ t) n = if (withinR r n).1 < (withinR r n).2 then .ok [withinR r n] else .err 1 := by
  unfold parseR
  rw [(pre_app _).1, if_pos rfl, (pre_app _).2, listO_elems _ hE.ctl, elems_last hE, Int.max_eq_left h0]
  simp only [elemsR, h, Option.map_some, List.length_singleton]
  by_cases hc : (withinR r n).1 < (withinR r n).2
  · rw [if_pos hc, if_pos hc, if_neg (by omega), if_neg (by simp)]
  · rw [if_neg hc, if_neg hc, if_neg (by omega), if_pos rfl]
theorem decT_tok (n : Int) : (decT n).all tokB = true := by
  rw [List.all_eq_true]; intro c hc
  have := List.all_eq_true.mp (dec_digs n.toNat).1 c hc
  unfold tokB; rw [this]; rfl
theorem decT_num (n : Int) (h0 : 0 ≤ n) (h : n ≤ 999999999999998) : num9 (decT n) = some n.toNat := num9_dec _ (by omega)
theorem spell1 (a b n : Int) (h0 : 0 ≤ a) (h1 : a ≤ b) (h2 : b ≤ 65535) (hn : 0 ≤ n) :
    parseR (preB ++ textR (a, b + 1)) n = if a < min (b + 1) n then .ok [(a, min (b + 1) n)] else .err 1 := by
  have e : withinR (a, b + 1) n = (a, min (b + 1) n) := by unfold withinR; exact Prod.ext (by simp; omega) rfl
  rw [parse_one (text_Elem _) hn (text_elem (r := (a, b + 1)) ⟨h0, by simp; omega, by simp; omega⟩ n), e]
theorem spell2 (a n : Int) (h0 : 0 ≤ a) (h2 : a ≤ 65535) (hn : 0 ≤ n) :
    parseR (preB ++ (decT a ++ [45])) n = if a < n then .ok [(a, n)] else .err 1 := by
  have hE : Elem (decT a ++ [45]) := .inl ⟨by simp, by rw [List.all_append, decT_tok]; rfl⟩
  have hc : cut9 45 (decT a ++ [45]) = (decT a, [], true) := cut9_app 45 _ _ (dec_not _ (by decide))
  have he : elemR (decT a ++ [45]) n = some (a, n) := by
    unfold elemR; rw [hc]; simp only [if_true]
    rw [if_neg (show ¬ decT a = [] from dec_ne _), decT_num a h0 (by omega)]
    simp; omega
  have e : withinR (a, n) n = (a, n) := by unfold withinR; exact Prod.ext (by simp; omega) (by simp)
  rw [parse_one hE hn he, e]
theorem spell3 (a n : Int) (h0 : 0 ≤ a) (h2 : a ≤ 65535) (hn : 0 ≤ n) :
    parseR (preB ++ 45 :: decT a) n = if max 0 (n - a) < n then .ok [(max 0 (n - a), n)] else .err 1 := by
  have hE : Elem (45 :: decT a) := .inl ⟨by simp, by rw [List.all_cons, decT_tok]; rfl⟩
  have hc : cut9 45 (45 :: decT a) = ([], decT a, true) := by simp [cut9]
  have he : elemR (45 :: decT a) n = some (n - a, n) := by
    unfold elemR; rw [hc]; simp only [if_true]
    rw [decT_num a h0 (by omega)]
    simp; omega
  have e : withinR (n - a, n) n = (max 0 (n - a), n) := by unfold withinR; exact Prod.ext (by simp; omega) (by simp)
  rw [parse_one hE hn he, e]
end Go.Proofs.YtdcnoegnkopfdaaDoor
