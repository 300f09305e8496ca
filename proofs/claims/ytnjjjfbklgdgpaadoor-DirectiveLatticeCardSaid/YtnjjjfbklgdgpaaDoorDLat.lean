/- Plain mathematics of chapter 11: Merge is a semilattice. -/
import Derived.Test.YtnjjjfbklgdgpaaDoorDPure
namespace Go.Proofs.YtnjjjfbklgdgpaaDoor

theorem least_self (a : Int) : leastD a a = a := by unfold leastD; split <;> omega
theorem dv_ext {a b : Dv} (h1 : a.ns = b.ns) (h2 : a.nc = b.nc) (h3 : a.pr = b.pr) (h4 : a.pu = b.pu) (h5 : a.mr = b.mr) (h6 : a.oc = b.oc) (h7 : a.ma = b.ma) (h8 : a.sa = b.sa) (h9 : a.ws = b.ws) (h10 : a.oe = b.oe) (h11 : a.ms = b.ms) (h12 : a.mf = b.mf) : a = b := by
  cases a; cases b; simp_all
theorem nor_merge (x y : Dv) : Nor (mergeD x y) := by
  have a := nor_norm x
  have b := nor_norm y
  refine ⟨least_bd a.ma b.ma, least_bd a.sa b.sa, ?_, ?_, ?_, ?_⟩
  · have h1 := a.ws; have h2 := b.ws; show -1 ≤ min _ _ ∧ min _ _ ≤ _; omega
  · have h1 := a.oe; have h2 := b.oe; show -1 ≤ min _ _ ∧ min _ _ ≤ _; omega
  · have h1 := a.ms; have h2 := b.ms; show -1 ≤ min _ _ ∧ min _ _ ≤ _; omega
  · have h1 := a.mf; have h2 := b.mf; show -1 ≤ max _ _ ∧ max _ _ ≤ _; omega
theorem norm_merge (x y : Dv) : normD (mergeD x y) = mergeD x y := norm_id (nor_merge x y)
theorem merge_comm (x y : Dv) : mergeD x y = mergeD y x := by
  unfold mergeD
  apply dv_ext
  · exact Bool.or_comm _ _
  · exact Bool.or_comm _ _
  · exact Bool.or_comm _ _
  · exact Bool.and_comm _ _
  · exact Bool.or_comm _ _
  · exact Bool.or_comm _ _
  · exact least_comm _ _
  · exact least_comm _ _
  · show min _ _ = min _ _; omega
  · show min _ _ = min _ _; omega
  · show min _ _ = min _ _; omega
  · show max _ _ = max _ _; omega
/-- Merge of normal values. -/
def merN (a b : Dv) : Dv := ⟨a.ns || b.ns, a.nc || b.nc, a.pr || b.pr, a.pu && b.pu, a.mr || b.mr, a.oc || b.oc, leastD a.ma b.ma, leastD a.sa b.sa, min a.ws b.ws, min a.oe b.oe, min a.ms b.ms, max a.mf b.mf⟩
theorem merge_mer (x y : Dv) : mergeD x y = merN (normD x) (normD y) := rfl
theorem mer_assoc (a b c : Dv) : merN (merN a b) c = merN a (merN b c) := by
  unfold merN
  apply dv_ext
  · exact Bool.or_assoc _ _ _
  · exact Bool.or_assoc _ _ _
  · exact Bool.or_assoc _ _ _
  · exact Bool.and_assoc _ _ _
  · exact Bool.or_assoc _ _ _
  · exact Bool.or_assoc _ _ _
  · exact least_assoc _ _ _
  · exact least_assoc _ _ _
  · show min (min _ _) _ = min _ (min _ _); omega
  · show min (min _ _) _ = min _ (min _ _); omega
  · show min (min _ _) _ = min _ (min _ _); omega
  · show max (max _ _) _ = max _ (max _ _); omega
theorem mer_self (a : Dv) : merN a a = a := by
  unfold merN
  apply dv_ext
  · exact Bool.or_self _
  · exact Bool.or_self _
  · exact Bool.or_self _
  · exact Bool.and_self _
  · exact Bool.or_self _
  · exact Bool.or_self _
  · exact least_self _
  · exact least_self _
  · show min _ _ = _; omega
  · show min _ _ = _; omega
  · show min _ _ = _; omega
  · show max _ _ = _; omega
theorem merge_assoc (x y z : Dv) : mergeD (mergeD x y) z = mergeD x (mergeD y z) := by
  rw [merge_mer (mergeD x y), merge_mer x (mergeD y z), norm_merge, norm_merge, merge_mer, merge_mer]; exact mer_assoc _ _ _
theorem merge_self (x y : Dv) : mergeD (mergeD x y) (mergeD x y) = mergeD x y := by
  rw [merge_mer (mergeD x y), norm_merge]; exact mer_self _
theorem merge_left (x y : Dv) : mergeD (mergeD x y) x = mergeD x y := by
  rw [merge_comm, merge_mer x (mergeD x y), norm_merge, merge_mer x y, ← mer_assoc, mer_self]
end Go.Proofs.YtnjjjfbklgdgpaaDoor
