/- slices.symMerge: two sorted parts become one, in the stable order. -/
import Derived.Test.YthpjemihbobjfaaMergeC
namespace Go.Proofs.Ythpjemihbobjfaa
open Go.RowKit

theorem merge_any (B g n cap : Nat) (hn : n ≤ 1000000) : ∀ (N a m b : Nat) (P X Y S : Flds) (w : World), X.length + Y.length < N → OwnsP 42 B w (.slice (some ⟨g, 0, none⟩) n cap) (P ++ X ++ Y ++ S) →
      a = P.length → m = a + X.length → b = m + Y.length → Srt X → Srt Y →
      Calls Try.prog 48 #[.slice (some ⟨g, 0, none⟩) n cap, .int .i64 a, .int .i64 m, .int .i64 b, cmpV] w (MergePost B g n cap P X Y S w) := by
  intro N
  induction N with
  | zero => intro a m b P X Y S w hN; omega
  | succ N ih =>
    intro a m b P X Y S w hN h ha hm hb hX hY
    by_cases hx : X.length = 1
    · obtain ⟨x, rfl⟩ := List.length_eq_one_iff.mp hx
      exact mergeA_any B g n cap a m b P Y S x w h ha (by simpa using hm) hb hY hn
    · by_cases hy : Y.length = 1
      · obtain ⟨y, rfl⟩ := List.length_eq_one_iff.mp hy
        exact mergeB_any B g n cap a m b P X S y w h ha hm (by simpa using hb) hX hx hn
      · exact mergeC_any B g n cap a m b P X Y S w h ha hm hb hX hY hx hy hn fun a' m' b' P' X' Y' S' w' hl h' ha' hm' hb' hX' hY' => ih a' m' b' P' X' Y' S' w' (by omega) h' ha' hm' hb' hX' hY'
end Go.Proofs.Ythpjemihbobjfaa
