/- What add does to directives, continued. -/
import Derived.Test.YtnjjjfbklgdgpaaDoorDAddA
import Derived.Test.YtnjjjfbklgdgpaaDoorDAddB
import Derived.Test.YtnjjjfbklgdgpaaDoorDAddC
namespace Go.Proofs.YtnjjjfbklgdgpaaDoor
open Go.RowKit

theorem add_any (N : Nat) (d : Dv) (e : List UInt8) (w : World) (hD : DvB N w d) (hN : Nor d) (hM : MaxIs w) (he : e.length ≤ 1000000) :
    Calls Tryd.prog 29 #[.pointer (some ⟨N, 0, none⟩), .string (strB e)] w fun en w' => AddPost N (elemD d e) w en w' := by
  obtain ⟨nm, ar, fd, hC⟩ := cutD_ex e he
  by_cases h0 : lowS nm = nNS
  · exact add_nNS N d e nm ar _ fd w hC rfl h0 hD hN hM he
  by_cases h1 : lowS nm = nNC
  · exact add_nNC N d e nm ar _ fd w hC rfl h0 h1 hD hN hM he
  by_cases h2 : lowS nm = nPR
  · exact add_nPR N d e nm ar _ fd w hC rfl h0 h1 h2 hD hN hM he
  by_cases h3 : lowS nm = nPU
  · exact add_nPU N d e nm ar _ fd w hC rfl h0 h1 h2 h3 hD hN hM he
  by_cases h4 : lowS nm = nMR
  · exact add_nMR N d e nm ar _ fd w hC rfl h0 h1 h2 h3 h4 hD hN hM he
  by_cases h5 : lowS nm = nPX
  · exact add_nPX N d e nm ar _ fd w hC rfl h0 h1 h2 h3 h4 h5 hD hN hM he
  by_cases h6 : lowS nm = nOC
  · exact add_nOC N d e nm ar _ fd w hC rfl h0 h1 h2 h3 h4 h5 h6 hD hN hM he
  by_cases h7 : lowS nm = nMA
  · exact add_nMA N d e nm ar _ fd w hC rfl h0 h1 h2 h3 h4 h5 h6 h7 hD hN hM he
  by_cases h8 : lowS nm = nSA
  · exact add_nSA N d e nm ar _ fd w hC rfl h0 h1 h2 h3 h4 h5 h6 h7 h8 hD hN hM he
  by_cases h9 : lowS nm = nWS
  · exact add_nWS N d e nm ar _ fd w hC rfl h0 h1 h2 h3 h4 h5 h6 h7 h8 h9 hD hN hM he
  by_cases h10 : lowS nm = nOE
  · exact add_nOE N d e nm ar _ fd w hC rfl h0 h1 h2 h3 h4 h5 h6 h7 h8 h9 h10 hD hN hM he
  by_cases h11 : lowS nm = nMS
  · exact add_nMS N d e nm ar _ fd w hC rfl h0 h1 h2 h3 h4 h5 h6 h7 h8 h9 h10 h11 hD hN hM he
  by_cases h12 : lowS nm = nMF
  · exact add_nMF N d e nm ar _ fd w hC rfl h0 h1 h2 h3 h4 h5 h6 h7 h8 h9 h10 h11 h12 hD hN hM he
  exact add_other N d e nm ar _ fd w hC rfl h0 h1 h2 h3 h4 h5 h6 h7 h8 h9 h10 h11 h12 hD hN hM he
end Go.Proofs.YtnjjjfbklgdgpaaDoor
