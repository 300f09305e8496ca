/- Directives' cells in memory, and what else is as it was. -/
import Derived.Test.YtnjjjfbklgdgpaaDoorDMem
namespace Go.Proofs.YtnjjjfbklgdgpaaDoor
open Go.RowKit

/-- The directives' cells. -/
structure OnS (N : Nat) (d : Dv) (w w' : World) : Prop where
  a : DvB N w' d
  l : Below w.heap.size w w'
theorem OnS.below {N : Nat} {d : Dv} {w w1 w2 : World} (h : OnS N d w w1) (hb : Below w1.heap.size w1 w2) : OnS N d w w2 := ⟨h.a.below hb, h.l.trans (hb.mono h.l.size)⟩
theorem onS_all {N : Nat} {d : Dv} {w w' : World} (h : OnS N d w w') : w'.cell? ⟨N, 0, none⟩ = some (.bool d.ns) ∧ w'.cell? ⟨N, 1, none⟩ = some (.bool d.nc) ∧ w'.cell? ⟨N, 2, none⟩ = some (.bool d.pr) ∧ w'.cell? ⟨N, 3, none⟩ = some (.bool d.pu) ∧ w'.cell? ⟨N, 4, none⟩ = some (.bool d.mr) ∧ w'.cell? ⟨N, 5, none⟩ = some (.bool d.oc) ∧ w'.cell? ⟨N, 6, none⟩ = some (.int .i64 d.ma) ∧ w'.cell? ⟨N, 7, none⟩ = some (.int .i64 d.sa) ∧ w'.cell? ⟨N, 8, none⟩ = some (.int .i64 d.ws) ∧ w'.cell? ⟨N, 9, none⟩ = some (.int .i64 d.oe) ∧ w'.cell? ⟨N, 10, none⟩ = some (.int .i64 d.ms) ∧ w'.cell? ⟨N, 11, none⟩ = some (.int .i64 d.mf) ∧ OnS N d w w' :=
  ⟨h.a.c0, h.a.c1, h.a.c2, h.a.c3, h.a.c4, h.a.c5, h.a.c6, h.a.c7, h.a.c8, h.a.c9, h.a.c10, h.a.c11, h⟩
end Go.Proofs.YtnjjjfbklgdgpaaDoor
