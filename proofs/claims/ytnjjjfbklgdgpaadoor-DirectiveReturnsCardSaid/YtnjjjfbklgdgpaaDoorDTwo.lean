/- Two directives' cells in memory, and what else is as it was. -/
import Derived.Test.YtnjjjfbklgdgpaaDoorDMem
namespace Go.Proofs.YtnjjjfbklgdgpaaDoor
open Go.RowKit

/-- Both directives' cells. -/
structure TwS (N M : Nat) (d e : Dv) (w w' : World) : Prop where
  a : DvB N w' d
  b : DvB M w' e
  l : Below w.heap.size w w'
theorem TwS.below {N M : Nat} {d e : Dv} {w w1 w2 : World} (h : TwS N M d e w w1) (hb : Below w1.heap.size w1 w2) : TwS N M d e w w2 := ⟨h.a.below hb, h.b.below hb, h.l.trans (hb.mono h.l.size)⟩
theorem twS_all {N M : Nat} {d e : Dv} {w w' : World} (h : TwS N M d e w w') : w'.cell? ⟨N, 0, none⟩ = some (.bool d.ns) ∧ w'.cell? ⟨N, 1, none⟩ = some (.bool d.nc) ∧ w'.cell? ⟨N, 2, none⟩ = some (.bool d.pr) ∧ w'.cell? ⟨N, 3, none⟩ = some (.bool d.pu) ∧ w'.cell? ⟨N, 4, none⟩ = some (.bool d.mr) ∧ w'.cell? ⟨N, 5, none⟩ = some (.bool d.oc) ∧ w'.cell? ⟨N, 6, none⟩ = some (.int .i64 d.ma) ∧ w'.cell? ⟨N, 7, none⟩ = some (.int .i64 d.sa) ∧ w'.cell? ⟨N, 8, none⟩ = some (.int .i64 d.ws) ∧ w'.cell? ⟨N, 9, none⟩ = some (.int .i64 d.oe) ∧ w'.cell? ⟨N, 10, none⟩ = some (.int .i64 d.ms) ∧ w'.cell? ⟨N, 11, none⟩ = some (.int .i64 d.mf) ∧ w'.cell? ⟨M, 0, none⟩ = some (.bool e.ns) ∧ w'.cell? ⟨M, 1, none⟩ = some (.bool e.nc) ∧ w'.cell? ⟨M, 2, none⟩ = some (.bool e.pr) ∧ w'.cell? ⟨M, 3, none⟩ = some (.bool e.pu) ∧ w'.cell? ⟨M, 4, none⟩ = some (.bool e.mr) ∧ w'.cell? ⟨M, 5, none⟩ = some (.bool e.oc) ∧ w'.cell? ⟨M, 6, none⟩ = some (.int .i64 e.ma) ∧ w'.cell? ⟨M, 7, none⟩ = some (.int .i64 e.sa) ∧ w'.cell? ⟨M, 8, none⟩ = some (.int .i64 e.ws) ∧ w'.cell? ⟨M, 9, none⟩ = some (.int .i64 e.oe) ∧ w'.cell? ⟨M, 10, none⟩ = some (.int .i64 e.ms) ∧ w'.cell? ⟨M, 11, none⟩ = some (.int .i64 e.mf) ∧ TwS N M d e w w' :=
  ⟨h.a.c0, h.a.c1, h.a.c2, h.a.c3, h.a.c4, h.a.c5, h.a.c6, h.a.c7, h.a.c8, h.a.c9, h.a.c10, h.a.c11, h.b.c0, h.b.c1, h.b.c2, h.b.c3, h.b.c4, h.b.c5, h.b.c6, h.b.c7, h.b.c8, h.b.c9, h.b.c10, h.b.c11, h⟩
end Go.Proofs.YtnjjjfbklgdgpaaDoor
