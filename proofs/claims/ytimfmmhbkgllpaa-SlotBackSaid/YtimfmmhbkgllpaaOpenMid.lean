/- A struct of three fields, by value, whose middle one is a struct of two: opened to its four cells. -/
import Derived.Test.YtimfmmhbkgllpaaProg
import Derived.Lib.SmallJoins
namespace Go.Proofs.Ytimfmmhbkgllpaa
open Go.ChangeShapes Go.WideShapes Go.RowKit Go.Deep Go.WideElems Go.Maps
section
variable {H : Type} {enc : TypeId × Value → H} {P : Program} {w : World} {base : Nat} {spare : Nat → Bool} {held : Bool}
theorem open_mid4 {r : Reach} {b0 : Nat} {t : TypeId} {f0 f1 f2 g0 g1 : Field} {v : Value} {d : DataW H} {p : List MemPlace} (hs : P.underlying t = some (.struct #[f0, f1, f2])) (hm : P.underlying f1.type = some (.struct #[g0, g1])) (hC : P.cellsOf t = 4)
    (o0 : f0.offset = 0) (o1 : f1.offset = 1) (o2 : f2.offset = 3) (p0 : g0.offset = 0) (p1 : g1.offset = 1)
    (k0 : P.cellsOf f0.type = 1) (k1 : P.cellsOf f1.type = 2) (k2 : P.cellsOf f2.type = 1) (m0 : P.cellsOf g0.type = 1) (m1 : P.cellsOf g1.type = 1)
    (hv : Value.okWide P w r b0 t v) (h : DataW.Trod enc P w base spare held t v d p) :
    ∃ (v0 v1 v2 v3 : Value) (y0 y1 y2 y3 : DataW H × List MemPlace) (n m : Nat), v = .agg #[v0, v1, v2, v3] ∧
      DataW.trod enc P w base spare held n f0.type [v0] = some y0 ∧ DataW.trod enc P w base spare held m g0.type [v1] = some y1 ∧ DataW.trod enc P w base spare held m g1.type [v2] = some y2 ∧ DataW.trod enc P w base spare held n f2.type [v3] = some y3 := by
  obtain ⟨cs, rfl, hsz⟩ := okWide_struct hs hv
  obtain ⟨c0, c1, c2, c3, rfl⟩ := Joins.array4 (hsz.trans hC)
  obtain ⟨fuel, hf⟩ := h
  obtain ⟨y0, y1, y2, n, _, _, h0, h1, h2⟩ := trod_struct3 hs hf
  have h1' : DataW.trod enc P w base spare held n f1.type [c1, c2] = some y1 := by simpa [Value.cells, o1, k1] using h1
  obtain ⟨z0, z1, m, _, _, i0, i1⟩ := trod_struct2 hm h1'
  exact ⟨c0, c1, c2, c3, y0, z0, z1, y2, n, m, rfl, by simpa [Value.cells, o0, k0] using h0, by simpa [p0, m0] using i0, by simpa [p1, m1] using i1, by simpa [Value.cells, o2, k2] using h2⟩
end
end Go.Proofs.Ytimfmmhbkgllpaa
