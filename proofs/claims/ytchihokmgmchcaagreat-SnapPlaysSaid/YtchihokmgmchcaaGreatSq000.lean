/- 00: tactic blocks and small facts that are used often, by a short name. -/
set_option linter.unusedVariables false
set_option maxRecDepth 100000
namespace Go.Proofs.YtchihokmgmchcaaGreat
abbrev zL:=List UInt8
abbrev zN:=List Int
abbrev zX:=List (Int×Int)
abbrev zY:=List (Int×List UInt8)
theorem eX1{α:Sort _}(t:α):∃x,x= t:=⟨t,rfl⟩
theorem eX2{α:Sort _}(t:α):∃x,t= x:=⟨t,rfl⟩
variable{P:Prop}
end Go.Proofs.YtchihokmgmchcaaGreat
