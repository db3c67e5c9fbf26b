/- M4, of the proof -/
import Derived.Test.YtchihokmgmchcaaGreatSq000
import Derived.Test.YtchihokmgmchcaaGreatProg
import Derived.Deep.RegionHeld3
set_option linter.unusedVariables false
set_option maxRecDepth 100000
set_option maxHeartbeats 4000000
namespace Go.Proofs.YtchihokmgmchcaaGreat
open Go.Region renaming noSelect->WW,ready->WY,wanted->WZ
section
namespace Skip
variable {P:Program} {ops:Array Oper} {Q:Exit→Act→World→Prop} {md:Region.Mode} {S:World→Prop}
theorem over {i d:Nat} {oi:Oper} {fuel:Nat} {listed:Array Bool} {a:Act} {w:World} (hi:ops[i]?= some oi) (hd:oi.dst= some d) (hu:a.tmps.setIfInBounds d undef= a.tmps) (b:WW ops) (g:Region.free md ops listed i) (f:(WY md ops listed).contains i) (k:∀c a w,Q (.panic c) (a.put oi.dst undef) w->Q (.panic c) a w) (hw:WZ oi (yielded ops a.tmps)= false) (j:S w) (h:wpAnyH P md ops Q S fuel (listed.setIfInBounds i true) a w):wpAnyH P md ops Q S (fuel+1) listed a w:=by
 refine wpAnyH_take hi b g f k (.inr ⟨hw,rfl⟩) j ?_;have e:a.put oi.dst undef= a:=by rw [hd];show {a with tmps:=a.tmps.setIfInBounds d undef}= a;rw [hu]
 rw [e];exact h
theorem take {i:Nat} (d:Nat) {oi:Oper} (v:Value) {fuel:Nat} {listed:Array Bool} {a:Act} {w:World} (hi:ops[i]?= some oi) (hd:oi.dst= some d) (e:WW ops) (g:Region.free md ops listed i) (f:(WY md ops listed).contains i) (k:∀c a w,Q (.panic c) (a.put oi.dst v) w->Q (.panic c) a w) (hw:WZ oi (yielded ops a.tmps)) (b:∀w,S w->(execOp a.eval oi).run P w= .ok (.value v) w) (j:S w) (h:wpAnyH P md ops Q S fuel (listed.setIfInBounds i true) (a.put (some d) v) w):wpAnyH P md ops Q S (fuel+1) listed a w:=by refine wpAnyH_take hi e g f k (.inl ⟨hw,b⟩) j ?_;rw [hd];exact h
end Skip
end
end Go.Proofs.YtchihokmgmchcaaGreat
