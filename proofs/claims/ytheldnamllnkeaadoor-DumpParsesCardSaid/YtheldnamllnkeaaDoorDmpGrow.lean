/- Rows of strings that grow, in a region that draws its order. -/
import Derived.Test.YtheldnamllnkeaaDoorDmpStr
namespace Go.Proofs.YtheldnamllnkeaaDoor
namespace Pd
open Go.RowKit Dsk Go.Maps
set_option linter.unusedVariables false
set_option maxRecDepth 100000
/-- 'append(l, s)' at a step of a region that draws its order, of a row that grows in new memory. -/
theorem step_growS {w0 w : World} {ops : Array Oper} {o : Oper} {a : Act} {K : Act → World → Prop} {Q : Exit → Act → World → Prop} {E : Prop} (hgd : o.guard = none) (s x : Operand) (ho : o.op = .call { callee := .builtin .append, args := #[s, x], argTypes := #[29, 29] })
    (v : Value) (l : List (List UInt8)) (hs : a.eval s = v) (hg : GrowsS w0 l v w) (hn : l.length ≤ 1000000)
    (b : Nat) (y : List UInt8) (hx : a.eval x = .slice (some ⟨b, 0, none⟩) 1 1) (hc : w.heap[b]? = some (.cells #[.string (Om.B y)] 9 (0, 0)))
    (h : ∀ g cap w', GrowsS w0 (l ++ [y]) (.slice (some ⟨g, 0, none⟩) (l.length + 1) cap) w' → Fr (fun k => v.ownBlock = some k) w w' → K (a.put o.dst (.slice (some ⟨g, 0, none⟩) (l.length + 1) cap)) w') :
    if Region.wanted o (yielded ops a.tmps) = true then Oper.wp Tryd.prog o a w K Q else E := by
  obtain ⟨i0, hi, hz0, hz1, hz2⟩ := info_parts info_str
  refine step_append_lies w hgd s x _ ho 0 9 i0 _ 1 16 Tryd.underlying29 hi hz0 hz1 hz2 rfl (by decide) v l.length (scells l) hs hg.row ⟨b, 0, none⟩ 1 1 [.string (Om.B y)] hx rfl (World.news_of_block hc) (fun u hu => by rw [List.mem_singleton.1 hu]; rfl) (by omega) (by unfold maxLen; omega) (by omega) (Nat.zero_le _) w.heap.size rfl ?_
  intro g cap w' h1 h2 h3 h4
  have hf : Fr (fun k => v.ownBlock = some k) w w' := Fr.of_grown (F := fun k => v.ownBlock = some k) h2 fun k e => e
  refine h g cap w' (hg.add (by unfold Strs; rw [scells_snoc, List.length_append]; exact h1) hf fun k hk => ?_) hf
  cases hk
  rcases h3 with e | e
  · exact .inl e
  · right; show _ ≤ g; omega
end Pd
end Go.Proofs.YtheldnamllnkeaaDoor
