/- Rows of strings. -/
import Derived.Test.YtheldnamllnkeaaDoorDmpNum
import Derived.Test.YtheldnamllnkeaaDoorFr
import Derived.Test.YtheldnamllnkeaaDoorAppendHome
import Derived.Deep.AppendLies
namespace Go.Proofs.YtheldnamllnkeaaDoor
namespace Pd
open Go.RowKit Dsk Go.Maps
set_option linter.unusedVariables false
set_option maxRecDepth 100000

theorem bgo {B : Nat} {w W W' : World} (h : Below B w W) (hB : B ≤ w.heap.size) (k : Below W.heap.size W W') : Below B w W' := h.trans (k.mono (Nat.le_trans hB h.size))
theorem drB {W w' : World} (h : Below W.drew.heap.size W.drew w') : Below W.heap.size W w' := (Below.refl _ _).drew.trans h
/-- The cells of strings. -/
def scells (l : List (List UInt8)) : List Value := l.map fun x => .string (Om.B x)
theorem scells_length (l : List (List UInt8)) : (scells l).length = l.length := List.length_map ..
theorem scells_snoc (l : List (List UInt8)) (x : List UInt8) : scells (l ++ [x]) = scells l ++ [.string (Om.B x)] := by simp [scells]
theorem scells_get (l : List (List UInt8)) (i : Nat) (x : List UInt8) (h : l[i]? = some x) : (scells l)[i]? = some (.string (Om.B x)) := by simp [scells, h]
theorem info_str : (Tryd.prog.info? 9).map (fun i => (i.zero, i.size, i.bytes)) = some (some (.string ⟨#[]⟩), 1, 16) := by kernel_rfl
abbrev Strs (w : World) (v : Value) (l : List (List UInt8)) : Prop := w.ownsRow 0 9 1 v l.length (scells l)
theorem strs_made {w : World} {g : Nat} {l : List (List UInt8)} (n : Nat) (hn : n = l.length) (hl : n ≤ 1000000) (h : w.heap[g]? = some (.cells (scells l).toArray 9 (0, 0))) : Strs w (.slice (some ⟨g, 0, none⟩) n n) l := by
  subst hn
  refine ⟨by rw [scells_length, Nat.mul_one], .inr ⟨g, l.length, (scells l).toArray, rfl, Nat.zero_le _, h, Nat.le_refl _, by unfold maxLen; omega, by simp [scells_length], ?_⟩⟩
  rw [Nat.mul_one, ← scells_length]
  simp
theorem strs_slice {w : World} {v : Value} {l : List (List UInt8)} (h : Strs w v l) : ∃ a c, v = .slice a l.length c := by
  rcases h.2 with ⟨h1, h2⟩ | ⟨g, cap, cur, hv, _⟩
  · exact ⟨none, 0, by rw [h1, h2]⟩
  · exact ⟨_, _, hv⟩
theorem strs_at {w : World} {v : Value} {l : List (List UInt8)} (h : Strs w v l) (hne : l ≠ []) : ∃ g c, v = .slice (some ⟨g, 0, none⟩) l.length c ∧ g < w.heap.size ∧ l.length ≤ c ∧ ∀ (i : Nat) x, l[i]? = some x → w.cell? ⟨g, 0 + i, none⟩ = some (.string (Om.B x)) := by
  rcases h.2 with ⟨h1, h2⟩ | ⟨g, cap, cur, hv, _, hh, hc, _⟩
  · exact absurd (List.eq_nil_of_length_eq_zero h2) hne
  · subst hv
    refine ⟨g, cap, rfl, (Array.getElem?_eq_some_iff.1 hh).1, hc, fun i x hx => ?_⟩
    rw [Nat.zero_add, h.cellAt i (by have := (List.getElem?_eq_some_iff.1 hx).1; omega)]
    exact scells_get l i x hx
theorem strs_block {w : World} {v : Value} {l : List (List UInt8)} (h : Strs w v l) (k : Nat) (hk : v.ownBlock = some k) : k < w.heap.size := by
  rcases h.2 with ⟨rfl, _⟩ | ⟨g, cap, cur, rfl, _, hh, _⟩
  · cases hk
  · cases hk
    exact (Array.getElem?_eq_some_iff.1 hh).1
theorem strs_next {w w2 : World} {v : Value} {l : List (List UInt8)} (h : Strs w v l) (hb : Below w.heap.size w w2) : Strs w2 v l := own_below h hb
/-- 'append(l, s)', at the operation. -/
theorem wpList_addS {w : World} {ops : Array Oper} {rest : List Oper} {o : Oper} {a : Act} {Q : Exit → Act → World → Prop} (hgd : o.guard = none) (s x : Operand) (ho : o.op = .call { callee := .builtin .append, args := #[s, x], argTypes := #[29, 29] })
    (v : Value) (l : List (List UInt8)) (hs : a.eval s = v) (hown : Strs w v l) (hn : l.length ≤ 1000000)
    (b : Nat) (y : List UInt8) (hx : a.eval x = .slice (some ⟨b, 0, none⟩) 1 1) (hc : w.heap[b]? = some (.cells #[.string (Om.B y)] 9 (0, 0)))
    (h : ∀ v' w', Strs w' v' (l ++ [y]) → Fr (fun k => v.ownBlock = some k) w w' → (∀ k, v'.ownBlock = some k → v.ownBlock = some k ∨ w.heap.size ≤ k) → wpList Tryd.prog ops Q rest (a.put o.dst v') w') : wpList Tryd.prog ops Q (o :: rest) a w := by
  obtain ⟨i0, hi, hz0, hz1, hz2⟩ := info_parts info_str
  refine wpList_append_home hgd s x _ ho 9 i0 _ 1 16 Tryd.underlying29 hi hz0 hz1 hz2 rfl (by decide) v l.length (scells l) hs hown ⟨b, 0, none⟩ 1 1 [.string (Om.B y)] hx rfl (World.news_of_block hc) (fun u hu => by rw [List.mem_singleton.1 hu]; rfl) (by unfold maxLen; omega) (by omega) ?_
  intro v' w' h1 h2 h3
  refine h v' w' (by unfold Strs; rw [scells_snoc, List.length_append]; exact h1) (Fr.of_grown (F := fun k => v.ownBlock = some k) h2 fun k e => e) fun k hk => ?_
  rcases h3 with e | e
  · exact .inl (by rw [← e]; exact hk)
  · right
    rw [hk] at e
    injection e with e
    omega
/-- A row of strings grows in new memory. -/
structure GrowsS (w : World) (l : List (List UInt8)) (v : Value) (wr : World) : Prop where
  row : Strs wr v l
  new : ∀ k, v.ownBlock = some k → w.heap.size ≤ k
  below : Below w.heap.size w wr
theorem GrowsS.more {w wr w' : World} {l : List (List UInt8)} {v : Value} (h : GrowsS w l v wr) (hb : Below wr.heap.size wr w') : GrowsS w l v w' := ⟨strs_next h.row hb, h.new, bgo h.below (Nat.le_refl _) hb⟩
theorem GrowsS.add {w wr w' : World} {l : List (List UInt8)} {v v' : Value} {y : List UInt8} (h : GrowsS w l v wr) (h1 : Strs w' v' (l ++ [y])) (h2 : Fr (fun k => v.ownBlock = some k) wr w') (h3 : ∀ k, v'.ownBlock = some k → v.ownBlock = some k ∨ wr.heap.size ≤ k) : GrowsS w (l ++ [y]) v' w' := by
  refine ⟨h1, fun k hk => ?_, h.below.trans (h2.below h.below.size fun k hk => h.new k hk)⟩
  rcases h3 k hk with e | e
  · exact h.new k e
  · exact Nat.le_trans h.below.size e
theorem lineof_row {w : World} {v : Value} {xs : List (List UInt8)} (h : Strs w v xs) (hne : xs ≠ []) (hN : xs.length ≤ 1000) (hlen : ∀ x ∈ xs, x.length ≤ 1000) :
    Calls Tryd.prog 29 #[v] w fun e w' => e = .returned (.string (Om.B (line xs))) ∧ Below w.heap.size w w' := by
  obtain ⟨g, c, rfl, hg, hc, hcells⟩ := strs_at h hne
  exact lineof_any g c xs w hcells hg hN hc hlen
end Pd
end Go.Proofs.YtheldnamllnkeaaDoor
