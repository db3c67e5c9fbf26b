/- What a round of a range over a function keeps; a row of the caller's that grows in it. -/
import Derived.Test.YtaedgifboepgdaaProg
import Derived.Test.YtaedgifboepgdaaAppendHome
import Derived.WalkKit
import Derived.OwnWalk
import Derived.Below
import Derived.Laws.Rows
import Derived.Laws.OwnMore
import Derived.Laws.NewBlocks
import Derived.Lib.Hide
import Derived.RangeFuncNested
import Derived.RangeFuncBound
import Derived.RangeFuncCalls
import Derived.RangeFuncLeaves
import Derived.Shelf.Abstract
import Derived.Shelf.RegionOpen
import Derived.OwnWalkIn
import Derived.TacticsInMore
import Derived.LoopNIn
import Derived.LoopIn
import Derived.Maps.AppendAt
import Derived.RegionIn
import Derived.BigRegionIn
import Derived.Deep.AppendLies
namespace Go.Proofs.Ytaedgifboepgdaa
namespace Geo
open Go.RowKit Go.Shelf
set_option linter.unusedVariables false
attribute [local go_sem] Oper.semAt_some

/-- The row that the variable in block p holds. -/
def ownAt (p : Nat) (w : World) : Option Nat := (w.cell? ⟨p, 0, none⟩).bind Value.ownBlock
/-- What a round keeps: all cells but the variable's and its row's. -/
structure Kp (p : Nat) (a b : World) : Prop where
  size : a.heap.size ≤ b.heap.size
  same : ∀ (k : Nat) (o : Obj), a.heap[k]? = some o → o.isCells = true → k ≠ p → ownAt p a ≠ some k → b.heap[k]? = some o
  row : ∀ r, ownAt p b = some r → ownAt p a = some r ∨ a.heap.size ≤ r
  high : (∀ r, ownAt p a = some r → r < a.heap.size) → ∀ r, ownAt p b = some r → r < b.heap.size
theorem Kp.trans {p : Nat} {a b c : World} (h : Kp p a b) (k : Kp p b c) : Kp p a c := by
  refine ⟨Nat.le_trans h.size k.size, fun i o hi hc hp ho => ?_, fun r hr => ?_, fun H r hr => k.high (h.high H) r hr⟩
  · refine k.same i o (h.same i o hi hc hp ho) hc hp fun e => ?_
    rcases h.row i e with e' | e'
    · exact ho e'
    · have := (Array.getElem?_eq_some_iff.1 hi).1; omega
  · rcases k.row r hr with e | e
    · exact h.row r e
    · exact .inr (Nat.le_trans h.size e)
theorem ownAt_same {p : Nat} {a b : World} (h : b.heap[p]? = a.heap[p]?) : ownAt p b = ownAt p a := by unfold ownAt; rw [World.cell?_of_block (a := ⟨p, 0, none⟩) h]
theorem Kp.grown {p : Nat} {a b : World} {row : Option Nat} (h : a.grownBy b row) (hp : p < a.heap.size) (hr : ∀ r, row = some r → r ≠ p ∧ ∀ o, a.heap[r]? = some o → o.isCells = false) : Kp p a b := by
  have hs : ownAt p b = ownAt p a := ownAt_same (h.block p hp fun e => (hr p e.symm).1 rfl)
  refine ⟨h.size, fun k o hk hc hkp ho => ?_, fun r e => .inl (hs ▸ e), fun H r e => Nat.lt_of_lt_of_le (H r (hs ▸ e)) h.size⟩
  refine (h.block k (Array.getElem?_eq_some_iff.1 hk).1 fun e => ?_).trans hk
  rw [(hr k e.symm).2 o hk] at hc
  cases hc
theorem kp_b {p : Nat} {w : World} (hp : p < w.heap.size) (W : World) (l : Nat) (o o' : Obj) (hl : w.heap.size ≤ l) (h : W.heap[l]? = some o) (hc : o.isCells = false) (_ : o.isWalk = false) : Kp p W (W.putObj l o') :=
  Kp.grown (grownBy_putObj' W l o') (by have := (Array.getElem?_eq_some_iff.1 h).1; omega) fun r e => by
    cases e
    exact ⟨by omega, fun o2 h2 => by rw [h] at h2; cases h2; exact hc⟩

theorem drew_grown (w : World) : w.grownBy w.drew none := ⟨rfl, rfl, rfl, Nat.le_refl _, fun _ _ _ => rfl⟩
/-- append onto a row of one's own, in a fence: behind it the row lies where it lay, or in the next new block. -/
theorem wpListIn_append_home {F : Fence} {n : Nat} {P : Program} (w : World) {ops : Array Oper} {rest : List Oper} {o : Oper} {a : Act} {Q : Exit → Act → World → Prop}
    (hg : o.guard = none) (s x : Operand) (t : TypeId) (hop : o.op = Op.call { callee := Callee.builtin Builtin.append, args := #[s, x], argTypes := #[t, t] })
    (e : TypeId) (i : TypeInfo) (z : Value) (size bytes : Nat) (h1 : P.underlying t = some (.slice e)) (h2 : P.info? e = some i) (h3 : i.zero = some z) (h4 : i.size = size) (h5 : i.bytes = bytes) (h6 : z.cells.size = size) (h7 : 0 < size)
    (v : Value) (k : Nat) (xs : List Value) (hs : a.eval s = v) (hown : w.ownsRow 0 e size v k xs) (ad : Addr) (m c : Nat) (news : List Value) (hx : a.eval x = .slice (some ad) m c) (hn : news.length = m * size)
    (hc : ∀ j u, news[j]? = some u → w.cell? (ad.add j) = some u) (h1c : ∀ u ∈ news, u.oneCell' = true) (b1 : k + m ≤ maxLen) (b2 : (k + m) * bytes ≤ 140737488355328)
    (hK : ∀ v' w', w'.ownsRow 0 e size v' (k + m) (xs ++ news) → w.grownBy w' v.ownBlock → (v'.ownBlock = v.ownBlock ∨ v'.ownBlock = some w.heap.size) → wpListIn F n P ops Q rest (a.put o.dst v') w') :
    wpListIn F n P ops Q (o :: rest) a w := by
  refine wpListIn_plain hg fun K hK' => ?_
  obtain ⟨v', w', hrun, r1, r2, r3⟩ := Dsk.run_append_home (P := P) w t o.type e i z size bytes h1 h2 h3 h4 h5 h6 h7 v k xs hown ad m c news hn hc h1c b1 b2
  unfold Oper.wpIn
  refine ⟨?_, ?_⟩
  · simp [Oper.about, hop, resolve, Target.leads, Sem.run_pure]
  · rw [Oper.semAt_plain F _ _ (by rw [hop]; intro c hc'; cases hc')]
    simp [execOp, hop, resolve, invoke, builtin, hs, hx, hrun, Result.andThen]
    exact hK' _ _ (hK v' w' r1 r2 r3)
theorem own_zero {w : World} {base : Nat} {e : TypeId} {size : Nat} {v : Value} {n : Nat} {xs : List Value} (h : w.ownsRow base e size v n xs) : w.ownsRow 0 e size v n xs := by
  refine ⟨h.1, ?_⟩
  rcases h.2 with h2 | ⟨g, cap, cur, hv, hg, r⟩
  · exact .inl h2
  · exact .inr ⟨g, cap, cur, hv, Nat.zero_le _, r⟩
theorem own_from {w : World} {base : Nat} {e : TypeId} {size : Nat} {v : Value} {n : Nat} {xs : List Value} (h : w.ownsRow 0 e size v n xs) (hb : ∀ r, v.ownBlock = some r → base ≤ r) : w.ownsRow base e size v n xs := by
  refine ⟨h.1, ?_⟩
  rcases h.2 with h2 | ⟨g, cap, cur, hv, hg, r⟩
  · exact .inl h2
  · exact .inr ⟨g, cap, cur, hv, hb g (by rw [hv]; rfl), r⟩
theorem own_ge {w : World} {base : Nat} {e : TypeId} {size : Nat} {v : Value} {n : Nat} {xs : List Value} (h : w.ownsRow base e size v n xs) (r : Nat) (hr : v.ownBlock = some r) : base ≤ r ∧ ∃ cur, w.heap[r]? = some (.cells cur e (0, 0)) := by
  rcases h.2 with ⟨rfl, _⟩ | ⟨g, cap, cur, rfl, hg, hh, _⟩
  · simp [Value.ownBlock] at hr
  · simp [Value.ownBlock] at hr
    subst hr
    exact ⟨hg, cur, hh⟩
/-- Behind the append and the store: all that a round owes. -/
theorem appended_all {W w1 : World} {n₀ B : Nat} {t e : TypeId} {size : Nat} {v v' : Value} {k m : Nat} {xs ys : List Value} {tmp : Obj}
    (hv : Boxed W B t v) (hte : t ≠ e) (hrow : W.ownsRow n₀ e size v k xs) (hn₀ : n₀ ≤ W.heap.size) (hB : n₀ ≤ B)
    (hown' : w1.ownsRow 0 e size v' m ys) (hgrow : (W.alloc tmp).grownBy w1 v.ownBlock) (hat : v'.ownBlock = v.ownBlock ∨ v'.ownBlock = some (W.heap.size + 1)) :
    Boxed w1 B t v ∧ Boxed (w1.setCell ⟨B, 0, none⟩ v') B t v' ∧ (w1.setCell ⟨B, 0, none⟩ v').ownsRow n₀ e size v' m ys ∧ KeepsOthers W (w1.setCell ⟨B, 0, none⟩ v') ∧ Below n₀ W (w1.setCell ⟨B, 0, none⟩ v') ∧ Kp B W (w1.setCell ⟨B, 0, none⟩ v') := by
  have ho : w1.ownsRow n₀ e size v' m ys := own_from hown' fun r hr => by
    rcases hat with h | h
    · rw [h] at hr; exact (own_ge hrow r hr).1
    · rw [h] at hr; cases hr; omega
  obtain ⟨a1, a2, a3, a4, a5⟩ := hv.appended hte hrow hn₀ hB ho hgrow
  have o1 : ownAt B W = v.ownBlock := by unfold ownAt; rw [hv.cell]; rfl
  have o2 : ownAt B (w1.setCell ⟨B, 0, none⟩ v') = v'.ownBlock := by unfold ownAt; rw [a2.cell]; rfl
  have hsz := hgrow.size
  have hz : (W.alloc tmp).heap.size = W.heap.size + 1 := by simp
  have hz2 : (w1.setCell ⟨B, 0, none⟩ v').heap.size = w1.heap.size := by simp [World.setCell]
  refine ⟨a1, a2, a3, a4, a5, ⟨by omega, fun k o hk hc hp hr => ?_, fun r hr => ?_, fun _ r hr => ?_⟩⟩
  · rw [o1] at hr
    have hlt := (Array.getElem?_eq_some_iff.1 hk).1
    rw [Below.heap_setCell _ _ _ _ hp, hgrow.block k (by omega) (fun e => hr e.symm), Below.heap_alloc _ _ _ hlt]
    exact hk
  · rw [o2] at hr
    rw [o1]
    rcases hat with h | h
    · exact .inl (h ▸ hr)
    · rw [h] at hr; cases hr; exact .inr (by omega)
  · rw [o2] at hr
    obtain ⟨_, cur, hcur⟩ := own_ge hown' r hr
    rw [hz2]
    exact (Array.getElem?_eq_some_iff.1 hcur).1
end Geo
end Go.Proofs.Ytaedgifboepgdaa
