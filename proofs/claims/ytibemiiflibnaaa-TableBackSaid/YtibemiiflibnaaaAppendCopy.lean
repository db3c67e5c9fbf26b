/- append onto nil of a row of one's own, that may be nil. -/
import Derived.Test.YtibemiiflibnaaaFr
import Derived.Test.YtibemiiflibnaaaAppendHome
namespace Go.Proofs.Ytibemiiflibnaaa
namespace Dsk
open Go.RowKit
set_option linter.unusedVariables false

/-- 'append(nil, x...)', x an owned row, nil let in. -/
theorem run_append_copy {P : Program} (w : World) (t ty e : TypeId) (i : TypeInfo) (z : Value) (size bytes : Nat) (ht : P.underlying t = some (.slice e)) (hi : P.info? e = some i) (hz : i.zero = some z)
    (hsize : i.size = size) (hby : i.bytes = bytes) (hzs : z.cells.size = size) (hsz : 0 < size) (v : Value) (n : Nat) (xs : List Value) (hown : w.ownsRow 0 e size v n xs) (h1 : ∀ u ∈ xs, u.oneCell' = true)
    (h63 : n ≤ maxLen) (hbytes : n * bytes ≤ 140737488355328) :
    ∃ va vc w', (Builtin.append_ #[t, t] ty #[.slice none 0 0, v]).run P w = .ok (.slice va n vc) w' ∧ w'.ownsRow 0 e size (.slice va n vc) n xs ∧ (∀ k, (Value.slice va n vc).ownBlock = some k → w.heap.size ≤ k) ∧ Below w.heap.size w w' := by
  rcases hown.2 with ⟨rfl, h0⟩ | ⟨g, cap, cur, rfl, _⟩
  · subst h0
    have hxs : xs = [] := List.eq_nil_of_length_eq_zero (by have := hown.1; simpa using this)
    subst hxs
    refine ⟨none, 0, w, ?_, World.ownsRow_nil _ _ _ _, (fun k hk => by cases hk), Below.refl _ _⟩
    simp [Builtin.append_, run_underlying ht, sizeOf, typeInfo, hi, Builtin.lenOf, Builtin.firstCells]
  · obtain ⟨v', w', hr, ho, hg, hv⟩ := run_append_home (P := P) w t ty e i z size bytes ht hi hz hsize hby hzs hsz (.slice none 0 0) 0 [] (World.ownsRow_nil _ _ _ _) ⟨g, 0, none⟩ n cap xs hown.1 (fun j u hu => by
      rw [show (⟨g, 0, none⟩ : Addr).add j = ⟨g, j, none⟩ from by unfold Addr.add; split <;> simp_all, hown.cellAt j (by rw [← hown.1]; exact (List.getElem?_eq_some_iff.1 hu).1)]
      exact hu) h1 (by omega) (by rw [Nat.zero_add]; exact hbytes)
    rw [Nat.zero_add, List.nil_append] at ho
    obtain ⟨va, vc, hvv⟩ := own_slice ho
    subst hvv
    refine ⟨va, vc, w', hr, ho, fun k hk => ?_, (Below.refl _ _).grown hg (Nat.le_refl _) (fun k e => by cases e)⟩
    rcases hv with e | e
    · rw [hk] at e; cases e
    · rw [hk] at e; injection e with e; omega
/-- Of another type of slices is what is appended. -/
theorem run_append_types {P : Program} (w : World) (t t2 ty e e2 : TypeId) (ht : P.underlying t = some (.slice e)) (ht2 : P.underlying t2 = some (.slice e2)) (i : TypeInfo) (hi : P.info? e = some i) (b : Option Addr) (n c : Nat) (x : Value) :
    (Builtin.append_ #[t, t2] ty #[.slice b n c, x]).run P w = (Builtin.append_ #[t, t] ty #[.slice b n c, x]).run P w := by
  simp [Builtin.append_, run_underlying ht, run_underlying ht2, sizeOf, typeInfo, hi]
theorem wpList_append_copy {P : Program} {w : World} {ops : Array Oper} {rest : List Oper} {o : Oper} {a : Act} {Q : Exit → Act → World → Prop} (hgd : o.guard = none) (s x : Operand) (t t2 : TypeId)
    (ho : o.op = .call { callee := .builtin .append, args := #[s, x], argTypes := #[t, t2] }) (e e2 : TypeId) (i : TypeInfo) (z : Value) (size bytes : Nat) (ht : P.underlying t = some (.slice e)) (ht2 : P.underlying t2 = some (.slice e2)) (hi : P.info? e = some i) (hz : i.zero = some z)
    (hsize : i.size = size) (hby : i.bytes = bytes) (hzs : z.cells.size = size) (hsz : 0 < size) (v : Value) (n : Nat) (xs : List Value) (hs : a.eval s = .slice none 0 0) (hx : a.eval x = v) (hown : w.ownsRow 0 e size v n xs) (h1 : ∀ u ∈ xs, u.oneCell' = true)
    (h63 : n ≤ maxLen) (hbytes : n * bytes ≤ 140737488355328)
    (h : ∀ va vc w', w'.ownsRow 0 e size (.slice va n vc) n xs → (∀ k, (Value.slice va n vc).ownBlock = some k → w.heap.size ≤ k) → Below w.heap.size w w' → wpList P ops Q rest (a.put o.dst (.slice va n vc)) w') : wpList P ops Q (o :: rest) a w := by
  refine wpList_plain hgd fun K hK => ?_
  obtain ⟨va, vc, w', hr, h2, h3, h4⟩ := run_append_copy (P := P) w t o.type e i z size bytes ht hi hz hsize hby hzs hsz v n xs hown h1 h63 hbytes
  have hr2 := (run_append_types (P := P) w t t2 o.type e e2 ht ht2 i hi none 0 0 v).trans hr
  unfold Oper.wp execOp
  simp only [ho, resolve, invoke, builtin, Sem.run_bind, Sem.run_pure, Result.andThen_ok, List.map_toArray, List.map_cons, List.map_nil, hs, hx, hr2]
  exact hK _ _ (h va vc w' h2 h3 h4)
end Dsk
end Go.Proofs.Ytibemiiflibnaaa
