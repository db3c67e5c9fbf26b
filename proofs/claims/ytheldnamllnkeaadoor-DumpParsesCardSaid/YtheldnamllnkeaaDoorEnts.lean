/- Rows of exceptions. -/
import Derived.Test.YtheldnamllnkeaaDoorFr
import Derived.Test.YtheldnamllnkeaaDoorAppendHome
import Derived.Deep.AppendLies
namespace Go.Proofs.YtheldnamllnkeaaDoor
namespace Tb
open Go.RowKit Dsk Go.Maps
set_option linter.unusedVariables false
set_option maxRecDepth 100000

/-- The cells of exceptions. -/
def ecells (l : List (Int × Int)) : List Value := l.flatMap fun x => [.int .i64 x.1, .int .i64 x.2]
theorem ecells_length (l : List (Int × Int)) : (ecells l).length = l.length * 2 := by
  unfold ecells
  induction l with
  | nil => rfl
  | cons x l ih => simp only [List.flatMap_cons, List.length_append, ih, List.length_cons, List.length_nil]; omega
theorem ecells_snoc (l : List (Int × Int)) (x : Int × Int) : ecells (l ++ [x]) = ecells l ++ [.int .i64 x.1, .int .i64 x.2] := by simp [ecells]
theorem ecells_get (l : List (Int × Int)) (i : Nat) (h : i < l.length) : (ecells l)[i * 2]? = some (.int .i64 l[i].1) ∧ (ecells l)[i * 2 + 1]? = some (.int .i64 l[i].2) := by
  induction l generalizing i with
  | nil => simp at h
  | cons x l ih =>
    have e : ecells (x :: l) = .int .i64 x.1 :: .int .i64 x.2 :: ecells l := rfl
    rw [e]
    cases i with
    | zero => simp
    | succ i =>
      have := ih i (by simpa using h)
      rw [show (i + 1) * 2 = i * 2 + 1 + 1 by omega]
      simpa using this
theorem two_one (x y : Int) : ∀ u ∈ ([.int .i64 x, .int .i64 y] : List Value), u.oneCell' = true := fun u hu => by
  rcases List.mem_cons.1 hu with rfl | hu
  · rfl
  · rw [List.mem_singleton.1 hu]; rfl
theorem info_entry : (Tryd.prog.info? 56).map (fun i => (i.zero, i.size, i.bytes)) = some (some (.agg #[.int .i64 0, .int .i64 0]), 2, 16) := by kernel_rfl
/-- A row of exceptions of one's own. -/
abbrev Ents (w : World) (v : Value) (l : List (Int × Int)) : Prop := w.ownsRow 0 56 2 v l.length (ecells l)
/-- 'append(l, Entry{x, y})', at the operation. -/
theorem wpList_addE {w : World} {ops : Array Oper} {rest : List Oper} {o : Oper} {a : Act} {Q : Exit → Act → World → Prop} (hgd : o.guard = none) (s x : Operand) (ho : o.op = .call { callee := .builtin .append, args := #[s, x], argTypes := #[52, 52] }) (v : Value) (n : Nat) (l : List (Int × Int)) (hs : a.eval s = v) (hn : n = l.length) (hl : n ≤ 1099511627776) (hown : w.ownsRow 0 56 2 v n (ecells l))
    (b : Nat) (y z : Int) (hx : a.eval x = .slice (some ⟨b, 0, none⟩) 1 1) (hc : w.heap[b]? = some (.cells #[.int .i64 y, .int .i64 z] 56 (0, 0)))
    (h : ∀ v' w', w'.ownsRow 0 56 2 v' (n + 1) (ecells (l ++ [(y, z)])) → Fr (fun k => v.ownBlock = some k) w w' → (∀ k, v'.ownBlock = some k → v.ownBlock = some k ∨ w.heap.size ≤ k) → wpList Tryd.prog ops Q rest (a.put o.dst v') w') : wpList Tryd.prog ops Q (o :: rest) a w := by
  obtain ⟨i0, hi, hz0, hz1, hz2⟩ := info_parts info_entry
  refine wpList_append_home hgd s x _ ho 56 i0 _ 2 16 Tryd.underlying52 hi hz0 hz1 hz2 rfl (by decide) v n (ecells l) hs hown ⟨b, 0, none⟩ 1 1 [.int .i64 y, .int .i64 z] hx rfl (World.news_of_block hc) (two_one y z) (by unfold maxLen; omega) (by omega) fun v' w' h1 h2 h3 => ?_
  refine h v' w' (by rw [ecells_snoc]; exact h1) (Fr.of_grown (F := fun k => v.ownBlock = some k) h2 fun k e => e) fun k hk => ?_
  rcases h3 with e | e
  · exact .inl (by rw [← e]; exact hk)
  · right
    rw [hk] at e
    injection e with e
    omega
theorem ents_slice {w : World} {v : Value} {l : List (Int × Int)} (h : Ents w v l) : ∃ a c, v = .slice a l.length c := own_slice h
theorem ents_cell {w : World} {a : Option Addr} {c : Nat} {l : List (Int × Int)} (h : Ents w (.slice a l.length c) l) (i : Nat) (hi : i < l.length) :
    ∃ b, a = some ⟨b, 0, none⟩ ∧ b < w.heap.size ∧ w.cell? ⟨b, i * 2, none⟩ = some (.int .i64 l[i].1) ∧ w.cell? ⟨b, i * 2 + 1, none⟩ = some (.int .i64 l[i].2) := by
  rcases h.2 with ⟨h1, h2⟩ | ⟨b, cap, cur, hv, _, hh, _⟩
  · omega
  · injection hv with h1 h2 h3
    subst h1
    subst h3
    obtain ⟨e1, e2⟩ := ecells_get l i hi
    exact ⟨b, rfl, lt_of_heap hh, by rw [h.cellAt _ (by omega)]; exact e1, by rw [h.cellAt _ (by omega)]; exact e2⟩
theorem ents_next {w w2 : World} {v : Value} {l : List (Int × Int)} (h : Ents w v l) (hb : Below w.heap.size w w2) : Ents w2 v l := own_same h fun j hj => hb.block j (by obtain ⟨cur, hcc⟩ := own_block h j hj; exact lt_of_heap hcc)
/-- A row of exceptions somewhere, nil let in. -/
def REnts (w : World) (a : Option Addr) (l : List (Int × Int)) : Prop := l ≠ [] → ∃ b off, a = some ⟨b, off, none⟩ ∧ b < w.heap.size ∧ ∀ i x, l[i]? = some x → w.cell? ⟨b, off + i * 2, none⟩ = some (.int .i64 x.1) ∧ w.cell? ⟨b, off + i * 2 + 1, none⟩ = some (.int .i64 x.2)
theorem REnts.nil (w : World) (a : Option Addr) : REnts w a [] := fun h => (h rfl).elim
theorem REnts.below {w w' : World} {a : Option Addr} {l : List (Int × Int)} (h : REnts w a l) (hb : Below w.heap.size w w') : REnts w' a l := fun hn => by
  obtain ⟨b, off, e, hlt, hc⟩ := h hn
  exact ⟨b, off, e, Nat.lt_of_lt_of_le hlt hb.size, fun i x hx => ⟨(hb.cell (p := ⟨b, off + i * 2, none⟩) hlt).trans (hc i x hx).1, (hb.cell (p := ⟨b, off + i * 2 + 1, none⟩) hlt).trans (hc i x hx).2⟩⟩
theorem REnts.get {w w' : World} {a : Option Addr} {l : List (Int × Int)} (h : REnts w a l) (hb : Below w.heap.size w w') {i : Nat} (hi : i < l.length) :
    ∃ b off, a = some ⟨b, off, none⟩ ∧ w'.cell? ⟨b, off + i * 2, none⟩ = some (.int .i64 l[i].1) ∧ w'.cell? ⟨b, off + i * 2 + 1, none⟩ = some (.int .i64 l[i].2) := by
  obtain ⟨b, off, e, hlt, hc⟩ := h (by rintro rfl; simp at hi)
  have := hc i _ (List.getElem?_eq_getElem hi)
  exact ⟨b, off, e, (hb.cell (p := ⟨b, off + i * 2, none⟩) hlt).trans this.1, (hb.cell (p := ⟨b, off + i * 2 + 1, none⟩) hlt).trans this.2⟩
theorem REnts.own {w : World} {a : Option Addr} {c : Nat} {l : List (Int × Int)} (h : Ents w (.slice a l.length c) l) : REnts w a l := fun hn => by
  obtain ⟨b, e, hlt, _⟩ := ents_cell h 0 (List.length_pos_iff.2 hn)
  refine ⟨b, 0, e, hlt, fun i x hx => ?_⟩
  obtain ⟨hi, rfl⟩ := List.getElem?_eq_some_iff.1 hx
  obtain ⟨b', e', _, c0, c1⟩ := ents_cell h i hi
  rw [e] at e'
  injection e' with e'
  injection e' with e'
  subst e'
  rw [Nat.zero_add]
  exact ⟨c0, c1⟩
/-- A row of exceptions grows by one, in new memory. -/
structure GrowsE (w : World) (l : List (Int × Int)) (v : Value) (n : Nat) (wr : World) : Prop where
  row : wr.ownsRow 0 56 2 v n (ecells l)
  len : n = l.length
  new : ∀ k, v.ownBlock = some k → w.heap.size ≤ k
  below : Below w.heap.size w wr
theorem GrowsE.nil {w wr : World} (hb : Below w.heap.size w wr) : GrowsE w [] (.slice none 0 0) 0 wr := ⟨World.ownsRow_nil _ _ _ _, rfl, fun k hk => (by cases hk), hb⟩
theorem GrowsE.next {w wr w2 : World} {l : List (Int × Int)} {v : Value} {n : Nat} (h : GrowsE w l v n wr) (hb : Below wr.heap.size wr w2) : GrowsE w l v n w2 :=
  ⟨own_same h.row fun j hj => hb.block j (by obtain ⟨cur, hcc⟩ := own_block h.row j hj; exact lt_of_heap hcc), h.len, h.new, h.below.trans (hb.mono h.below.size)⟩
theorem GrowsE.own {w wr : World} {l : List (Int × Int)} {v : Value} {n : Nat} (h : GrowsE w l v n wr) (y z : Int) : (wr.alloc (.cells #[.int .i64 y, .int .i64 z] 56)).ownsRow 0 56 2 v n (ecells l) :=
  own_same h.row fun j hj => Below.heap_alloc _ _ _ (by obtain ⟨cur, hcc⟩ := own_block h.row j hj; exact lt_of_heap hcc)
theorem GrowsE.add {w wr w' : World} {l : List (Int × Int)} {v v' : Value} {n : Nat} {y z : Int} (h : GrowsE w l v n wr) (h1 : w'.ownsRow 0 56 2 v' (n + 1) (ecells (l ++ [(y, z)]))) (h2 : Fr (fun k => v.ownBlock = some k) (wr.alloc (.cells #[.int .i64 y, .int .i64 z] 56)) w')
    (h3 : ∀ k, v'.ownBlock = some k → v.ownBlock = some k ∨ (wr.alloc (.cells #[.int .i64 y, .int .i64 z] 56)).heap.size ≤ k) : GrowsE w (l ++ [(y, z)]) v' (n + 1) w' := by
  have hal : Below wr.heap.size wr (wr.alloc (.cells #[.int .i64 y, .int .i64 z] 56)) := (Below.refl _ _).alloc (Nat.le_refl _) _
  have hF : Fr (fun j => v.ownBlock = some j) wr w' := (Fr.of_below hal).trans h2 (fun _ _ e => e)
  have hsz : (wr.alloc (.cells #[.int .i64 y, .int .i64 z] 56)).heap.size = wr.heap.size + 1 := by simp
  have hws := h.below.size
  refine ⟨h1, by rw [h.len]; simp, fun k hk => ?_, h.below.trans (hF.below hws fun j hj => h.new j hj)⟩
  rcases h3 k hk with e | e
  · exact h.new k e
  · omega
/-- A row of exceptions made. -/
def MadeE (l : List (Int × Int)) (w : World) (e : Ending) (w' : World) : Prop := ∃ v, e = .returned v ∧ Ents w' v l ∧ (∀ k, v.ownBlock = some k → w.heap.size ≤ k) ∧ Below w.heap.size w w'
theorem GrowsE.made {w wr : World} {l : List (Int × Int)} {v : Value} {n : Nat} (h : GrowsE w l v n wr) : MadeE l w (.returned v) wr := ⟨v, rfl, by show World.ownsRow _ _ _ _ _ _ _; rw [← h.len]; exact h.row, h.new, h.below⟩
end Tb
end Go.Proofs.YtheldnamllnkeaaDoor
