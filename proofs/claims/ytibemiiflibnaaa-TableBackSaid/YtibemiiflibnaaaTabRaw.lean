/- A table's parts in memory, while they are not yet one table; a number added to a row. -/
import Derived.Test.YtibemiiflibnaaaTabHeap2
import Derived.Test.YtibemiiflibnaaaTabSmall
import Derived.Test.YtibemiiflibnaaaAppendHome
namespace Go.Proofs.Ytibemiiflibnaaa
namespace Tb
open Go.RowKit Dsk Go.Maps
set_option linter.unusedVariables false
set_option maxRecDepth 100000

structure Raw (w : World) (o : Ob) (n : Nat) (c g : List Int) : Prop where
  head : w.heap[o.p]? = some (.cells #[.int .i64 (n : Int), .map (some o.mb), o.cv, o.gv] 60 (0, 0))
  chunks : Ints w o.cv c
  gaps : Ints w o.gv g
  placeOf : PlaceOf w o.mb c
  apart : ∀ k, o.cv.ownBlock = some k → o.gv.ownBlock ≠ some k
theorem Tk.raw {w : World} {o : Ob} {n : Nat} {c g : List Int} (h : Tk w o n c g) : Raw w o n c g := ⟨h.head, h.chunks, h.gaps, h.placeOf, h.apart⟩
theorem Raw.tk {w : World} {o : Ob} {n : Nat} {c g : List Int} (h : Raw w o n c g) (hp : Pr n c g) : Tk w o n c g := ⟨hp, h.head, h.chunks, h.gaps, h.placeOf, h.apart⟩
theorem Raw.gh {w : World} {o : Ob} {n : Nat} {c g : List Int} (h : Raw w o n c g) : Gh w o.p (.int .i64 (n : Int)) (.map (some o.mb)) o.cv o.gv g := ⟨h.head, h.gaps⟩
theorem Raw.lt {w : World} {o : Ob} {n : Nat} {c g : List Int} (h : Raw w o n c g) (k : Nat) (hk : o.fp k) : k < w.heap.size := by
  rcases hk with rfl | rfl | hk | hk
  · exact lt_of_heap h.head
  · exact h.placeOf.lt
  · obtain ⟨cur, hc⟩ := own_block h.chunks k hk; exact lt_of_heap hc
  · obtain ⟨cur, hc⟩ := own_block h.gaps k hk; exact lt_of_heap hc
theorem Raw.p_ne {w : World} {o : Ob} {n : Nat} {c g : List Int} (h : Raw w o n c g) : o.mb ≠ o.p ∧ o.cv.ownBlock ≠ some o.p ∧ o.gv.ownBlock ≠ some o.p := by
  refine ⟨fun e => ?_, fun e => ?_, fun e => ?_⟩
  · obtain ⟨D, ⟨es, clock, hb, _⟩, _⟩ := h.placeOf
    rw [e, h.head] at hb; cases hb
  · obtain ⟨cur, hc⟩ := own_block h.chunks _ e
    rw [h.head] at hc; injection hc with hc; injection hc with _ hc; cases hc
  · obtain ⟨cur, hc⟩ := own_block h.gaps _ e
    rw [h.head] at hc; injection hc with hc; injection hc with _ hc; cases hc
theorem Raw.m_ne {w : World} {o : Ob} {n : Nat} {c g : List Int} (h : Raw w o n c g) : o.cv.ownBlock ≠ some o.mb ∧ o.gv.ownBlock ≠ some o.mb := by
  obtain ⟨D, ⟨es, clock, hb, _⟩, _⟩ := h.placeOf
  refine ⟨fun e => ?_, fun e => ?_⟩
  · obtain ⟨cur, hc⟩ := own_block h.chunks _ e
    rw [hb] at hc; cases hc
  · obtain ⟨cur, hc⟩ := own_block h.gaps _ e
    rw [hb] at hc; cases hc
theorem Raw.below {w w' : World} {o : Ob} {n : Nat} {c g : List Int} (h : Raw w o n c g) (hb : Below w.heap.size w w') : Raw w' o n c g := by
  have hs : ∀ k, o.fp k → w'.heap[k]? = w.heap[k]? := fun k hk => hb.block k (h.lt k hk)
  exact ⟨(hs _ (.inl rfl)).trans h.head, own_same h.chunks fun k hk => hs k (.inr (.inr (.inl hk))), own_same h.gaps fun k hk => hs k (.inr (.inr (.inr hk))), h.placeOf.same (hs _ (.inr (.inl rfl))), h.apart⟩
theorem Raw.reads {w : World} {o : Ob} {n : Nat} {c g : List Int} (h : Raw w o n c g) :
    w.cell? ⟨o.p, 0, none⟩ = some (.int .i64 (n : Int)) ∧ w.cell? ⟨o.p, 1, none⟩ = some (.map (some o.mb)) ∧ w.cell? ⟨o.p, 2, none⟩ = some o.cv ∧ w.cell? ⟨o.p, 3, none⟩ = some o.gv ∧ ∀ j, w.frozen? ⟨o.p, j, none⟩ = false := by
  refine ⟨?_, ?_, ?_, ?_, fun j => frozen_of_row _ _ _ _ _ h.head⟩ <;> (rw [cell_of_row _ _ _ _ _ _ h.head]; rfl)
/-- The gaps have gone elsewhere. -/
theorem Raw.gs {w w' : World} {o : Ob} {n : Nat} {c g g' : List Int} {gv' : Value} (h : Raw w o n c g) (hg : Gh w' o.p (.int .i64 (n : Int)) (.map (some o.mb)) o.cv gv' g') (hs : Gs o.p o.gv gv' w w') :
    Raw w' { o with gv := gv' } n c g' ∧ Step o { o with gv := gv' } w w' := by
  obtain ⟨n1, n2, n3⟩ := h.p_ne
  obtain ⟨m1, m2⟩ := h.m_ne
  have hF : ∀ k, Gf o.p o.gv k → o.fp k := fun k hk => hk.elim .inl fun e => .inr (.inr (.inr e))
  refine ⟨⟨hg.head, own_same h.chunks fun k hk => hs.fr.block k (h.lt k (.inr (.inr (.inl hk)))) ?_, hg.row, h.placeOf.same (hs.fr.block _ h.placeOf.lt ?_), fun k hk hk' => ?_⟩, hs.fr.mono fun k _ e => hF k e, fun k hk => ?_, rfl⟩
  · rintro (e | e)
    · exact n2 (by rw [← e]; exact hk)
    · exact h.apart k hk e
  · rintro (e | e)
    · exact n1 e
    · exact m2 e
  · rcases hs.own k hk' with e | e
    · exact h.apart k hk e
    · have := h.lt k (.inr (.inr (.inl hk))); omega
  · rcases hk with e | e | e | e
    · exact .inl (.inl e)
    · exact .inl (.inr (.inl e))
    · exact .inl (.inr (.inr (.inl e)))
    · exact (hs.own k e).imp (fun e => .inr (.inr (.inr e))) id

/-- 'append(l, y)' of one number in a literal of its own, at the operation. -/
theorem wpList_add {w : World} {ops : Array Oper} {rest : List Oper} {o : Oper} {a : Act} {Q : Exit → Act → World → Prop} (hgd : o.guard = none) (s x : Operand) (t : TypeId) (ht : Try.prog.underlying t = some (.slice 3))
    (ho : o.op = .call { callee := .builtin .append, args := #[s, x], argTypes := #[t, t] }) (v : Value) (n : Nat) (l : List Int) (hs : a.eval s = v) (hn : n = l.length) (hl : n ≤ 1099511627776) (hown : w.ownsRow 0 3 1 v n (nums l))
    (b : Nat) (y : Int) (hx : a.eval x = .slice (some ⟨b, 0, none⟩) 1 1) (hc : w.cell? ⟨b, 0, none⟩ = some (.int .i64 y))
    (h : ∀ b' cap w', GApp w v l y b' cap w' → wpList Try.prog ops Q rest (a.put o.dst (.slice (some ⟨b', 0, none⟩) (n + 1) cap)) w') : wpList Try.prog ops Q (o :: rest) a w := by
  subst hn
  obtain ⟨i0, hi, hz0, hz1, hz2⟩ := info_parts info_int
  refine wpList_append_home hgd s x t ho 3 i0 _ 1 8 ht hi hz0 hz1 hz2 rfl (by decide) v l.length (nums l) hs hown ⟨b, 0, none⟩ 1 1 [.int .i64 y] hx rfl (fun j u hj => ?_) (nums_one y) (by unfold maxLen; omega) (by omega) fun v' w' h1 h2 h3 => ?_
  · cases j with
    | zero => injection hj with hj; subst hj; rw [show (⟨b, 0, none⟩ : Addr).add 0 = ⟨b, 0, none⟩ from by unfold Addr.add; split <;> simp_all]; exact hc
    | succ j => simp at hj
  · rcases h1.2 with ⟨_, h0⟩ | ⟨b', cap, cur, rfl, hb, hh, r⟩
    · omega
    · refine h b' cap w' ⟨by rw [nums, List.map_append]; exact h1, Fr.of_grown (F := fun k => v.ownBlock = some k) h2 fun k e => e, ?_⟩
      rcases h3 with e | e
      · exact .inl e.symm
      · have e : b' = w.heap.size := by injection e
        right; omega
/-- The chunks with one more, told in the table's block. -/
theorem Raw.added {w w2 : World} {o : Ob} {n : Nat} {c g : List Int} {y : Int} {b cap : Nat} (h : Raw w o n c g) (ha : GApp w o.cv c y b cap w2) :
    let v := Value.slice (some ⟨b, 0, none⟩) (c.length + 1) cap
    (w2.setCell ⟨o.p, 2, none⟩ v).heap[o.p]? = some (.cells #[.int .i64 (n : Int), .map (some o.mb), v, o.gv] 60 (0, 0)) ∧ Ints (w2.setCell ⟨o.p, 2, none⟩ v) v (c ++ [y]) ∧ Ints (w2.setCell ⟨o.p, 2, none⟩ v) o.gv g ∧ PlaceOf (w2.setCell ⟨o.p, 2, none⟩ v) o.mb c ∧
    (∀ k, v.ownBlock = some k → o.gv.ownBlock ≠ some k) ∧ Step o { o with cv := v } w (w2.setCell ⟨o.p, 2, none⟩ v) ∧ b ≠ o.p ∧ b ≠ o.mb := by
  intro v
  obtain ⟨n1, n2, n3⟩ := h.p_ne
  obtain ⟨m1, m2⟩ := h.m_ne
  have hp := (ha.fr.block o.p (h.lt _ (.inl rfl)) n2).trans h.head
  have hbp : b ≠ o.p := fun e => by
    rcases ha.own with h1 | h1
    · exact n2 (by rw [h1, e])
    · have := h.lt o.p (.inl rfl); omega
  have hbm : b ≠ o.mb := fun e => by
    rcases ha.own with h1 | h1
    · exact m1 (by rw [h1, e])
    · have := h.lt o.mb (.inr (.inl rfl)); omega
  have hset : ∀ k, k ≠ o.p → (w2.setCell ⟨o.p, 2, none⟩ v).heap[k]? = w2.heap[k]? := fun k hk => Below.heap_setCell _ _ _ _ hk
  have hap : ∀ k, v.ownBlock = some k → o.gv.ownBlock ≠ some k := by
    intro k hk hk'
    injection hk with hk
    rcases ha.own with e | e
    · exact h.apart k (by rw [e, ← hk]) hk'
    · have := h.lt k (.inr (.inr (.inr hk'))); have : b = k := hk; omega
  refine ⟨?_, ?_, ?_, ?_, hap, ⟨?_, ?_, rfl⟩, hbp, hbm⟩
  · rw [heap_setCell_same _ _ _ _ _ _ hp]; rfl
  · exact own_same (ints_add rfl ha.row) fun k hk => hset k (by intro e; injection hk with hk; exact hbp (hk.trans e))
  · refine own_same (own_same h.gaps fun k hk => ha.fr.block k (h.lt k (.inr (.inr (.inr hk)))) (fun e => h.apart k e hk)) fun k hk => hset k (fun e => n3 (by rw [← e]; exact hk))
  · exact (h.placeOf.same (ha.fr.block o.mb h.placeOf.lt m1)).same (hset _ n1)
  · exact Fr.setCell (F := o.fp) (ha.fr.mono fun k _ e => .inr (.inr (.inl e))) _ (.inl rfl) _
  · rintro k (e | e | e | e)
    · exact .inl (.inl e)
    · exact .inl (.inr (.inl e))
    · injection e with e
      have e : b = k := e
      subst e
      exact ha.own.imp (fun e => .inr (.inr (.inl e))) id
    · exact .inl (.inr (.inr (.inr e)))

/-- What a map says behind a chunk has its place, or has none any more. -/
theorem MapOk.put {D : DataW Unit} {c c' : List Int} (h : MapOk D c) {k : Int} {i : Nat} (h0 : 0 ≤ k) (hc : c'[i]? = some k) (hu : ∀ (j : Nat) (x : Int), c'[j]? = some x → 0 ≤ x → x ≠ k → c[j]? = some x) (hv : ∀ x : Int, 0 ≤ x → x ≠ k → x ∈ c → x ∈ c') (hone : ∀ j : Nat, c'[j]? = some k → j = i) :
    MapOk (D.put (.int .i64 k) (.lit (.int .i64 (i : Int)))) c' := by
  refine ⟨h.1.put _ _, fun x => ?_, fun j x hj hx z => ?_⟩
  · by_cases e : x = k
    · subst e
      rw [has_put_same h.1 (k := .int .i64 x) trivial]
      exact ⟨fun _ => ⟨h0, List.mem_of_getElem? hc⟩, fun _ => rfl⟩
    · rw [has_put_other (by intro c; injection c with _ c; exact e c), h.2.1 x]
      constructor
      · rintro ⟨h1, h2⟩
        exact ⟨h1, hv x h1 e h2⟩
      · rintro ⟨h1, h2⟩
        obtain ⟨j, hj⟩ := List.getElem?_of_mem h2
        exact ⟨h1, List.mem_of_getElem? (hu j x hj h1 e)⟩
  · by_cases e : x = k
    · subst e
      rw [atKey_put_same h.1 (k := .int .i64 x) trivial, hone j hj]
    · rw [atKey_put_other (by intro c; injection c with _ c; exact e c)]
      exact h.2.2 j x (hu j x hj hx e) hx z
theorem MapOk.del {D : DataW Unit} {c : List Int} (h : MapOk D c) {k : Int} {i : Nat} (h0 : 0 ≤ k) (hi : c[i]? = some k) (hone : ∀ j : Nat, c[j]? = some k → j = i) : MapOk (D.del (.int .i64 k)) (c.set i (-1)) := by
  have hil := (List.getElem?_eq_some_iff.1 hi).1
  have get : ∀ (j : Nat) (x : Int), (c.set i (-1))[j]? = some x → 0 ≤ x → j ≠ i ∧ c[j]? = some x := fun j x hj hx => by
    rw [List.getElem?_set] at hj
    by_cases e : i = j
    · rw [if_pos e, if_pos hil] at hj
      injection hj with hj; omega
    · rw [if_neg e] at hj
      exact ⟨fun c => e c.symm, hj⟩
  refine ⟨h.1.del _, fun x => ?_, fun j x hj hx z => ?_⟩
  · by_cases e : x = k
    · subst e
      rw [has_del_same]
      refine ⟨fun c => (by cases c), fun ⟨_, hm⟩ => ?_⟩
      obtain ⟨j, hj⟩ := List.getElem?_of_mem hm
      obtain ⟨h1, h2⟩ := get j x hj h0
      exact (h1 (hone j h2)).elim
    · rw [has_del_other (by intro c; injection c with _ c; exact e c), h.2.1 x]
      constructor
      · rintro ⟨h1, h2⟩
        obtain ⟨j, hj⟩ := List.getElem?_of_mem h2
        refine ⟨h1, List.mem_of_getElem? (i := j) ?_⟩
        rw [List.getElem?_set, if_neg (fun c => by rw [← c, hi] at hj; injection hj with hj; exact e hj.symm)]
        exact hj
      · rintro ⟨h1, h2⟩
        obtain ⟨j, hj⟩ := List.getElem?_of_mem h2
        exact ⟨h1, List.mem_of_getElem? (get j x hj h1).2⟩
  · obtain ⟨h1, h2⟩ := get j x hj hx
    rw [atKey_del_other (by
      intro c; injection c with _ c
      rw [c] at h2
      exact h1 (hone j h2))]
    exact h.2.2 j x h2 hx z
end Tb
end Go.Proofs.Ytibemiiflibnaaa
