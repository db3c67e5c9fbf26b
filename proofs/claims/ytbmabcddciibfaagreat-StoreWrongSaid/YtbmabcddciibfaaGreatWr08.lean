/- Part 8 of the contracts and of the plain mathematics that the proof of the law rests on: TabRaw, TabStand, TabStand2, TabPut, TabNew. -/
import Derived.Test.YtbmabcddciibfaaGreatWr03
import Derived.Test.YtbmabcddciibfaaGreatWr06
import Derived.Test.YtbmabcddciibfaaGreatWr07
import Derived.Lib.Agree
import Derived.Laws.NewBlocks
namespace Go.Proofs.YtbmabcddciibfaaGreat
namespace Tb
open Go.RowKit Dsk Go.Maps
set_option linter.unusedVariables false
set_option maxRecDepth 100000
structure Raw (w : World) (o : Ob) (n : Nat) (c g : List Int) : Prop where
  head : w.heap[o.p]? = some (.cells #[.int .i64 (n : Int), .map (some o.mb), o.cv, o.gv] 155 (0, 0))
  chunks : Ints w o.cv c
  gaps : Ints w o.gv g
  placeOf : PlaceOf w o.mb c
  apart : ∀ k, o.cv.ownBlock = some k → o.gv.ownBlock ≠ some k
theorem Tk.raw {w : World} {o : Ob} {n : Nat} {c g : List Int} (h : Tk w o n c g) : Raw w o n c g := ⟨h.head, h.chunks, h.gaps, h.placeOf, h.apart⟩
theorem Raw.tk {w : World} {o : Ob} {n : Nat} {c g : List Int} (h : Raw w o n c g) (hp : Pr n c g) : Tk w o n c g := ⟨hp, h.head, h.chunks, h.gaps, h.placeOf, h.apart⟩
theorem Raw.gh {w : World} {o : Ob} {n : Nat} {c g : List Int} (h : Raw w o n c g) : Gh w o.p (.int .i64 (n : Int)) (.map (some o.mb)) o.cv o.gv g := ⟨h.head, h.gaps⟩
theorem Raw.lt {w : World} {o : Ob} {n : Nat} {c g : List Int} (h : Raw w o n c g) (k : Nat) (hk : o.fp k) : k < w.heap.size := by
  rcases hk with rfl | rfl | hk | hk
  · exact lt_of_heap h.head
  · exact h.placeOf.lt
  · obtain ⟨cur, hc⟩ := own_block h.chunks k hk; exact lt_of_heap hc
  · obtain ⟨cur, hc⟩ := own_block h.gaps k hk; exact lt_of_heap hc
theorem Raw.p_ne {w : World} {o : Ob} {n : Nat} {c g : List Int} (h : Raw w o n c g) : o.mb ≠ o.p ∧ o.cv.ownBlock ≠ some o.p ∧ o.gv.ownBlock ≠ some o.p := by
  refine ⟨fun e => ?_, fun e => ?_, fun e => ?_⟩
  · obtain ⟨D, ⟨es, clock, hb, _⟩, _⟩ := h.placeOf
    rw [e, h.head] at hb; cases hb
  · obtain ⟨cur, hc⟩ := own_block h.chunks _ e
    rw [h.head] at hc; injection hc with hc; injection hc with _ hc; cases hc
  · obtain ⟨cur, hc⟩ := own_block h.gaps _ e
    rw [h.head] at hc; injection hc with hc; injection hc with _ hc; cases hc
theorem Raw.m_ne {w : World} {o : Ob} {n : Nat} {c g : List Int} (h : Raw w o n c g) : o.cv.ownBlock ≠ some o.mb ∧ o.gv.ownBlock ≠ some o.mb := by
  obtain ⟨D, ⟨es, clock, hb, _⟩, _⟩ := h.placeOf
  refine ⟨fun e => ?_, fun e => ?_⟩
  · obtain ⟨cur, hc⟩ := own_block h.chunks _ e
    rw [hb] at hc; cases hc
  · obtain ⟨cur, hc⟩ := own_block h.gaps _ e
    rw [hb] at hc; cases hc
theorem Raw.below {w w' : World} {o : Ob} {n : Nat} {c g : List Int} (h : Raw w o n c g) (hb : Below w.heap.size w w') : Raw w' o n c g := by
  have hs : ∀ k, o.fp k → w'.heap[k]? = w.heap[k]? := fun k hk => hb.block k (h.lt k hk)
  exact ⟨(hs _ (.inl rfl)).trans h.head, own_same h.chunks fun k hk => hs k (.inr (.inr (.inl hk))), own_same h.gaps fun k hk => hs k (.inr (.inr (.inr hk))), h.placeOf.same (hs _ (.inr (.inl rfl))), h.apart⟩
theorem Raw.reads {w : World} {o : Ob} {n : Nat} {c g : List Int} (h : Raw w o n c g) :
    w.cell? ⟨o.p, 0, none⟩ = some (.int .i64 (n : Int)) ∧ w.cell? ⟨o.p, 1, none⟩ = some (.map (some o.mb)) ∧ w.cell? ⟨o.p, 2, none⟩ = some o.cv ∧ w.cell? ⟨o.p, 3, none⟩ = some o.gv ∧ ∀ j, w.frozen? ⟨o.p, j, none⟩ = false := by
  refine ⟨?_, ?_, ?_, ?_, fun j => frozen_of_row _ _ _ _ _ h.head⟩ <;> (rw [cell_of_row _ _ _ _ _ _ h.head]; rfl)
theorem Raw.gs {w w' : World} {o : Ob} {n : Nat} {c g g' : List Int} {gv' : Value} (h : Raw w o n c g) (hg : Gh w' o.p (.int .i64 (n : Int)) (.map (some o.mb)) o.cv gv' g') (hs : Gs o.p o.gv gv' w w') :
    Raw w' { o with gv := gv' } n c g' ∧ Step o { o with gv := gv' } w w' := by
  obtain ⟨n1, n2, n3⟩ := h.p_ne
  obtain ⟨m1, m2⟩ := h.m_ne
  have hF : ∀ k, Gf o.p o.gv k → o.fp k := fun k hk => hk.elim .inl fun e => .inr (.inr (.inr e))
  refine ⟨⟨hg.head, own_same h.chunks fun k hk => hs.fr.block k (h.lt k (.inr (.inr (.inl hk)))) ?_, hg.row, h.placeOf.same (hs.fr.block _ h.placeOf.lt ?_), fun k hk hk' => ?_⟩, hs.fr.mono fun k _ e => hF k e, fun k hk => ?_, rfl⟩
  · rintro (e | e)
    · exact n2 (by rw [← e]; exact hk)
    · exact h.apart k hk e
  · rintro (e | e)
    · exact n1 e
    · exact m2 e
  · rcases hs.own k hk' with e | e
    · exact h.apart k hk e
    · have := h.lt k (.inr (.inr (.inl hk))); omega
  · rcases hk with e | e | e | e
    · exact .inl (.inl e)
    · exact .inl (.inr (.inl e))
    · exact .inl (.inr (.inr (.inl e)))
    · exact (hs.own k e).imp (fun e => .inr (.inr (.inr e))) id
theorem wpList_add {w : World} {ops : Array Oper} {rest : List Oper} {o : Oper} {a : Act} {Q : Exit → Act → World → Prop} (hgd : o.guard = none) (s x : Operand) (t : TypeId) (ht : Tryz.prog.underlying t = some (.slice 3))
    (ho : o.op = .call { callee := .builtin .append, args := #[s, x], argTypes := #[t, t] }) (v : Value) (n : Nat) (l : List Int) (hs : a.eval s = v) (hn : n = l.length) (hl : n ≤ 1099511627776) (hown : w.ownsRow 0 3 1 v n (nums l))
    (b : Nat) (y : Int) (hx : a.eval x = .slice (some ⟨b, 0, none⟩) 1 1) (hc : w.cell? ⟨b, 0, none⟩ = some (.int .i64 y))
    (h : ∀ b' cap w', GApp w v l y b' cap w' → wpList Tryz.prog ops Q rest (a.put o.dst (.slice (some ⟨b', 0, none⟩) (n + 1) cap)) w') : wpList Tryz.prog ops Q (o :: rest) a w := by
  subst hn
  obtain ⟨i0, hi, hz0, hz1, hz2⟩ := info_parts info_int
  refine wpList_append_home hgd s x t ho 3 i0 _ 1 8 ht hi hz0 hz1 hz2 rfl (by decide) v l.length (nums l) hs hown ⟨b, 0, none⟩ 1 1 [.int .i64 y] hx rfl (fun j u hj => ?_) (nums_one y) (by unfold maxLen; omega) (by omega) fun v' w' h1 h2 h3 => ?_
  · cases j with
    | zero => injection hj with hj; subst hj; rw [show (⟨b, 0, none⟩ : Addr).add 0 = ⟨b, 0, none⟩ from by unfold Addr.add; split <;> simp_all]; exact hc
    | succ j => simp at hj
  · rcases h1.2 with ⟨_, h0⟩ | ⟨b', cap, cur, rfl, hb, hh, r⟩
    · omega
    · refine h b' cap w' ⟨by rw [nums, List.map_append]; exact h1, Fr.of_grown (F := fun k => v.ownBlock = some k) h2 fun k e => e, ?_⟩
      rcases h3 with e | e
      · exact .inl e.symm
      · have e : b' = w.heap.size := by injection e
        right; omega
theorem Raw.added {w w2 : World} {o : Ob} {n : Nat} {c g : List Int} {y : Int} {b cap : Nat} (h : Raw w o n c g) (ha : GApp w o.cv c y b cap w2) :
    let v := Value.slice (some ⟨b, 0, none⟩) (c.length + 1) cap
    (w2.setCell ⟨o.p, 2, none⟩ v).heap[o.p]? = some (.cells #[.int .i64 (n : Int), .map (some o.mb), v, o.gv] 155 (0, 0)) ∧ Ints (w2.setCell ⟨o.p, 2, none⟩ v) v (c ++ [y]) ∧ Ints (w2.setCell ⟨o.p, 2, none⟩ v) o.gv g ∧ PlaceOf (w2.setCell ⟨o.p, 2, none⟩ v) o.mb c ∧
    (∀ k, v.ownBlock = some k → o.gv.ownBlock ≠ some k) ∧ Step o { o with cv := v } w (w2.setCell ⟨o.p, 2, none⟩ v) ∧ b ≠ o.p ∧ b ≠ o.mb := by
  intro v
  obtain ⟨n1, n2, n3⟩ := h.p_ne
  obtain ⟨m1, m2⟩ := h.m_ne
  have hp := (ha.fr.block o.p (h.lt _ (.inl rfl)) n2).trans h.head
  have hbp : b ≠ o.p := fun e => by
    rcases ha.own with h1 | h1
    · exact n2 (by rw [h1, e])
    · have := h.lt o.p (.inl rfl); omega
  have hbm : b ≠ o.mb := fun e => by
    rcases ha.own with h1 | h1
    · exact m1 (by rw [h1, e])
    · have := h.lt o.mb (.inr (.inl rfl)); omega
  have hset : ∀ k, k ≠ o.p → (w2.setCell ⟨o.p, 2, none⟩ v).heap[k]? = w2.heap[k]? := fun k hk => Below.heap_setCell _ _ _ _ hk
  have hap : ∀ k, v.ownBlock = some k → o.gv.ownBlock ≠ some k := by
    intro k hk hk'
    injection hk with hk
    rcases ha.own with e | e
    · exact h.apart k (by rw [e, ← hk]) hk'
    · have := h.lt k (.inr (.inr (.inr hk'))); have : b = k := hk; omega
  refine ⟨?_, ?_, ?_, ?_, hap, ⟨?_, ?_, rfl⟩, hbp, hbm⟩
  · rw [heap_setCell_same _ _ _ _ _ _ hp]; rfl
  · exact own_same (ints_add rfl ha.row) fun k hk => hset k (by intro e; injection hk with hk; exact hbp (hk.trans e))
  · refine own_same (own_same h.gaps fun k hk => ha.fr.block k (h.lt k (.inr (.inr (.inr hk)))) (fun e => h.apart k e hk)) fun k hk => hset k (fun e => n3 (by rw [← e]; exact hk))
  · exact (h.placeOf.same (ha.fr.block o.mb h.placeOf.lt m1)).same (hset _ n1)
  · exact Fr.setCell (F := o.fp) (ha.fr.mono fun k _ e => .inr (.inr (.inl e))) _ (.inl rfl) _
  · rintro k (e | e | e | e)
    · exact .inl (.inl e)
    · exact .inl (.inr (.inl e))
    · injection e with e
      have e : b = k := e
      subst e
      exact ha.own.imp (fun e => .inr (.inr (.inl e))) id
    · exact .inl (.inr (.inr (.inr e)))
theorem MapOk.put {D : DataW Unit} {c c' : List Int} (h : MapOk D c) {k : Int} {i : Nat} (h0 : 0 ≤ k) (hc : c'[i]? = some k) (hu : ∀ (j : Nat) (x : Int), c'[j]? = some x → 0 ≤ x → x ≠ k → c[j]? = some x) (hv : ∀ x : Int, 0 ≤ x → x ≠ k → x ∈ c → x ∈ c') (hone : ∀ j : Nat, c'[j]? = some k → j = i) :
    MapOk (D.put (.int .i64 k) (.lit (.int .i64 (i : Int)))) c' := by
  refine ⟨h.1.put _ _, fun x => ?_, fun j x hj hx z => ?_⟩
  · by_cases e : x = k
    · subst e
      rw [has_put_same h.1 (k := .int .i64 x) trivial]
      exact ⟨fun _ => ⟨h0, List.mem_of_getElem? hc⟩, fun _ => rfl⟩
    · rw [has_put_other (by intro c; injection c with _ c; exact e c), h.2.1 x]
      constructor
      · rintro ⟨h1, h2⟩
        exact ⟨h1, hv x h1 e h2⟩
      · rintro ⟨h1, h2⟩
        obtain ⟨j, hj⟩ := List.getElem?_of_mem h2
        exact ⟨h1, List.mem_of_getElem? (hu j x hj h1 e)⟩
  · by_cases e : x = k
    · subst e
      rw [atKey_put_same h.1 (k := .int .i64 x) trivial, hone j hj]
    · rw [atKey_put_other (by intro c; injection c with _ c; exact e c)]
      exact h.2.2 j x (hu j x hj hx e) hx z
theorem MapOk.del {D : DataW Unit} {c : List Int} (h : MapOk D c) {k : Int} {i : Nat} (h0 : 0 ≤ k) (hi : c[i]? = some k) (hone : ∀ j : Nat, c[j]? = some k → j = i) : MapOk (D.del (.int .i64 k)) (c.set i (-1)) := by
  have hil := (List.getElem?_eq_some_iff.1 hi).1
  have get : ∀ (j : Nat) (x : Int), (c.set i (-1))[j]? = some x → 0 ≤ x → j ≠ i ∧ c[j]? = some x := fun j x hj hx => by
    rw [List.getElem?_set] at hj
    by_cases e : i = j
    · rw [if_pos e, if_pos hil] at hj
      injection hj with hj; omega
    · rw [if_neg e] at hj
      exact ⟨fun c => e c.symm, hj⟩
  refine ⟨h.1.del _, fun x => ?_, fun j x hj hx z => ?_⟩
  · by_cases e : x = k
    · subst e
      rw [has_del_same]
      refine ⟨fun c => (by cases c), fun ⟨_, hm⟩ => ?_⟩
      obtain ⟨j, hj⟩ := List.getElem?_of_mem hm
      obtain ⟨h1, h2⟩ := get j x hj h0
      exact (h1 (hone j h2)).elim
    · rw [has_del_other (by intro c; injection c with _ c; exact e c), h.2.1 x]
      constructor
      · rintro ⟨h1, h2⟩
        obtain ⟨j, hj⟩ := List.getElem?_of_mem h2
        refine ⟨h1, List.mem_of_getElem? (i := j) ?_⟩
        rw [List.getElem?_set, if_neg (fun c => by rw [← c, hi] at hj; injection hj with hj; exact e hj.symm)]
        exact hj
      · rintro ⟨h1, h2⟩
        obtain ⟨j, hj⟩ := List.getElem?_of_mem h2
        exact ⟨h1, List.mem_of_getElem? (get j x hj h1).2⟩
  · obtain ⟨h1, h2⟩ := get j x hj hx
    rw [atKey_del_other (by
      intro c; injection c with _ c
      rw [c] at h2
      exact h1 (hone j h2))]
    exact h.2.2 j x h2 hx z
end Tb
end Go.Proofs.YtbmabcddciibfaaGreat
namespace Go.Proofs.YtbmabcddciibfaaGreat
namespace Tb
open Go.RowKit Dsk Go.Maps
set_option linter.unusedVariables false
set_option maxRecDepth 100000
theorem MapOk.more {D : DataW Unit} {c : List Int} (h : MapOk D c) : MapOk D (c ++ [-1]) := by
  refine ⟨h.1, fun k => ?_, fun i k hi h0 z => ?_⟩
  · rw [h.2.1 k, List.mem_append, List.mem_singleton]
    constructor
    · exact fun ⟨a, b⟩ => ⟨a, .inl b⟩
    · rintro ⟨a, b | b⟩
      · exact ⟨a, b⟩
      · omega
  · refine h.2.2 i k ?_ h0 z
    by_cases hl : i < c.length
    · rwa [List.getElem?_append_left hl] at hi
    · rw [List.getElem?_append_right (by omega)] at hi
      cases e : i - c.length with
      | zero => rw [e] at hi; simp at hi; omega
      | succ j => rw [e] at hi; simp at hi
theorem PlaceOf.more {w : World} {b : Nat} {c : List Int} (h : PlaceOf w b c) : PlaceOf w b (c ++ [-1]) := by
  obtain ⟨D, h1, h2⟩ := h
  exact ⟨D, h1, h2.more⟩
theorem Raw.more {w w2 : World} {o : Ob} {n : Nat} {c g : List Int} {b cap : Nat} (h : Raw w o n c g) (ha : GApp w o.cv c (-1) b cap w2) :
    Raw (w2.setCell ⟨o.p, 2, none⟩ (.slice (some ⟨b, 0, none⟩) (c.length + 1) cap)) { o with cv := .slice (some ⟨b, 0, none⟩) (c.length + 1) cap } n (c ++ [-1]) g ∧
    Step o { o with cv := .slice (some ⟨b, 0, none⟩) (c.length + 1) cap } w (w2.setCell ⟨o.p, 2, none⟩ (.slice (some ⟨b, 0, none⟩) (c.length + 1) cap)) := by
  obtain ⟨h1, h2, h3, h4, h5, h6, _, _⟩ := h.added ha
  exact ⟨⟨h1, h2, h3, h4.more, h5⟩, h6⟩
theorem fr_turned {w w' : World} {b : Nat} (h : w.mapTurned w' b) : Fr (fun k => k = b) w w' := Fr.of_grown h.grown fun k e => by injection e with e; exact e.symm
theorem Raw.placed {w : World} {o : Ob} {n : Nat} {c g : List Int} (h : Raw w o n c g) {i : Nat} {b cap : Nat} (hv : o.cv = .slice (some ⟨b, 0, none⟩) c.length cap) (hi : c[i]? = some (-1)) {k : Int} (h0 : 0 ≤ k) (hk : k ∉ c) (hnd : (used c).Nodup) :
    w.cell? ⟨b, i, none⟩ = some (.int .i64 (-1)) ∧ w.frozen? ⟨b, i, none⟩ = false ∧ (w.setCell ⟨b, i, none⟩ (.int .i64 k)).cell? ⟨o.p, 1, none⟩ = some (.map (some o.mb)) ∧
    ∃ D, (w.setCell ⟨b, i, none⟩ (.int .i64 k)).ownsMap Tryz.prog 3 (plainElem (H := Unit) Tryz.prog 3) o.mb (Maps.size D) D ∧ Maps.size D ≤ c.length ∧
      ∀ w3, w3.ownsMap Tryz.prog 3 (plainElem (H := Unit) Tryz.prog 3) o.mb (Maps.size D + 1) (D.put (.int .i64 k) (.lit (.int .i64 (i : Int)))) → (w.setCell ⟨b, i, none⟩ (.int .i64 k)).mapTurned w3 o.mb → Raw w3 o n (c.set i k) g ∧ Step o o w w3 := by
  obtain ⟨n1, n2, n3⟩ := h.p_ne
  obtain ⟨m1, m2⟩ := h.m_ne
  have hb : o.cv.ownBlock = some b := by rw [hv]; rfl
  have hbp : b ≠ o.p := fun e => n2 (by rw [hb, e])
  have hbm : b ≠ o.mb := fun e => m1 (by rw [hb, e])
  have hil := (List.getElem?_eq_some_iff.1 hi).1
  have hrow : Ints w (.slice (some ⟨b, 0, none⟩) c.length cap) c := by rw [← hv]; exact h.chunks
  obtain ⟨b', e, _, hc, hf⟩ := ints_cell hrow i hil
  cases e
  have hat : Hp.at_ c i = -1 := by have := Hp.at_get c i hil; rw [hi] at this; injection this with this; exact this.symm
  rw [hat] at hc
  obtain ⟨r1, f1⟩ := ints_set hrow i k
  obtain ⟨D, hD, hm⟩ := h.placeOf
  have hset : ∀ x, x ≠ b → (w.setCell ⟨b, i, none⟩ (.int .i64 k)).heap[x]? = w.heap[x]? := fun x hx => Below.heap_setCell _ _ _ _ hx
  have hD2 := map_same hD (hset o.mb (fun e => hbm e.symm))
  refine ⟨hc, hf, ?_, D, hD2, ?_, fun w3 ho3 ht3 => ?_⟩
  · rw [World.cell?_of_block (w := w) (a := ⟨o.p, 1, none⟩) (hset o.p (fun e => hbp e.symm))]
    exact h.reads.2.1
  · rw [(size_used hD hm hnd).2]; exact used_length_le _
  · have f3 := fr_turned ht3
    have hfm : ∀ x, x ≠ o.mb → w3.heap[x]? = (w.setCell ⟨b, i, none⟩ (.int .i64 k)).heap[x]? := by
      intro x hx
      obtain ⟨es, cl, es', cl', hb', rfl⟩ := ht3
      exact ChangeMaps.heap_setBlock_other hb' _ hx
    refine ⟨⟨?_, ?_, ?_, ⟨_, map_tight ho3, ?_⟩, h.apart⟩, ?_, fun x hx => .inl hx, rfl⟩
    · rw [hfm _ (fun e => n1 e.symm), hset _ (fun e => hbp e.symm)]; exact h.head
    · rw [hv]
      have r2 : Ints (w.setCell ⟨b, i, none⟩ (.int .i64 k)) (.slice (some ⟨b, 0, none⟩) c.length cap) (c.set i k) := by show World.ownsRow _ _ _ _ _ _ _; simpa using r1
      exact own_same r2 fun x hx => hfm x (by injection hx with hx; have hx : b = x := hx; omega)
    · exact own_same h.gaps fun x hx => (hfm x (fun e => m2 (by rw [← e]; exact hx))).trans (hset x (fun e => h.apart b hb (by rw [← e]; exact hx)))
    · refine hm.put h0 (by rw [List.getElem?_set, if_pos rfl, if_pos hil]) (fun j x hj hx hne => ?_) (fun x hx hne hxc => ?_) (fun j hj => ?_)
      · rw [List.getElem?_set] at hj
        by_cases e : i = j
        · rw [if_pos e, if_pos hil] at hj; injection hj with hj; exact absurd hj.symm hne
        · rwa [if_neg e] at hj
      · obtain ⟨j, hj⟩ := List.getElem?_of_mem hxc
        refine List.mem_of_getElem? (i := j) ?_
        rw [List.getElem?_set, if_neg (fun e => by rw [← e, hi] at hj; injection hj with hj; omega)]
        exact hj
      · rw [List.getElem?_set] at hj
        by_cases e : i = j
        · exact e.symm
        · rw [if_neg e] at hj
          exact absurd (List.mem_of_getElem? hj) hk
    · exact ((f1.mono fun x _ e => (by rw [e]; exact .inr (.inr (.inl hb)) : o.fp x)).trans f3 (fun x _ e => (by rw [e]; exact .inr (.inl rfl))))
end Tb
end Go.Proofs.YtbmabcddciibfaaGreat
namespace Go.Proofs.YtbmabcddciibfaaGreat
namespace Tb
open Go.RowKit Dsk Go.Maps
set_option linter.unusedVariables false
set_option maxRecDepth 100000
theorem elem_int (a : Int) (h : (Lit.int .i64 a).wf = true) : plainElem (H := Unit) Tryz.prog 3 (.int .i64 a) = some (.lit (.int .i64 a), []) := plainElem_int Tryz.underlying3 h
theorem wf_nat (i : Nat) (h : i ≤ 4611686018427387904) : (Lit.int .i64 (i : Int)).wf = true := by
  simp [Lit.wf, IntKind.min, IntKind.max, IntKind.signed, IntKind.bits]
  omega
set_option maxHeartbeats 1000000 in
theorem stand_in {w : World} {o : Ob} {n : Nat} {c g : List Int} (h : Raw w o n c g) (i : Nat) (k : Int) (hi : c[i]? = some (-1)) (h0 : 0 ≤ k) (hk : k ∉ c) (hwf : (Lit.int .i64 k).wf = true) (hnd : (used c).Nodup) (hfew : c.length ≤ 1048576) :
    Calls Tryz.prog 129 #[.pointer (some ⟨o.p, 0, none⟩), .int .i64 (i : Int), .int .i64 k] w fun e w' => e = .returned (.tuple #[]) ∧ Raw w' o n (c.set i k) g ∧ Step o o w w' := by
  have hil := (List.getElem?_eq_some_iff.1 hi).1
  obtain ⟨a, cap, hv⟩ := ints_slice h.chunks
  obtain ⟨b, rfl⟩ := ints_some (a := a) (c := cap) (l := c) (by rw [← hv]; exact h.chunks) (by omega)
  obtain ⟨hc, hf, hm, D, hD, hle, hfin⟩ := h.placed hv hi h0 hk hnd
  obtain ⟨_, h1, h2, _, _⟩ := h.reads
  rw [hv] at h2
  have HD := Lib.hid hD
  have HF := Lib.hid hfin
  have hKEY : Hid (keyOf Tryz.prog 3 (.int .i64 k) = some (.int .i64 k)) := Lib.hid (int_key k hwf)
  have hEL := Lib.hid (elem_int (i : Int) (wf_nat i (by omega)))
  obtain ⟨L, hL⟩ : ∃ L, L = c.length := ⟨_, rfl⟩
  rw [← hL] at h2 hil hfew hle
  have d1 : ((i : Int) == (L : Int)) = false := by simp; omega
  have d2 : (i == L) = false := by simp; omega
  clear h hv hi hk hwf hnd hD hfin hL
  go_enter Tryz.func129, Tryz.ntmps129
  go_wp2_with (at_mapUpdate; refine wpList_mapUpdate_in _ rfl _ _ _ 96 rfl 3 3 int_law Tryz.underlying96 _ o.mb (Maps.size D) D rfl HD.out (by unfold maxLen; omega) _ _ (.int .i64 k) rfl rfl hKEY.out _ _ hEL.out ?_; intro w3 ho3 ht3; have FIN := Lib.hid (HF.out w3 ho3 ht3); clear ho3 ht3)
  go_end0
  exact ⟨rfl, FIN.out⟩
set_option maxHeartbeats 1000000 in
theorem stand_end {w : World} {o : Ob} {n : Nat} {c g : List Int} (h : Raw w o n c g) (k : Int) (h0 : 0 ≤ k) (hk : k ∉ c) (hwf : (Lit.int .i64 k).wf = true) (hnd : (used c).Nodup) (hfew : c.length ≤ 1048576) :
    Calls Tryz.prog 129 #[.pointer (some ⟨o.p, 0, none⟩), .int .i64 (c.length : Int), .int .i64 k] w fun e w' => e = .returned (.tuple #[]) ∧ ∃ o', Raw w' o' n (c ++ [k]) g ∧ Step o o' w w' := by
  obtain ⟨a, cap, hv⟩ := ints_slice h.chunks
  obtain ⟨_, h1, h2, _, hf2⟩ := h.reads
  rw [hv] at h2
  have hKEY : Hid (keyOf Tryz.prog 3 (.int .i64 k) = some (.int .i64 k)) := Lib.hid (int_key k hwf)
  have hEL := Lib.hid (elem_int (c.length : Int) (wf_nat c.length (by omega)))
  obtain ⟨L, hL⟩ : ∃ L, L = c.length := ⟨_, rfl⟩
  have H := Lib.hid h
  have HV := Lib.hid hv
  have hs2 : ∀ j, w.frozen? ⟨o.p, j, none⟩ = false := hf2
  have hal : Below w.heap.size w (w.alloc (.cells #[.int .i64 (-1)] 3)) := (Below.refl _ _).alloc (Nat.le_refl _) _
  have OWN : Hid ((w.alloc (.cells #[.int .i64 (-1)] 3)).ownsRow 0 3 1 (.slice a L cap) L (nums c)) := Lib.hid (by
    have := (h.below hal).chunks
    rw [hv, ← hL] at this
    show World.ownsRow _ _ _ _ _ _ _
    rw [hL] at this ⊢
    exact this)
  have RA := Lib.hid (h.below hal)
  have HAL := Lib.hid hal
  have fin : ∀ b' cap' w2, GApp (w.alloc (.cells #[.int .i64 (-1)] 3)) (.slice a L cap) c (-1) b' cap' w2 →
      let V := Value.slice (some ⟨b', 0, none⟩) (L + 1) cap'
      let W1 := w2.setCell ⟨o.p, 2, none⟩ V
      w2.cell? ⟨o.p, 2, none⟩ = some (.slice a L cap) ∧ w2.frozen? ⟨o.p, 2, none⟩ = false ∧ W1.cell? ⟨o.p, 2, none⟩ = some V ∧ W1.cell? ⟨b', L, none⟩ = some (.int .i64 (-1)) ∧ W1.frozen? ⟨b', L, none⟩ = false ∧ (W1.setCell ⟨b', L, none⟩ (.int .i64 k)).cell? ⟨o.p, 1, none⟩ = some (.map (some o.mb)) ∧
      ∃ D, (W1.setCell ⟨b', L, none⟩ (.int .i64 k)).ownsMap Tryz.prog 3 (plainElem (H := Unit) Tryz.prog 3) o.mb (Maps.size D) D ∧ Maps.size D < maxLen ∧
        Hid (∀ w3, w3.ownsMap Tryz.prog 3 (plainElem (H := Unit) Tryz.prog 3) o.mb (Maps.size D + 1) (D.put (.int .i64 k) (.lit (.int .i64 (L : Int)))) → (W1.setCell ⟨b', L, none⟩ (.int .i64 k)).mapTurned w3 o.mb → ∃ o', Raw w3 o' n (c ++ [k]) g ∧ Step o o' w w3) := by
    intro b' cap' w2 ha V W1
    rw [hL] at ha
    have ha' : GApp (w.alloc (.cells #[.int .i64 (-1)] 3)) o.cv c (-1) b' cap' w2 := by rw [hv]; exact ha
    obtain ⟨R1, S1⟩ := RA.out.more ha'
    have hh := (ha'.fr.block o.p (RA.out.lt _ (.inl rfl)) RA.out.p_ne.2.1).trans RA.out.head
    have hu : used (c ++ [-1]) = used c := by simp [used]
    obtain ⟨hc, hf, hm, D, hD, hle, hfin⟩ := R1.placed (i := c.length) (b := b') (cap := cap') (by simp) (by simp) h0 (by simp [hk]; omega) (by rw [hu]; exact hnd)
    have hr := R1.reads.2.2.1
    have hVe : V = .slice (some ⟨b', 0, none⟩) (c.length + 1) cap' := by show Value.slice _ (L + 1) _ = _; rw [hL]
    have hWe : W1 = w2.setCell ⟨o.p, 2, none⟩ (.slice (some ⟨b', 0, none⟩) (c.length + 1) cap') := by show w2.setCell _ V = _; rw [hVe]
    rw [hWe, hVe, hL]
    refine ⟨by rw [cell_of_row _ _ _ _ _ _ hh, hv]; rfl, frozen_of_row _ _ _ _ _ hh, hr, hc, hf, hm, D, hD, by unfold maxLen; simp at hle; omega, Lib.hid fun w3 ho3 ht3 => ?_⟩
    obtain ⟨R3, S3⟩ := hfin w3 ho3 ht3
    have eset : (c ++ [-1]).set c.length k = c ++ [k] := by rw [List.set_append_right _ _ (Nat.le_refl _)]; simp
    rw [eset] at R3
    exact ⟨_, R3, (Step.of_below HAL.out).trans (S1.trans S3)⟩
  have FIN := Lib.hid fin
  have HL := Lib.hid hL
  have hcl : w.alloc (.cells #[.int .i64 (-1)] 3) = w.alloc (.cells #[.int .i64 (-1)] 3) := rfl
  rw [← hL] at hfew ⊢
  rw [← hL] at h2
  rw [← hL] at hEL
  have d1 : ((L : Int) == (L : Int)) = true := by simp
  have d2 : (L == L) = true := by simp
  have l1 : L < L + 1 := by omega
  clear h hv hk hwf hnd hL fin hal hcl hf2
  go_enter Tryz.func129, Tryz.ntmps129
  go_wp2_with (first
    | (at_builtin; refine wpList_add rfl (.tmp 17) (.tmp 18) 31 Tryz.underlying31 rfl (.slice a L cap) L c rfl HL.out (by omega) OWN.out w.heap.size (-1) rfl (by simp) ?_; intro b' cap' w2 ha; obtain ⟨q1, q2, q3, q4, q5, q6, D, hD, hle, hfin⟩ := FIN.out b' cap' w2 ha; have HD := Lib.hid hD; clear hD ha FIN OWN)
    | (at_mapUpdate; refine wpList_mapUpdate_in _ rfl _ _ _ 96 rfl 3 3 int_law Tryz.underlying96 _ o.mb (Maps.size D) D rfl HD.out hle _ _ (.int .i64 k) rfl rfl hKEY.out _ _ hEL.out ?_; intro w3 ho3 ht3; have F3 := Lib.hid (hfin.out w3 ho3 ht3); clear ho3 ht3))
  go_end0
  exact ⟨rfl, F3.out⟩
end Tb
end Go.Proofs.YtbmabcddciibfaaGreat
namespace Go.Proofs.YtbmabcddciibfaaGreat
namespace Tb
open Go.RowKit Dsk Go.Maps
set_option linter.unusedVariables false
set_option maxRecDepth 100000
theorem first_end {w : World} {o : Ob} {n : Nat} {c : List Int} (h : Raw w o n c []) :
    Calls Tryz.prog 131 #[.pointer (some ⟨o.p, 0, none⟩)] w fun e w' => e = .returned (.int .i64 (c.length : Int)) ∧ w = w' := by
  obtain ⟨_, _, h2, h3, _⟩ := h.reads
  obtain ⟨a, cap, hv⟩ := ints_slice h.chunks
  obtain ⟨ga, gc, hg⟩ := ints_slice h.gaps
  rw [hv] at h2
  rw [hg] at h3
  have h3 : w.cell? ⟨o.p, 3, none⟩ = some (.slice ga 0 gc) := h3
  obtain ⟨L, hL⟩ : ∃ L, L = c.length := ⟨_, rfl⟩
  rw [← hL] at h2 ⊢
  clear hv hg hL h
  go_enter Tryz.func131, Tryz.ntmps131
  go_wp2
  go_ret
  exact ⟨rfl, rfl⟩
theorem first_gap {w : World} {o : Ob} {n : Nat} {c g : List Int} (h : Raw w o n c g) (hg : g ≠ []) (hh : Hp.Heap g) (hl : g.length ≤ 1048576) :
    Calls Tryz.prog 131 #[.pointer (some ⟨o.p, 0, none⟩)] w fun e w' => e = .returned (.int .i64 (Hp.at_ g 0)) ∧ ∃ o' g', Raw w' o' n c g' ∧ Step o o' w w' ∧ (Hp.at_ g 0 :: g').Perm g ∧ Hp.Heap g' := by
  obtain ⟨q, hq⟩ : ∃ q, g.length = q + 1 := ⟨g.length - 1, by have := List.length_pos_iff.2 hg; omega⟩
  have PO := Lib.hid (hpop_any h.gh q hq hh (by omega))
  obtain ⟨_, _, _, h3, _⟩ := h.reads
  obtain ⟨ga, gc, hgv⟩ := ints_slice h.gaps
  rw [hgv, hq] at h3
  have H := Lib.hid h
  have d1 : ((q : Int) + 1 == 0) = false := by simp; omega
  have d2 : (((q + 1 : Nat) : Int) == 0) = false := by simp; omega
  obtain ⟨x, hx⟩ : ∃ x, x = Hp.at_ g 0 := ⟨_, rfl⟩
  rw [← hx] at PO ⊢
  have hta := assert_int x
  clear h hg hh hl hq hgv hx
  go_enter Tryz.func131, Tryz.ntmps131
  go_wp2_with (go_at_call 154; refine PO.out.mono ?_; rintro e w1 ⟨rfl, g1, gv1, h1, hp1, hh1, hs1⟩; have H1 := Lib.hid h1; have HP1 := Lib.hid hp1; have HH1 := Lib.hid hh1; have HS1 := Lib.hid hs1; clear h1 hp1 hh1 hs1)
  go_ret
  obtain ⟨r1, s1⟩ := H.out.gs H1.out HS1.out
  exact ⟨rfl, _, g1, r1, s1, HP1.out, HH1.out⟩
theorem Raw.grow {w : World} {o : Ob} {n : Nat} {c g : List Int} (h : Raw w o n c g) {a : Option Addr} {L cap : Nat} (hv : o.cv = .slice a L cap) (hL : L = c.length) {b' cap' : Nat} {w2 : World} (ha : GApp (w.alloc (.cells #[.int .i64 (-1)] 3)) (.slice a L cap) c (-1) b' cap' w2) :
    w2.cell? ⟨o.p, 2, none⟩ = some (.slice a L cap) ∧ w2.frozen? ⟨o.p, 2, none⟩ = false ∧
    Raw (w2.setCell ⟨o.p, 2, none⟩ (.slice (some ⟨b', 0, none⟩) (L + 1) cap')) { o with cv := .slice (some ⟨b', 0, none⟩) (L + 1) cap' } n (c ++ [-1]) g ∧
    Step o { o with cv := .slice (some ⟨b', 0, none⟩) (L + 1) cap' } w (w2.setCell ⟨o.p, 2, none⟩ (.slice (some ⟨b', 0, none⟩) (L + 1) cap')) := by
  have hal : Below w.heap.size w (w.alloc (.cells #[.int .i64 (-1)] 3)) := (Below.refl _ _).alloc (Nat.le_refl _) _
  have RA := h.below hal
  have ha' : GApp (w.alloc (.cells #[.int .i64 (-1)] 3)) o.cv c (-1) b' cap' w2 := by rw [hv]; exact ha
  obtain ⟨R1, S1⟩ := RA.more ha'
  have hh := (ha'.fr.block o.p (RA.lt _ (.inl rfl)) RA.p_ne.2.1).trans RA.head
  rw [← hL] at R1 S1
  exact ⟨by rw [cell_of_row _ _ _ _ _ _ hh, hv]; rfl, frozen_of_row _ _ _ _ _ hh, R1, (Step.of_below hal).trans S1⟩
theorem Raw.own {w : World} {o : Ob} {n : Nat} {c g : List Int} (h : Raw w o n c g) {a : Option Addr} {L cap : Nat} (hv : o.cv = .slice a L cap) (hL : L = c.length) : (w.alloc (.cells #[.int .i64 (-1)] 3)).ownsRow 0 3 1 (.slice a L cap) L (nums c) := by
  have hal : Below w.heap.size w (w.alloc (.cells #[.int .i64 (-1)] 3)) := (Below.refl _ _).alloc (Nat.le_refl _) _
  have := (h.below hal).chunks
  rw [hv] at this
  subst hL
  exact this
theorem Raw.told {w w' : World} {o : Ob} {n : Nat} {c g g' : List Int} {gv' : Value} (h : Raw w o n (c ++ [-1]) g) (hpr : Pr n c g) (hc : c.length < n) (hg : Gh w' o.p (.int .i64 (n : Int)) (.map (some o.mb)) o.cv gv' g') (hs : Gs o.p o.gv gv' w w') (hp : g'.Perm (g ++ [(c.length : Int)])) (hh : Hp.Heap g') :
    Tk w' { o with gv := gv' } n (c ++ [-1]) g' ∧ Step o { o with gv := gv' } w w' := by
  obtain ⟨r, s⟩ := h.gs hg hs
  exact ⟨r.tk (hpr.more hc hp hh), s⟩
set_option maxHeartbeats 1000000 in
theorem skip_any {w : World} {o : Ob} {n : Nat} {c g : List Int} (h : Tk w o n c g) (i : Nat) (hi : i ≤ n) :
    Calls Tryz.prog 128 #[.pointer (some ⟨o.p, 0, none⟩), .int .i64 (i : Int)] w fun e w' => e = .returned (.tuple #[]) ∧ ∃ g', Went o n (c ++ List.replicate (i - c.length) (-1)) g' w w' := by
  have hn := h.pr.few
  have hlen := h.pr.len
  obtain ⟨_, _, h2, _, _⟩ := h.reads
  obtain ⟨a, cap, hv⟩ := ints_slice h.chunks
  rw [hv] at h2
  have H := Lib.hid h
  obtain ⟨L, hL⟩ : ∃ L, L = c.length := ⟨_, rfl⟩
  rw [← hL] at h2 hlen
  have HL := Lib.hid hL
  rw [← hL]
  clear h hL hv
  go_enter Tryz.func128, Tryz.ntmps128
  go_wp2
  go_loopw [4] (fun v wr => ∃ (k : Nat) (o' : Ob) (g' : List Int), v = .int .i64 (k : Int) ∧ Hid (Tk wr o' n (c ++ List.replicate (k - L) (-1)) g') ∧ Hid (Step o o' w wr) ∧ L ≤ k ∧ (k ≤ i ∨ k = L)) (fun v _ => i - (Lib.intOf v).toNat)
  case atStart => exact ⟨L, o, g, rfl, by rw [Nat.sub_self]; simpa using H, Lib.hid (Step.refl _ _), Nat.le_refl _, .inr rfl⟩
  case round =>
    obtain ⟨k, o', g', rfl, ht, hs, hLk, hk⟩ := hrel
    obtain ⟨c', hc'⟩ : ∃ c', c' = c ++ List.replicate (k - L) (-1) := ⟨_, rfl⟩
    rw [← hc'] at ht
    have hkc : k = c'.length := by have := HL.out; rw [hc']; simp; omega
    by_cases hlt : k < i
    · have d1 : decide ((k : Int) < (i : Int)) = true := by simp; omega
      have d2 : decide (k < i) = true := by simp; omega
      obtain ⟨_, _, r2, _, _⟩ := ht.out.reads
      obtain ⟨a', cap', hv'⟩ := ints_slice ht.out.chunks
      rw [hv', ← hkc] at r2
      rw [← hkc] at hv'
      have OWN := Lib.hid (ht.out.raw.own hv' hkc)
      have HV := Lib.hid hv'
      have HKC := Lib.hid hkc
      have HC := Lib.hid hc'
      have hp := hs.out.p
      rw [hp] at r2
      have hgl := ht.out.pr.glen
      rw [← hkc] at hgl
      have hw1 : IntKind.i64.wrap ((k : Int) + 1) = ((k + 1 : Nat) : Int) := by rw [IntWalk.i64_in _ (by omega)]; rfl
      have HP := Lib.hid hp
      clear hv' hkc hc' hp
      go_wp2_with (first
        | (at_builtin; refine wpList_add rfl (.tmp 19) (.tmp 20) 31 Tryz.underlying31 rfl (.slice a' k cap') k c' rfl HKC.out (by omega) OWN.out wr.heap.size (-1) rfl (by simp) ?_; intro b2 cap2 w2 ha; obtain ⟨q1, q2, hr1, hs1⟩ := ht.out.raw.grow HV.out HKC.out ha; rw [HP.out] at q1 q2 hr1 hs1; have R1 := Lib.hid hr1; have S1 := Lib.hid hs1; have PU := Lib.hid (hpush_any hr1.gh (k : Int) ht.out.pr.heap (by omega)); clear ha hr1 hs1 OWN)
        | (go_at_call 135; refine PU.out.mono ?_; rintro e w3 ⟨rfl, g3, gv3, h3, hp3, hh3, hs3⟩; have H3 := Lib.hid h3; have HP3 := Lib.hid hp3; have HH3 := Lib.hid hh3; have HS3 := Lib.hid hs3; clear h3 hp3 hh3 hs3))
      go_roundw
      case rel =>
        obtain ⟨t3, s3⟩ := R1.out.told ht.out.pr (by have := HKC.out; omega) H3.out HS3.out (by rw [← HKC.out]; exact HP3.out) HH3.out
        refine ⟨k + 1, _, g3, rfl, Lib.hid ?_, Lib.hid (hs.out.trans (S1.out.trans s3)), by omega, .inl (by omega)⟩
        rw [show c ++ List.replicate (k + 1 - L) (-1) = c' ++ [-1] by rw [HC.out, show k + 1 - L = (k - L) + 1 by omega, List.replicate_succ', List.append_assoc]]
        exact t3
      case measure => simp [Lib.intOf]; omega
    · have d1 : decide ((k : Int) < (i : Int)) = false := by simp; omega
      have d2 : decide (k < i) = false := by simp; omega
      have hki : k - L = i - L := by omega
      rw [hki] at hc'
      clear hkc
      go_wp2
      go_end0
      exact ⟨rfl, g', o', by rw [← hc']; exact ht.out, hs.out⟩
end Tb
end Go.Proofs.YtbmabcddciibfaaGreat
namespace Go.Proofs.YtbmabcddciibfaaGreat
namespace Tb
open Go.RowKit Dsk Go.Maps
set_option linter.unusedVariables false
set_option maxRecDepth 100000
def newN (p : Int) : Nat := if 0 ≤ p ∧ p ≤ 1048576 then p.toNat else 0
def MadeK (n : Nat) (c g : List Int) (B : Nat) (w : World) (e : Ending) (w' : World) : Prop := (∃ o, e = .returned (.pointer (some ⟨o.p, 0, none⟩)) ∧ Tk w' o n c g ∧ ∀ k, o.fp k → B ≤ k) ∧ Below B w w'
theorem new_k (p : Int) (w : World) : Calls Tryz.prog 87 #[.int .i64 p] w fun e w' => MadeK (newN p) [] [] w.heap.size w e w' := by
  have hmm := @run_makeMap Tryz.prog
  have MH := Lib.hid (mayhave_any p w)
  have fin : ∀ n : Nat, n ≤ 1048576 → MadeK n [] [] w.heap.size w (.returned (.pointer (some ⟨w.heap.size + 1, 0, none⟩))) ((w.alloc (.map #[] 0)).alloc (.cells #[.int .i64 (n : Int), .map (some w.heap.size), .slice none 0 0, .slice none 0 0] 155)) := by
    intro n hn
    refine ⟨⟨⟨w.heap.size + 1, w.heap.size, .slice none 0 0, .slice none 0 0⟩, rfl, ⟨Pr.new n hn, ?_, World.ownsRow_nil _ _ _ _, World.ownsRow_nil _ _ _ _, ⟨.map [], ?_, MapOk.nil⟩, (fun k hk => by cases hk)⟩, ?_⟩, ?_⟩
    · exact (by simp : w.heap.size + 1 = (w.alloc (.map #[] 0)).heap.size) ▸ heap_alloc_new (w.alloc (.map #[] 0)) _
    · exact (World.ownsMap_made w Tryz.prog 3 _).alloc _
    · rintro k (hk | hk | hk | hk)
      · rw [hk]; show w.heap.size ≤ w.heap.size + 1; omega
      · rw [hk]; exact Nat.le_refl _
      · cases hk
      · cases hk
    · exact ((Below.refl _ w).alloc (Nat.le_refl _) _).alloc (by simp) _
  have FIN := Lib.hid fin
  clear fin
  by_cases hp : 0 ≤ p ∧ p ≤ 1048576
  · have d : (decide (0 ≤ p) && decide (p ≤ 1048576)) = true := by simp [hp]
    rw [d] at MH
    obtain ⟨n, rfl⟩ : ∃ n : Nat, p = (n : Int) := ⟨p.toNat, by omega⟩
    have hn : newN (n : Int) = n := by unfold newN; rw [if_pos hp, Int.toNat_natCast]
    rw [hn]
    have hb : n ≤ 1048576 := by omega
    clear d hp hn
    go_enter Tryz.func87, Tryz.ntmps87
    go_wp2_with (go_at_call 122; refine MH.out.mono ?_; rintro e w' ⟨rfl, rfl⟩)
    go_ret
    exact FIN.out n hb
  · have d : (decide (0 ≤ p) && decide (p ≤ 1048576)) = false := by
      rw [Bool.eq_false_iff]
      intro c
      rw [Bool.and_eq_true] at c
      exact hp ⟨of_decide_eq_true c.1, of_decide_eq_true c.2⟩
    rw [d] at MH
    have hn : newN p = 0 := by unfold newN; rw [if_neg hp]
    rw [hn]
    clear d hp hn
    go_enter Tryz.func87, Tryz.ntmps87
    go_wp2_with (go_at_call 122; refine MH.out.mono ?_; rintro e w' ⟨rfl, rfl⟩)
    go_ret
    exact FIN.out 0 (by omega)
theorem new_any (p : Int) (w : World) : Calls Tryz.prog 87 #[.int .i64 p] w fun e w' => Made (List.replicate (newN p) (-1)) w.heap.size w e w' := by
  refine (new_k p w).mono ?_
  rintro e w' ⟨⟨o, h1, h2, h3⟩, h4⟩
  exact ⟨⟨o, h1, ⟨_, _, _, h2, full_nil _⟩, h3⟩, h4⟩
structure Rc (l : List Int) (w : World) (v : Value) (w' : World) : Prop where
  row : Ints w' v l
  new : ∀ k, v.ownBlock = some k → w.heap.size ≤ k
  below : Below w.heap.size w w'
end Tb
end Go.Proofs.YtbmabcddciibfaaGreat
