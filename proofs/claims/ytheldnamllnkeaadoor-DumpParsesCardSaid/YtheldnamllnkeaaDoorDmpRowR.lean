/- A report that the document makes: its lines and their exceptions in rows of its own. Made by gen_rowr.py off XDmpRep, XDmpRepO. -/
import Derived.Test.YtheldnamllnkeaaDoorDmpRSlot
import Derived.Test.YtheldnamllnkeaaDoorDmpRepO
import Derived.Test.YtheldnamllnkeaaDoorDmpOfL
namespace Go.Proofs.YtheldnamllnkeaaDoor
namespace Pq
open Go.RowKit Dsk Go.Maps Pd
set_option maxRecDepth 100000
set_option linter.unusedVariables false

/-- Lines in a row v of one's own, from block B on; the exceptions of each in a row of its own. -/
structure Rows (W : World) (B : Nat) (v : Value) (ls : List Ln) (evs : List Value) : Prop where
  len : evs.length = ls.length
  row : W.ownsRow B 63 8 v ls.length (rcells ls evs)
  ent : ∀ (i : Nat) x ev, ls[i]? = some x → evs[i]? = some ev → W.ownsRow B 56 2 ev x.es.length (Tb.ecells x.es)
  ne : ∀ (i j : Nat) ei ej b, i ≠ j → evs[i]? = some ei → evs[j]? = some ej → ei.ownBlock = some b → ej.ownBlock ≠ some b
theorem Rows.nil (W : World) (B : Nat) : Rows W B (.slice none 0 0) [] [] := ⟨rfl, World.ownsRow_nil _ _ _ _, fun i x ev h => by simp at h, fun i j ei ej b _ h => by simp at h⟩
theorem Rows.vlt {W : World} {B : Nat} {v : Value} {ls : List Ln} {evs : List Value} (h : Rows W B v ls evs) (b : Nat) (hb : v.ownBlock = some b) : ∃ cur, W.heap[b]? = some (.cells cur 63 (0, 0)) := own_block h.row b hb
theorem Rows.elt {W : World} {B : Nat} {v : Value} {ls : List Ln} {evs : List Value} (h : Rows W B v ls evs) (i : Nat) (ev : Value) (he : evs[i]? = some ev) (b : Nat) (hb : ev.ownBlock = some b) : ∃ cur, W.heap[b]? = some (.cells cur 56 (0, 0)) := by
  have hi : i < ls.length := by rw [← h.len]; exact (List.getElem?_eq_some_iff.1 he).1
  exact own_block (h.ent i _ ev (List.getElem?_eq_getElem hi) he) b hb
/-- A world where the rows stand as they did. -/
theorem Rows.keep {W W' : World} {B : Nat} {v : Value} {ls : List Ln} {evs : List Value} (h : Rows W B v ls evs) (hv : ∀ b, v.ownBlock = some b → W'.heap[b]? = W.heap[b]?) (he : ∀ (i : Nat) ev b, evs[i]? = some ev → ev.ownBlock = some b → W'.heap[b]? = W.heap[b]?) : Rows W' B v ls evs :=
  ⟨h.len, own_same h.row hv, fun i x ev hx hev => own_same (h.ent i x ev hx hev) fun b hb => he i ev b hev hb, h.ne⟩
theorem Rows.below {W W' : World} {B : Nat} {v : Value} {ls : List Ln} {evs : List Value} (h : Rows W B v ls evs) (hb : Below W.heap.size W W') : Rows W' B v ls evs :=
  h.keep (fun b h1 => by obtain ⟨c, hc⟩ := h.vlt b h1; exact hb.block b (Array.getElem?_eq_some_iff.1 hc).1) fun i ev b h1 h2 => by obtain ⟨c, hc⟩ := h.elt i ev h1 b h2; exact hb.block b (Array.getElem?_eq_some_iff.1 hc).1
/-- None of the rows' blocks is one that F speaks of. -/
theorem Rows.fr {W W' : World} {B : Nat} {v : Value} {ls : List Ln} {evs : List Value} {F : Nat → Prop} (h : Rows W B v ls evs) (hf : Fr F W W') (hF : ∀ b c, F b → W.heap[b]? = some c → ∀ cur, c ≠ .cells cur 63 (0, 0) ∧ c ≠ .cells cur 56 (0, 0)) : Rows W' B v ls evs :=
  h.keep (fun b h1 => by obtain ⟨c, hc⟩ := h.vlt b h1; exact hf.block b (Array.getElem?_eq_some_iff.1 hc).1 fun k => (hF b _ k hc c).1 rfl) fun i ev b h1 h2 => by obtain ⟨c, hc⟩ := h.elt i ev h1 b h2; exact hf.block b (Array.getElem?_eq_some_iff.1 hc).1 fun k => (hF b _ k hc c).2 rfl
/-- One line more, behind an append. -/
theorem Rows.add {W W' : World} {B : Nat} {v v' : Value} {ls : List Ln} {evs : List Value} {x : Ln} (h : Rows W B v ls evs) (hx : x.es = []) (h1 : W'.ownsRow B 63 8 v' (ls.length + 1) (rcells ls evs ++ lcells x (.slice none 0 0))) (hf : Fr (fun b => v.ownBlock = some b) W W') : Rows W' B v' (ls ++ [x]) (evs ++ [.slice none 0 0]) := by
  have hk : ∀ (i : Nat) ev b, evs[i]? = some ev → ev.ownBlock = some b → W'.heap[b]? = W.heap[b]? := fun i ev b e1 e2 => by
    obtain ⟨c, hc⟩ := h.elt i ev e1 b e2
    refine hf.block b (Array.getElem?_eq_some_iff.1 hc).1 fun k => ?_
    obtain ⟨d, hd⟩ := h.vlt b k
    rw [hc] at hd
    injection hd with hd
    injection hd with _ hd
    exact absurd hd (by decide)
  have last : ∀ (i : Nat) ev, (evs ++ [.slice none 0 0])[i]? = some ev → evs[i]? = some ev ∨ (i = evs.length ∧ ev = .slice none 0 0) := fun i ev e => by
    rw [List.getElem?_append] at e
    split at e
    · exact .inl e
    · rename_i hi
      have := (List.getElem?_eq_some_iff.1 e).1
      simp only [List.length_singleton] at this
      have hi0 : i - evs.length = 0 := by omega
      rw [hi0] at e
      cases e
      exact .inr ⟨by omega, rfl⟩
  refine ⟨by simp [h.len], by rw [List.length_append, rcells_snoc ls evs x _ h.len]; exact h1, fun i y ev hy hev => ?_, fun i j ei ej b hij hi hj hb => ?_⟩
  · rcases last i ev hev with e | ⟨e1, e2⟩
    · have hil : i < ls.length := by rw [← h.len]; exact (List.getElem?_eq_some_iff.1 e).1
      rw [List.getElem?_append_left hil] at hy
      exact own_same (h.ent i y ev hy e) fun b hb => hk i ev b e hb
    · subst e2
      rw [e1, h.len, List.getElem?_append_right (Nat.le_refl _), Nat.sub_self] at hy
      cases hy
      rw [hx]
      exact World.ownsRow_nil _ _ _ _
  · rcases last i ei hi with e | ⟨e1, e2⟩
    · rcases last j ej hj with e' | ⟨e1', e2'⟩
      · exact h.ne i j ei ej b hij e e' hb
      · subst e2'; simp [Value.ownBlock]
    · subst e2; cases hb
/-- What reading such rows meets. -/
theorem Rows.rlns {W : World} {B : Nat} {a : Option Addr} {c : Nat} {ls : List Ln} {evs : List Value} (h : Rows W B (.slice a ls.length c) ls evs) : RLns W a ls := fun hn => by
  rcases h.row.2 with ⟨h1, h2⟩ | ⟨g, cap, cur, hv, _, hh, _⟩
  · exact absurd (List.eq_nil_of_length_eq_zero h2) hn
  · injection hv with e1 _ e3
    subst e1
    subst e3
    refine ⟨g, 0, rfl, (Array.getElem?_eq_some_iff.1 hh).1, fun i x hx => ?_⟩
    have hil := (List.getElem?_eq_some_iff.1 hx).1
    obtain ⟨ev, hev⟩ : ∃ ev, evs[i]? = some ev := ⟨_, List.getElem?_eq_getElem (by rw [h.len]; exact hil)⟩
    have hent := h.ent i x ev hx hev
    obtain ⟨ea, ec, rfl⟩ := own_slice hent
    refine ⟨ea, ec, fun j v hv => ?_, Tb.REnts.own (c := ec) (own_zero' hent)⟩
    rw [Nat.zero_add, h.row.cellAt _ (by
      have := (List.getElem?_eq_some_iff.1 hv).1
      have h8 : (lcells x (.slice ea x.es.length ec)).length = 8 := rfl
      have : ls.length * 8 ≥ (i + 1) * 8 := Nat.mul_le_mul_right 8 hil
      omega)]
    exact rcells_at ls evs i x _ hx hev j v hv
/-- One exception more of the last line, behind the append and the store. -/
theorem Rows.addE {W W' : World} {B g n cap : Nat} {init : List Ln} {einit : List Value} {x : Ln} {ev ev' : Value} {e : Int × Int} (h : Rows W B (.slice (some ⟨g, 0, none⟩) n cap) (init ++ [x]) (einit ++ [ev])) (hnn : n = init.length + 1)
    (h1 : W'.ownsRow B 56 2 ev' (x.es.length + 1) (Tb.ecells (x.es ++ [e]))) (hf : Fr (fun b => ev.ownBlock = some b) W W') (hn : ∀ b, ev'.ownBlock = some b → ev.ownBlock = some b ∨ W.heap.size ≤ b) :
    Rows (W'.setCell ⟨g, init.length * 8 + 7, none⟩ ev') B (.slice (some ⟨g, 0, none⟩) n cap) (init ++ [{ x with es := x.es ++ [e] }]) (einit ++ [ev']) := by
  have hlen : einit.length = init.length := by have := h.len; simpa using this
  have hev : (einit ++ [ev])[init.length]? = some ev := by rw [← hlen, List.getElem?_append_right (Nat.le_refl _), Nat.sub_self]; rfl
  obtain ⟨curv, hcv⟩ := h.vlt g rfl
  have hgW' : W'.heap[g]? = W.heap[g]? := hf.block g (Array.getElem?_eq_some_iff.1 hcv).1 fun k => by
    obtain ⟨c, hc⟩ := h.elt _ ev hev g k
    rw [hcv] at hc
    injection hc with hc
    injection hc with _ hc
    exact absurd hc (by decide)
  have hrow' := own_same h.row (w' := W') fun b hb => by cases hb; exact hgW'
  rw [List.length_append, List.length_singleton, ← hnn] at hrow'
  obtain ⟨hst, hgr⟩ := World.ownsRow.stored hrow' (init.length * 8 + 7) ev'
  have hfs : ∀ b, b ≠ g → (W'.setCell ⟨g, init.length * 8 + 7, none⟩ ev').heap[b]? = W'.heap[b]? := fun b hb => heap_setCell_other _ _ _ _ hb
  have old : ∀ (i : Nat) ei b, i < einit.length → (einit ++ [ev])[i]? = some ei → ei.ownBlock = some b → W'.heap[b]? = W.heap[b]? ∧ b ≠ g := fun i ei b hi hei hb => by
    obtain ⟨c, hc⟩ := h.elt i ei hei b hb
    refine ⟨hf.block b (Array.getElem?_eq_some_iff.1 hc).1 fun k => h.ne i init.length ei ev b (by omega) hei hev hb k, fun k => ?_⟩
    subst k
    rw [hcv] at hc
    injection hc with hc
    injection hc with _ hc
    exact absurd hc (by decide)
  have newne : ∀ b, ev'.ownBlock = some b → b ≠ g := fun b hb k => by
    subst k
    obtain ⟨c, hc⟩ := own_block h1 b hb
    rw [hgW', hcv] at hc
    injection hc with hc
    injection hc with _ hc
    exact absurd hc (by decide)
  have lt_of : ∀ (i : Nat) ei, (einit ++ [ev'])[i]? = some ei → (i < einit.length ∧ einit[i]? = some ei) ∨ (i = einit.length ∧ ei = ev') := fun i ei hei => by
    rw [List.getElem?_append] at hei
    split at hei
    · rename_i hi; exact .inl ⟨hi, hei⟩
    · rename_i hi
      have := (List.getElem?_eq_some_iff.1 hei).1
      simp only [List.length_singleton] at this
      have h0 : i - einit.length = 0 := by omega
      rw [h0] at hei
      cases hei
      exact .inr ⟨by omega, rfl⟩
  refine ⟨by simp [hlen], ?_, fun i y ei hy hei => ?_, fun i j ei ej b hij hi hj hb => ?_⟩
  · rw [List.length_append, List.length_singleton, ← hnn]
    have e1 : (rcells (init ++ [x]) (einit ++ [ev])).set (init.length * 8 + 7) ev' = rcells (init ++ [{ x with es := x.es ++ [e] }]) (einit ++ [ev']) := by
      rw [rcells_snoc init einit x ev hlen, rcells_snoc init einit _ ev' hlen, List.set_append_right _ _ (by rw [rcells_length init einit hlen]; omega), rcells_length init einit hlen, Nat.add_sub_cancel_left, lcells_set x ev ev' e]
    rw [← e1]
    exact hst
  · rcases lt_of i ei hei with ⟨hi, e0⟩ | ⟨e1, e2⟩
    · have e3 : (einit ++ [ev])[i]? = some ei := by rw [List.getElem?_append_left hi]; exact e0
      have hil : i < init.length := by omega
      rw [List.getElem?_append_left hil] at hy
      have e4 := h.ent i y ei (by rw [List.getElem?_append_left hil]; exact hy) e3
      exact own_same e4 fun b hb => (hfs b (old i ei b hi e3 hb).2).trans (old i ei b hi e3 hb).1
    · subst e2
      rw [e1, hlen, List.getElem?_append_right (Nat.le_refl _), Nat.sub_self] at hy
      cases hy
      refine own_same (n := (x.es ++ [e]).length) (by rw [List.length_append]; exact h1) fun b hb => hfs b (newne b hb)
  · rcases lt_of i ei hi with ⟨hi', e0⟩ | ⟨e1, e2⟩
    · have e3 : (einit ++ [ev])[i]? = some ei := by rw [List.getElem?_append_left hi']; exact e0
      rcases lt_of j ej hj with ⟨hj', e0'⟩ | ⟨e1', e2'⟩
      · exact h.ne i j ei ej b hij e3 (by rw [List.getElem?_append_left hj']; exact e0') hb
      · subst e2'
        intro k
        rcases hn b k with c | c
        · exact h.ne i init.length ei ev b (by omega) e3 hev hb c
        · obtain ⟨d, hd⟩ := h.elt i ei e3 b hb
          have := (Array.getElem?_eq_some_iff.1 hd).1
          omega
    · subst e2
      rcases lt_of j ej hj with ⟨hj', e0'⟩ | ⟨e1', e2'⟩
      · have e3 : (einit ++ [ev])[j]? = some ej := by rw [List.getElem?_append_left hj']; exact e0'
        intro k
        rcases hn b hb with c | c
        · exact h.ne j init.length ej ev b (by omega) e3 hev k c
        · obtain ⟨d, hd⟩ := h.elt j ej e3 b k
          have := (Array.getElem?_eq_some_iff.1 hd).1
          omega
      · omega
/-- What is so between two lines: the report is made in block K. -/
structure Rs (w : World) (K : Nat) (p : Nat × Nat × Nat) (v : Value) (ls : List Ln) (evs : List Value) (W : World) : Prop where
  below : Below w.heap.size w W
  res : W.heap[w.heap.size]? = some (.cells #[.int .i64 0, .int .i64 0, .int .i64 0, .slice none 0 0] 36 (0, 0))
  box : W.heap[K]? = some (.cells #[.int .i64 (p.1 : Int), .int .i64 (p.2.1 : Int), .int .i64 (p.2.2 : Int), v] 36 (0, 0))
  non : W.heap[w.heap.size + 1]? = some (.cells #[.int .i64 0, .int .i64 0, .int .i64 0, .slice none 0 0] 36 (0, 0))
  ne : K ≠ w.heap.size ∧ K ≠ w.heap.size + 1
  kb : w.heap.size ≤ K
  rows : Rows W w.heap.size v ls evs
theorem Rs.new {w W W' : World} {K : Nat} {p : Nat × Nat × Nat} {v : Value} {ls : List Ln} {evs : List Value} (h : Rs w K p v ls evs W) (hb : Below W.heap.size W W') : Rs w K p v ls evs W' :=
  ⟨bgo h.below (Nat.le_refl _) hb, (hb.block _ (Array.getElem?_eq_some_iff.1 h.res).1).trans h.res, (hb.block _ (Array.getElem?_eq_some_iff.1 h.box).1).trans h.box, (hb.block _ (Array.getElem?_eq_some_iff.1 h.non).1).trans h.non, h.ne, h.kb, h.rows.below hb⟩
/-- A store into the box of the report. -/
theorem rows_box {W : World} {B K : Nat} {v u : Value} {ls : List Ln} {evs : List Value} {cs : Array Value} (h : Rows W B v ls evs) (hK : W.heap[K]? = some (.cells cs 36 (0, 0))) (j : Nat) : Rows (W.setCell ⟨K, j, none⟩ u) B v ls evs :=
  h.fr (F := fun b => b = K) ((Fr.refl (fun b => b = K) W).setCell ⟨K, j, none⟩ rfl u) fun b c e hb cur => by
    subst e
    rw [hK] at hb
    cases hb
    exact ⟨fun e => by injection e with _ e _; exact absurd e (by decide), fun e => by injection e with _ e _; exact absurd e (by decide)⟩
/-- One line more: the append, and the store. -/
theorem Rs.line {w W W' : World} {K : Nat} {p : Nat × Nat × Nat} {v v' : Value} {ls : List Ln} {evs : List Value} {x : Ln} (h : Rs w K p v ls evs W) (hx : x.es = []) (h1 : W'.ownsRow w.heap.size 63 8 v' (ls.length + 1) (rcells ls evs ++ lcells x (.slice none 0 0))) (hf : Fr (fun b => v.ownBlock = some b) W W') :
    Rs w K p v' (ls ++ [x]) (evs ++ [.slice none 0 0]) (W'.setCell ⟨K, 3, none⟩ v') := by
  have nb : ∀ b cs, W.heap[b]? = some (.cells cs 36 (0, 0)) → v.ownBlock ≠ some b := fun b cs hb k => by
    obtain ⟨d, hd⟩ := h.rows.vlt b k
    rw [hb] at hd
    injection hd with hd
    injection hd with _ hd
    exact absurd hd (by decide)
  have r1 := (hf.block _ (Array.getElem?_eq_some_iff.1 h.res).1 (nb _ _ h.res)).trans h.res
  have r2 := (hf.block _ (Array.getElem?_eq_some_iff.1 h.box).1 (nb _ _ h.box)).trans h.box
  have r3 := (hf.block _ (Array.getElem?_eq_some_iff.1 h.non).1 (nb _ _ h.non)).trans h.non
  have hvb : ∀ b, v.ownBlock = some b → w.heap.size ≤ b := fun b hb => by
    rcases h.rows.row.2 with ⟨h3, _⟩ | ⟨g, cap, cur, h3, h4, _⟩
    · rw [h3] at hb; cases hb
    · rw [h3] at hb; cases hb; exact h4
  refine ⟨(h.below.trans (hf.below h.below.size hvb)).setCell (p := ⟨K, 3, none⟩) h.kb _, (heap_setCell_other _ ⟨K, 3, none⟩ _ _ (fun e => h.ne.1 e.symm)).trans r1, heap_setCell_same _ K 3 _ _ v' r2, (heap_setCell_other _ ⟨K, 3, none⟩ _ _ (fun e => h.ne.2 e.symm)).trans r3, h.ne, h.kb, rows_box (h.rows.add hx h1 hf) r2 3⟩
theorem Rs.noBox {w W : World} {K : Nat} {p : Nat × Nat × Nat} {v : Value} {ls : List Ln} {evs : List Value} (h : Rs w K p v ls evs W) : v.ownBlock ≠ some K := fun k => by
  obtain ⟨d, hd⟩ := h.rows.vlt K k
  rw [h.box] at hd
  injection hd with hd
  injection hd with _ hd
  exact absurd hd (by decide)
theorem Rs.fin {w W : World} {K : Nat} {p : Nat × Nat × Nat} {v : Value} {ls : List Ln} {evs : List Value} (h : Rs w K p v ls evs W) (cs : Array Value) : Rows (W.setRow w.heap.size cs) w.heap.size v ls evs ∧ Below w.heap.size w (W.setRow w.heap.size cs) := by
  refine ⟨h.rows.fr (F := fun b => b = w.heap.size) (Fr.setRow (F := fun b => b = w.heap.size) (Fr.refl _ W) w.heap.size rfl cs) fun b c e hb cur => ?_, h.below.trans ((Fr.setRow (F := fun b => b = w.heap.size) (Fr.refl _ W) w.heap.size rfl cs).below h.below.size fun b hb => by rw [hb]; exact Nat.le_refl _)⟩
  subst e
  rw [h.res] at hb
  cases hb
  exact ⟨fun e => by injection e with _ e _; exact absurd e (by decide), fun e => by injection e with _ e _; exact absurd e (by decide)⟩
/-- The cell that holds the last line's exceptions. -/
theorem Rs.last {w W : World} {K g n cap : Nat} {p : Nat × Nat × Nat} {init : List Ln} {einit : List Value} {x : Ln} {ev : Value} (h : Rs w K p (.slice (some ⟨g, 0, none⟩) n cap) (init ++ [x]) (einit ++ [ev]) W) (hn : n = init.length + 1) :
    W.cell? ⟨g, init.length * 8 + 7, none⟩ = some ev ∧ W.frozen? ⟨g, init.length * 8 + 7, none⟩ = false ∧ g < W.heap.size ∧ ev.ownBlock ≠ some g ∧ W.ownsRow w.heap.size 56 2 ev x.es.length (Tb.ecells x.es) := by
  have hlen : einit.length = init.length := by have := h.rows.len; simpa using this
  have hev : (einit ++ [ev])[init.length]? = some ev := by rw [← hlen, List.getElem?_append_right (Nat.le_refl _), Nat.sub_self]; rfl
  have hx : (init ++ [x])[init.length]? = some x := by rw [List.getElem?_append_right (Nat.le_refl _), Nat.sub_self]; rfl
  obtain ⟨cur, hc⟩ := h.rows.vlt g rfl
  refine ⟨?_, frozen_of_row (j := init.length * 8 + 7) _ _ _ _ hc, (Array.getElem?_eq_some_iff.1 hc).1, fun e => ?_, h.rows.ent _ x ev hx hev⟩
  · have hrow := h.rows.row
    rw [show (init ++ [x]).length = n by rw [hn]; simp] at hrow
    rw [hrow.cellAt _ (by omega)]
    exact rcells_at _ _ _ x ev hx hev 7 ev rfl
  · obtain ⟨d, hd⟩ := h.rows.elt _ ev hev g e
    rw [hc] at hd
    injection hd with hd
    injection hd with _ hd
    exact absurd hd (by decide)
/-- One exception more of the last line: the append, and the store. -/
theorem Rs.entry {w W W' : World} {K g n cap : Nat} {p : Nat × Nat × Nat} {init : List Ln} {einit : List Value} {x : Ln} {ev ev' : Value} {e : Int × Int} (h : Rs w K p (.slice (some ⟨g, 0, none⟩) n cap) (init ++ [x]) (einit ++ [ev]) W) (hnn : n = init.length + 1)
    (h1 : W'.ownsRow w.heap.size 56 2 ev' (x.es.length + 1) (Tb.ecells (x.es ++ [e]))) (hf : Fr (fun b => ev.ownBlock = some b) W W') (hn : ∀ b, ev'.ownBlock = some b → ev.ownBlock = some b ∨ W.heap.size ≤ b) :
    Rs w K p (.slice (some ⟨g, 0, none⟩) n cap) (init ++ [{ x with es := x.es ++ [e] }]) (einit ++ [ev']) (W'.setCell ⟨g, init.length * 8 + 7, none⟩ ev') := by
  have hlen : einit.length = init.length := by have := h.rows.len; simpa using this
  have hev : (einit ++ [ev])[init.length]? = some ev := by rw [← hlen, List.getElem?_append_right (Nat.le_refl _), Nat.sub_self]; rfl
  have nb : ∀ b cs, W.heap[b]? = some (.cells cs 36 (0, 0)) → ev.ownBlock ≠ some b ∧ b ≠ g := fun b cs hb => ⟨fun k => by
    obtain ⟨d, hd⟩ := h.rows.elt _ ev hev b k
    rw [hb] at hd
    injection hd with hd
    injection hd with _ hd
    exact absurd hd (by decide), fun k => by
    obtain ⟨d, hd⟩ := h.rows.vlt g rfl
    rw [← k, hb] at hd
    injection hd with hd
    injection hd with _ hd
    exact absurd hd (by decide)⟩
  have r1 := (hf.block _ (Array.getElem?_eq_some_iff.1 h.res).1 (nb _ _ h.res).1).trans h.res
  have r2 := (hf.block _ (Array.getElem?_eq_some_iff.1 h.box).1 (nb _ _ h.box).1).trans h.box
  have r3 := (hf.block _ (Array.getElem?_eq_some_iff.1 h.non).1 (nb _ _ h.non).1).trans h.non
  have hvb : ∀ b, ev.ownBlock = some b → w.heap.size ≤ b := fun b hb => by
    have he := h.rows.ent init.length x ev (by rw [List.getElem?_append_right (Nat.le_refl _), Nat.sub_self]; rfl) hev
    rcases he.2 with ⟨h3, _⟩ | ⟨g, cap, cur, h3, h4, _⟩
    · rw [h3] at hb; cases hb
    · rw [h3] at hb; cases hb; exact h4
  have hg : w.heap.size ≤ g := by
    rcases h.rows.row.2 with ⟨h3, _⟩ | ⟨g, cap, cur, h3, h4, _⟩
    · cases h3
    · cases h3; exact h4
  exact ⟨(h.below.trans (hf.below h.below.size hvb)).setCell (p := ⟨g, init.length * 8 + 7, none⟩) hg _, (heap_setCell_other _ ⟨g, init.length * 8 + 7, none⟩ _ _ (nb _ _ h.res).2).trans r1, (heap_setCell_other _ ⟨g, init.length * 8 + 7, none⟩ _ _ (nb _ _ h.box).2).trans r2, (heap_setCell_other _ ⟨g, init.length * 8 + 7, none⟩ _ _ (nb _ _ h.non).2).trans r3, h.ne, h.kb, h.rows.addE hnn h1 hf hn⟩
end Pq
end Go.Proofs.YtheldnamllnkeaaDoor
