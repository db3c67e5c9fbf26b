/- A report that is made: its lines and their exceptions in rows of its own. -/
import Derived.Test.YtheldnamllnkeaaDoorDmpSlotP
import Derived.Laws.OwnMore
namespace Go.Proofs.YtheldnamllnkeaaDoor
namespace Pd
open Go.RowKit Dsk Go.Maps
set_option maxRecDepth 100000
set_option linter.unusedVariables false

/-- The cells of lines whose exceptions are these values. -/
def rcells : List Ln → List Value → List Value
  | x :: r, ev :: s => lcells x ev ++ rcells r s
  | _, _ => []
theorem rcells_length : ∀ (ls : List Ln) (evs : List Value), evs.length = ls.length → (rcells ls evs).length = ls.length * 8
  | [], [], _ => rfl
  | x :: r, ev :: s, h => by
    rw [rcells, List.length_append, rcells_length r s (by simpa using h)]
    show 8 + _ = _
    simp only [List.length_cons]
    omega
  | [], _ :: _, h => by simp at h
  | _ :: _, [], h => by simp at h
theorem rcells_snoc : ∀ (ls : List Ln) (evs : List Value) (x : Ln) (ev : Value), evs.length = ls.length → rcells (ls ++ [x]) (evs ++ [ev]) = rcells ls evs ++ lcells x ev
  | [], [], x, ev, _ => by simp [rcells]
  | y :: r, v :: s, x, ev, h => by
    show lcells y v ++ rcells (r ++ [x]) (s ++ [ev]) = _
    rw [rcells_snoc r s x ev (by simpa using h)]
    simp [rcells]
  | [], _ :: _, _, _, h => by simp at h
  | _ :: _, [], _, _, h => by simp at h
theorem rcells_at : ∀ (ls : List Ln) (evs : List Value) (i : Nat) (x : Ln) (ev : Value), ls[i]? = some x → evs[i]? = some ev → ∀ j v, (lcells x ev)[j]? = some v → (rcells ls evs)[i * 8 + j]? = some v
  | y :: r, w :: s, 0, x, ev, hx, he, j, v, hv => by
    cases hx; cases he
    rw [rcells, List.getElem?_append_left (by have := (List.getElem?_eq_some_iff.1 hv).1; omega), Nat.zero_mul, Nat.zero_add]
    exact hv
  | y :: r, w :: s, i + 1, x, ev, hx, he, j, v, hv => by
    have := rcells_at r s i x ev (by simpa using hx) (by simpa using he) j v hv
    rw [rcells, List.getElem?_append_right (by show 8 ≤ _; omega)]
    have e : (i + 1) * 8 + j - (lcells y w).length = i * 8 + j := by show (i + 1) * 8 + j - 8 = _; omega
    rw [e]
    exact this
  | [], _, _, _, _, hx, _, _, _, _ => by simp at hx
  | _ :: _, [], _, _, _, _, he, _, _, _ => by simp at he
/-- Lines in a row v of one's own, from block B on; the exceptions of each in a row of its own. -/
structure Rows (W : World) (B : Nat) (v : Value) (ls : List Ln) (evs : List Value) : Prop where
  len : evs.length = ls.length
  row : W.ownsRow B 54 8 v ls.length (rcells ls evs)
  ent : ∀ (i : Nat) x ev, ls[i]? = some x → evs[i]? = some ev → W.ownsRow B 56 2 ev x.es.length (Tb.ecells x.es)
  ne : ∀ (i j : Nat) ei ej b, i ≠ j → evs[i]? = some ei → evs[j]? = some ej → ei.ownBlock = some b → ej.ownBlock ≠ some b
theorem Rows.nil (W : World) (B : Nat) : Rows W B (.slice none 0 0) [] [] := ⟨rfl, World.ownsRow_nil _ _ _ _, fun i x ev h => by simp at h, fun i j ei ej b _ h => by simp at h⟩
theorem Rows.vlt {W : World} {B : Nat} {v : Value} {ls : List Ln} {evs : List Value} (h : Rows W B v ls evs) (b : Nat) (hb : v.ownBlock = some b) : ∃ cur, W.heap[b]? = some (.cells cur 54 (0, 0)) := own_block h.row b hb
theorem Rows.elt {W : World} {B : Nat} {v : Value} {ls : List Ln} {evs : List Value} (h : Rows W B v ls evs) (i : Nat) (ev : Value) (he : evs[i]? = some ev) (b : Nat) (hb : ev.ownBlock = some b) : ∃ cur, W.heap[b]? = some (.cells cur 56 (0, 0)) := by
  have hi : i < ls.length := by rw [← h.len]; exact (List.getElem?_eq_some_iff.1 he).1
  exact own_block (h.ent i _ ev (List.getElem?_eq_getElem hi) he) b hb
/-- A world where the rows stand as they did. -/
theorem Rows.keep {W W' : World} {B : Nat} {v : Value} {ls : List Ln} {evs : List Value} (h : Rows W B v ls evs) (hv : ∀ b, v.ownBlock = some b → W'.heap[b]? = W.heap[b]?) (he : ∀ (i : Nat) ev b, evs[i]? = some ev → ev.ownBlock = some b → W'.heap[b]? = W.heap[b]?) : Rows W' B v ls evs :=
  ⟨h.len, own_same h.row hv, fun i x ev hx hev => own_same (h.ent i x ev hx hev) fun b hb => he i ev b hev hb, h.ne⟩
theorem Rows.below {W W' : World} {B : Nat} {v : Value} {ls : List Ln} {evs : List Value} (h : Rows W B v ls evs) (hb : Below W.heap.size W W') : Rows W' B v ls evs :=
  h.keep (fun b h1 => by obtain ⟨c, hc⟩ := h.vlt b h1; exact hb.block b (Array.getElem?_eq_some_iff.1 hc).1) fun i ev b h1 h2 => by obtain ⟨c, hc⟩ := h.elt i ev h1 b h2; exact hb.block b (Array.getElem?_eq_some_iff.1 hc).1
/-- None of the rows' blocks is one that F speaks of. -/
theorem Rows.fr {W W' : World} {B : Nat} {v : Value} {ls : List Ln} {evs : List Value} {F : Nat → Prop} (h : Rows W B v ls evs) (hf : Fr F W W') (hF : ∀ b c, F b → W.heap[b]? = some c → ∀ cur, c ≠ .cells cur 54 (0, 0) ∧ c ≠ .cells cur 56 (0, 0)) : Rows W' B v ls evs :=
  h.keep (fun b h1 => by obtain ⟨c, hc⟩ := h.vlt b h1; exact hf.block b (Array.getElem?_eq_some_iff.1 hc).1 fun k => (hF b _ k hc c).1 rfl) fun i ev b h1 h2 => by obtain ⟨c, hc⟩ := h.elt i ev h1 b h2; exact hf.block b (Array.getElem?_eq_some_iff.1 hc).1 fun k => (hF b _ k hc c).2 rfl
theorem info_line : (Tryd.prog.info? 54).map (fun i => (i.zero, i.size, i.bytes)) = some (some (.agg #[.int .i64 0, .int .i64 0, .int .i64 0, .int .i64 0, .int .u32 0, .int .i64 0, .bool false, .slice none 0 0]), 8, 80) := by kernel_rfl
theorem lcells_one (x : Ln) (a : Option Addr) (n c : Nat) : ∀ u ∈ lcells x (.slice a n c), u.oneCell' = true := by
  intro u hu
  simp only [lcells, List.mem_cons, List.not_mem_nil, or_false] at hu
  rcases hu with rfl | rfl | rfl | rfl | rfl | rfl | rfl | rfl <;> rfl
/-- One line more, behind an append. -/
theorem Rows.add {W W' : World} {B : Nat} {v v' : Value} {ls : List Ln} {evs : List Value} {x : Ln} (h : Rows W B v ls evs) (hx : x.es = []) (h1 : W'.ownsRow B 54 8 v' (ls.length + 1) (rcells ls evs ++ lcells x (.slice none 0 0))) (hf : Fr (fun b => v.ownBlock = some b) W W') : Rows W' B v' (ls ++ [x]) (evs ++ [.slice none 0 0]) := by
  have hk : ∀ (i : Nat) ev b, evs[i]? = some ev → ev.ownBlock = some b → W'.heap[b]? = W.heap[b]? := fun i ev b e1 e2 => by
    obtain ⟨c, hc⟩ := h.elt i ev e1 b e2
    refine hf.block b (Array.getElem?_eq_some_iff.1 hc).1 fun k => ?_
    obtain ⟨d, hd⟩ := h.vlt b k
    rw [hc] at hd
    injection hd with hd
    injection hd with _ hd
    exact absurd hd (by decide)
  have last : ∀ (i : Nat) ev, (evs ++ [.slice none 0 0])[i]? = some ev → evs[i]? = some ev ∨ (i = evs.length ∧ ev = .slice none 0 0) := fun i ev e => by
    rw [List.getElem?_append] at e
    split at e
    · exact .inl e
    · rename_i hi
      have := (List.getElem?_eq_some_iff.1 e).1
      simp only [List.length_singleton] at this
      have hi0 : i - evs.length = 0 := by omega
      rw [hi0] at e
      cases e
      exact .inr ⟨by omega, rfl⟩
  refine ⟨by simp [h.len], by rw [List.length_append, rcells_snoc ls evs x _ h.len]; exact h1, fun i y ev hy hev => ?_, fun i j ei ej b hij hi hj hb => ?_⟩
  · rcases last i ev hev with e | ⟨e1, e2⟩
    · have hil : i < ls.length := by rw [← h.len]; exact (List.getElem?_eq_some_iff.1 e).1
      rw [List.getElem?_append_left hil] at hy
      exact own_same (h.ent i y ev hy e) fun b hb => hk i ev b e hb
    · subst e2
      rw [e1, h.len, List.getElem?_append_right (Nat.le_refl _), Nat.sub_self] at hy
      cases hy
      rw [hx]
      exact World.ownsRow_nil _ _ _ _
  · rcases last i ei hi with e | ⟨e1, e2⟩
    · rcases last j ej hj with e' | ⟨e1', e2'⟩
      · exact h.ne i j ei ej b hij e e' hb
      · subst e2'; simp [Value.ownBlock]
    · subst e2; cases hb
theorem own_zero' {w : World} {base : Nat} {e : TypeId} {size : Nat} {v : Value} {n : Nat} {xs : List Value} (h : w.ownsRow base e size v n xs) : w.ownsRow 0 e size v n xs := by
  refine ⟨h.1, ?_⟩
  rcases h.2 with h2 | ⟨g, cap, cur, hv, hg, r⟩
  · exact .inl h2
  · exact .inr ⟨g, cap, cur, hv, Nat.zero_le _, r⟩
/-- What reading such rows meets. -/
theorem Rows.rlns {W : World} {B : Nat} {a : Option Addr} {c : Nat} {ls : List Ln} {evs : List Value} (h : Rows W B (.slice a ls.length c) ls evs) : RLns W a ls := fun hn => by
  rcases h.row.2 with ⟨h1, h2⟩ | ⟨g, cap, cur, hv, _, hh, _⟩
  · exact absurd (List.eq_nil_of_length_eq_zero h2) hn
  · injection hv with e1 _ e3
    subst e1
    subst e3
    refine ⟨g, 0, rfl, (Array.getElem?_eq_some_iff.1 hh).1, fun i x hx => ?_⟩
    have hil := (List.getElem?_eq_some_iff.1 hx).1
    obtain ⟨ev, hev⟩ : ∃ ev, evs[i]? = some ev := ⟨_, List.getElem?_eq_getElem (by rw [h.len]; exact hil)⟩
    have hent := h.ent i x ev hx hev
    obtain ⟨ea, ec, rfl⟩ := own_slice hent
    refine ⟨ea, ec, fun j v hv => ?_, Tb.REnts.own (c := ec) (own_zero' hent)⟩
    rw [Nat.zero_add, h.row.cellAt _ (by
      have := (List.getElem?_eq_some_iff.1 hv).1
      have h8 : (lcells x (.slice ea x.es.length ec)).length = 8 := rfl
      have : ls.length * 8 ≥ (i + 1) * 8 := Nat.mul_le_mul_right 8 hil
      omega)]
    exact rcells_at ls evs i x _ hx hev j v hv
theorem lcells_set (x : Ln) (ev ev' : Value) (e : Int × Int) : (lcells x ev).set 7 ev' = lcells { x with es := x.es ++ [e] } ev' := rfl
/-- One exception more of the last line, behind the append and the store. -/
theorem Rows.addE {W W' : World} {B g n cap : Nat} {init : List Ln} {einit : List Value} {x : Ln} {ev ev' : Value} {e : Int × Int} (h : Rows W B (.slice (some ⟨g, 0, none⟩) n cap) (init ++ [x]) (einit ++ [ev])) (hnn : n = init.length + 1)
    (h1 : W'.ownsRow B 56 2 ev' (x.es.length + 1) (Tb.ecells (x.es ++ [e]))) (hf : Fr (fun b => ev.ownBlock = some b) W W') (hn : ∀ b, ev'.ownBlock = some b → ev.ownBlock = some b ∨ W.heap.size ≤ b) :
    Rows (W'.setCell ⟨g, init.length * 8 + 7, none⟩ ev') B (.slice (some ⟨g, 0, none⟩) n cap) (init ++ [{ x with es := x.es ++ [e] }]) (einit ++ [ev']) := by
  have hlen : einit.length = init.length := by have := h.len; simpa using this
  have hev : (einit ++ [ev])[init.length]? = some ev := by rw [← hlen, List.getElem?_append_right (Nat.le_refl _), Nat.sub_self]; rfl
  obtain ⟨curv, hcv⟩ := h.vlt g rfl
  have hgW' : W'.heap[g]? = W.heap[g]? := hf.block g (Array.getElem?_eq_some_iff.1 hcv).1 fun k => by
    obtain ⟨c, hc⟩ := h.elt _ ev hev g k
    rw [hcv] at hc
    injection hc with hc
    injection hc with _ hc
    exact absurd hc (by decide)
  have hrow' := own_same h.row (w' := W') fun b hb => by cases hb; exact hgW'
  rw [List.length_append, List.length_singleton, ← hnn] at hrow'
  obtain ⟨hst, hgr⟩ := World.ownsRow.stored hrow' (init.length * 8 + 7) ev'
  have hfs : ∀ b, b ≠ g → (W'.setCell ⟨g, init.length * 8 + 7, none⟩ ev').heap[b]? = W'.heap[b]? := fun b hb => heap_setCell_other _ _ _ _ hb
  have old : ∀ (i : Nat) ei b, i < einit.length → (einit ++ [ev])[i]? = some ei → ei.ownBlock = some b → W'.heap[b]? = W.heap[b]? ∧ b ≠ g := fun i ei b hi hei hb => by
    obtain ⟨c, hc⟩ := h.elt i ei hei b hb
    refine ⟨hf.block b (Array.getElem?_eq_some_iff.1 hc).1 fun k => h.ne i init.length ei ev b (by omega) hei hev hb k, fun k => ?_⟩
    subst k
    rw [hcv] at hc
    injection hc with hc
    injection hc with _ hc
    exact absurd hc (by decide)
  have newne : ∀ b, ev'.ownBlock = some b → b ≠ g := fun b hb k => by
    subst k
    obtain ⟨c, hc⟩ := own_block h1 b hb
    rw [hgW', hcv] at hc
    injection hc with hc
    injection hc with _ hc
    exact absurd hc (by decide)
  have lt_of : ∀ (i : Nat) ei, (einit ++ [ev'])[i]? = some ei → (i < einit.length ∧ einit[i]? = some ei) ∨ (i = einit.length ∧ ei = ev') := fun i ei hei => by
    rw [List.getElem?_append] at hei
    split at hei
    · rename_i hi; exact .inl ⟨hi, hei⟩
    · rename_i hi
      have := (List.getElem?_eq_some_iff.1 hei).1
      simp only [List.length_singleton] at this
      have h0 : i - einit.length = 0 := by omega
      rw [h0] at hei
      cases hei
      exact .inr ⟨by omega, rfl⟩
  refine ⟨by simp [hlen], ?_, fun i y ei hy hei => ?_, fun i j ei ej b hij hi hj hb => ?_⟩
  · rw [List.length_append, List.length_singleton, ← hnn]
    have e1 : (rcells (init ++ [x]) (einit ++ [ev])).set (init.length * 8 + 7) ev' = rcells (init ++ [{ x with es := x.es ++ [e] }]) (einit ++ [ev']) := by
      rw [rcells_snoc init einit x ev hlen, rcells_snoc init einit _ ev' hlen, List.set_append_right _ _ (by rw [rcells_length init einit hlen]; omega), rcells_length init einit hlen, Nat.add_sub_cancel_left, lcells_set x ev ev' e]
    rw [← e1]
    exact hst
  · rcases lt_of i ei hei with ⟨hi, e0⟩ | ⟨e1, e2⟩
    · have e3 : (einit ++ [ev])[i]? = some ei := by rw [List.getElem?_append_left hi]; exact e0
      have hil : i < init.length := by omega
      rw [List.getElem?_append_left hil] at hy
      have e4 := h.ent i y ei (by rw [List.getElem?_append_left hil]; exact hy) e3
      exact own_same e4 fun b hb => (hfs b (old i ei b hi e3 hb).2).trans (old i ei b hi e3 hb).1
    · subst e2
      rw [e1, hlen, List.getElem?_append_right (Nat.le_refl _), Nat.sub_self] at hy
      cases hy
      refine own_same (n := (x.es ++ [e]).length) (by rw [List.length_append]; exact h1) fun b hb => hfs b (newne b hb)
  · rcases lt_of i ei hi with ⟨hi', e0⟩ | ⟨e1, e2⟩
    · have e3 : (einit ++ [ev])[i]? = some ei := by rw [List.getElem?_append_left hi']; exact e0
      rcases lt_of j ej hj with ⟨hj', e0'⟩ | ⟨e1', e2'⟩
      · exact h.ne i j ei ej b hij e3 (by rw [List.getElem?_append_left hj']; exact e0') hb
      · subst e2'
        intro k
        rcases hn b k with c | c
        · exact h.ne i init.length ei ev b (by omega) e3 hev hb c
        · obtain ⟨d, hd⟩ := h.elt i ei e3 b hb
          have := (Array.getElem?_eq_some_iff.1 hd).1
          omega
    · subst e2
      rcases lt_of j ej hj with ⟨hj', e0'⟩ | ⟨e1', e2'⟩
      · have e3 : (einit ++ [ev])[j]? = some ej := by rw [List.getElem?_append_left hj']; exact e0'
        intro k
        rcases hn b hb with c | c
        · exact h.ne j init.length ej ev b (by omega) e3 hev k c
        · obtain ⟨d, hd⟩ := h.elt j ej e3 b k
          have := (Array.getElem?_eq_some_iff.1 hd).1
          omega
      · omega
end Pd
end Go.Proofs.YtheldnamllnkeaaDoor
