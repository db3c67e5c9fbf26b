/- The contract of dump's reportOf. -/
import Derived.Test.YtheldnamllnkeaaDoorDmpRep
import Derived.Deep.RegionLaw
import Derived.Deep.RegionHeldLaw
import Derived.LoopTactic
namespace Go.Proofs.YtheldnamllnkeaaDoor
namespace Pd
open Go.RowKit Dsk Go.Maps
set_option maxRecDepth 100000
set_option linter.unusedVariables false

/-- What is so between two lines: the report is made in block K. -/
structure Rs (w : World) (K : Nat) (p : Nat × Nat × Nat) (v : Value) (ls : List Ln) (evs : List Value) (W : World) : Prop where
  below : Below w.heap.size w W
  res : W.heap[w.heap.size]? = some (.cells #[.int .i64 0, .int .i64 0, .int .i64 0, .slice none 0 0] 26 (0, 0))
  box : W.heap[K]? = some (.cells #[.int .i64 (p.1 : Int), .int .i64 (p.2.1 : Int), .int .i64 (p.2.2 : Int), v] 26 (0, 0))
  ne : K ≠ w.heap.size
  kb : w.heap.size ≤ K
  rows : Rows W w.heap.size v ls evs
theorem Rs.new {w W W' : World} {K : Nat} {p : Nat × Nat × Nat} {v : Value} {ls : List Ln} {evs : List Value} (h : Rs w K p v ls evs W) (hb : Below W.heap.size W W') : Rs w K p v ls evs W' :=
  ⟨bgo h.below (Nat.le_refl _) hb, (hb.block _ (Array.getElem?_eq_some_iff.1 h.res).1).trans h.res, (hb.block _ (Array.getElem?_eq_some_iff.1 h.box).1).trans h.box, h.ne, h.kb, h.rows.below hb⟩
theorem Wd.ty {w : World} {k : Nat} {ws : List (List UInt8)} (h : Wd w k ws) : ∃ cs, w.heap[k]? = some (.cells cs 96 (0, 0)) := by
  obtain ⟨o, _, _, h3⟩ := h.lies
  exact ⟨_, h3⟩
theorem Rs.word {w W W' : World} {K k : Nat} {p : Nat × Nat × Nat} {v : Value} {ls : List Ln} {evs : List Value} {ws : List (List UInt8)} (h : Rs w K p v ls evs W) (hw : Wd W k ws) (hf : Fr (fun i => i = k) W W') (hk : w.heap.size ≤ k) : Rs w K p v ls evs W' := by
  obtain ⟨cs, hc⟩ := hw.ty
  have h1 : w.heap.size ≠ k := fun e => by
    have := h.res
    rw [e, hc] at this
    injection this with this
    injection this with _ this
    exact absurd this (by decide)
  have h2 : K ≠ k := fun e => by
    have := h.box
    rw [e, hc] at this
    injection this with this
    injection this with _ this
    exact absurd this (by decide)
  refine ⟨bfr h.below (Nat.le_refl _) hf hk, (hf.block _ (Array.getElem?_eq_some_iff.1 h.res).1 h1).trans h.res, (hf.block _ (Array.getElem?_eq_some_iff.1 h.box).1 h2).trans h.box, h.ne, h.kb, h.rows.fr hf fun b c e hb cur => ?_⟩
  subst e
  rw [hc] at hb
  cases hb
  exact ⟨fun e => by injection e with _ e _; exact absurd e (by decide), fun e => by injection e with _ e _; exact absurd e (by decide)⟩
/-- A store into the box of the report. -/
theorem rows_box {W : World} {B K : Nat} {v u : Value} {ls : List Ln} {evs : List Value} {cs : Array Value} (h : Rows W B v ls evs) (hK : W.heap[K]? = some (.cells cs 26 (0, 0))) (j : Nat) : Rows (W.setCell ⟨K, j, none⟩ u) B v ls evs :=
  h.fr (F := fun b => b = K) ((Fr.refl (fun b => b = K) W).setCell ⟨K, j, none⟩ rfl u) fun b c e hb cur => by
    subst e
    rw [hK] at hb
    cases hb
    exact ⟨fun e => by injection e with _ e _; exact absurd e (by decide), fun e => by injection e with _ e _; exact absurd e (by decide)⟩
/-- One line more: the append, and the store. -/
theorem Rs.line {w W W' : World} {K : Nat} {p : Nat × Nat × Nat} {v v' : Value} {ls : List Ln} {evs : List Value} {x : Ln} (h : Rs w K p v ls evs W) (hx : x.es = []) (h1 : W'.ownsRow w.heap.size 54 8 v' (ls.length + 1) (rcells ls evs ++ lcells x (.slice none 0 0))) (hf : Fr (fun b => v.ownBlock = some b) W W') :
    Rs w K p v' (ls ++ [x]) (evs ++ [.slice none 0 0]) (W'.setCell ⟨K, 3, none⟩ v') := by
  have nb : ∀ b cs, W.heap[b]? = some (.cells cs 26 (0, 0)) → v.ownBlock ≠ some b := fun b cs hb k => by
    obtain ⟨d, hd⟩ := h.rows.vlt b k
    rw [hb] at hd
    injection hd with hd
    injection hd with _ hd
    exact absurd hd (by decide)
  have r1 := (hf.block _ (Array.getElem?_eq_some_iff.1 h.res).1 (nb _ _ h.res)).trans h.res
  have r2 := (hf.block _ (Array.getElem?_eq_some_iff.1 h.box).1 (nb _ _ h.box)).trans h.box
  have hvb : ∀ b, v.ownBlock = some b → w.heap.size ≤ b := fun b hb => by
    rcases h.rows.row.2 with ⟨h3, _⟩ | ⟨g, cap, cur, h3, h4, _⟩
    · rw [h3] at hb; cases hb
    · rw [h3] at hb; cases hb; exact h4
  refine ⟨(h.below.trans (hf.below h.below.size hvb)).setCell (p := ⟨K, 3, none⟩) h.kb _, (heap_setCell_other _ ⟨K, 3, none⟩ _ _ (fun e => h.ne e.symm)).trans r1, heap_setCell_same _ K 3 _ _ v' r2, h.ne, h.kb, rows_box (h.rows.add hx h1 hf) r2 3⟩
theorem Rs.noBox {w W : World} {K : Nat} {p : Nat × Nat × Nat} {v : Value} {ls : List Ln} {evs : List Value} (h : Rs w K p v ls evs W) : v.ownBlock ≠ some K := fun k => by
  obtain ⟨d, hd⟩ := h.rows.vlt K k
  rw [h.box] at hd
  injection hd with hd
  injection hd with _ hd
  exact absurd hd (by decide)
theorem wd_line {w W W' : World} {K k : Nat} {p : Nat × Nat × Nat} {v : Value} {ls : List Ln} {evs : List Value} {ws : List (List UInt8)} (h : Rs w K p v ls evs W) (hw : Wd W k ws) (hf : Fr (fun b => v.ownBlock = some b) W W') (u : Value) : Wd (W'.setCell ⟨K, 3, none⟩ u) k ws := by
  obtain ⟨cs, hc⟩ := hw.ty
  have h1 : v.ownBlock ≠ some k := fun e => by
    obtain ⟨d, hd⟩ := h.rows.vlt k e
    rw [hc] at hd
    injection hd with hd
    injection hd with _ hd
    exact absurd hd (by decide)
  have h2 : k ≠ K := fun e => by
    have := h.box
    rw [← e, hc] at this
    injection this with this
    injection this with _ this
    exact absurd this (by decide)
  exact (hw.fr hf h1).fr ((Fr.refl (fun b => b = K) W').setCell ⟨K, 3, none⟩ rfl u) h2
theorem slotP_es0 {ws ws2 : List (List UInt8)} {x : Ln} (h : slotP ws = some (x, ws2)) : x.es = [] := by
  unfold slotP at h
  simp only [Option.bind_eq_some_iff] at h
  obtain ⟨_, _, _, _, _, _, _, _, _, _, _, _, h⟩ := h
  split at h
  · cases h; rfl
  · split at h
    · cases h; rfl
    · cases h
theorem addE_snoc : ∀ (init : List Ln) (x : Ln) (e : Int × Int), addE (init ++ [x]) e = some (init ++ [{ x with es := x.es ++ [e] }])
  | [], x, e => rfl
  | [y], x, e => rfl
  | y :: z :: r, x, e => by
    show (addE (z :: r ++ [x]) e).map (y :: ·) = _
    rw [addE_snoc (z :: r) x e]
    rfl
theorem addP_length {ls ls2 : List Ln} {l : List UInt8} (h : addP ls l = some ls2) : ls2.length ≤ ls.length + 1 := by
  unfold addP at h
  dsimp only at h
  split at h
  · obtain ⟨p, _, h⟩ := Option.bind_eq_some_iff.1 h
    split at h
    · cases h; simp
    · cases h
  · split at h
    · obtain ⟨p, _, h⟩ := Option.bind_eq_some_iff.1 h
      split at h
      · rcases List.eq_nil_or_concat ls with rfl | ⟨init, x, rfl⟩
        · cases h
        · rw [List.concat_eq_append, addE_snoc] at h
          cases h
          simp
      · cases h
    · cases h
theorem addAll_length : ∀ (p : List (List UInt8)) (a ls : List Ln), addAll a p = some ls → ls.length ≤ a.length + p.length
  | [], a, ls, h => by cases h; simp
  | l :: p, a, ls, h => by
    obtain ⟨b, h1, h2⟩ := Option.bind_eq_some_iff.1 (show (addP a l).bind _ = some ls from h)
    have := addAll_length p b ls h2
    have := addP_length h1
    simp only [List.length_cons]
    omega
theorem addP_es {ls ls2 : List Ln} {l : List UInt8} {n : Nat} (h : addP ls l = some ls2) (hn : ∀ x ∈ ls, x.es.length ≤ n) : ∀ x ∈ ls2, x.es.length ≤ n + 1 := by
  unfold addP at h
  dsimp only at h
  split at h
  · obtain ⟨p, hp, h⟩ := Option.bind_eq_some_iff.1 h
    split at h
    · cases h
      intro x hx
      rcases List.mem_append.1 hx with hx | hx
      · have := hn x hx; omega
      · rw [List.mem_singleton.1 hx, slotP_es0 hp]; simp
    · cases h
  · split at h
    · obtain ⟨p, _, h⟩ := Option.bind_eq_some_iff.1 h
      split at h
      · rcases List.eq_nil_or_concat ls with rfl | ⟨init, x, rfl⟩
        · cases h
        · rw [List.concat_eq_append] at hn
          rw [List.concat_eq_append, addE_snoc] at h
          cases h
          intro y hy
          rcases List.mem_append.1 hy with hy | hy
          · have := hn y (List.mem_append_left _ hy); omega
          · rw [List.mem_singleton.1 hy]
            have := hn x (by simp)
            simp only [List.length_append, List.length_singleton]
            omega
      · cases h
    · cases h
theorem addAll_es : ∀ (p : List (List UInt8)) (a ls : List Ln) (n : Nat), addAll a p = some ls → (∀ x ∈ a, x.es.length ≤ n) → ∀ x ∈ ls, x.es.length ≤ n + p.length
  | [], a, ls, n, h, hn => by cases h; simpa using hn
  | l :: p, a, ls, n, h, hn => by
    obtain ⟨b, h1, h2⟩ := Option.bind_eq_some_iff.1 (show (addP a l).bind _ = some ls from h)
    have := addAll_es p b ls (n + 1) h2 (addP_es h1 hn)
    intro x hx
    have := this x hx
    simp only [List.length_cons]
    omega
theorem les_ok {r : List (List UInt8)} {j : Nat} {init : List Ln} {x : Ln} (h : addAll [] (r.take j) = some (init ++ [x])) (hr : r.length ≤ 1000000) : x.es.length ≤ 1000000 ∧ init.length ≤ 1000000 := by
  have h1 := addAll_es _ [] _ 0 h (fun y hy => by simp at hy) x (by simp)
  have h4 := addAll_length _ _ _ h
  have h2 : (r.take j).length ≤ 1000000 := by rw [List.length_take]; omega
  have h3 : ([] : List Ln).length = 0 := rfl
  rw [List.length_append] at h4
  omega
theorem lsl_ok {r : List (List UInt8)} {j : Nat} {ls : List Ln} (h : addAll [] (r.take j) = some ls) (hr : r.length ≤ 1000000) : ls.length + 1 ≤ maxLen ∧ (ls.length + 1) * 80 ≤ 140737488355328 := by
  have h1 := addAll_length _ _ _ h
  have h2 : (r.take j).length ≤ 1000000 := by rw [List.length_take]; omega
  have h3 : ([] : List Ln).length = 0 := rfl
  unfold maxLen
  omega
theorem Rs.fin {w W : World} {K : Nat} {p : Nat × Nat × Nat} {v : Value} {ls : List Ln} {evs : List Value} (h : Rs w K p v ls evs W) (cs : Array Value) : Rows (W.setRow w.heap.size cs) w.heap.size v ls evs ∧ Below w.heap.size w (W.setRow w.heap.size cs) := by
  refine ⟨h.rows.fr (F := fun b => b = w.heap.size) (Fr.setRow (F := fun b => b = w.heap.size) (Fr.refl _ W) w.heap.size rfl cs) fun b c e hb cur => ?_, h.below.trans ((Fr.setRow (F := fun b => b = w.heap.size) (Fr.refl _ W) w.heap.size rfl cs).below h.below.size fun b hb => by rw [hb]; exact Nat.le_refl _)⟩
  subst e
  rw [h.res] at hb
  cases hb
  exact ⟨fun e => by injection e with _ e _; exact absurd e (by decide), fun e => by injection e with _ e _; exact absurd e (by decide)⟩
theorem size_rep {a b c d : Value} : (Tryd.prog.info? 26).map (·.size) = some (#[a, b, c, d] : Array Value).size := by
  show _ = some 4
  kernel_rfl
theorem wd_ent {w W W' : World} {K k g n cap : Nat} {p : Nat × Nat × Nat} {init : List Ln} {einit : List Value} {x : Ln} {ev : Value} {ws : List (List UInt8)} (h : Rs w K p (.slice (some ⟨g, 0, none⟩) n cap) (init ++ [x]) (einit ++ [ev]) W) (hw : Wd W k ws) (hf : Fr (fun b => ev.ownBlock = some b) W W') (j : Nat) (u : Value) : Wd (W'.setCell ⟨g, j, none⟩ u) k ws := by
  have hlen : einit.length = init.length := by have := h.rows.len; simpa using this
  have hev : (einit ++ [ev])[init.length]? = some ev := by rw [← hlen, List.getElem?_append_right (Nat.le_refl _), Nat.sub_self]; rfl
  obtain ⟨cs, hc⟩ := hw.ty
  have h1 : ev.ownBlock ≠ some k := fun e => by
    obtain ⟨d, hd⟩ := h.rows.elt _ ev hev k e
    rw [hc] at hd
    injection hd with hd
    injection hd with _ hd
    exact absurd hd (by decide)
  have h2 : k ≠ g := fun e => by
    obtain ⟨d, hd⟩ := h.rows.vlt g rfl
    rw [← e, hc] at hd
    injection hd with hd
    injection hd with _ hd
    exact absurd hd (by decide)
  exact (hw.fr hf h1).fr ((Fr.refl (fun b => b = g) W').setCell ⟨g, j, none⟩ rfl u) h2
/-- The cell that holds the last line's exceptions. -/
theorem Rs.last {w W : World} {K g n cap : Nat} {p : Nat × Nat × Nat} {init : List Ln} {einit : List Value} {x : Ln} {ev : Value} (h : Rs w K p (.slice (some ⟨g, 0, none⟩) n cap) (init ++ [x]) (einit ++ [ev]) W) (hn : n = init.length + 1) :
    W.cell? ⟨g, init.length * 8 + 7, none⟩ = some ev ∧ W.frozen? ⟨g, init.length * 8 + 7, none⟩ = false ∧ g < W.heap.size ∧ ev.ownBlock ≠ some g ∧ W.ownsRow w.heap.size 56 2 ev x.es.length (Tb.ecells x.es) := by
  have hlen : einit.length = init.length := by have := h.rows.len; simpa using this
  have hev : (einit ++ [ev])[init.length]? = some ev := by rw [← hlen, List.getElem?_append_right (Nat.le_refl _), Nat.sub_self]; rfl
  have hx : (init ++ [x])[init.length]? = some x := by rw [List.getElem?_append_right (Nat.le_refl _), Nat.sub_self]; rfl
  obtain ⟨cur, hc⟩ := h.rows.vlt g rfl
  refine ⟨?_, frozen_of_row (j := init.length * 8 + 7) _ _ _ _ hc, (Array.getElem?_eq_some_iff.1 hc).1, fun e => ?_, h.rows.ent _ x ev hx hev⟩
  · have hrow := h.rows.row
    rw [show (init ++ [x]).length = n by rw [hn]; simp] at hrow
    rw [hrow.cellAt _ (by omega)]
    exact rcells_at _ _ _ x ev hx hev 7 ev rfl
  · obtain ⟨d, hd⟩ := h.rows.elt _ ev hev g e
    rw [hc] at hd
    injection hd with hd
    injection hd with _ hd
    exact absurd hd (by decide)
theorem num_some {w : World} {k n : Nat} {ws : List (List UInt8)} (h : Wd w k ws) (hv : Vs w) (hn : numW (ws.headD []) = some n) :
    Calls Tryd.prog 39 #[.pointer (some ⟨k, 0, none⟩)] w fun e w' => e = .returned (.int .i64 (n : Int)) ∧ Wd w' k ws.tail ∧ Fr (fun i => i = k) w w' := num_ok h hv hn
theorem num_none {w : World} {k : Nat} {ws : List (List UInt8)} (h : Wd w k ws) (hv : Vs w) (hn : numW (ws.headD []) = none) :
    Calls Tryd.prog 39 #[.pointer (some ⟨k, 0, none⟩)] w fun e w' => e = .panicked [{ v := .iface 74 (.agg #[]), recovered := false }] ∧ Fr (fun i => i = k) w w' := num_no h hv hn
theorem slot_some {w : World} {k : Nat} {ws ws2 : List (List UInt8)} {x : Ln} (h : Wd w k ws) (hv : Vs w) (hp : slotP ws = some (x, ws2)) :
    Calls Tryd.prog 38 #[.pointer (some ⟨k, 0, none⟩)] w fun e w' => e = .returned (.agg #[.int .i64 x.id, .int .i64 x.st, .int .i64 x.a, .int .i64 x.n, .int .u32 (x.g : Int), .int .i64 x.room, .bool x.inv, .slice none 0 0]) ∧ Wd w' k ws2 ∧ Fr (fun i => i = k) w w' :=
  (slotp_any h hv).mono fun e w' hh => by
    rcases hh with ⟨y, ws3, h1, h2, h3, h4⟩ | ⟨h1, _⟩
    · rw [hp] at h1
      cases h1
      exact ⟨h2, h3, h4⟩
    · rw [hp] at h1; cases h1
theorem slot_none {w : World} {k : Nat} {ws : List (List UInt8)} (h : Wd w k ws) (hv : Vs w) (hp : slotP ws = none) :
    Calls Tryd.prog 38 #[.pointer (some ⟨k, 0, none⟩)] w fun e w' => e = .panicked [{ v := .iface 74 (.agg #[]), recovered := false }] ∧ Fr (fun i => i = k) w w' :=
  (slotp_any h hv).mono fun e w' hh => by
    rcases hh with ⟨y, ws3, h1, _⟩ | ⟨h1, h2, h3⟩
    · rw [hp] at h1; cases h1
    · exact ⟨h2, h3⟩
/-- What is told of lines: a report, or no word. -/
def RepIs (l : List (List UInt8)) (w : World) (e : Ending) (w' : World) : Prop := (∃ r a c evs, parse l = some r ∧ e = .returned (Rv r a c) ∧ Rows w' w.heap.size (.slice a r.ls.length c) r.ls evs ∧ Below w.heap.size w w') ∨ (parse l = none ∧ e = noE ∧ Below w.heap.size w w')
/-- One exception more of the last line: the append, and the store. -/
theorem Rs.entry {w W W' : World} {K g n cap : Nat} {p : Nat × Nat × Nat} {init : List Ln} {einit : List Value} {x : Ln} {ev ev' : Value} {e : Int × Int} (h : Rs w K p (.slice (some ⟨g, 0, none⟩) n cap) (init ++ [x]) (einit ++ [ev]) W) (hnn : n = init.length + 1)
    (h1 : W'.ownsRow w.heap.size 56 2 ev' (x.es.length + 1) (Tb.ecells (x.es ++ [e]))) (hf : Fr (fun b => ev.ownBlock = some b) W W') (hn : ∀ b, ev'.ownBlock = some b → ev.ownBlock = some b ∨ W.heap.size ≤ b) :
    Rs w K p (.slice (some ⟨g, 0, none⟩) n cap) (init ++ [{ x with es := x.es ++ [e] }]) (einit ++ [ev']) (W'.setCell ⟨g, init.length * 8 + 7, none⟩ ev') := by
  have hlen : einit.length = init.length := by have := h.rows.len; simpa using this
  have hev : (einit ++ [ev])[init.length]? = some ev := by rw [← hlen, List.getElem?_append_right (Nat.le_refl _), Nat.sub_self]; rfl
  have nb : ∀ b cs, W.heap[b]? = some (.cells cs 26 (0, 0)) → ev.ownBlock ≠ some b ∧ b ≠ g := fun b cs hb => ⟨fun k => by
    obtain ⟨d, hd⟩ := h.rows.elt _ ev hev b k
    rw [hb] at hd
    injection hd with hd
    injection hd with _ hd
    exact absurd hd (by decide), fun k => by
    obtain ⟨d, hd⟩ := h.rows.vlt g rfl
    rw [← k, hb] at hd
    injection hd with hd
    injection hd with _ hd
    exact absurd hd (by decide)⟩
  have r1 := (hf.block _ (Array.getElem?_eq_some_iff.1 h.res).1 (nb _ _ h.res).1).trans h.res
  have r2 := (hf.block _ (Array.getElem?_eq_some_iff.1 h.box).1 (nb _ _ h.box).1).trans h.box
  have hvb : ∀ b, ev.ownBlock = some b → w.heap.size ≤ b := fun b hb => by
    have he := h.rows.ent init.length x ev (by rw [List.getElem?_append_right (Nat.le_refl _), Nat.sub_self]; rfl) hev
    rcases he.2 with ⟨h3, _⟩ | ⟨g, cap, cur, h3, h4, _⟩
    · rw [h3] at hb; cases hb
    · rw [h3] at hb; cases hb; exact h4
  have hg : w.heap.size ≤ g := by
    rcases h.rows.row.2 with ⟨h3, _⟩ | ⟨g, cap, cur, h3, h4, _⟩
    · cases h3
    · cases h3; exact h4
  exact ⟨(h.below.trans (hf.below h.below.size hvb)).setCell (p := ⟨g, init.length * 8 + 7, none⟩) hg _, (heap_setCell_other _ ⟨g, init.length * 8 + 7, none⟩ _ _ (nb _ _ h.res).2).trans r1, (heap_setCell_other _ ⟨g, init.length * 8 + 7, none⟩ _ _ (nb _ _ h.box).2).trans r2, h.ne, h.kb, h.rows.addE hnn h1 hf hn⟩
/-- Lines somewhere, nil let in. -/
def SRow (w : World) (a : Option Addr) (l : List (List UInt8)) : Prop := l ≠ [] → ∃ b off, a = some ⟨b, off, none⟩ ∧ b < w.heap.size ∧ ∀ (i : Nat) x, l[i]? = some x → w.cell? ⟨b, off + i, none⟩ = some (.string (Om.B x))
theorem SRow.below {w w' : World} {a : Option Addr} {l : List (List UInt8)} (h : SRow w a l) (hb : Below w.heap.size w w') : SRow w' a l := fun hn => by
  obtain ⟨b, off, e, hlt, hc⟩ := h hn
  exact ⟨b, off, e, Nat.lt_of_lt_of_le hlt hb.size, fun i x hx => (hb.cell (p := ⟨b, off + i, none⟩) hlt).trans (hc i x hx)⟩
theorem repo_nil (a : Option Addr) (c : Nat) (w : World) : Calls Tryd.prog 24 #[.slice a 0 c] w (RepIs [] w) := by
  have NO := Lib.hid (fun w1 => need_no w1)
  unfold noE at NO
  go_enter Tryd.func24, Tryd.ntmps24
  go_wp2_with fail
  refine (NO.out _).mono ?_
  rintro e w1 ⟨rfl, rfl⟩
  go_wp2
  exact ⟨rfl, .inr ⟨rfl, rfl, (Below.refl _ _).alloc (Nat.le_refl _) _⟩⟩
theorem addAll_append : ∀ (p q : List (List UInt8)) (a : List Ln), addAll a (p ++ q) = (addAll a p).bind fun ls => addAll ls q
  | [], q, a => rfl
  | l :: p, q, a => by
    show (addP a l).bind _ = ((addP a l).bind _).bind _
    cases addP a l with
    | none => rfl
    | some b => exact addAll_append p q b
theorem addAll_next {r : List (List UInt8)} {j : Nat} {l : List UInt8} {ls : List Ln} (h : addAll [] (r.take j) = some ls) (hl : r[j]? = some l) : addAll [] (r.take (j + 1)) = addP ls l := by
  rw [List.take_add_one, hl, addAll_append, h]
  show (addP ls l).bind _ = _
  cases addP ls l <;> rfl
theorem addAll_no {r : List (List UInt8)} {j : Nat} {l : List UInt8} {ls : List Ln} (h : addAll [] (r.take j) = some ls) (hl : r[j]? = some l) (hn : addP ls l = none) : addAll [] r = none := by
  have e := addAll_next h hl
  rw [hn] at e
  have := addAll_append (r.take (j + 1)) (r.drop (j + 1)) []
  rw [List.take_append_drop, e] at this
  exact this
theorem parse_no {s : List UInt8} {r : List (List UInt8)} (h : addAll [] r = none) : parse (s :: r) = none := by
  show (supP (words s)).bind _ = none
  cases supP (words s) with
  | none => rfl
  | some p => rw [Option.bind_some, h]; rfl
theorem parse_yes {s : List UInt8} {r : List (List UInt8)} {x y z : Nat} {ls : List Ln} (h1 : supP (words s) = some (x, y, z)) (h : addAll [] r = some ls) : parse (s :: r) = some ⟨x, y, z, ls⟩ := by
  show (supP (words s)).bind _ = _
  rw [h1, Option.bind_some, h]
  rfl
theorem addP_slot {ls : List Ln} {l : List UInt8} (h : (words l).headD [] = wSlot) : addP ls l = (slotP (words l).tail).bind fun p => if p.2 = [] then some (ls ++ [p.1]) else none := by
  unfold addP
  rw [if_pos h]
theorem addP_ent {ls : List Ln} {l : List UInt8} (h : (words l).headD [] = wEntry) : addP ls l = (entP (words l).tail).bind fun p => if p.2 = [] then addE ls p.1 else none := by
  unfold addP
  rw [if_neg (by rw [h]; decide), if_pos h]
theorem addP_no {ls : List Ln} {l : List UInt8} (h : (words l).headD [] ≠ wSlot) (h2 : (words l).headD [] ≠ wEntry) : addP ls l = none := by
  unfold addP
  rw [if_neg h, if_neg h2]
set_option maxHeartbeats 4000000 in
theorem repo_cons (s : List UInt8) (r : List (List UInt8)) (a : Option Addr) (c : Nat) (w : World) (hv : Vs w) (hg : 0 < w.heap.size) (hc : r.length + 1 ≤ c) (hcc : c ≤ 9223372036854775807) (hl : ∀ x ∈ s :: r, x.length ≤ 4294967295) (hr : r.length ≤ 1000000) (hR : SRow w a (s :: r)) :
    Calls Tryd.prog 24 #[.slice a (r.length + 1) c] w (RepIs (s :: r) w) := by
  obtain ⟨b, off, rfl, hb, hcells⟩ := hR (by simp)
  obtain ⟨W0, hW0⟩ : ∃ W0, w.alloc (.cells #[.int .i64 0, .int .i64 0, .int .i64 0, .slice none 0 0] 26) = W0 := ⟨_, rfl⟩
  have HB0 : Hid (Below w.heap.size w W0) := Lib.hid (by rw [← hW0]; exact (Below.refl _ w).alloc (Nat.le_refl _) _)
  have HR0 : Hid (W0.heap[w.heap.size]? = some (.cells #[.int .i64 0, .int .i64 0, .int .i64 0, .slice none 0 0] 26 (0, 0))) := Lib.hid (by rw [← hW0]; exact heap_alloc_new w _)
  have HS0 : Hid (w.heap.size < W0.heap.size) := Lib.hid (by rw [← hW0]; simp)
  have HC : Hid (∀ (i : Nat) x, (s :: r)[i]? = some x → ∀ W, Below w.heap.size w W → W.cell? ⟨b, off + i, none⟩ = some (.string (Om.B x))) := Lib.hid fun i x hx W hb' => (hb'.cell (p := ⟨b, off + i, none⟩) hb).trans (hcells i x hx)
  have c0 : W0.cell? ⟨b, off, none⟩ = some (.string (Om.B s)) := HC.out 0 s rfl W0 HB0.out
  have SO := Lib.hid (superof_any s (hl s (by simp)) W0 (hv.below HB0.out) (Nat.lt_trans hg HS0.out))
  have HV := Lib.hid hv
  have HG := Lib.hid hg
  have HL := Lib.hid hl
  have HRL := Lib.hid hr
  have NY := Lib.hid (fun w1 => need_yes w1)
  obtain ⟨m, hm⟩ : ∃ m, m = r.length := ⟨_, rfl⟩
  rw [← hm] at hc hr ⊢
  have HM := Lib.hid hm
  have d0' : decide ((0 : Nat) < m + 1) = true := by simp
  have d0'' : decide ((0 : Int) < (m : Int) + 1) = true := by
    rw [decide_eq_true_iff]
    omega
  unfold SupIs noE at SO
  clear hv hg hcells hl hm hb
  go_enter Tryd.func24, Tryd.ntmps24
  go_wp2_with fail
  refine (NY.out _).mono ?_
  rintro e w1 ⟨rfl, rfl⟩
  go_wp2_with fail
  clear hW0
  refine SO.out.mono ?_
  rintro e w1 hh
  rcases hh with ⟨x, y, z, h1, rfl, h3⟩ | ⟨h1, rfl, h3⟩
  · have H1 := Lib.hid h1
    obtain ⟨W1, hW1⟩ : ∃ W1, w1.alloc (.cells #[.int .i64 (x : Int), .int .i64 (y : Int), .int .i64 (z : Int), .slice none 0 0] 26) = W1 := ⟨_, rfl⟩
    have hr1 : W1.heap[w1.heap.size]? = some (.cells #[.int .i64 (x : Int), .int .i64 (y : Int), .int .i64 (z : Int), .slice none 0 0] 26 (0, 0)) := by rw [← hW1]; exact heap_alloc_new _ _
    have hb1 : Below w1.heap.size w1 W1 := by rw [← hW1]; exact (Below.refl _ _).alloc (Nat.le_refl _) _
    have z3 : W1.cell? ⟨w1.heap.size, 3, none⟩ = some (.slice none 0 0) := by rw [cell_of_row _ _ _ _ _ _ hr1]; rfl
    have f3 : W1.frozen? ⟨w1.heap.size, 3, none⟩ = false := frozen_of_row (j := 3) _ _ _ _ hr1
    obtain ⟨W2, hW2⟩ : ∃ W2, W1.setCell ⟨w1.heap.size, 3, none⟩ (.slice none 0 0) = W2 := ⟨_, rfl⟩
    have hB1 : Below w.heap.size w w1 := HB0.out.trans (h3.mono HB0.out.size)
    have RS0 : Hid (Rs w w1.heap.size (x, y, z) (.slice none 0 0) [] [] W2) := Lib.hid (by
      rw [← hW2]
      have hk : w.heap.size < w1.heap.size := Nat.lt_of_lt_of_le HS0.out h3.size
      exact ⟨(bgo hB1 (Nat.le_refl _) hb1).setCell (p := ⟨w1.heap.size, 3, none⟩) hB1.size _, (heap_setCell_other _ ⟨w1.heap.size, 3, none⟩ _ _ (by show w.heap.size ≠ w1.heap.size; omega)).trans ((hb1.block _ hk).trans ((h3.block _ HS0.out).trans HR0.out)), heap_setCell_same _ w1.heap.size 3 _ _ (.slice none 0 0) hr1, by omega, hB1.size, Rows.nil _ _⟩)
    have KS : Hid (w.heap.size < w1.heap.size) := Lib.hid (Nat.lt_of_lt_of_le HS0.out h3.size)
    clear h1 h3 hb1 hB1 hr1
    by_cases hc1 : c = 1
    · subst hc1
      obtain rfl : m = 0 := by omega
      have HR : Hid (r = []) := Lib.hid (List.eq_nil_of_length_eq_zero HM.out.symm)
      go_wp2
      go_loopw [20] (fun i wr => i = .int .i64 0 ∧ ∃ v ls evs, Hid (addAll [] r = some ls) ∧ Hid (Rs w w1.heap.size (x, y, z) v ls evs wr)) (fun i _ => 0)
      case atStart => exact ⟨rfl, _, [], [], Lib.hid (by rw [HR.out]; rfl), RS0⟩
      case round =>
        obtain ⟨rfl, v, ls, evs, hall, hrs⟩ := hrel
        have AL : Hid (parse (s :: r) = some ⟨x, y, z, ls⟩) := Lib.hid (parse_yes H1.out hall.out)
        obtain ⟨va, vc, rfl⟩ := own_slice hrs.out.rows.row
        have BOXR := Lib.hid hrs.out.box
        have RESR := Lib.hid hrs.out.res
        go_wp2_with (first | (refine wpList_load_row rfl 26 _ rfl w1.heap.size rfl 26 #[.int .i64 (x : Int), .int .i64 (y : Int), .int .i64 (z : Int), .slice va ls.length vc] (0, 0) _ BOXR.out Tryd.underlying26 rfl size_rep ?_) | (refine wpList_store_row rfl 26 _ _ rfl w.heap.size #[.int .i64 (x : Int), .int .i64 (y : Int), .int .i64 (z : Int), .slice va ls.length vc] rfl rfl 26 _ RESR.out size_rep rfl (by simp [Value.oneCell']) ?_))
        have WR := setRow_heap _ _ _ #[.int .i64 (x : Int), .int .i64 (y : Int), .int .i64 (z : Int), .slice va ls.length vc] _ _ RESR.out
        obtain ⟨q1, q2⟩ := hrs.out.fin #[.int .i64 (x : Int), .int .i64 (y : Int), .int .i64 (z : Int), .slice va ls.length vc]
        refine bodyPost_ret (results_cell_row (p := 2) (ty := 26) rfl _ _ w.heap.size 26 _ (0, 0) _ rfl WR Tryd.underlying26 rfl size_rep) rfl (.inl ⟨⟨x, y, z, ls⟩, va, vc, evs, AL.out, rfl, q1, q2⟩)
    · have hc2 : 1 < c := by omega
      have hc3 : 1 ≤ c := by omega
      go_wp2
      go_loopw [20] (fun i wr => ∃ j : Nat, j ≤ m ∧ i = .int .i64 j ∧ ∃ v ls evs, Hid (addAll [] (r.take j) = some ls) ∧ Hid (Rs w w1.heap.size (x, y, z) v ls evs wr)) (fun i _ => m - (Lib.intOf i).toNat)
      case atStart => exact ⟨0, Nat.zero_le _, rfl, _, [], [], Lib.hid rfl, RS0⟩
      case round =>
        obtain ⟨j, hj, rfl, v, ls, evs, hall, hrs⟩ := hrel
        by_cases hlj : j < m
        · have hjr : j < r.length := by rw [← HM.out]; exact hlj
          obtain ⟨l, hl⟩ : ∃ l, l = r[j] := ⟨_, rfl⟩
          have HLJ : Hid (r[j]? = some l) := Lib.hid (by rw [hl]; exact List.getElem?_eq_getElem hjr)
          have cl : wr.cell? ⟨b, off + 1 + j, none⟩ = some (.string (Om.B l)) := by
            have := HC.out (j + 1) l (by simpa using HLJ.out) wr hrs.out.below
            rwa [show off + (j + 1) = off + 1 + j by omega] at this
          have LL : Hid (l.length ≤ 4294967295) := Lib.hid (HL.out l (List.mem_cons_of_mem _ (List.mem_of_getElem? HLJ.out)))
          have VW := Lib.hid (HV.out.below hrs.out.below)
          have GW : Hid (0 < wr.heap.size) := Lib.hid (Nat.lt_of_lt_of_le HG.out hrs.out.below.size)
          have WO := Lib.hid (wordsof_any l LL.out wr VW.out GW.out)
          have HJM := Lib.hid hlj
          have d1 : decide ((j : Int) < (m : Int)) = true := by simp; omega
          have d1' : decide (j < m) = true := by simp; omega
          have j0 : (0 : Int) ≤ (j : Int) := by omega
          have j1 : (j : Int) < (m : Int) := by omega
          have hw1 : IntKind.i64.wrap ((j : Int) + 1) = ((j + 1 : Nat) : Int) := by rw [IntWalk.i64_in _ (by omega)]; rfl
          clear hjr hl
          go_wp2_with fail
          refine WO.out.mono ?_
          rintro e w2 ⟨rfl, hw2, hb2⟩
          have RS2 := Lib.hid (hrs.out.new hb2)
          have VS2 := Lib.hid (VW.out.below hb2)
          have NX := Lib.hid (next_any hw2)
          unfold NextIs at NX
          have KW : Hid (w.heap.size ≤ wr.heap.size) := Lib.hid hrs.out.below.size
          have WD2 := Lib.hid hw2
          clear hw2 hb2 cl
          go_wp2_with fail
          refine NX.out.mono ?_
          rintro e w3 ⟨rfl, hw3, hf3⟩
          have RS3 := Lib.hid (RS2.out.word WD2.out hf3 KW.out)
          have VS3 := Lib.hid (vs_fr VS2.out hf3 WD2.out.far)
          have WD3 := Lib.hid hw3
          clear hw3 hf3
          have HPN : Hid (addP ls l = none → parse (s :: r) = none) := Lib.hid fun h => parse_no (addAll_no hall.out HLJ.out h)
          have FB : Hid (∀ W, Fr (fun i => i = wr.heap.size) w3 W → Below w.heap.size w W) := Lib.hid fun W hf => bfr RS3.out.below (Nat.le_refl _) hf KW.out
          obtain ⟨wd, hwd⟩ : ∃ wd, wd = (words l).headD [] := ⟨_, rfl⟩
          rw [← hwd]
          by_cases hs : wd = wSlot
          · have HWS : Hid ((words l).headD [] = wSlot) := Lib.hid (by rw [← hwd]; exact hs)
            subst hs
            have be : ((Om.B wSlot).toList == ([115, 108, 111, 116] : List UInt8)) = true := b_is rfl
            clear hwd
            have c3 : w3.cell? ⟨w1.heap.size, 3, none⟩ = some v := by rw [cell_of_row _ _ _ _ _ _ RS3.out.box]; rfl
            have f3 : w3.frozen? ⟨w1.heap.size, 3, none⟩ = false := frozen_of_row (j := 3) _ _ _ _ RS3.out.box
            cases hp : slotP (words l).tail with
            | none =>
              have SN := Lib.hid (fun W (h1 : Wd W wr.heap.size (words l).tail) (h2 : Vs W) => slot_none h1 h2 hp)
              have NON : Hid (parse (s :: r) = none) := Lib.hid (HPN.out (by rw [addP_slot HWS.out, hp]; rfl))
              clear hp
              go_wp2
              obtain ⟨i0, hi, hz0, hz1, hz2⟩ := info_parts info_line
              go_region_held_law (fun w' => w'.cell? ⟨w1.heap.size, 3, none⟩ = some v)
                (first | with_reducible assumption | go_keep | (rename Hid False => hno; exact hno.out.elim))
                (first
                | (go_at_call 38; refine (SN.out _ (by first | exact WD3.out | exact WD3.out.below (Below.refl _ _).drew) (by first | exact VS3.out | exact VS3.out.below (Below.refl _ _).drew)).mono ?_; rintro e w4 ⟨rfl, hf4⟩; have F4 : Hid (Fr (fun i => i = wr.heap.size) w3 w4) := Lib.hid (by first | exact hf4 | exact (Fr.refl (fun i => i = wr.heap.size) w3).drew.trans hf4 fun _ _ e => e); have BX : Hid (Below w.heap.size w w4) := Lib.hid (FB.out _ F4.out); refine Classical.byContradiction fun hn => ?_; have hno : Hid False := Lib.hid (hn ⟨rfl, .inr ⟨NON.out, rfl, BX.out⟩⟩); clear hn hf4; refine way_out (by assumption) hno.out { tmps := #[undef, undef, undef, .pointer (some ⟨w1.heap.size, 0, none⟩), undef, undef, .pointer (some ⟨wr.heap.size, 0, none⟩), undef, undef, undef, undef, undef, undef, undef, undef, undef, undef, undef, undef, undef, undef, undef, undef, undef, undef, undef, undef, undef, undef, undef, undef, undef, .pointer (some ⟨w1.heap.size, 3, none⟩), v, .pointer (some ⟨wr.heap.size, 0, none⟩), .agg #[.int .i64 0, .int .i64 0, .int .i64 0, .int .i64 0, .int .u32 0, .int .i64 0, .bool false, .slice none 0 0], undef, undef, .pointer (some ⟨w1.heap.size, 3, none⟩), undef, undef, undef, undef, undef, undef, undef, undef, undef, undef, undef, undef, undef, undef, undef, undef, undef, undef, undef, undef, undef, undef, undef, undef, undef, undef, undef, undef, undef, undef, undef, undef], defers := [] } BX ?_)
                | (rename Hid False => hno; refine step_append_lies _ (by rfl) (.tmp 33) (.tmp 36) 24 (by rfl) 0 54 i0 _ 8 80 Tryd.underlying24 hi hz0 hz1 hz2 rfl (by decide) v 0 [] (by rfl) hno.out.elim ⟨0, 0, none⟩ 1 1 [] hno.out.elim hno.out.elim hno.out.elim hno.out.elim (by omega) hno.out.elim hno.out.elim (Nat.zero_le _) 0 hno.out.elim ?_; intro g5 cap5 w5 hown5 hgr5 hat5 hlt5; have c5 : w5.cell? ⟨w1.heap.size, 3, none⟩ = some v := hno.out.elim; have f5 : w5.frozen? ⟨w1.heap.size, 3, none⟩ = false := hno.out.elim; clear hown5 hgr5 hat5 hlt5))
              exact hno.out.elim
            | some p =>
              obtain ⟨xx, ws2⟩ := p
              have SS := Lib.hid (fun W (h1 : Wd W wr.heap.size (words l).tail) (h2 : Vs W) => slot_some h1 h2 hp)
              have XES := Lib.hid (slotP_es0 hp)
              have HPP := Lib.hid hp
              clear hp
              obtain ⟨i0, hi, hz0, hz1, hz2⟩ := info_parts info_line
              have NB : Hid (v.ownBlock ≠ some w1.heap.size) := Lib.hid RS3.out.noBox
              have LSL : Hid (ls.length + 1 ≤ maxLen ∧ (ls.length + 1) * 80 ≤ 140737488355328) := Lib.hid (lsl_ok hall.out HRL.out)
              go_wp2
              go_region_law (first
                | (rw [if_pos (by rfl)]; go_simp; go_at_call 38; refine (SS.out _ (by first | exact WD3.out | exact WD3.out.below (Below.refl _ _).drew) (by first | exact VS3.out | exact VS3.out.below (Below.refl _ _).drew)).mono ?_; rintro e w4 ⟨rfl, hw4, hf4⟩; have F4 : Hid (Fr (fun i => i = wr.heap.size) w3 w4) := Lib.hid (by first | exact hf4 | exact (Fr.refl (fun i => i = wr.heap.size) w3).drew.trans hf4 fun _ _ e => e); have WD4 := Lib.hid hw4; have RS4 := Lib.hid (RS3.out.word WD3.out F4.out KW.out); have c4 : w4.cell? ⟨w1.heap.size, 3, none⟩ = some v := (by rw [cell_of_row _ _ _ _ _ _ RS4.out.box]; rfl); have f4 : w4.frozen? ⟨w1.heap.size, 3, none⟩ = false := frozen_of_row (j := 3) _ _ _ _ RS4.out.box; have lt4 : w1.heap.size < w4.heap.size := (Array.getElem?_eq_some_iff.1 RS4.out.box).1; have c4b : (w4.alloc (.cells #[.int .i64 xx.id, .int .i64 xx.st, .int .i64 xx.a, .int .i64 xx.n, .int .u32 (xx.g : Int), .int .i64 xx.room, .bool xx.inv, .slice none 0 0] 54)).cell? ⟨w1.heap.size, 3, none⟩ = some v := (((Below.refl _ w4).alloc (Nat.le_refl _) _).cell (p := ⟨w1.heap.size, 3, none⟩) lt4).trans c4; clear hw4 hf4; dsimp only)
                | (refine step_append_lies _ rfl (.tmp 33) (.tmp 36) 24 rfl w.heap.size 54 i0 _ 8 80 Tryd.underlying24 hi hz0 hz1 hz2 rfl (by decide) v ls.length (rcells ls evs) (by simp [Act.eval]) (RS4.out.new ((Below.refl _ _).alloc (Nat.le_refl _) _)).rows.row ⟨w4.heap.size, 0, none⟩ 1 1 (lcells xx (.slice none 0 0)) (by simp [Act.eval]) rfl (World.news_of_block (heap_alloc_new w4 _)) (lcells_one _ _ _ _) (by omega) LSL.out.1 LSL.out.2 (Nat.le_trans RS4.out.below.size (by simp)) (w4.heap.size + 1) (by simp) ?_; intro g5 cap5 w5 hown5 hgr5 hat5 hlt5; have F5 : Hid (Fr (fun b => v.ownBlock = some b) (w4.alloc (.cells #[.int .i64 xx.id, .int .i64 xx.st, .int .i64 xx.a, .int .i64 xx.n, .int .u32 (xx.g : Int), .int .i64 xx.room, .bool xx.inv, .slice none 0 0] 54)) w5) := Lib.hid (Fr.of_grown (F := fun b => v.ownBlock = some b) hgr5 fun b e => e); have O5 := Lib.hid hown5; have bx5 := (F5.out.block w1.heap.size (Nat.lt_of_lt_of_le (Array.getElem?_eq_some_iff.1 RS4.out.box).1 (by simp)) NB.out).trans (((Below.refl _ w4).alloc (Nat.le_refl _) _).block w1.heap.size (Array.getElem?_eq_some_iff.1 RS4.out.box).1 |>.trans RS4.out.box); have c5 : w5.cell? ⟨w1.heap.size, 3, none⟩ = some v := (by rw [cell_of_row _ _ _ _ _ _ bx5]; rfl); have f5 : w5.frozen? ⟨w1.heap.size, 3, none⟩ = false := frozen_of_row (j := 3) _ _ _ _ bx5; clear hown5 hgr5 hat5 hlt5 bx5))
              all_goals
                have RS4A := RS4.out.new ((Below.refl _ _).alloc (Nat.le_refl _) (.cells #[.int .i64 xx.id, .int .i64 xx.st, .int .i64 xx.a, .int .i64 xx.n, .int .u32 (xx.g : Int), .int .i64 xx.room, .bool xx.inv, .slice none 0 0] 54))
                have WD6 := Lib.hid (wd_line RS4A (WD4.out.below ((Below.refl _ _).alloc (Nat.le_refl _) _)) F5.out (.slice (some ⟨g5, 0, none⟩) (ls.length + 1) cap5))
                have RS6 := Lib.hid (RS4A.line XES.out O5.out F5.out)
                have BZ := Lib.hid RS6.out.below
                clear RS4A c3 f3 c4 f4 lt4 c4b c5 f5
                obtain ⟨W6, hW6⟩ : ∃ W6, w5.setCell ⟨w1.heap.size, 3, none⟩ (.slice (some ⟨g5, 0, none⟩) (ls.length + 1) cap5) = W6 := ⟨_, rfl⟩
                rw [hW6] at WD6 RS6 BZ ⊢
                clear hW6
                by_cases hE : ws2 = []
                · have EY := Lib.hid (end_yes (by have := WD6.out; rw [hE] at this; exact this))
                  have NX : Hid (addAll [] (r.take (j + 1)) = some (ls ++ [xx])) := Lib.hid (by rw [addAll_next hall.out HLJ.out, addP_slot HWS.out, HPP.out, Option.bind_some, if_pos hE])
                  clear hE
                  go_wp2_with fail
                  refine EY.out.mono ?_
                  rintro e w7 ⟨rfl, rfl⟩
                  go_wp2
                  go_round
                  case rel => exact ⟨j + 1, by have := HJM.out; omega, by go_num, _, _, _, NX, RS6⟩
                  case measure => have := HJM.out; simp [Lib.intOf]; omega
                · have EN := Lib.hid (end_no WD6.out hE)
                  unfold noE at EN
                  have NON : Hid (parse (s :: r) = none) := Lib.hid (HPN.out (by rw [addP_slot HWS.out, HPP.out, Option.bind_some, if_neg hE]))
                  clear hE
                  go_wp2_with fail
                  refine EN.out.mono ?_
                  rintro e w7 ⟨rfl, rfl⟩
                  go_wp2
                  exact ⟨rfl, .inr ⟨NON.out, rfl, BZ.out⟩⟩
          · have HWS : Hid ((words l).headD [] ≠ wSlot) := Lib.hid (by rw [← hwd]; exact hs)
            have be : ((Om.B wd).toList == ([115, 108, 111, 116] : List UInt8)) = false := b_isnt (q := wSlot) hs
            by_cases h2 : wd = wEntry
            · have HWE : Hid ((words l).headD [] = wEntry) := Lib.hid (by rw [← hwd]; exact h2)
              subst h2
              have be2 : ((Om.B wEntry).toList == ([101, 110, 116, 114, 121] : List UInt8)) = true := b_is rfl
              clear hwd hs
              have NO := Lib.hid (fun w1 => need_no w1)
              unfold noE at NO
              rcases List.eq_nil_or_concat ls with rfl | ⟨init, xl, hxl⟩
              · obtain ⟨va, vc, rfl⟩ := own_slice RS3.out.rows.row
                have c3 : w3.cell? ⟨w1.heap.size, 3, none⟩ = some (.slice va 0 vc) := by rw [cell_of_row _ _ _ _ _ _ RS3.out.box]; rfl
                have NON : Hid (parse (s :: r) = none) := Lib.hid (HPN.out (by
                  rw [addP_ent HWE.out]
                  cases entP (words l).tail with
                  | none => rfl
                  | some p =>
                    rw [Option.bind_some]
                    split <;> rfl))
                have BZ := Lib.hid RS3.out.below
                go_wp2_with fail
                refine (NO.out _).mono ?_
                rintro e w7 ⟨rfl, rfl⟩
                go_wp2
                exact ⟨rfl, .inr ⟨NON.out, rfl, BZ.out⟩⟩
              · rw [List.concat_eq_append] at hxl
                subst hxl
                obtain ⟨einit, ev, hev⟩ : ∃ einit ev, evs = einit ++ [ev] := by
                  rcases List.eq_nil_or_concat evs with h | ⟨einit, ev, h⟩
                  · have := RS3.out.rows.len; rw [h] at this; simp at this
                  · exact ⟨einit, ev, by rw [h, List.concat_eq_append]⟩
                subst hev
                obtain ⟨g, cap, hvg⟩ : ∃ g cap, v = .slice (some ⟨g, 0, none⟩) (init.length + 1) cap := by
                  rcases RS3.out.rows.row.2 with ⟨_, h⟩ | ⟨g, cap, cur, h, _⟩
                  · simp at h
                  · exact ⟨g, cap, by rw [h, List.length_append, List.length_singleton]⟩
                subst hvg
                obtain ⟨c7, f7, lt7, ng, hent⟩ := RS3.out.last rfl
                obtain ⟨ea, ec, rfl⟩ := own_slice hent
                have NBG : Hid ((Value.slice ea xl.es.length ec).ownBlock ≠ some g) := Lib.hid ng
                have LEX := Lib.hid (les_ok hall.out HRL.out)
                have LES : Hid (xl.es.length + 1 ≤ maxLen ∧ (xl.es.length + 1) * 16 ≤ 140737488355328) := Lib.hid (by have := LEX.out; unfold maxLen; omega)
                have c3 : w3.cell? ⟨w1.heap.size, 3, none⟩ = some (.slice (some ⟨g, 0, none⟩) (init.length + 1) cap) := by rw [cell_of_row _ _ _ _ _ _ RS3.out.box]; rfl
                have q0 : (0 : Int) ≤ (init.length : Int) := by omega
                have q1 : (init.length : Int) < (init.length : Int) + 1 := by omega
                have q2 : decide ((0 : Int) < (init.length : Int) + 1) = true := by rw [decide_eq_true_iff]; omega
                have q3 : wrap64 (init.length : Int) = (init.length : Int) := IntWalk.wrap64_in _ (by have := LEX.out; omega)
                have q4 : (init.length : Int) ≤ 1000000 := by have := LEX.out; omega
                clear ng hent
                obtain ⟨i0, hi, hz0, hz1, hz2⟩ := info_parts Tb.info_entry
                cases hp1 : numW ((words l).tail.headD []) with
                | none =>
                  have N1 := Lib.hid (fun W (h1 : Wd W wr.heap.size (words l).tail) (h2 : Vs W) => num_none h1 h2 hp1)
                  have NON : Hid (parse (s :: r) = none) := Lib.hid (HPN.out (by rw [addP_ent HWE.out]; unfold entP; rw [hp1]; rfl))
                  clear hp1
                  go_wp2_with fail
                  refine (NY.out _).mono ?_
                  rintro e w7 ⟨rfl, rfl⟩
                  go_wp2
                  go_region_held_law (fun w' => w'.cell? ⟨g, init.length * 8 + 7, none⟩ = some (.slice ea xl.es.length ec))
                    (first | with_reducible assumption | go_keep | (rename Hid False => hno; exact hno.out.elim))
                    (first
                    | (go_at_call 39; refine (N1.out _ (by first | exact WD3.out | exact WD3.out.below (Below.refl _ _).drew) (by first | exact VS3.out | exact VS3.out.below (Below.refl _ _).drew)).mono ?_; rintro e w7 ⟨rfl, hf7⟩; have F7 : Hid (Fr (fun i => i = wr.heap.size) w3 w7) := Lib.hid (by first | exact hf7 | exact (Fr.refl (fun i => i = wr.heap.size) w3).drew.trans hf7 fun _ _ e => e); have BX : Hid (Below w.heap.size w w7) := Lib.hid (FB.out _ F7.out); have RS7 := Lib.hid (RS3.out.word WD3.out F7.out KW.out); obtain ⟨c7, f7, lt7, -, -⟩ := RS7.out.last rfl; refine Classical.byContradiction fun hn => ?_; have hno : Hid False := Lib.hid (hn ⟨rfl, .inr ⟨NON.out, rfl, BX.out⟩⟩); clear hn hf7; refine way_out (by assumption) hno.out { tmps := #[undef, undef, undef, .pointer (some ⟨w1.heap.size, 0, none⟩), undef, undef, .pointer (some ⟨wr.heap.size, 0, none⟩), .pointer (some ⟨g, init.length * 8, none⟩), undef, undef, undef, undef, undef, undef, undef, undef, undef, undef, undef, undef, undef, undef, undef, undef, undef, undef, undef, undef, undef, undef, undef, undef, undef, undef, undef, undef, undef, undef, undef, undef, undef, undef, undef, undef, undef, undef, undef, undef, undef, undef, undef, undef, undef, .pointer (some ⟨g, init.length * 8, none⟩), .pointer (some ⟨g, init.length * 8, none⟩), .pointer (some ⟨g, init.length * 8, none⟩), .pointer (some ⟨g, init.length * 8 + 7, none⟩), .slice ea xl.es.length ec, .pointer (some ⟨wr.heap.size, 0, none⟩), .int .i64 0, .pointer (some ⟨wr.heap.size, 0, none⟩), .int .i64 0, undef, undef, undef, .pointer (some ⟨g, init.length * 8, none⟩), .pointer (some ⟨g, init.length * 8 + 7, none⟩), undef, undef, undef, undef], defers := [] } BX ?_)
                    | (rename Hid False => hno; go_at_call 39; refine (show Calls _ _ _ _ (fun e w' => e = .returned (.int .i64 0) ∧ Below w.heap.size w w') from hno.out.elim).mono ?_; rintro e w8 ⟨rfl, hb⟩; have c8 : w8.cell? ⟨g, init.length * 8 + 7, none⟩ = some (.slice ea xl.es.length ec) := hno.out.elim; have f8 : w8.frozen? ⟨g, init.length * 8 + 7, none⟩ = false := hno.out.elim; clear hb)
                    | (rename Hid False => hno; rw [if_pos (by rfl)]; go_simp; go_at_call 39; refine (show Calls _ _ _ _ (fun e w' => e = .returned (.int .i64 0) ∧ Below w.heap.size w w') from hno.out.elim).mono ?_; rintro e w8 ⟨rfl, hb⟩; have c8 : w8.cell? ⟨g, init.length * 8 + 7, none⟩ = some (.slice ea xl.es.length ec) := hno.out.elim; have f8 : w8.frozen? ⟨g, init.length * 8 + 7, none⟩ = false := hno.out.elim; clear hb; dsimp only)
                    | (rename Hid False => hno; refine step_append_lies _ (by rfl) (.tmp 57) (.tmp 63) 52 (by rfl) 0 56 i0 _ 2 16 Tryd.underlying52 hi hz0 hz1 hz2 rfl (by decide) (.slice ea xl.es.length ec) 0 [] (by rfl) hno.out.elim ⟨0, 0, none⟩ 1 1 [] hno.out.elim hno.out.elim hno.out.elim hno.out.elim (by omega) hno.out.elim hno.out.elim (Nat.zero_le _) 0 hno.out.elim ?_; intro g6 cap6 w6 hown6 hgr6 hat6 hlt6; have c6 : w6.cell? ⟨g, init.length * 8 + 7, none⟩ = some (.slice ea xl.es.length ec) := hno.out.elim; have f6 : w6.frozen? ⟨g, init.length * 8 + 7, none⟩ = false := hno.out.elim; clear hown6 hgr6 hat6 hlt6))
                  exact hno.out.elim
                | some na =>
                  have N1 := Lib.hid (fun W (h1 : Wd W wr.heap.size (words l).tail) (h2 : Vs W) => num_some h1 h2 hp1)
                  cases hp2 : numW ((words l).tail.tail.headD []) with
                  | none =>
                    have N2 := Lib.hid (fun W (h1 : Wd W wr.heap.size (words l).tail.tail) (h2 : Vs W) => num_none h1 h2 hp2)
                    have NON : Hid (parse (s :: r) = none) := Lib.hid (HPN.out (by rw [addP_ent HWE.out]; unfold entP; rw [hp1, Option.bind_some, hp2]; rfl))
                    clear hp1 hp2
                    go_wp2_with fail
                    refine (NY.out _).mono ?_
                    rintro e w7 ⟨rfl, rfl⟩
                    go_wp2
                    go_region_held_law (fun w' => w'.cell? ⟨g, init.length * 8 + 7, none⟩ = some (.slice ea xl.es.length ec))
                      (first | with_reducible assumption | go_keep | (rename Hid False => hno; exact hno.out.elim))
                      (first
                      | (go_at_call 39; refine (N1.out _ (by first | exact WD3.out | exact WD3.out.below (Below.refl _ _).drew) (by first | exact VS3.out | exact VS3.out.below (Below.refl _ _).drew)).mono ?_; rintro e w4 ⟨rfl, hw4, hf4⟩; have F4 : Hid (Fr (fun i => i = wr.heap.size) w3 w4) := Lib.hid (by first | exact hf4 | exact (Fr.refl (fun i => i = wr.heap.size) w3).drew.trans hf4 fun _ _ e => e); have WD4 := Lib.hid hw4; have RS4 := Lib.hid (RS3.out.word WD3.out F4.out KW.out); have VS4 := Lib.hid (vs_fr VS3.out F4.out WD3.out.far); obtain ⟨c4, f4, lt4, -, -⟩ := RS4.out.last rfl; clear hw4 hf4)
                      | (go_at_call 39; refine (N2.out _ WD4.out VS4.out).mono ?_; rintro e w7 ⟨rfl, hf7⟩; have F7 : Hid (Fr (fun i => i = wr.heap.size) w3 w7) := Lib.hid (fr_trans F4.out hf7); have BX : Hid (Below w.heap.size w w7) := Lib.hid (FB.out _ F7.out); have RS7 := Lib.hid (RS3.out.word WD3.out F7.out KW.out); obtain ⟨c7, f7, lt7, -, -⟩ := RS7.out.last rfl; refine Classical.byContradiction fun hn => ?_; have hno : Hid False := Lib.hid (hn ⟨rfl, .inr ⟨NON.out, rfl, BX.out⟩⟩); clear hn hf7; refine way_out (by assumption) hno.out { tmps := #[undef, undef, undef, .pointer (some ⟨w1.heap.size, 0, none⟩), undef, undef, .pointer (some ⟨wr.heap.size, 0, none⟩), .pointer (some ⟨g, init.length * 8, none⟩), undef, undef, undef, undef, undef, undef, undef, undef, undef, undef, undef, undef, undef, undef, undef, undef, undef, undef, undef, undef, undef, undef, undef, undef, undef, undef, undef, undef, undef, undef, undef, undef, undef, undef, undef, undef, undef, undef, undef, undef, undef, undef, undef, undef, undef, .pointer (some ⟨g, init.length * 8, none⟩), .pointer (some ⟨g, init.length * 8, none⟩), .pointer (some ⟨g, init.length * 8, none⟩), .pointer (some ⟨g, init.length * 8 + 7, none⟩), .slice ea xl.es.length ec, .pointer (some ⟨wr.heap.size, 0, none⟩), .int .i64 0, .pointer (some ⟨wr.heap.size, 0, none⟩), .int .i64 0, undef, undef, undef, .pointer (some ⟨g, init.length * 8, none⟩), .pointer (some ⟨g, init.length * 8 + 7, none⟩), undef, undef, undef, undef], defers := [] } BX ?_)
                      | (rename Hid False => hno; refine step_append_lies _ (by rfl) (.tmp 57) (.tmp 63) 52 (by rfl) 0 56 i0 _ 2 16 Tryd.underlying52 hi hz0 hz1 hz2 rfl (by decide) (.slice ea xl.es.length ec) 0 [] (by rfl) hno.out.elim ⟨0, 0, none⟩ 1 1 [] hno.out.elim hno.out.elim hno.out.elim hno.out.elim (by omega) hno.out.elim hno.out.elim (Nat.zero_le _) 0 hno.out.elim ?_; intro g6 cap6 w6 hown6 hgr6 hat6 hlt6; have c6 : w6.cell? ⟨g, init.length * 8 + 7, none⟩ = some (.slice ea xl.es.length ec) := hno.out.elim; have f6 : w6.frozen? ⟨g, init.length * 8 + 7, none⟩ = false := hno.out.elim; clear hown6 hgr6 hat6 hlt6))
                    exact hno.out.elim
                  | some nb =>
                    have N2 := Lib.hid (fun W (h1 : Wd W wr.heap.size (words l).tail.tail) (h2 : Vs W) => num_some h1 h2 hp2)
                    have PE : Hid (entP (words l).tail = some (((na : Int), (nb : Int)), (words l).tail.tail.tail)) := Lib.hid (by unfold entP; rw [hp1, Option.bind_some, hp2]; rfl)
                    clear hp1 hp2
                    go_wp2_with fail
                    refine (NY.out _).mono ?_
                    rintro e w7 ⟨rfl, rfl⟩
                    go_wp2
                    go_region_law (first
                      | (rw [if_pos (by rfl)]; go_simp; go_at_call 39; refine (N1.out _ (by first | exact WD3.out | exact WD3.out.below (Below.refl _ _).drew) (by first | exact VS3.out | exact VS3.out.below (Below.refl _ _).drew)).mono ?_; rintro e w4 ⟨rfl, hw4, hf4⟩; have F4 : Hid (Fr (fun i => i = wr.heap.size) w3 w4) := Lib.hid (by first | exact hf4 | exact (Fr.refl (fun i => i = wr.heap.size) w3).drew.trans hf4 fun _ _ e => e); have WD4 := Lib.hid hw4; have RS4 := Lib.hid (RS3.out.word WD3.out F4.out KW.out); have VS4 := Lib.hid (vs_fr VS3.out F4.out WD3.out.far); obtain ⟨c4, f4, lt4, -, -⟩ := RS4.out.last rfl; clear hw4 hf4; dsimp only)
                      | (rw [if_pos (by rfl)]; go_simp; go_at_call 39; refine (N2.out _ WD4.out VS4.out).mono ?_; rintro e w5 ⟨rfl, hw5, hf5⟩; have F5 := Lib.hid hf5; have WD5 := Lib.hid hw5; have RS5 := Lib.hid (RS4.out.word WD4.out F5.out KW.out); obtain ⟨c5, f5, lt5, -, -⟩ := RS5.out.last rfl; have RS5A := Lib.hid (RS5.out.new ((Below.refl _ _).alloc (Nat.le_refl _) (.cells #[.int .i64 (na : Int), .int .i64 (nb : Int)] 56))); obtain ⟨c5b, f5b, lt5b, -, -⟩ := RS5A.out.last rfl; clear hw5 hf5; dsimp only)
                      | (refine step_append_lies _ rfl (.tmp 57) (.tmp 63) 52 rfl w.heap.size 56 i0 _ 2 16 Tryd.underlying52 hi hz0 hz1 hz2 rfl (by decide) (.slice ea xl.es.length ec) xl.es.length (Tb.ecells xl.es) (by simp [Act.eval]) (RS5A.out.last rfl).2.2.2.2 ⟨w5.heap.size, 0, none⟩ 1 1 [.int .i64 (na : Int), .int .i64 (nb : Int)] (by simp [Act.eval]) rfl (World.news_of_block (heap_alloc_new w5 _)) (Tb.two_one _ _) (by omega) LES.out.1 LES.out.2 (Nat.le_trans RS5.out.below.size (by simp)) (w5.heap.size + 1) (by simp) ?_; intro g6 cap6 w6 hown6 hgr6 hat6 hlt6; have F6 : Hid (Fr (fun b => (Value.slice ea xl.es.length ec).ownBlock = some b) (w5.alloc (.cells #[.int .i64 (na : Int), .int .i64 (nb : Int)] 56)) w6) := Lib.hid (Fr.of_grown (F := fun b => (Value.slice ea xl.es.length ec).ownBlock = some b) hgr6 fun b e => e); have O6 := Lib.hid hown6; have AT6 := Lib.hid hat6; obtain ⟨bg, hbg⟩ := RS5A.out.rows.vlt g rfl; have bx6 := (F6.out.block g (Array.getElem?_eq_some_iff.1 hbg).1 NBG.out).trans hbg; have c6 : w6.cell? ⟨g, init.length * 8 + 7, none⟩ = some (.slice ea xl.es.length ec) := (by rw [cell_of_row _ _ _ _ _ _ bx6, ← c5b, cell_of_row _ _ _ _ _ _ hbg]); have f6 : w6.frozen? ⟨g, init.length * 8 + 7, none⟩ = false := frozen_of_row (j := init.length * 8 + 7) _ _ _ _ bx6; clear hown6 hgr6 hat6 hlt6 bx6 hbg))
                    all_goals
                      have ODD : Hid (w6.ownsRow w.heap.size 56 2 (.slice (some ⟨g6, 0, none⟩) (xl.es.length + 1) cap6) (xl.es.length + 1) (Tb.ecells (xl.es ++ [((na : Int), (nb : Int))]))) := Lib.hid (by rw [Tb.ecells_snoc]; exact O6.out)
                      have NEW : Hid (∀ b, (Value.slice (some ⟨g6, 0, none⟩) (xl.es.length + 1) cap6).ownBlock = some b → (Value.slice ea xl.es.length ec).ownBlock = some b ∨ (w5.alloc (.cells #[.int .i64 (na : Int), .int .i64 (nb : Int)] 56)).heap.size ≤ b) := Lib.hid fun b hb => by
                        cases hb
                        rcases AT6.out with e | e
                        · exact .inl e
                        · right; rw [e]; simp
                      have WD7 := Lib.hid (wd_ent RS5A.out (WD5.out.below ((Below.refl _ _).alloc (Nat.le_refl _) _)) F6.out (init.length * 8 + 7) (.slice (some ⟨g6, 0, none⟩) (xl.es.length + 1) cap6))
                      have RS7 := Lib.hid (RS5A.out.entry rfl ODD.out F6.out NEW.out)
                      have BZ := Lib.hid RS7.out.below
                      clear c3 c7 f7 lt7 c4 f4 lt4 c5 f5 lt5 c5b f5b lt5b c6 f6
                      obtain ⟨W7, hW7⟩ : ∃ W7, w6.setCell ⟨g, init.length * 8 + 7, none⟩ (.slice (some ⟨g6, 0, none⟩) (xl.es.length + 1) cap6) = W7 := ⟨_, rfl⟩
                      rw [hW7] at WD7 RS7 BZ ⊢
                      clear hW7
                      by_cases hE : (words l).tail.tail.tail = []
                      · have EY := Lib.hid (end_yes (by have := WD7.out; rw [hE] at this; exact this))
                        have NX : Hid (addAll [] (r.take (j + 1)) = some (init ++ [{ xl with es := xl.es ++ [((na : Int), (nb : Int))] }])) := Lib.hid (by rw [addAll_next hall.out HLJ.out, addP_ent HWE.out, PE.out, Option.bind_some, if_pos hE, addE_snoc])
                        clear hE
                        go_wp2_with fail
                        refine EY.out.mono ?_
                        rintro e w8 ⟨rfl, rfl⟩
                        go_wp2
                        go_round
                        case rel => exact ⟨j + 1, by have := HJM.out; omega, by go_num, _, _, _, NX, RS7⟩
                        case measure => have := HJM.out; simp [Lib.intOf]; omega
                      · have EN := Lib.hid (end_no WD7.out hE)
                        unfold noE at EN
                        have NON : Hid (parse (s :: r) = none) := Lib.hid (HPN.out (by rw [addP_ent HWE.out, PE.out, Option.bind_some, if_neg hE]))
                        clear hE
                        go_wp2_with fail
                        refine EN.out.mono ?_
                        rintro e w8 ⟨rfl, rfl⟩
                        go_wp2
                        exact ⟨rfl, .inr ⟨NON.out, rfl, BZ.out⟩⟩
            · have be2 : ((Om.B wd).toList == ([101, 110, 116, 114, 121] : List UInt8)) = false := b_isnt (q := wEntry) h2
              have NON : Hid (parse (s :: r) = none) := Lib.hid (HPN.out (addP_no HWS.out (by rw [← hwd]; exact h2)))
              have BZ := Lib.hid RS3.out.below
              clear hwd hs h2
              go_wp2
              exact ⟨rfl, .inr ⟨NON.out, rfl, BZ.out⟩⟩
        · obtain rfl : j = m := by omega
          have d1 : decide ((j : Int) < (j : Int)) = false := by simp
          have d1' : decide (j < j) = false := by simp
          have AL : Hid (parse (s :: r) = some ⟨x, y, z, ls⟩) := Lib.hid (parse_yes H1.out (by have := hall.out; rw [HM.out, List.take_length] at this; exact this))
          obtain ⟨va, vc, rfl⟩ := own_slice hrs.out.rows.row
          have BOXR := Lib.hid hrs.out.box
          have RESR := Lib.hid hrs.out.res
          go_wp2_with (first | (refine wpList_load_row rfl 26 _ rfl w1.heap.size rfl 26 #[.int .i64 (x : Int), .int .i64 (y : Int), .int .i64 (z : Int), .slice va ls.length vc] (0, 0) _ BOXR.out Tryd.underlying26 rfl size_rep ?_) | (refine wpList_store_row rfl 26 _ _ rfl w.heap.size #[.int .i64 (x : Int), .int .i64 (y : Int), .int .i64 (z : Int), .slice va ls.length vc] rfl rfl 26 _ RESR.out size_rep rfl (by simp [Value.oneCell']) ?_))
          have WR := setRow_heap _ _ _ #[.int .i64 (x : Int), .int .i64 (y : Int), .int .i64 (z : Int), .slice va ls.length vc] _ _ RESR.out
          obtain ⟨q1, q2⟩ := hrs.out.fin #[.int .i64 (x : Int), .int .i64 (y : Int), .int .i64 (z : Int), .slice va ls.length vc]
          refine bodyPost_ret (results_cell_row (p := 2) (ty := 26) rfl _ _ w.heap.size 26 _ (0, 0) _ rfl WR Tryd.underlying26 rfl size_rep) rfl (.inl ⟨⟨x, y, z, ls⟩, va, vc, evs, AL.out, rfl, q1, q2⟩)
  · have H1 := Lib.hid h1
    have H3 := Lib.hid h3
    clear h1 h3
    go_wp2
    exact ⟨rfl, .inr ⟨(by show (supP (words s)).bind _ = none; rw [H1.out]; rfl), rfl, HB0.out.trans (H3.out.mono HB0.out.size)⟩⟩
end Pd
end Go.Proofs.YtheldnamllnkeaaDoor
