/- Contracts of the statements' of and same. -/
import Derived.Test.YtheldnamllnkeaaDoorDmpLaw
import Derived.Test.YtheldnamllnkeaaDoorEntSame
namespace Go.Proofs.YtheldnamllnkeaaDoor
namespace Pd
open Go.RowKit Dsk Go.Maps
set_option maxRecDepth 100000
set_option linter.unusedVariables false

theorem info_rline : (Tryd.prog.info? 63).map (fun i => (i.zero, i.size, i.bytes)) = some (some (.agg #[.int .i64 0, .int .i64 0, .int .i64 0, .int .i64 0, .int .u32 0, .int .i64 0, .bool false, .slice none 0 0]), 8, 80) := by kernel_rfl
/-- The document's lines in a row that grows; their exceptions lie elsewhere. -/
structure GrowsL (w : World) (ls : List Ln) (v : Value) (evs : List Value) (wr : World) : Prop where
  len : evs.length = ls.length
  row : wr.ownsRow w.heap.size 63 8 v ls.length (rcells ls evs)
  ent : ∀ (i : Nat) x ev, ls[i]? = some x → evs[i]? = some ev → ∃ ea ec, ev = .slice ea x.es.length ec ∧ Tb.REnts w ea x.es
  below : Below w.heap.size w wr
theorem GrowsL.nil {w wr : World} (hb : Below w.heap.size w wr) : GrowsL w [] (.slice none 0 0) [] wr := ⟨rfl, World.ownsRow_nil _ _ _ _, fun i x ev h => by simp at h, hb⟩
theorem GrowsL.rlns {w wr : World} {a : Option Addr} {c : Nat} {ls : List Ln} {evs : List Value} (h : GrowsL w ls (.slice a ls.length c) evs wr) : RLns wr a ls := fun hn => by
  rcases h.row.2 with ⟨h1, h2⟩ | ⟨g, cap, cur, hv, _, hh, _⟩
  · exact absurd (List.eq_nil_of_length_eq_zero h2) hn
  · injection hv with e1 _ e3
    subst e1
    subst e3
    refine ⟨g, 0, rfl, (Array.getElem?_eq_some_iff.1 hh).1, fun i x hx => ?_⟩
    have hil := (List.getElem?_eq_some_iff.1 hx).1
    obtain ⟨ev, hev⟩ : ∃ ev, evs[i]? = some ev := ⟨_, List.getElem?_eq_getElem (by rw [h.len]; exact hil)⟩
    obtain ⟨ea, ec, rfl, hre⟩ := h.ent i x ev hx hev
    refine ⟨ea, ec, fun j v hv => ?_, hre.below h.below⟩
    rw [Nat.zero_add, h.row.cellAt _ (by
      have := (List.getElem?_eq_some_iff.1 hv).1
      have h8 : (lcells x (.slice ea x.es.length ec)).length = 8 := rfl
      have : ls.length * 8 ≥ (i + 1) * 8 := Nat.mul_le_mul_right 8 hil
      omega)]
    exact rcells_at ls evs i x _ hx hev j v hv
/-- One more, behind an append. -/
theorem GrowsL.add {w W' : World} {v' : Value} {ls : List Ln} {evs : List Value} {x : Ln} {ea : Option Addr} {ec : Nat} (hlen : evs.length = ls.length) (hent : ∀ (i : Nat) x ev, ls[i]? = some x → evs[i]? = some ev → ∃ ea ec, ev = .slice ea x.es.length ec ∧ Tb.REnts w ea x.es) (hx : Tb.REnts w ea x.es)
    (h1 : W'.ownsRow w.heap.size 63 8 v' (ls.length + 1) (rcells ls evs ++ lcells x (.slice ea x.es.length ec))) (hb : Below w.heap.size w W') : GrowsL w (ls ++ [x]) v' (evs ++ [.slice ea x.es.length ec]) W' := by
  refine ⟨by simp [hlen], by rw [List.length_append, rcells_snoc ls evs x _ hlen]; exact h1, fun i y ev hy hev => ?_, hb⟩
  rw [List.getElem?_append] at hev
  split at hev
  · rename_i hi
    rw [List.getElem?_append_left (by rw [← hlen]; exact hi)] at hy
    exact hent i y ev hy hev
  · rename_i hi
    have := (List.getElem?_eq_some_iff.1 hev).1
    simp only [List.length_singleton] at this
    have h0 : i - evs.length = 0 := by omega
    rw [h0] at hev
    cases hev
    rw [List.getElem?_append_right (by omega), show i - ls.length = 0 by omega] at hy
    cases hy
    exact ⟨ea, ec, rfl, hx⟩
/-- What of tells: the same report, as the document has it. -/
def OfL (r : Rp) (w : World) (e : Ending) (w' : World) : Prop := ∃ a c, e = .returned (Rv r a c) ∧ RLns w' a r.ls ∧ Below w.heap.size w w'
theorem size_rrep {a b c d : Value} : (Tryd.prog.info? 36).map (·.size) = some (#[a, b, c, d] : Array Value).size := by
  show _ = some 4
  kernel_rfl
/-- What is so between two rounds of of. -/
structure Fl (w : World) (r : Rp) (a : Option Addr) (n c : Nat) (v : Value) (W : World) : Prop where
  below : Below w.heap.size w W
  box : W.heap[w.heap.size]? = some (.cells #[.int .i64 r.s, .int .i64 r.o, .int .i64 r.c, .slice a n c] 26 (0, 0))
  res : W.heap[w.heap.size + 1]? = some (.cells #[.int .i64 0, .int .i64 0, .int .i64 0, .slice none 0 0] 36 (0, 0))
  mm : W.heap[w.heap.size + 2]? = some (.cells #[.int .i64 r.s, .int .i64 r.o, .int .i64 r.c, v] 36 (0, 0))
theorem Fl.new {w W W' : World} {r : Rp} {a : Option Addr} {n c : Nat} {v : Value} (h : Fl w r a n c v W) (hb : Below W.heap.size W W') : Fl w r a n c v W' :=
  ⟨bgo h.below (Nat.le_refl _) hb, (hb.block _ (Array.getElem?_eq_some_iff.1 h.box).1).trans h.box, (hb.block _ (Array.getElem?_eq_some_iff.1 h.res).1).trans h.res, (hb.block _ (Array.getElem?_eq_some_iff.1 h.mm).1).trans h.mm⟩
/-- Behind the append, and the store. -/
theorem Fl.put {w W W' : World} {r : Rp} {a : Option Addr} {n c : Nat} {v v' : Value} {e : TypeId} {sz k : Nat} {xs : List Value} (h : Fl w r a n c v W) (hrow : W.ownsRow w.heap.size e sz v k xs) (he : e ≠ 26 ∧ e ≠ 36) (hf : Fr (fun b => v.ownBlock = some b) W W') : Fl w r a n c v' (W'.setCell ⟨w.heap.size + 2, 3, none⟩ v') := by
  have nb : ∀ b cs t, W.heap[b]? = some (.cells cs t (0, 0)) → t = 26 ∨ t = 36 → v.ownBlock ≠ some b := fun b cs t hb ht k => by
    obtain ⟨d, hd⟩ := own_block hrow b k
    rw [hb] at hd
    injection hd with hd
    injection hd with _ hd _
    rcases ht with rfl | rfl
    · exact he.1 hd.symm
    · exact he.2 hd.symm
  have hvb : ∀ b, v.ownBlock = some b → w.heap.size ≤ b := fun b hb => by
    rcases hrow.2 with ⟨h3, _⟩ | ⟨g, cap, cur, h3, h4, _⟩
    · rw [h3] at hb; cases hb
    · rw [h3] at hb; cases hb; exact h4
  have r1 := (hf.block _ (Array.getElem?_eq_some_iff.1 h.box).1 (nb _ _ _ h.box (.inl rfl))).trans h.box
  have r2 := (hf.block _ (Array.getElem?_eq_some_iff.1 h.res).1 (nb _ _ _ h.res (.inr rfl))).trans h.res
  have r3 := (hf.block _ (Array.getElem?_eq_some_iff.1 h.mm).1 (nb _ _ _ h.mm (.inr rfl))).trans h.mm
  exact ⟨(h.below.trans (hf.below h.below.size hvb)).setCell (p := ⟨w.heap.size + 2, 3, none⟩) (by show w.heap.size ≤ w.heap.size + 2; omega) _, (heap_setCell_other _ ⟨w.heap.size + 2, 3, none⟩ _ _ (by show w.heap.size ≠ w.heap.size + 2; omega)).trans r1, (heap_setCell_other _ ⟨w.heap.size + 2, 3, none⟩ _ _ (by show w.heap.size + 1 ≠ w.heap.size + 2; omega)).trans r2, heap_setCell_same _ (w.heap.size + 2) 3 _ _ v' r3⟩
theorem fl_made (w : World) (r : Rp) (a : Option Addr) (n c : Nat) (W1 W2 W3 : World) (h1 : (w.alloc (.cells #[.int .i64 r.s, .int .i64 r.o, .int .i64 r.c, .slice a n c] 26)).alloc (.cells #[.int .i64 0, .int .i64 0, .int .i64 0, .slice none 0 0] 36) = W1)
    (h2 : W1.alloc (.cells #[.int .i64 r.s, .int .i64 r.o, .int .i64 r.c, .slice none 0 0] 36) = W2) (h3 : W2.setCell ⟨w.heap.size + 2, 3, none⟩ (.slice none 0 0) = W3) :
    W1.heap.size = w.heap.size + 2 ∧ (∀ j v, #[Value.int .i64 r.s, .int .i64 r.o, .int .i64 r.c, .slice a n c][j]? = some v → W1.cell? ⟨w.heap.size, j, none⟩ = some v) ∧ W2.cell? ⟨w.heap.size + 2, 3, none⟩ = some (.slice none 0 0) ∧ W2.frozen? ⟨w.heap.size + 2, 3, none⟩ = false ∧ Fl w r a n c (.slice none 0 0) W3 := by
  obtain ⟨o1, ho1⟩ : ∃ o, o = Obj.cells #[.int .i64 r.s, .int .i64 r.o, .int .i64 r.c, .slice a n c] 26 := ⟨_, rfl⟩
  obtain ⟨o2, ho2⟩ : ∃ o, o = Obj.cells #[.int .i64 0, .int .i64 0, .int .i64 0, .slice none 0 0] 36 := ⟨_, rfl⟩
  obtain ⟨o3, ho3⟩ : ∃ o, o = Obj.cells #[.int .i64 r.s, .int .i64 r.o, .int .i64 r.c, .slice none 0 0] 36 := ⟨_, rfl⟩
  rw [← ho1, ← ho2] at h1
  rw [← ho3] at h2
  subst h1
  subst h2
  have s1 : (w.alloc o1).heap.size = w.heap.size + 1 := by simp
  have s2 : ((w.alloc o1).alloc o2).heap.size = w.heap.size + 2 := by simp
  have e1 := heap_alloc_new w o1
  have e2 := heap_alloc_new (w.alloc o1) o2
  have e3 := heap_alloc_new ((w.alloc o1).alloc o2) o3
  rw [s1] at e2
  rw [s2] at e3
  have b2 : Below (w.heap.size + 1) (w.alloc o1) ((w.alloc o1).alloc o2) := (Below.refl _ _).alloc (by simp) _
  have b3 : Below (w.heap.size + 2) ((w.alloc o1).alloc o2) (((w.alloc o1).alloc o2).alloc o3) := (Below.refl _ _).alloc (by simp) _
  have x1 := (b2.block w.heap.size (by omega)).trans e1
  have y1 := (b3.block w.heap.size (by omega)).trans x1
  have y2 := (b3.block (w.heap.size + 1) (by omega)).trans e2
  have x1c := x1.trans (congrArg some ho1)
  have y1c := y1.trans (congrArg some ho1)
  have y2c := y2.trans (congrArg some ho2)
  have e3c := e3.trans (congrArg some ho3)
  have bw : Below w.heap.size w (((w.alloc o1).alloc o2).alloc o3) := (((Below.refl _ w).alloc (Nat.le_refl _) _).alloc (by simp) _).alloc (by simp; omega) _
  subst h3
  refine ⟨s2, fun j v hv => ?_, ?_, ?_, ⟨bw.setCell (p := ⟨w.heap.size + 2, 3, none⟩) (by show w.heap.size ≤ w.heap.size + 2; omega) _, ?_, ?_, ?_⟩⟩
  · rw [cell_of_row _ _ _ _ _ _ x1c]; exact hv
  · rw [cell_of_row _ _ _ _ _ _ e3c]; rfl
  · exact frozen_of_row (j := 3) _ _ _ _ e3c
  · exact (heap_setCell_other _ ⟨w.heap.size + 2, 3, none⟩ _ _ (by show w.heap.size ≠ w.heap.size + 2; omega)).trans y1c
  · exact (heap_setCell_other _ ⟨w.heap.size + 2, 3, none⟩ _ _ (by show w.heap.size + 1 ≠ w.heap.size + 2; omega)).trans y2c
  · exact heap_setCell_same _ (w.heap.size + 2) 3 _ _ (.slice none 0 0) e3c
set_option maxHeartbeats 2000000 in
theorem of_any (r : Rp) (a : Option Addr) (c : Nat) (w : World) (hl : RLns w a r.ls) (hn : r.ls.length ≤ 60) :
    Calls Tryd.prog 10 #[Rv r a c] w (OfL r w) := by
  obtain ⟨n, hnn⟩ : ∃ n, n = r.ls.length := ⟨_, rfl⟩
  have NN := Lib.hid hnn
  obtain ⟨W1, hW1⟩ : ∃ W1, (w.alloc (.cells #[.int .i64 r.s, .int .i64 r.o, .int .i64 r.c, .slice a n c] 26)).alloc (.cells #[.int .i64 0, .int .i64 0, .int .i64 0, .slice none 0 0] 36) = W1 := ⟨_, rfl⟩
  obtain ⟨W2, hW2⟩ : ∃ W2, W1.alloc (.cells #[.int .i64 r.s, .int .i64 r.o, .int .i64 r.c, .slice none 0 0] 36) = W2 := ⟨_, rfl⟩
  obtain ⟨W3, hW3⟩ : ∃ W3, W2.setCell ⟨w.heap.size + 2, 3, none⟩ (.slice none 0 0) = W3 := ⟨_, rfl⟩
  obtain ⟨hs1, hcs, hz3, hf3, hfl⟩ := fl_made w r a n c W1 W2 W3 hW1 hW2 hW3
  have c0 := hcs 0 _ rfl
  have c1 := hcs 1 _ rfl
  have c2 := hcs 2 _ rfl
  have F0 := Lib.hid hfl
  have RL := Lib.hid hl
  obtain ⟨i0, hi, hz0, hz1, hz2⟩ := info_parts info_rline
  rw [← hnn] at hn
  unfold Rv
  rw [← hnn]
  clear hl hnn hcs hfl
  go_enter Tryd.func10, Tryd.ntmps10
  go_wp2
  clear hW1 hW2 hW3 c0 c1 c2 hz3 hf3 hs1
  go_loopw [4] (fun i wr => ∃ k : Nat, k ≤ n ∧ i = .int .i64 k ∧ ∃ v evs, Hid (evs.length = (r.ls.take k).length) ∧ Hid (wr.ownsRow w.heap.size 63 8 v (r.ls.take k).length (rcells (r.ls.take k) evs)) ∧ Hid (∀ (i : Nat) x ev, (r.ls.take k)[i]? = some x → evs[i]? = some ev → ∃ ea ec, ev = .slice ea x.es.length ec ∧ Tb.REnts w ea x.es) ∧ Hid (Fl w r a n c v wr)) (fun i _ => n - (Lib.intOf i).toNat)
  case atStart => exact ⟨0, Nat.zero_le _, rfl, _, [], Lib.hid rfl, Lib.hid (World.ownsRow_nil _ _ _ _), Lib.hid fun i x ev h => by simp at h, F0⟩
  case round =>
    obtain ⟨k, hk, rfl, v, evs, hlen, hrow, hent, hfl⟩ := hrel
    have b3 : wr.cell? ⟨w.heap.size, 3, none⟩ = some (.slice a n c) := by rw [cell_of_row _ _ _ _ _ _ hfl.out.box]; rfl
    by_cases hlt : k < n
    · have hkl : k < r.ls.length := by rw [← NN.out]; exact hlt
      obtain ⟨x, hx⟩ : ∃ x, x = r.ls[k] := ⟨_, rfl⟩
      have HX : Hid (r.ls[k]? = some x) := Lib.hid (by rw [hx]; exact List.getElem?_eq_getElem hkl)
      obtain ⟨b, off, ea, ec, rfl, hbl, hrg, hre⟩ := RL.out.get HX.out
      have HRG := Lib.hid (rangeAt_below hrg hfl.out.below hbl)
      have HRE := Lib.hid hre
      unfold lcells at HRG
      have HKN := Lib.hid hlt
      have d1 : decide ((k : Int) < (n : Int)) = true := by simp; omega
      have d1' : decide (k < n) = true := by simp; omega
      have k0 : (0 : Int) ≤ (k : Int) := by omega
      have k1 : (k : Int) < (n : Int) := by omega
      have hw1 : IntKind.i64.wrap ((k : Int) + 1) = ((k + 1 : Nat) : Int) := by rw [IntWalk.i64_in _ (by omega)]; rfl
      have kl : Hid ((r.ls.take k).length = k) := Lib.hid (by rw [List.length_take]; omega)
      have hK60 : k ≤ 60 := by omega
      have m3 : wr.cell? ⟨w.heap.size + 2, 3, none⟩ = some v := by rw [cell_of_row _ _ _ _ _ _ hfl.out.mm]; rfl
      have g3 : wr.frozen? ⟨w.heap.size + 2, 3, none⟩ = false := frozen_of_row (j := 3) _ _ _ _ hfl.out.mm
      obtain ⟨WB, hWB⟩ : ∃ WB, wr.alloc (.cells #[.int .i64 x.id, .int .i64 x.st, .int .i64 x.a, .int .i64 x.n, .int .u32 (x.g : Int), .int .i64 x.room, .bool x.inv, .slice ea x.es.length ec] 54) = WB := ⟨_, rfl⟩
      have BB : Hid (Below wr.heap.size wr WB) := Lib.hid (by rw [← hWB]; exact (Below.refl _ _).alloc (Nat.le_refl _) _)
      have RB : Hid (WB.heap[wr.heap.size]? = some (.cells #[.int .i64 x.id, .int .i64 x.st, .int .i64 x.a, .int .i64 x.n, .int .u32 (x.g : Int), .int .i64 x.room, .bool x.inv, .slice ea x.es.length ec] 54 (0, 0))) := Lib.hid (by rw [← hWB]; exact heap_alloc_new _ _)
      have bcell : ∀ j v, (#[.int .i64 x.id, .int .i64 x.st, .int .i64 x.a, .int .i64 x.n, .int .u32 (x.g : Int), .int .i64 x.room, .bool x.inv, .slice ea x.es.length ec] : Array Value)[j]? = some v → WB.cell? ⟨wr.heap.size, j, none⟩ = some v := fun j v h => by rw [cell_of_row _ _ _ _ _ _ RB.out]; exact h
      have e0 := bcell 0 _ rfl
      have e1 := bcell 1 _ rfl
      have e2 := bcell 2 _ rfl
      have e3 := bcell 3 _ rfl
      have e4 := bcell 4 _ rfl
      have e5 := bcell 5 _ rfl
      have e6 := bcell 6 _ rfl
      have e7 := bcell 7 _ rfl
      have m3b : WB.cell? ⟨w.heap.size + 2, 3, none⟩ = some v := (BB.out.cell (p := ⟨w.heap.size + 2, 3, none⟩) (Array.getElem?_eq_some_iff.1 hfl.out.mm).1).trans m3
      obtain ⟨WC, hWC⟩ : ∃ WC, WB.alloc (.cells #[.int .i64 x.id, .int .i64 x.st, .int .i64 x.a, .int .i64 x.n, .int .u32 (x.g : Int), .int .i64 x.room, .bool x.inv, .slice ea x.es.length ec] 63) = WC := ⟨_, rfl⟩
      have BC : Hid (Below WB.heap.size WB WC) := Lib.hid (by rw [← hWC]; exact (Below.refl _ _).alloc (Nat.le_refl _) _)
      have RC : Hid (WC.heap[WB.heap.size]? = some (.cells #[.int .i64 x.id, .int .i64 x.st, .int .i64 x.a, .int .i64 x.n, .int .u32 (x.g : Int), .int .i64 x.room, .bool x.inv, .slice ea x.es.length ec] 63 (0, 0))) := Lib.hid (by rw [← hWC]; exact heap_alloc_new _ _)
      have FC := Lib.hid ((hfl.out.new BB.out).new BC.out)
      have OC := Lib.hid (own_below (own_below hrow.out BB.out) BC.out)
      have NEWS : Hid (∀ j u, (lcells x (.slice ea x.es.length ec))[j]? = some u → WC.cell? ((⟨WB.heap.size, 0, none⟩ : Addr).add j) = some u) := Lib.hid (World.news_of_block RC.out)
      have LM : Hid ((r.ls.take k).length + 1 ≤ maxLen ∧ ((r.ls.take k).length + 1) * 80 ≤ 140737488355328) := Lib.hid (by rw [kl.out]; unfold maxLen; omega)
      have BWC : Hid (w.heap.size ≤ WC.heap.size) := Lib.hid FC.out.below.size
      clear hx hkl hrg hre hbl bcell m3 g3
      go_wp2_with (first
        | (refine wpList_load_mid rfl 54 _ rfl b (off + k * 8) rfl _ _ HRG.out Tryd.underlying54 rfl (size_line x (.slice ea x.es.length ec)) ?_)
        | (at_builtin; refine wpList_append_own _ rfl (.tmp 22) (.tmp 34) 34 rfl w.heap.size 63 i0 _ 8 80 Tryd.underlying34 hi hz0 hz1 hz2 rfl (by decide) v (r.ls.take k).length (rcells (r.ls.take k) evs) rfl OC.out ⟨WB.heap.size, 0, none⟩ 1 1 (lcells x (.slice ea x.es.length ec)) rfl rfl NEWS.out (lcells_one _ _ _ _) LM.out.1 LM.out.2 BWC.out ?_; refine Hid.out ?_))
      refine Lib.hid ?_
      intro v6 w6 h1 h2 _
      try rw [← List.length_take] at h1
      obtain ⟨va6, vc6, rfl⟩ := own_slice h1
      have F6 : Fr (fun b => v.ownBlock = some b) WC w6 := Fr.of_grown (F := fun b => v.ownBlock = some b) h2 fun b e => e
      have FL6 := Lib.hid (FC.out.put (v' := .slice va6 ((r.ls.take k).length + 1) vc6) OC.out (by decide) F6)
      have NW : Hid ((w6.setCell ⟨w.heap.size + 2, 3, none⟩ (.slice va6 ((r.ls.take k).length + 1) vc6)).ownsRow w.heap.size 63 8 (.slice va6 ((r.ls.take k).length + 1) vc6) ((r.ls.take k).length + 1) (rcells (r.ls.take k) evs ++ lcells x (.slice ea x.es.length ec))) := Lib.hid (own_same h1 fun b hb => heap_setCell_other _ ⟨w.heap.size + 2, 3, none⟩ _ _ (fun e => by
        obtain ⟨d, hd⟩ := own_block h1 b hb
        have nb : v.ownBlock ≠ some (w.heap.size + 2) := fun q => by
          obtain ⟨d', hd'⟩ := own_block OC.out _ q
          rw [FC.out.mm] at hd'
          injection hd' with hd'
          injection hd' with _ hd' _
          exact absurd hd' (by decide)
        have := (F6.block _ (Array.getElem?_eq_some_iff.1 FC.out.mm).1 nb).trans FC.out.mm
        have e' : b = w.heap.size + 2 := e
        rw [← e', hd] at this
        injection this with this
        injection this with _ this _
        exact absurd this (by decide)))
      have x6 := (F6.block _ (Array.getElem?_eq_some_iff.1 FC.out.mm).1 (fun q => by
          obtain ⟨d', hd'⟩ := own_block OC.out _ q
          rw [FC.out.mm] at hd'
          injection hd' with hd'
          injection hd' with _ hd' _
          exact absurd hd' (by decide))).trans FC.out.mm
      have m6 : w6.cell? ⟨w.heap.size + 2, 3, none⟩ = some v := by rw [cell_of_row _ _ _ _ _ _ x6]; rfl
      have g6 : w6.frozen? ⟨w.heap.size + 2, 3, none⟩ = false := frozen_of_row (j := 3) _ _ _ _ x6
      have tk : Hid (r.ls.take (k + 1) = r.ls.take k ++ [x]) := Lib.hid (by rw [List.take_add_one, HX.out]; rfl)
      have GA := Lib.hid (GrowsL.add (x := x) (ea := ea) (ec := ec) hlen.out hent.out HRE.out NW.out FL6.out.below)
      clear h1 h2 F6 x6 hWB hWC e0 e1 e2 e3 e4 e5 e6 e7 m3b b3
      go_wp2
      go_roundw
      case rel => exact ⟨k + 1, by have := HKN.out; omega, by go_num, _, evs ++ [.slice ea x.es.length ec], Lib.hid (by rw [tk.out]; exact GA.out.len), Lib.hid (by rw [tk.out]; have h := GA.out.row; rw [List.length_take] at h; exact h), Lib.hid (by rw [tk.out]; exact GA.out.ent), Lib.hid (by have h := FL6.out; rw [List.length_take] at h; exact h)⟩
      case measure => have := HKN.out; simp [Lib.intOf]; omega
    · obtain rfl : k = n := by omega
      have d1 : decide ((k : Int) < (k : Int)) = false := by simp
      have d1' : decide (k < k) = false := by simp
      have TK : Hid (r.ls.take k = r.ls) := Lib.hid (by rw [NN.out, List.take_length])
      have GG : Hid (GrowsL w r.ls v evs wr) := Lib.hid (by
        have h1 := hlen.out
        have h2 := hrow.out
        have h3 := hent.out
        rw [TK.out] at h1 h2 h3
        exact ⟨h1, h2, h3, hfl.out.below⟩)
      obtain ⟨va, vc, rfl⟩ := own_slice GG.out.row
      have BOXR := Lib.hid hfl.out.mm
      have RESR := Lib.hid hfl.out.res
      go_wp2_with (first | (refine wpList_load_row rfl 36 _ rfl (w.heap.size + 2) rfl 36 #[.int .i64 r.s, .int .i64 r.o, .int .i64 r.c, .slice va r.ls.length vc] (0, 0) _ BOXR.out Tryd.underlying36 rfl size_rrep ?_) | (refine wpList_store_row rfl 36 _ _ rfl (w.heap.size + 1) #[.int .i64 r.s, .int .i64 r.o, .int .i64 r.c, .slice va r.ls.length vc] rfl rfl 36 _ RESR.out size_rrep rfl (by simp [Value.oneCell']) ?_))
      have WR := setRow_heap _ _ _ #[.int .i64 r.s, .int .i64 r.o, .int .i64 r.c, .slice va r.ls.length vc] _ _ RESR.out
      have FS : Fr (fun b => b = w.heap.size + 1) wr (wr.setRow (w.heap.size + 1) #[.int .i64 r.s, .int .i64 r.o, .int .i64 r.c, .slice va r.ls.length vc]) := Fr.setRow (F := fun b => b = w.heap.size + 1) (Fr.refl _ wr) (w.heap.size + 1) rfl _
      have BS : Below w.heap.size w (wr.setRow (w.heap.size + 1) #[.int .i64 r.s, .int .i64 r.o, .int .i64 r.c, .slice va r.ls.length vc]) := hfl.out.below.trans (FS.below hfl.out.below.size fun b hb => by rw [hb]; omega)
      have GS : GrowsL w r.ls (.slice va r.ls.length vc) evs (wr.setRow (w.heap.size + 1) #[.int .i64 r.s, .int .i64 r.o, .int .i64 r.c, .slice va r.ls.length vc]) := ⟨GG.out.len, own_same GG.out.row fun b hb => FS.block b (by obtain ⟨d, hd⟩ := own_block GG.out.row b hb; exact (Array.getElem?_eq_some_iff.1 hd).1) (fun e => by
        obtain ⟨d, hd⟩ := own_block GG.out.row b hb
        rw [e, RESR.out] at hd
        injection hd with hd
        injection hd with _ hd _
        exact absurd hd (by decide)), GG.out.ent, BS⟩
      refine bodyPost_ret (results_cell_row (p := 2) (ty := 36) rfl _ _ (w.heap.size + 1) 36 _ (0, 0) _ rfl WR Tryd.underlying36 rfl size_rrep) rfl ⟨va, vc, rfl, GS.rlns, BS⟩
end Pd
end Go.Proofs.YtheldnamllnkeaaDoor
