/- The contract of dump's dumpOf. -/
import Derived.Test.YtheldnamllnkeaaDoorDmpSup
import Derived.Test.YtheldnamllnkeaaDoorDmpGrow
import Derived.LoopTactic
import Derived.Deep.RegionHeldLaw
namespace Go.Proofs.YtheldnamllnkeaaDoor
namespace Pd
open Go.RowKit Dsk
set_option maxRecDepth 100000
set_option linter.unusedVariables false

/-- How dumpOf ends. -/
def OfIs (r : Rp) (w : World) (e : Ending) (w' : World) : Prop := (∃ v, okR r = true ∧ e = .returned v ∧ GrowsS w (dump r) v w') ∨ (okR r = false ∧ e = noE ∧ Below w.heap.size w w')
theorem supW_length {r : Rp} (h1 : okN r.s = true) (h2 : okN r.o = true) (h3 : okN r.c = true) : ∀ y ∈ supW r, y.length ≤ 1000 := by
  intro y hy
  have k1 := fig_length _ h1
  have k3 := fig_length _ h2
  have k4 := fig_length _ h3
  unfold supW at hy
  simp only [List.mem_cons, List.not_mem_nil, or_false] at hy
  rcases hy with rfl | rfl | rfl | rfl | rfl | rfl <;> first | omega | (simp [wDisk, wOrigin, wChunk])
/-- The lines of the first k lines of a report. -/
def upTo (r : Rp) (k : Nat) : List (List UInt8) := line (supW r) :: (r.ls.take k).flatMap linesL
theorem upTo_zero (r : Rp) : upTo r 0 = [line (supW r)] := by simp [upTo]
theorem upTo_all (r : Rp) : upTo r r.ls.length = dump r := by simp [upTo, dump]
theorem upTo_succ (r : Rp) (k : Nat) (x : Ln) (h : r.ls[k]? = some x) : upTo r (k + 1) = upTo r k ++ [line (slotW x)] ++ x.es.map fun e => line (entW e) := by
  unfold upTo
  rw [List.take_add_one, h]
  simp [linesL]
theorem linesL_length (x : Ln) : (linesL x).length = x.es.length + 1 := by simp [linesL]
theorem flat_length : ∀ (l : List Ln), (∀ x ∈ l, x.es.length ≤ 60) → (l.flatMap linesL).length ≤ l.length * 61
  | [], _ => by simp
  | x :: l, h => by
    have h1 := flat_length l fun y hy => h y (List.mem_cons_of_mem _ hy)
    have h2 := h x (List.mem_cons_self ..)
    rw [List.flatMap_cons, List.length_append, linesL_length, List.length_cons]
    omega
theorem upTo_length (r : Rp) (k : Nat) (h : ∀ x ∈ r.ls, x.es.length ≤ 60) (hn : r.ls.length ≤ 60) : (upTo r k).length ≤ 1000000 := by
  unfold upTo
  have h1 := flat_length (r.ls.take k) fun x hx => h x (List.mem_of_mem_take hx)
  have h2 : (r.ls.take k).length ≤ 60 := by rw [List.length_take]; omega
  rw [List.length_cons]
  omega
theorem upTo_length' (r : Rp) (k : Nat) (h : ∀ x ∈ r.ls, x.es.length ≤ 60) (hn : r.ls.length ≤ 60) : (upTo r k).length ≤ 4000 := by
  unfold upTo
  have h1 := flat_length (r.ls.take k) fun x hx => h x (List.mem_of_mem_take hx)
  have h2 : (r.ls.take k).length ≤ 60 := by rw [List.length_take]; omega
  rw [List.length_cons]
  omega
theorem entW_length {e : Int × Int} (h1 : okN e.1 = true) (h2 : okN e.2 = true) : ∀ y ∈ entW e, y.length ≤ 1000 := by
  intro y hy
  have k1 := fig_length _ h1
  have k2 := fig_length _ h2
  unfold entW at hy
  simp only [List.mem_cons, List.not_mem_nil, or_false] at hy
  rcases hy with rfl | rfl | rfl <;> first | omega | (simp [wEntry])
theorem okL_of {x : Ln} (h : okH x = true) (he : ∀ (j : Nat) e, x.es[j]? = some e → okE e = true) : okL x = true := by
  unfold okL
  rw [h, Bool.true_and, List.all_eq_true]
  intro e hm
  obtain ⟨j, hj⟩ := List.getElem?_of_mem hm
  exact he j e hj
theorem okL_not {x : Ln} (h : okH x = false) : okL x = false := by unfold okL; rw [h, Bool.false_and]
theorem okL_notE {x : Ln} {j : Nat} {e : Int × Int} (hj : x.es[j]? = some e) (h : okE e = false) : okL x = false := by
  unfold okL
  have : x.es.all okE = false := by
    rw [List.all_eq_false]
    exact ⟨e, List.mem_of_getElem? hj, by rw [h]; simp⟩
  rw [this, Bool.and_false]
theorem okR_all {r : Rp} (h : okS r = true) (hl : ∀ (i : Nat) y, r.ls[i]? = some y → okL y = true) : okR r = true := by
  unfold okR
  rw [h, Bool.true_and, List.all_eq_true]
  intro y hm
  obtain ⟨i, hi⟩ := List.getElem?_of_mem hm
  exact hl i y hi
theorem okR_not {r : Rp} {k : Nat} {x : Ln} (hk : r.ls[k]? = some x) (h : okL x = false) : okR r = false := by
  unfold okR
  have : r.ls.all okL = false := by
    rw [List.all_eq_false]
    exact ⟨x, List.mem_of_getElem? hk, by rw [h]; simp⟩
  rw [this, Bool.and_false]
set_option maxHeartbeats 4000000 in
theorem dumpof_ok (r : Rp) (a : Option Addr) (c : Nat) (hw : Wr r) (hr0 : okS r = true) (hn : r.ls.length ≤ 60) (hes : ∀ x ∈ r.ls, x.es.length ≤ 60) (w : World) (hv : Vs w) (hl : RLns w a r.ls) :
    Calls Tryd.prog 18 #[Rv r a c] w (OfIs r w) := by
  have ⟨⟨h1, h2⟩, h3⟩ : (okN r.s = true ∧ okN r.o = true) ∧ okN r.c = true := by simpa [okS] using hr0
  have HSL := Lib.hid (supW_length h1 h2 h3)
  obtain ⟨W0, hW0⟩ : ∃ W0, (w.alloc (.cells #[.int .i64 r.s, .int .i64 r.o, .int .i64 r.c, .slice a r.ls.length c] 26)).alloc (.cells #[.int .i64 r.s, .int .i64 r.o, .int .i64 r.c] 23) = W0 := ⟨_, rfl⟩
  obtain ⟨hB, hb0, hs0⟩ := sup_made w r _ W0 hW0
  have N1 := Lib.hid h1
  have N2 := Lib.hid h2
  have N3 := Lib.hid h3
  have BQ : Hid (∀ w1, Below (w.heap.size + 2) W0 w1 → Bs w1 w.heap.size r (.slice a r.ls.length c)) := Lib.hid fun w1 hb => hB.next hb
  have SL : Hid (w.heap.size + 2 ≤ W0.heap.size) := Lib.hid (by omega)
  have VW : Hid (∀ w1, Below w.heap.size w w1 → Vs w1) := Lib.hid fun w1 hb => hv.below hb
  have VX : Hid (∀ w1, Below (w.heap.size + 2) W0 w1 → Vs w1) := Lib.hid fun w1 hb => hv.below (hb0.trans (hb.mono (by omega)))
  have RL := Lib.hid hl
  have BX : Hid (Below (w.heap.size + 2) W0 W0) := Lib.hid (Below.refl _ _)
  have BX0 := Lib.hid hb0
  have HW := Lib.hid hw
  have HES := Lib.hid hes
  have HS := Lib.hid hr0
  obtain ⟨-, -, b0, b1, b2⟩ := hB
  clear h1 h2 h3 hb0 hs0 hv hw hl hes hr0
  unfold Rv
  go_enter Tryd.func18, Tryd.ntmps18
  go_wp2_with fail
  clear hW0
  go_region_held3 (fun w' => w'.cell? ⟨w.heap.size + 1, 0, none⟩ = some (.int .i64 r.s) ∧ w'.cell? ⟨w.heap.size + 1, 1, none⟩ = some (.int .i64 r.o) ∧ w'.cell? ⟨w.heap.size + 1, 2, none⟩ = some (.int .i64 r.c))
    (first | go_keep | (refine ⟨?_, ?_, ?_⟩ <;> assumption) | (exact (BQ.out _ BX.out).three))
    (first
    | (go_at_call 30; refine (number_ok _ (by first | exact N1.out | exact N2.out | exact N3.out) _ (by first | exact VX.out _ BX.out | exact VX.out _ BX.out.drew)).mono ?_; rintro e w1 ⟨rfl, hb⟩; have BX : Hid (Below (w.heap.size + 2) W0 w1) := Lib.hid (by first | exact bgo BX.out SL.out hb | exact bgo BX.out SL.out (drB hb)); clear hb)
    | (go_at_call 29; refine (lineof_row (xs := supW r) (strs_made 6 rfl (by omega) (heap_alloc_new w1 _)) (by simp [supW]) (by show 6 ≤ 1000; omega) HSL.out).mono ?_; rintro e w4 ⟨rfl, hb⟩; have BX : Hid (Below (w.heap.size + 2) W0 w4) := Lib.hid (bgo BX.out SL.out (((Below.refl _ _).alloc (Nat.le_refl _) _).trans (hb.mono (by simp)))); clear hb))
  rename_i hh
  clear b0 b1 b2 hh
  obtain ⟨W1, hW1⟩ : ∃ W1, w4.alloc (.cells #[.string (Om.B (line (supW r)))] 9) = W1 := ⟨_, rfl⟩
  have hrow : Strs W1 (.slice (some ⟨w4.heap.size, 0, none⟩) 1 1) (upTo r 0) := by
    rw [← hW1, upTo_zero]
    exact strs_made 1 rfl (by omega) (heap_alloc_new _ _)
  have hb1 : Below w4.heap.size w4 W1 := by
    rw [← hW1]
    exact (Below.refl _ _).alloc (Nat.le_refl _) _
  rw [hW1]
  have BX2 : Hid (Below (w.heap.size + 2) W0 W1) := Lib.hid (bgo BX.out SL.out hb1)
  have c3 := (BQ.out _ BX2.out).c3
  have GW : Hid (GrowsS w (upTo r 0) (.slice (some ⟨w4.heap.size, 0, none⟩) 1 1) W1) := Lib.hid ⟨hrow, fun k hk => by cases hk; exact Nat.le_trans (by have := SL.out; omega) BX.out.size, BX0.out.trans (BX2.out.mono (by omega))⟩
  clear hW1 hb1 hrow
  obtain ⟨n, hnn⟩ : ∃ n, n = r.ls.length := ⟨_, rfl⟩
  rw [← hnn] at hn c3
  have NN := Lib.hid hnn
  clear hnn
  go_wp2
  clear c3
  go_loopw [4, 26] (fun l i wr => ∃ k : Nat, k ≤ n ∧ i = .int .i64 k ∧ Hid (GrowsS w (upTo r k) l wr) ∧ Hid (∀ j x, j < k → r.ls[j]? = some x → okL x = true)) (fun _ i _ => n - (Lib.intOf i).toNat)
  case atStart => exact ⟨0, Nat.zero_le _, rfl, GW, Lib.hid fun j x hj => absurd hj (Nat.not_lt_zero _)⟩
  case round =>
    obtain ⟨k, hk, rfl, hg, hall⟩ := hrel
    obtain ⟨wo, rfl⟩ : ∃ wo, wo = wr := ⟨_, rfl⟩
    obtain ⟨uo, rfl⟩ : ∃ uo, uo = u4 := ⟨_, rfl⟩
    by_cases hlt : k < n
    · have hkl : k < r.ls.length := by rw [← NN.out]; exact hlt
      obtain ⟨x, hx⟩ : ∃ x, x = r.ls[k] := ⟨_, rfl⟩
      have HX : Hid (r.ls[k]? = some x) := Lib.hid (by rw [hx]; exact List.getElem?_eq_getElem hkl)
      obtain ⟨b, off, ea, ec, rfl, hbl, hrg, hre⟩ := RL.out.get HX.out
      have XM : Hid (x ∈ r.ls) := Lib.hid (List.mem_of_getElem? HX.out)
      have XE : Hid (x.es.length ≤ 60) := Lib.hid (HES.out x XM.out)
      have HRG := Lib.hid (rangeAt_below hrg hg.out.below hbl)
      have HRE := Lib.hid hre
      have HKN := Lib.hid hlt
      unfold lcells at HRG
      have d1 : decide ((k : Int) < (n : Int)) = true := by simp; omega
      have d1' : decide (k < n) = true := by simp; omega
      have k0 : (0 : Int) ≤ (k : Int) := by omega
      have k1 : (k : Int) < (n : Int) := by omega
      have hw1 : IntKind.i64.wrap ((k : Int) + 1) = ((k + 1 : Nat) : Int) := by rw [IntWalk.i64_in _ (by omega)]; rfl
      obtain ⟨WB, hWB⟩ : ∃ WB, wo.alloc (.cells #[.int .i64 x.id, .int .i64 x.st, .int .i64 x.a, .int .i64 x.n, .int .u32 (x.g : Int), .int .i64 x.room, .bool x.inv, .slice ea x.es.length ec] 54) = WB := ⟨_, rfl⟩
      have BB : Hid (Below wo.heap.size wo WB) := Lib.hid (by rw [← hWB]; exact (Below.refl _ _).alloc (Nat.le_refl _) _)
      have RB : Hid (WB.heap[wo.heap.size]? = some (.cells #[.int .i64 x.id, .int .i64 x.st, .int .i64 x.a, .int .i64 x.n, .int .u32 (x.g : Int), .int .i64 x.room, .bool x.inv, .slice ea x.es.length ec] 54 (0, 0))) := Lib.hid (by rw [← hWB]; exact heap_alloc_new _ _)
      have bcell : ∀ j v, #[Value.int .i64 x.id, .int .i64 x.st, .int .i64 x.a, .int .i64 x.n, .int .u32 (x.g : Int), .int .i64 x.room, .bool x.inv, .slice ea x.es.length ec][j]? = some v → WB.cell? ⟨wo.heap.size, j, none⟩ = some v := fun j v h => by rw [cell_of_row _ _ _ _ _ _ RB.out]; exact h
      have e0 := bcell 0 _ rfl
      have e1 := bcell 1 _ rfl
      have e2 := bcell 2 _ rfl
      have e3 := bcell 3 _ rfl
      have e4 := bcell 4 _ rfl
      have e5 := bcell 5 _ rfl
      have e6 := bcell 6 _ rfl
      have e7 := bcell 7 _ rfl
      have GB := Lib.hid (hg.out.more BB.out)
      clear hrg hre hbl hkl hx bcell
      by_cases hok : okH x = true
      · have SO := Lib.hid (fun w1 hv => slot_ok x (.slice ea x.es.length ec) hok (HW.out.ls x XM.out).1.g w1 hv)
        have HOK := Lib.hid hok
        clear hok
        unfold Lv at SO
        go_wp2_with (refine wpList_load_mid rfl 54 _ rfl b (off + k * 8) rfl _ _ HRG.out Tryd.underlying54 rfl (size_line x (.slice ea x.es.length ec)) ?_)
        clear hWB
        refine (SO.out _ (VW.out _ GB.out.below)).mono ?_
        rintro e w5 ⟨rfl, hb5⟩
        have G5 := Lib.hid (GB.out.more hb5)
        have R5 : Hid (w5.heap[wo.heap.size]? = some (.cells #[.int .i64 x.id, .int .i64 x.st, .int .i64 x.a, .int .i64 x.n, .int .u32 (x.g : Int), .int .i64 x.room, .bool x.inv, .slice ea x.es.length ec] 54 (0, 0))) := Lib.hid ((hb5.block _ (Array.getElem?_eq_some_iff.1 RB.out).1).trans RB.out)
        have L5 : Hid (wo.heap.size < w5.heap.size) := Lib.hid (Array.getElem?_eq_some_iff.1 R5.out).1
        have OB : Hid (∀ j, uo.ownBlock = some j → j < wo.heap.size) := Lib.hid fun j hj => strs_block hg.out.row j hj
        obtain ⟨W5, hW5⟩ : ∃ W5, w5.alloc (.cells #[.string (Om.B (line (slotW x)))] 9) = W5 := ⟨_, rfl⟩
        have B5 : Hid (Below w5.heap.size w5 W5) := Lib.hid (by rw [← hW5]; exact (Below.refl _ _).alloc (Nat.le_refl _) _)
        have C5 : Hid (W5.heap[w5.heap.size]? = some (.cells #[.string (Om.B (line (slotW x)))] 9 (0, 0))) := Lib.hid (by rw [← hW5]; exact heap_alloc_new _ _)
        have LU : Hid ((upTo r k).length ≤ 1000000) := Lib.hid (upTo_length r k HES.out (by rw [← NN.out]; exact hn))
        clear hb5 e0 e1 e2 e3 e4 e5 e6 e7
        go_wp2_with (at_builtin; refine wpList_addS rfl _ _ rfl uo (upTo r k) rfl (strs_next G5.out.row B5.out) LU.out _ (line (slotW x)) rfl C5.out ?_; refine Hid.out ?_)
        refine Lib.hid ?_
        intro v6 w6 h1 h2 h3
        have G6 := Lib.hid ((G5.out.more B5.out).add h1 h2 h3)
        have R6 : Hid (w6.heap[wo.heap.size]? = some (.cells #[.int .i64 x.id, .int .i64 x.st, .int .i64 x.a, .int .i64 x.n, .int .u32 (x.g : Int), .int .i64 x.room, .bool x.inv, .slice ea x.es.length ec] 54 (0, 0))) := Lib.hid ((h2.block wo.heap.size (Nat.lt_of_lt_of_le L5.out B5.out.size) (fun c => by have := OB.out _ c; omega)).trans ((B5.out.block _ L5.out).trans R5.out))
        have c7 : w6.cell? ⟨wo.heap.size, 7, none⟩ = some (.slice ea x.es.length ec) := by rw [cell_of_row _ _ _ _ _ _ R6.out]; rfl
        obtain ⟨m, hm⟩ : ∃ m, m = x.es.length := ⟨_, rfl⟩
        rw [← hm] at c7
        have MM := Lib.hid hm
        have hmm : m ≤ 60 := by rw [hm]; exact XE.out
        clear hm h1 h2 h3 hW5
        go_wp2
        clear c7
        go_loopw [4, 38] (fun l i wq => ∃ j : Nat, j ≤ m ∧ i = .int .i64 j ∧ Hid (GrowsS w (upTo r k ++ [line (slotW x)] ++ (x.es.take j).map fun e => line (entW e)) l wq) ∧ Hid (∀ i e, i < j → x.es[i]? = some e → okE e = true)) (fun _ i _ => m - (Lib.intOf i).toNat)
        case atStart => exact ⟨0, Nat.zero_le _, rfl, Lib.hid (by simpa using G6.out), Lib.hid fun j e hj => absurd hj (Nat.not_lt_zero _)⟩
        case round =>
          obtain ⟨j, hj, rfl, hgj, hallj⟩ := hrel
          by_cases hlj : j < m
          · have hjl : j < x.es.length := by rw [← MM.out]; exact hlj
            obtain ⟨e, he⟩ : ∃ e, e = x.es[j] := ⟨_, rfl⟩
            have HE : Hid (x.es[j]? = some e) := Lib.hid (by rw [he]; exact List.getElem?_eq_getElem hjl)
            obtain ⟨eb, eo, rfl, q0, q1⟩ := HRE.out.get hgj.out.below hjl
            rw [← he] at q0 q1
            have HRN : Hid (wr.rangeAt eb (eo + j * 2) [.int .i64 e.1, .int .i64 e.2]) := Lib.hid fun i v hv => by
              match i, hv with
              | 0, hv => cases hv; exact q0
              | 1, hv => cases hv; exact q1
            have d2 : decide ((j : Int) < (m : Int)) = true := by simp; omega
            have d2' : decide (j < m) = true := by simp; omega
            have j0 : (0 : Int) ≤ (j : Int) := by omega
            have j1 : (j : Int) < (m : Int) := by omega
            have hw2 : IntKind.i64.wrap ((j : Int) + 1) = ((j + 1 : Nat) : Int) := by rw [IntWalk.i64_in _ (by omega)]; rfl
            clear he hjl
            have HJM := Lib.hid hlj
            obtain ⟨LL, hLL⟩ : ∃ LL, LL = upTo r k ++ [line (slotW x)] ++ (x.es.take j).map fun e => line (entW e) := ⟨_, rfl⟩
            have LE : Hid (LL.length ≤ 1000000) := Lib.hid (by rw [hLL, List.length_append, List.length_append, List.length_map, List.length_take, List.length_singleton]; have := upTo_length' r k HES.out (by rw [← NN.out]; exact hn); omega)
            rw [← hLL] at hgj
            have HLL := Lib.hid hLL
            clear hLL q0 q1
            obtain ⟨WE, hWE⟩ : ∃ WE, wr.alloc (.cells #[.int .i64 e.1, .int .i64 e.2] 56) = WE := ⟨_, rfl⟩
            have BE : Hid (Below wr.heap.size wr WE) := Lib.hid (by rw [← hWE]; exact (Below.refl _ _).alloc (Nat.le_refl _) _)
            have RE : Hid (WE.heap[wr.heap.size]? = some (.cells #[.int .i64 e.1, .int .i64 e.2] 56 (0, 0))) := Lib.hid (by rw [← hWE]; exact heap_alloc_new _ _)
            have SEQ : Hid (WE.heap.size = wr.heap.size + 1) := Lib.hid (by rw [← hWE]; simp)
            have SE : Hid (wr.heap.size + 1 ≤ WE.heap.size) := Lib.hid (Array.getElem?_eq_some_iff.1 RE.out).1
            have GE := Lib.hid (hgj.out.more BE.out)
            have GE0 : Hid (w.heap.size ≤ wr.heap.size) := Lib.hid hgj.out.below.size
            have OE : Hid (∀ i, u4.ownBlock = some i → i < wr.heap.size) := Lib.hid fun i hi => strs_block hgj.out.row i hi
            have CE : Hid (∀ W, Below (wr.heap.size + 1) WE W → W.cell? ⟨wr.heap.size, 0, none⟩ = some (.int .i64 e.1) ∧ W.cell? ⟨wr.heap.size, 1, none⟩ = some (.int .i64 e.2)) := Lib.hid fun W hb => by
              have h := (hb.block wr.heap.size (Nat.lt_succ_self _)).trans RE.out
              exact ⟨by rw [cell_of_row _ _ _ _ _ _ h]; rfl, by rw [cell_of_row _ _ _ _ _ _ h]; rfl⟩
            have FE : Hid (∀ W W', Below (wr.heap.size + 1) WE W → Fr (fun k => u4.ownBlock = some k) W W' → W'.cell? ⟨wr.heap.size, 0, none⟩ = some (.int .i64 e.1) ∧ W'.cell? ⟨wr.heap.size, 1, none⟩ = some (.int .i64 e.2)) := Lib.hid fun W W' hb hf => by
              have h := (hf.block wr.heap.size (Nat.lt_of_lt_of_le (Nat.lt_of_lt_of_le (Nat.lt_succ_self _) SE.out) hb.size) (fun c => absurd (OE.out _ c) (Nat.lt_irrefl _))).trans ((hb.block wr.heap.size (Nat.lt_succ_self _)).trans RE.out)
              exact ⟨by rw [cell_of_row _ _ _ _ _ _ h]; rfl, by rw [cell_of_row _ _ _ _ _ _ h]; rfl⟩
            have VE : Hid (∀ W, Below (wr.heap.size + 1) WE W → Vs W) := Lib.hid fun W hb => VW.out _ (GE.out.below.trans (hb.mono (Nat.le_trans GE0.out (Nat.le_succ _))))
            have BX : Hid (Below (wr.heap.size + 1) WE WE) := Lib.hid (Below.refl _ _)
            obtain ⟨q0, q1⟩ := CE.out _ BX.out
            cases h1 : okN e.1 with
            | false =>
              have hb1 := h1
              clear h1
              have NX := Lib.hid (fun w1 => number_no e.1 hb1 ((HW.out.ls x XM.out).2 e (List.mem_of_getElem? HE.out)).1 w1)
              have NOE : Hid (okE e = false) := Lib.hid (by unfold okE; rw [hb1]; simp)
              clear hb1
              unfold noE at NX
              go_wp2_with (refine wpList_load_mid rfl 56 _ rfl eb (eo + j * 2) rfl _ _ HRN.out Tryd.underlying56 rfl (by show _ = some 2; kernel_rfl) ?_)
              clear hWE
              go_region_held_law (fun w' => w'.cell? ⟨wr.heap.size, 0, none⟩ = some (.int .i64 e.1) ∧ w'.cell? ⟨wr.heap.size, 1, none⟩ = some (.int .i64 e.2))
                (first | go_keep | (refine ⟨?_, ?_⟩ <;> assumption) | (exact CE.out _ BX.out) | (exact hno.out.elim))
                (first
                | (go_at_call 30; refine (number_ok _ (by first | exact hno.out.elim) _ (by first | exact VE.out _ BX.out | exact VE.out _ BX.out.drew)).mono ?_; rintro ee w1 ⟨rfl, hb⟩; have BX : Hid (Below (wr.heap.size + 1) WE w1) := Lib.hid (by first | exact bgo BX.out SE.out hb | exact bgo BX.out SE.out (drB hb)); clear hb)
                | (go_at_call 30; refine (NX.out _).mono ?_; rintro ee w2 ⟨rfl, rfl⟩; refine Classical.byContradiction fun hn => ?_; have hno : Hid False := Lib.hid (hn ⟨rfl, .inr ⟨okR_not HX.out (okL_notE HE.out NOE.out), rfl, by first | exact GE.out.below.trans (BX.out.mono (Nat.le_trans (Nat.le_trans GE0.out (Nat.le_succ _)) (Nat.le_refl _))) | exact (GE.out.below.trans (BX.out.mono (Nat.le_trans (Nat.le_trans GE0.out (Nat.le_succ _)) (Nat.le_refl _)))).drew⟩⟩); clear hn; refine way_out (by assumption) hno.out { tmps := #[undef, undef, undef, undef, u4, undef, undef, undef, .pointer (some ⟨wr.heap.size, 0, none⟩), undef, undef, undef, undef, undef, undef, undef, undef, undef, undef, undef, undef, undef, undef, undef, undef, undef, undef, undef, undef, undef, undef, undef, undef, undef, undef, undef, undef, undef, undef, undef, undef, undef, u4, .pointer (some ⟨wr.heap.size, 0, none⟩), .int .i64 e.1, .string ⟨#[]⟩, .pointer (some ⟨wr.heap.size, 1, none⟩), .int .i64 e.2, .string ⟨#[]⟩, undef, undef, undef, undef, undef, undef, undef], defers := [] } BX ?_)
                | (go_at_call 29; refine (show Calls _ _ _ _ (fun e w' => e = .returned (.string ⟨#[]⟩) ∧ Below (wr.heap.size + 1) WE w') from hno.out.elim).mono ?_; rintro ee w4 ⟨rfl, hb⟩; have BX : Hid (Below (wr.heap.size + 1) WE w4) := Lib.hid hb; clear hb)
                | (refine step_growS (w0 := w) (by rfl) _ _ (by rfl) u4 LL (by rfl) hno.out.elim hno.out.elim _ [] (by rfl) hno.out.elim ?_; intro g7 cap7 w7 hg7 hf7; clear hg7 hf7))
              exact hno.out.elim
            | true =>
              cases h2 : okN e.2 with
              | false =>
                have hb1 := h2
                clear h2
                have N1 := Lib.hid h1
                have NX := Lib.hid (fun w1 => number_no e.2 hb1 ((HW.out.ls x XM.out).2 e (List.mem_of_getElem? HE.out)).2 w1)
                have NOE : Hid (okE e = false) := Lib.hid (by unfold okE; rw [hb1]; simp)
                clear hb1 h1
                unfold noE at NX
                go_wp2_with (refine wpList_load_mid rfl 56 _ rfl eb (eo + j * 2) rfl _ _ HRN.out Tryd.underlying56 rfl (by show _ = some 2; kernel_rfl) ?_)
                clear hWE
                go_region_held_law (fun w' => w'.cell? ⟨wr.heap.size, 0, none⟩ = some (.int .i64 e.1) ∧ w'.cell? ⟨wr.heap.size, 1, none⟩ = some (.int .i64 e.2))
                  (first | go_keep | (refine ⟨?_, ?_⟩ <;> assumption) | (exact CE.out _ BX.out) | (exact hno.out.elim))
                  (first
                  | (go_at_call 30; refine (number_ok _ (by first | exact N1.out | exact hno.out.elim) _ (by first | exact VE.out _ BX.out | exact VE.out _ BX.out.drew)).mono ?_; rintro ee w1 ⟨rfl, hb⟩; have BX : Hid (Below (wr.heap.size + 1) WE w1) := Lib.hid (by first | exact bgo BX.out SE.out hb | exact bgo BX.out SE.out (drB hb)); clear hb)
                  | (go_at_call 30; refine (NX.out _).mono ?_; rintro ee w2 ⟨rfl, rfl⟩; refine Classical.byContradiction fun hn => ?_; have hno : Hid False := Lib.hid (hn ⟨rfl, .inr ⟨okR_not HX.out (okL_notE HE.out NOE.out), rfl, by first | exact GE.out.below.trans (BX.out.mono (Nat.le_trans (Nat.le_trans GE0.out (Nat.le_succ _)) (Nat.le_refl _))) | exact (GE.out.below.trans (BX.out.mono (Nat.le_trans (Nat.le_trans GE0.out (Nat.le_succ _)) (Nat.le_refl _)))).drew⟩⟩); clear hn; refine way_out (by assumption) hno.out { tmps := #[undef, undef, undef, undef, u4, undef, undef, undef, .pointer (some ⟨wr.heap.size, 0, none⟩), undef, undef, undef, undef, undef, undef, undef, undef, undef, undef, undef, undef, undef, undef, undef, undef, undef, undef, undef, undef, undef, undef, undef, undef, undef, undef, undef, undef, undef, undef, undef, undef, undef, u4, .pointer (some ⟨wr.heap.size, 0, none⟩), .int .i64 e.1, .string ⟨#[]⟩, .pointer (some ⟨wr.heap.size, 1, none⟩), .int .i64 e.2, .string ⟨#[]⟩, undef, undef, undef, undef, undef, undef, undef], defers := [] } BX ?_)
                  | (go_at_call 29; refine (show Calls _ _ _ _ (fun e w' => e = .returned (.string ⟨#[]⟩) ∧ Below (wr.heap.size + 1) WE w') from hno.out.elim).mono ?_; rintro ee w4 ⟨rfl, hb⟩; have BX : Hid (Below (wr.heap.size + 1) WE w4) := Lib.hid hb; clear hb)
                  | (refine step_growS (w0 := w) (by rfl) _ _ (by rfl) u4 LL (by rfl) hno.out.elim hno.out.elim _ [] (by rfl) hno.out.elim ?_; intro g7 cap7 w7 hg7 hf7; clear hg7 hf7))
                exact hno.out.elim
              | true =>
                have ho : okN e.1 = true ∧ okN e.2 = true := ⟨h1, h2⟩
                clear h1 h2
                have N1 := Lib.hid ho.1
                have N2 := Lib.hid ho.2
                clear ho
                go_wp2_with (refine wpList_load_mid rfl 56 _ rfl eb (eo + j * 2) rfl _ _ HRN.out Tryd.underlying56 rfl (by show _ = some 2; kernel_rfl) ?_)
                clear hWE
                go_region_held3 (fun w' => w'.cell? ⟨wr.heap.size, 0, none⟩ = some (.int .i64 e.1) ∧ w'.cell? ⟨wr.heap.size, 1, none⟩ = some (.int .i64 e.2))
                  (first | go_keep | (refine ⟨?_, ?_⟩ <;> assumption) | (exact CE.out _ BX.out) | (exact C7.out))
                  (first
                  | (go_at_call 30; refine (number_ok _ (by first | exact N1.out | exact N2.out) _ (by first | exact VE.out _ BX.out | exact VE.out _ BX.out.drew)).mono ?_; rintro ee w1 ⟨rfl, hb⟩; have BX : Hid (Below (wr.heap.size + 1) WE w1) := Lib.hid (by first | exact bgo BX.out SE.out hb | exact bgo BX.out SE.out (drB hb)); clear hb)
                  | (go_at_call 29; refine (lineof_row (xs := entW e) (strs_made 3 rfl (by omega) (heap_alloc_new w1 _)) (by simp [entW]) (by show 3 ≤ 1000; omega) (entW_length N1.out N2.out)).mono ?_; rintro ee w4 ⟨rfl, hb⟩; have BX : Hid (Below (wr.heap.size + 1) WE w4) := Lib.hid (bgo BX.out SE.out (((Below.refl _ _).alloc (Nat.le_refl _) _).trans (hb.mono (by simp)))); clear hb)
                  | (refine step_growS (by rfl) _ _ (by rfl) u4 LL (by rfl) ((GE.out.more (by rw [SEQ.out]; exact BX.out)).more ((Below.refl _ _).alloc (Nat.le_refl _) _)) LE.out _ (line (entW e)) (by rfl) (heap_alloc_new w4 _) ?_; intro g7 cap7 w7 hg7 hf7; have G7 := Lib.hid hg7; have C7 := Lib.hid (FE.out _ _ ((BX.out.alloc (Nat.le_trans SE.out BX.out.size) _)) hf7); clear hg7 hf7))
                rename_i hh
                clear hh q0 q1
                have GJ : Hid (GrowsS w (upTo r k ++ [line (slotW x)] ++ (x.es.take (j + 1)).map fun e => line (entW e)) (.slice (some ⟨g7, 0, none⟩) (LL.length + 1) cap7) w7) := Lib.hid (by rw [List.take_add_one, HE.out, List.map_append, ← List.append_assoc, ← HLL.out]; exact G7.out)
                have AJ : Hid (∀ i e, i < j + 1 → x.es[i]? = some e → okE e = true) := Lib.hid fun i y hi hy => by
                  by_cases hij : i = j
                  · subst hij
                    rw [HE.out] at hy
                    cases hy
                    unfold okE
                    rw [N1.out, N2.out]
                    rfl
                  · exact hallj.out i y (by omega) hy
                go_wp2
                go_roundw
                case rel => exact ⟨j + 1, by have := HJM.out; omega, by go_num, GJ, AJ⟩
                case measure => have := HJM.out; simp [Lib.intOf]; omega
          · obtain rfl : j = m := by omega
            have d2 : decide ((j : Int) < (j : Int)) = false := by simp
            have d2' : decide (j < j) = false := by simp
            have GK : Hid (GrowsS w (upTo r (k + 1)) u4 wr) := Lib.hid (by rw [upTo_succ r k x HX.out, ← List.take_length (l := x.es), ← MM.out]; exact hgj.out)
            have AK : Hid (∀ i y, i < k + 1 → r.ls[i]? = some y → okL y = true) := Lib.hid fun i y hi hy => by
              by_cases hik : i = k
              · subst hik
                rw [HX.out] at hy
                cases hy
                exact okL_of HOK.out fun j e he => hallj.out j e (by rw [MM.out]; exact (List.getElem?_eq_some_iff.1 he).1) he
              · exact hall.out i y (by omega) hy
            go_wp2
            go_roundw
            case rel => exact ⟨k + 1, by have := HKN.out; omega, by go_num, GK, AK⟩
            case measure => have := HKN.out; simp [Lib.intOf]; omega
      · have SN := Lib.hid (fun w1 hv => slot_no x (.slice ea x.es.length ec) (HW.out.ls x XM.out).1 (by simpa using hok) w1 hv)
        have HOK := Lib.hid hok
        clear hok
        unfold Lv noE at SN
        go_wp2_with (refine wpList_load_mid rfl 54 _ rfl b (off + k * 8) rfl _ _ HRG.out Tryd.underlying54 rfl (size_line x (.slice ea x.es.length ec)) ?_)
        clear hWB
        refine (SN.out _ (VW.out _ GB.out.below)).mono ?_
        rintro e w5 ⟨rfl, hb5⟩
        have BZ := Lib.hid (bgo GB.out.below (Nat.le_refl _) hb5)
        clear hb5
        go_wp2
        exact ⟨rfl, .inr ⟨okR_not HX.out (okL_not (by simpa using HOK.out)), rfl, BZ.out⟩⟩
    · obtain rfl : k = n := by omega
      have d1 : decide ((k : Int) < (k : Int)) = false := by simp
      have d1' : decide (k < k) = false := by simp
      have GF : Hid (GrowsS w (dump r) uo wo) := Lib.hid (by rw [← upTo_all, ← NN.out]; exact hg.out)
      have OK : Hid (okR r = true) := Lib.hid (okR_all HS.out fun i y hy => hall.out i y (by rw [NN.out]; exact (List.getElem?_eq_some_iff.1 hy).1) hy)
      go_wp2
      go_ret
      exact .inl ⟨_, OK.out, rfl, GF.out⟩
end Pd
end Go.Proofs.YtheldnamllnkeaaDoor
