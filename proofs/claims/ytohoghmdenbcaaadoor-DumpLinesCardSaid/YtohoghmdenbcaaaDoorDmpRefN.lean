/- The contract of the document's Lines. -/
import Derived.Test.YtohoghmdenbcaaaDoorDmpRefP
import Derived.Test.YtohoghmdenbcaaaDoorDmpThere
namespace Go.Proofs.YtohoghmdenbcaaaDoor
namespace Pd
open Go.RowKit Dsk Go.Maps
set_option maxRecDepth 100000
set_option linter.unusedVariables false

theorem LIs.no {r : Rp} {w w' : World} (h : okR r = false) (hb : Below w.heap.size w w') : LIs r w (.returned (.tuple #[.slice none 0 0, .int .i64 1])) w' := ⟨_, by rw [(dumpE_no h).1], by rw [(dumpE_no h).2]; exact GrowsS.nil hb⟩
theorem okR_notS {r : Rp} (h : okS r = false) : okR r = false := by unfold okR; rw [h]; rfl
set_option maxHeartbeats 4000000 in
theorem rlines_any (r : Rp) (a : Option Addr) (c : Nat) (hw : Wr r) (hn : r.ls.length ≤ 60) (hes : ∀ x ∈ r.ls, x.es.length ≤ 60) (w : World) (hl : RLns w a r.ls) :
    Calls Tryd.prog 9 #[Rv r a c] w (LIs r w) := by
  obtain ⟨W0, hW0⟩ : ∃ W0, w.alloc (.cells #[.int .i64 r.s, .int .i64 r.o, .int .i64 r.c, .slice a r.ls.length c] 36) = W0 := ⟨_, rfl⟩
  have hB0 : Below w.heap.size w W0 := by rw [← hW0]; exact (Below.refl _ _).alloc (Nat.le_refl _) _
  have hR0 : W0.heap[w.heap.size]? = some (.cells #[.int .i64 r.s, .int .i64 r.o, .int .i64 r.c, .slice a r.ls.length c] 36 (0, 0)) := by rw [← hW0]; exact heap_alloc_new _ _
  obtain ⟨W1, hW1⟩ : ∃ W1, W0.alloc (.cells #[.int .i64 r.s, .int .i64 r.o, .int .i64 r.c] 3) = W1 := ⟨_, rfl⟩
  have B1 : Hid (Below W0.heap.size W0 W1) := Lib.hid (by rw [← hW1]; exact (Below.refl _ _).alloc (Nat.le_refl _) _)
  have R1 : W1.heap[W0.heap.size]? = some (.cells #[.int .i64 r.s, .int .i64 r.o, .int .i64 r.c] 3 (0, 0)) := by rw [← hW1]; exact heap_alloc_new _ _
  have I1 : Hid (IRow W1 W0.heap.size [r.s, r.o, r.c]) := Lib.hid (ints_made R1)
  have L1 : Hid (W0.heap.size < W1.heap.size) := Lib.hid (Array.getElem?_eq_some_iff.1 R1).1
  have IN : Hid (Calls Tryd.prog 19 #[.slice (some ⟨W0.heap.size, 0, none⟩) 3 3] W1 fun e w' => e = .returned (.bool (okS r)) ∧ W1 = w') := Lib.hid (by rw [← all_D r]; exact in_any [r.s, r.o, r.c] W0.heap.size W1 I1.out (by show 3 ≤ 1000; omega))
  have HB0 := Lib.hid hB0
  have HR0 := Lib.hid hR0
  have LT0 : Hid (w.heap.size < W0.heap.size) := Lib.hid (Array.getElem?_eq_some_iff.1 hR0).1
  have RL0 := Lib.hid (hl.below hB0)
  have HW := Lib.hid hw
  have HES := Lib.hid hes
  have e0 : W0.cell? ⟨w.heap.size, 0, none⟩ = some (.int .i64 r.s) := by rw [cell_of_row _ _ _ _ _ _ hR0]; rfl
  have e1 : W0.cell? ⟨w.heap.size, 1, none⟩ = some (.int .i64 r.o) := by rw [cell_of_row _ _ _ _ _ _ hR0]; rfl
  have e2 : W0.cell? ⟨w.heap.size, 2, none⟩ = some (.int .i64 r.c) := by rw [cell_of_row _ _ _ _ _ _ hR0]; rfl
  clear hw hes hl hB0 hR0 R1
  unfold Rv
  go_enter Tryd.func9, Tryd.ntmps9
  go_wp2_with fail
  clear hW0 hW1 e0 e1 e2
  refine IN.out.mono ?_
  rintro e w2 ⟨rfl, rfl⟩
  cases hS : okS r with
  | false =>
    have NO := Lib.hid (okR_notS hS)
    clear hS
    go_wp2
    go_ret2
    exact LIs.no NO.out (bgo HB0.out (Nat.le_refl _) B1.out)
  | true =>
    have HS := Lib.hid hS
    have SP := Lib.hid (okS_parts hS)
    have LN : Hid (Calls Tryd.prog 20 #[.string ⟨#[100, 105, 115, 107, 32, 35, 32, 111, 114, 105, 103, 105, 110, 32, 35, 32, 99, 104, 117, 110, 107, 32, 35]⟩, .slice (some ⟨W0.heap.size, 0, none⟩) 3 3] W1 fun e w' => e = .returned (.string (Om.B (line (supW r)))) ∧ Below W1.heap.size W1 w') := Lib.hid (by
      rw [← fill_D r]
      exact line_any formD [r.s, r.o, r.c] W0.heap.size W1 I1.out L1.out (by decide) (by rw [signs_D]; rfl) (fun z hz => by
        simp only [List.mem_cons, List.not_mem_nil, or_false] at hz
        rcases hz with rfl | rfl | rfl
        · exact SP.out.1
        · exact SP.out.2.1
        · exact SP.out.2.2))
    clear hS
    go_wp2_with fail
    refine LN.out.mono ?_
    rintro e w4 ⟨rfl, hb4⟩
    obtain ⟨W5, hW5⟩ : ∃ W5, w4.alloc (.cells #[.string (Om.B (line (supW r)))] 9) = W5 := ⟨_, rfl⟩
    have GW : Hid (GrowsS W0 (upTo r 0) (.slice (some ⟨w4.heap.size, 0, none⟩) 1 1) W5) := Lib.hid (by
      have b4 : Below W0.heap.size W0 w4 := bgo B1.out (Nat.le_refl _) hb4
      refine ⟨?_, fun k hk => by cases hk; exact b4.size, by rw [← hW5]; exact bgo b4 (Nat.le_refl _) ((Below.refl _ _).alloc (Nat.le_refl _) _)⟩
      rw [← hW5, upTo_zero]
      exact strs_made 1 rfl (by omega) (heap_alloc_new _ _))
    clear hb4
    obtain ⟨n, hnn⟩ : ∃ n, n = r.ls.length := ⟨_, rfl⟩
    rw [← hnn] at hn HR0
    have NN := Lib.hid hnn
    clear hnn
    have C3 : Hid (∀ W, Below W0.heap.size W0 W → W.cell? ⟨w.heap.size, 3, none⟩ = some (.slice a n c)) := Lib.hid fun W hb => by rw [cell_of_row _ _ _ _ _ _ ((hb.block _ LT0.out).trans HR0.out)]; rfl
    go_wp2
    clear hW5
    go_loopw [6, 7] (fun l i wr => ∃ k : Nat, k ≤ n ∧ i = .int .i64 k ∧ Hid (GrowsS W0 (upTo r k) l wr) ∧ Hid (∀ j x, j < k → r.ls[j]? = some x → okL x = true)) (fun _ i _ => n - (Lib.intOf i).toNat)
    case atStart => exact ⟨0, Nat.zero_le _, rfl, GW, Lib.hid fun j x hj => absurd hj (Nat.not_lt_zero _)⟩
    case round =>
      obtain ⟨k, hk, rfl, hg, hall⟩ := hrel
      obtain ⟨wo, rfl⟩ : ∃ wo, wo = wr := ⟨_, rfl⟩
      obtain ⟨uo, rfl⟩ : ∃ uo, uo = u6 := ⟨_, rfl⟩
      have c3 := C3.out wo hg.out.below
      by_cases hlt : k < n
      · have hkl : k < r.ls.length := by rw [← NN.out]; exact hlt
        obtain ⟨x, hx⟩ : ∃ x, x = r.ls[k] := ⟨_, rfl⟩
        have HX : Hid (r.ls[k]? = some x) := Lib.hid (by rw [hx]; exact List.getElem?_eq_getElem hkl)
        obtain ⟨b, off, ea, ec, rfl, hbl, hrg, hre⟩ := RL0.out.get HX.out
        have XM : Hid (x ∈ r.ls) := Lib.hid (List.mem_of_getElem? HX.out)
        have XE : Hid (x.es.length ≤ 60) := Lib.hid (HES.out x XM.out)
        have HRG := Lib.hid (rangeAt_below hrg hg.out.below hbl)
        have HRE := Lib.hid hre
        have HKN := Lib.hid hlt
        have XG : Hid (x.g ≤ 4294967295) := Lib.hid (HW.out.ls x XM.out).1.g
        unfold lcells at HRG
        have d1 : decide ((k : Int) < (n : Int)) = true := by simp; omega
        have d1' : decide (k < n) = true := by simp; omega
        have k0 : (0 : Int) ≤ (k : Int) := by omega
        have k1 : (k : Int) < (n : Int) := by omega
        have hw1 : IntKind.i64.wrap ((k : Int) + 1) = ((k + 1 : Nat) : Int) := by rw [IntWalk.i64_in _ (by omega)]; rfl
        have hgw : IntKind.i64.wrap (x.g : Int) = (x.g : Int) := IntWalk.i64_in _ (by have := XG.out; omega)
        obtain ⟨WB, hWB⟩ : ∃ WB, wo.alloc (.cells #[.int .i64 x.id, .int .i64 x.st, .int .i64 x.a, .int .i64 x.n, .int .u32 (x.g : Int), .int .i64 x.room, .bool x.inv, .slice ea x.es.length ec] 63) = WB := ⟨_, rfl⟩
        have BB : Hid (Below wo.heap.size wo WB) := Lib.hid (by rw [← hWB]; exact (Below.refl _ _).alloc (Nat.le_refl _) _)
        have RB : Hid (WB.heap[wo.heap.size]? = some (.cells #[.int .i64 x.id, .int .i64 x.st, .int .i64 x.a, .int .i64 x.n, .int .u32 (x.g : Int), .int .i64 x.room, .bool x.inv, .slice ea x.es.length ec] 63 (0, 0))) := Lib.hid (by rw [← hWB]; exact heap_alloc_new _ _)
        obtain ⟨WC, hWC⟩ : ∃ WC, WB.alloc (.cells #[.int .i64 x.id, .int .i64 x.a, .int .i64 x.n, .int .i64 (x.g : Int), .int .i64 x.room] 3) = WC := ⟨_, rfl⟩
        have BC : Hid (Below WB.heap.size WB WC) := Lib.hid (by rw [← hWC]; exact (Below.refl _ _).alloc (Nat.le_refl _) _)
        have RC0 : WC.heap[WB.heap.size]? = some (.cells #[.int .i64 x.id, .int .i64 x.a, .int .i64 x.n, .int .i64 (x.g : Int), .int .i64 x.room] 3 (0, 0)) := by rw [← hWC]; exact heap_alloc_new _ _
        have IC : Hid (IRow WC WB.heap.size [x.id, x.a, x.n, (x.g : Int), x.room]) := Lib.hid (ints_made RC0)
        have LC : Hid (WB.heap.size < WC.heap.size) := Lib.hid (Array.getElem?_eq_some_iff.1 RC0).1
        obtain ⟨al, hal⟩ : ∃ al, al = [x.id, x.a, x.n, (x.g : Int), x.room].all okN := ⟨_, rfl⟩
        have IN2 : Hid (Calls Tryd.prog 19 #[.slice (some ⟨WB.heap.size, 0, none⟩) 5 5] WC fun e w' => e = .returned (.bool al) ∧ WC = w') := Lib.hid (by rw [hal]; exact in_any [x.id, x.a, x.n, (x.g : Int), x.room] WB.heap.size WC IC.out (by show 5 ≤ 1000; omega))
        have AL := Lib.hid hal
        have LB : Hid (wo.heap.size < WB.heap.size) := Lib.hid (Array.getElem?_eq_some_iff.1 RB.out).1
        have CB : Hid (∀ W, Below WB.heap.size WB W → ∀ j v, #[Value.int .i64 x.id, .int .i64 x.st, .int .i64 x.a, .int .i64 x.n, .int .u32 (x.g : Int), .int .i64 x.room, .bool x.inv, .slice ea x.es.length ec][j]? = some v → W.cell? ⟨wo.heap.size, j, none⟩ = some v) := Lib.hid fun W hb j v h => by rw [cell_of_row _ _ _ _ _ _ ((hb.block _ LB.out).trans RB.out)]; exact h
        have e0 := CB.out WB (Below.refl _ _) 0 _ rfl
        have e2 := CB.out WB (Below.refl _ _) 2 _ rfl
        have e3 := CB.out WB (Below.refl _ _) 3 _ rfl
        have e4 := CB.out WB (Below.refl _ _) 4 _ rfl
        have e5 := CB.out WB (Below.refl _ _) 5 _ rfl
        have GC := Lib.hid ((hg.out.more BB.out).more BC.out)
        clear hrg hre hbl hkl hx RC0 hal
        go_wp2_with (refine wpList_load_mid rfl 63 _ rfl b (off + k * 8) rfl _ _ HRG.out Tryd.underlying63 rfl (size_rline x (.slice ea x.es.length ec)) ?_)
        clear hWB hWC e0 e2 e3 e4 e5
        refine IN2.out.mono ?_
        rintro e w5 ⟨rfl, rfl⟩
        have t1 := CB.out WC BC.out 1 _ rfl
        cases al with
        | false =>
          have NO : Hid (okR r = false) := Lib.hid (okR_not HX.out (okL_not (by cases hh : okH x with | false => rfl | true => exact absurd ((okH_iff x XG.out).1 hh).1 (by rw [← AL.out]; decide))))
          go_wp2
          go_ret2
          exact LIs.no NO.out (bgo HB0.out (Nat.le_refl _) GC.out.below)
        | true =>
          by_cases hst : x.st = 1 ∨ x.st = 2
          · have HOK : Hid (okH x = true) := Lib.hid ((okH_iff x XG.out).2 ⟨AL.out.symm, hst⟩)
            obtain ⟨mg, hmg⟩ : ∃ mg : Bool, (mg = true ∧ x.st = 2) ∨ (mg = false ∧ x.st = 1) := by
              rcases hst with h | h
              · exact ⟨false, .inr ⟨rfl, h⟩⟩
              · exact ⟨true, .inl ⟨rfl, h⟩⟩
            have FO := Lib.hid (forms_any mg x.inv WC)
            have LN2 : Hid (Calls Tryd.prog 20 #[.string (Om.B (formS mg x.inv)), .slice (some ⟨WB.heap.size, 0, none⟩) 5 5] WC fun e w' => e = .returned (.string (Om.B (line (slotW x)))) ∧ Below WC.heap.size WC w') := Lib.hid (by
              rw [← fill_S x mg hmg]
              have h5 := List.all_eq_true.1 AL.out.symm
              exact line_any (formS mg x.inv) [x.id, x.a, x.n, (x.g : Int), x.room] WB.heap.size WC IC.out LC.out (size_S _ _) (by rw [signs_S]; rfl) h5)
            have t6 := CB.out WC BC.out 6 _ rfl
            have OB : Hid (∀ j, uo.ownBlock = some j → j < wo.heap.size) := Lib.hid fun j hj => strs_block hg.out.row j hj
            have LU : Hid ((upTo r k).length ≤ 1000000) := Lib.hid (upTo_length r k HES.out (by rw [← NN.out]; exact hn))
            clear hst
            rcases hmg with ⟨rfl, hs⟩ | ⟨rfl, hs⟩
            all_goals
              rw [hs] at t1
              go_wp2_with fail
              refine FO.out.mono ?_
              rintro e w6 ⟨rfl, rfl⟩
              go_wp2_with fail
              clear t1 t6
              refine LN2.out.mono ?_
              rintro e w7 ⟨rfl, hb7⟩
              have G7 := Lib.hid (GC.out.more hb7)
              obtain ⟨W8, hW8⟩ : ∃ W8, w7.alloc (.cells #[.string (Om.B (line (slotW x)))] 9) = W8 := ⟨_, rfl⟩
              have B8 : Hid (Below w7.heap.size w7 W8) := Lib.hid (by rw [← hW8]; exact (Below.refl _ _).alloc (Nat.le_refl _) _)
              have C8 : Hid (W8.heap[w7.heap.size]? = some (.cells #[.string (Om.B (line (slotW x)))] 9 (0, 0))) := Lib.hid (by rw [← hW8]; exact heap_alloc_new _ _)
              have BB8 : Hid (Below WB.heap.size WB W8) := Lib.hid (bgo (bgo BC.out (Nat.le_refl _) hb7) (Nat.le_refl _) B8.out)
              clear hb7
              go_wp2_with (at_builtin; refine wpList_addS rfl _ _ rfl uo (upTo r k) rfl (strs_next G7.out.row B8.out) LU.out _ (line (slotW x)) rfl C8.out ?_; refine Hid.out ?_)
              refine Lib.hid ?_
              intro v9 w9 h1 h2 h3
              have G9 := Lib.hid ((G7.out.more B8.out).add h1 h2 h3)
              obtain ⟨m, hm⟩ : ∃ m, m = x.es.length := ⟨_, rfl⟩
              have R9 : Hid (w9.heap[wo.heap.size]? = some (.cells #[.int .i64 x.id, .int .i64 x.st, .int .i64 x.a, .int .i64 x.n, .int .u32 (x.g : Int), .int .i64 x.room, .bool x.inv, .slice ea m ec] 63 (0, 0))) := Lib.hid (by rw [hm]; exact (h2.block wo.heap.size (Nat.lt_of_lt_of_le LB.out BB8.out.size) (fun c => by have := OB.out _ c; omega)).trans ((BB8.out.block _ LB.out).trans RB.out))
              have N9 : Hid (∀ i, v9.ownBlock = some i → i ≠ wo.heap.size) := Lib.hid fun i hi => by
                rcases h3 i hi with e | e
                · have := OB.out _ e; omega
                · have := LB.out; have := BB8.out.size; omega
              have MM := Lib.hid hm
              have hmm : m ≤ 60 := by rw [hm]; exact XE.out
              clear hm h1 h2 h3 hW8
              have c7 : w9.cell? ⟨wo.heap.size, 7, none⟩ = some (.slice ea m ec) := by rw [cell_of_row _ _ _ _ _ _ R9.out]; rfl
              go_wp2
              clear c7
              go_loopw [6, 11] (fun l i wq => ∃ j : Nat, j ≤ m ∧ i = .int .i64 j ∧ Hid (GrowsS W0 (upTo r k ++ [line (slotW x)] ++ (x.es.take j).map fun e => line (entW e)) l wq) ∧ Hid (∀ i e, i < j → x.es[i]? = some e → okE e = true) ∧ Hid (wq.heap[wo.heap.size]? = some (.cells #[.int .i64 x.id, .int .i64 x.st, .int .i64 x.a, .int .i64 x.n, .int .u32 (x.g : Int), .int .i64 x.room, .bool x.inv, .slice ea m ec] 63 (0, 0))) ∧ Hid (∀ i, l.ownBlock = some i → i ≠ wo.heap.size)) (fun _ i _ => m - (Lib.intOf i).toNat)
              case atStart => exact ⟨0, Nat.zero_le _, rfl, Lib.hid (by simpa using G9.out), Lib.hid (fun j e hj => absurd hj (Nat.not_lt_zero _)), R9, N9⟩
              case round =>
                obtain ⟨j, hj, rfl, hgj, hallj, hbox, hnb⟩ := hrel
                have c7 : wr.cell? ⟨wo.heap.size, 7, none⟩ = some (.slice ea m ec) := by rw [cell_of_row _ _ _ _ _ _ hbox.out]; rfl
                by_cases hlj : j < m
                · have hjl : j < x.es.length := by rw [← MM.out]; exact hlj
                  obtain ⟨e, he⟩ : ∃ e, e = x.es[j] := ⟨_, rfl⟩
                  have HE : Hid (x.es[j]? = some e) := Lib.hid (by rw [he]; exact List.getElem?_eq_getElem hjl)
                  obtain ⟨eb, eo, rfl, q0, q1⟩ := HRE.out.get hgj.out.below hjl
                  rw [← he] at q0 q1
                  have d2 : decide ((j : Int) < (m : Int)) = true := by simp; omega
                  have d2' : decide (j < m) = true := by simp; omega
                  have j0 : (0 : Int) ≤ (j : Int) := by omega
                  have j1 : (j : Int) < (m : Int) := by omega
                  have hw2 : IntKind.i64.wrap ((j : Int) + 1) = ((j + 1 : Nat) : Int) := by rw [IntWalk.i64_in _ (by omega)]; rfl
                  have HJM := Lib.hid hlj
                  clear he hjl
                  obtain ⟨WE, hWE⟩ : ∃ WE, (wr.alloc (.cells #[.int .i64 e.1, .int .i64 e.2] 3)).drew = WE := ⟨_, rfl⟩
                  have BE : Hid (Below wr.heap.size wr WE) := Lib.hid (by rw [← hWE]; exact ((Below.refl _ _).alloc (Nat.le_refl _) _).drew)
                  have RE0 : WE.heap[wr.heap.size]? = some (.cells #[.int .i64 e.1, .int .i64 e.2] 3 (0, 0)) := by rw [← hWE]; exact heap_alloc_new _ _
                  have IE : Hid (IRow WE wr.heap.size [e.1, e.2]) := Lib.hid (ints_made RE0)
                  have LE : Hid (wr.heap.size < WE.heap.size) := Lib.hid (Array.getElem?_eq_some_iff.1 RE0).1
                  have IN3 : Hid (Calls Tryd.prog 19 #[.slice (some ⟨wr.heap.size, 0, none⟩) 2 2] WE fun e' w' => e' = .returned (.bool (okE e)) ∧ WE = w') := Lib.hid (by rw [← all_E e]; exact in_any [e.1, e.2] wr.heap.size WE IE.out (by show 2 ≤ 1000; omega))
                  have GE := Lib.hid (hgj.out.more BE.out)
                  obtain ⟨LL, hLL⟩ : ∃ LL, LL = upTo r k ++ [line (slotW x)] ++ (x.es.take j).map fun e => line (entW e) := ⟨_, rfl⟩
                  have LEN : Hid (LL.length ≤ 1000000) := Lib.hid (by rw [hLL, List.length_append, List.length_append, List.length_map, List.length_take, List.length_singleton]; have := upTo_length' r k HES.out (by rw [← NN.out]; exact hn); omega)
                  rw [← hLL] at GE
                  have HLL := Lib.hid hLL
                  have LTB : Hid (wo.heap.size < wr.heap.size) := Lib.hid (Array.getElem?_eq_some_iff.1 hbox.out).1
                  clear hLL RE0
                  go_wp2
                  go_region
                  try rw [hWE]
                  clear hWE q0 q1 c7
                  go_wp2_with fail
                  refine IN3.out.mono ?_
                  rintro e' w12 ⟨rfl, rfl⟩
                  cases hE : okE e with
                  | false =>
                    have NO : Hid (okR r = false) := Lib.hid (okR_not HX.out (okL_notE HE.out hE))
                    clear hE
                    go_wp2
                    go_ret2
                    exact LIs.no NO.out (bgo HB0.out (Nat.le_refl _) GE.out.below)
                  | true =>
                    have OE := Lib.hid hE
                    have LN3 : Hid (Calls Tryd.prog 20 #[.string ⟨#[101, 110, 116, 114, 121, 32, 35, 32, 35]⟩, .slice (some ⟨wr.heap.size, 0, none⟩) 2 2] WE fun e' w' => e' = .returned (.string (Om.B (line (entW e)))) ∧ Below WE.heap.size WE w') := Lib.hid (by
                      rw [← fill_E e]
                      have h2 := okE_parts OE.out
                      exact line_any formE [e.1, e.2] wr.heap.size WE IE.out LE.out (by decide) (by rw [signs_E]; rfl) (fun z hz => by
                        simp only [List.mem_cons, List.not_mem_nil, or_false] at hz
                        rcases hz with rfl | rfl
                        · exact h2.1
                        · exact h2.2))
                    clear hE
                    go_wp2_with fail
                    refine LN3.out.mono ?_
                    rintro e' w13 ⟨rfl, hb13⟩
                    obtain ⟨W14, hW14⟩ : ∃ W14, w13.alloc (.cells #[.string (Om.B (line (entW e)))] 9) = W14 := ⟨_, rfl⟩
                    have B14 : Hid (Below WE.heap.size WE W14) := Lib.hid (by rw [← hW14]; exact bgo hb13 (Nat.le_refl _) ((Below.refl _ _).alloc (Nat.le_refl _) _))
                    have C14 : Hid (W14.heap[w13.heap.size]? = some (.cells #[.string (Om.B (line (entW e)))] 9 (0, 0))) := Lib.hid (by rw [← hW14]; exact heap_alloc_new _ _)
                    clear hb13
                    go_wp2_with (at_builtin; refine wpList_addS rfl _ _ rfl u6 LL rfl (strs_next GE.out.row B14.out) LEN.out _ (line (entW e)) rfl C14.out ?_; refine Hid.out ?_)
                    refine Lib.hid ?_
                    intro v15 w15 h1 h2 h3
                    have GJ : Hid (GrowsS W0 (upTo r k ++ [line (slotW x)] ++ (x.es.take (j + 1)).map fun e => line (entW e)) v15 w15) := Lib.hid (by rw [List.take_add_one, HE.out, List.map_append, ← List.append_assoc, ← HLL.out]; exact (GE.out.more B14.out).add h1 h2 h3)
                    have B15 : Hid (Below wr.heap.size wr W14) := Lib.hid (bgo BE.out (Nat.le_refl _) B14.out)
                    have BJ := Lib.hid ((h2.block wo.heap.size (Nat.lt_of_lt_of_le LTB.out B15.out.size) (fun c => hnb.out _ c rfl)).trans ((B15.out.block _ LTB.out).trans hbox.out))
                    have NJ : Hid (∀ i, v15.ownBlock = some i → i ≠ wo.heap.size) := Lib.hid fun i hi => by
                      rcases h3 i hi with e | e
                      · exact hnb.out i e
                      · have := LTB.out; have := B15.out.size; omega
                    have AJ : Hid (∀ i e, i < j + 1 → x.es[i]? = some e → okE e = true) := Lib.hid fun i y hi hy => by
                      by_cases hij : i = j
                      · subst hij
                        rw [HE.out] at hy
                        cases hy
                        exact OE.out
                      · exact hallj.out i y (by omega) hy
                    clear h1 h2 h3 hW14
                    go_wp2
                    go_roundw
                    case rel => exact ⟨j + 1, by have := HJM.out; omega, by go_num, GJ, AJ, BJ, NJ⟩
                    case measure => have := HJM.out; simp [Lib.intOf]; omega
                · obtain rfl : j = m := by omega
                  have d2 : decide ((j : Int) < (j : Int)) = false := by simp
                  have d2' : decide (j < j) = false := by simp
                  have GK : Hid (GrowsS W0 (upTo r (k + 1)) u6 wr) := Lib.hid (by rw [upTo_succ r k x HX.out, ← List.take_length (l := x.es), ← MM.out]; exact hgj.out)
                  have AK : Hid (∀ i y, i < k + 1 → r.ls[i]? = some y → okL y = true) := Lib.hid fun i y hi hy => by
                    by_cases hik : i = k
                    · subst hik
                      rw [HX.out] at hy
                      cases hy
                      exact okL_of HOK.out fun j e he => hallj.out j e (by rw [MM.out]; exact (List.getElem?_eq_some_iff.1 he).1) he
                    · exact hall.out i y (by omega) hy
                  go_wp2
                  go_roundw
                  case rel => exact ⟨k + 1, by have := HKN.out; omega, by go_num, GK, AK⟩
                  case measure => have := HKN.out; simp [Lib.intOf]; omega
          · have s1 : x.st ≠ 1 := fun e => hst (.inl e)
            have s2 : x.st ≠ 2 := fun e => hst (.inr e)
            have q1 : (x.st != 1) = true := by simpa using s1
            have q2 : (x.st != 2) = true := by simpa using s2
            have NO : Hid (okR r = false) := Lib.hid (okR_not HX.out (okL_not (by cases hh : okH x with | false => rfl | true => exact absurd ((okH_iff x XG.out).1 hh).2 hst)))
            clear hst s1 s2
            go_wp2
            go_ret2
            exact LIs.no NO.out (bgo HB0.out (Nat.le_refl _) GC.out.below)
      · obtain rfl : k = n := by omega
        have d1 : decide ((k : Int) < (k : Int)) = false := by simp
        have d1' : decide (k < k) = false := by simp
        have OKR : Hid (okR r = true) := Lib.hid (okR_all HS.out fun i y hy => hall.out i y (by rw [NN.out]; exact (List.getElem?_eq_some_iff.1 hy).1) hy)
        go_wp2
        go_ret2
        exact ⟨_, by rw [(dumpE_ok OKR.out).1]; rfl, by rw [(dumpE_ok OKR.out).2, ← upTo_all, ← NN.out]; exact hg.out.from HB0.out⟩
end Pd
end Go.Proofs.YtohoghmdenbcaaaDoor
