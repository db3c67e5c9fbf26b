/- The contract of dump's words.slot. -/
import Derived.Test.YtheldnamllnkeaaDoorDmpSupP
import Derived.Test.YtheldnamllnkeaaDoorDmpRow
namespace Go.Proofs.YtheldnamllnkeaaDoor
namespace Pd
open Go.RowKit Dsk
set_option maxRecDepth 100000
set_option linter.unusedVariables false

/-- What is so between two calls: the line is made in block S. -/
structure Ys (W0 : World) (k S : Nat) (ws : List (List UInt8)) (cs : Array Value) (W : World) : Prop where
  fr : Fr (fun i => i = k ∨ i = S) W0 W
  row : W.heap[S]? = some (.cells cs 54 (0, 0))
  wd : Wd W k ws
  vs : Vs W
  ne : S ≠ k
  far : 0 < S ∧ 2 < S ∧ 3 < S
theorem Ys.call {W0 W W' : World} {k S : Nat} {ws ws' : List (List UInt8)} {cs : Array Value} (h : Ys W0 k S ws cs W) (hw : Wd W' k ws') (hf : Fr (fun i => i = k) W W') : Ys W0 k S ws' cs W' :=
  ⟨h.fr.trans (hf.mono fun i _ e => .inl e) fun i _ e => e, (hf.block S (Array.getElem?_eq_some_iff.1 h.row).1 h.ne).trans h.row, hw, vs_fr h.vs hf h.wd.far, h.ne, h.far⟩
theorem Ys.stop {W0 W W' : World} {k S : Nat} {ws : List (List UInt8)} {cs : Array Value} (h : Ys W0 k S ws cs W) (hf : Fr (fun i => i = k) W W') : Fr (fun i => i = k ∨ i = S) W0 W' := h.fr.trans (hf.mono fun i _ e => .inl e) fun i _ e => e
theorem Ys.set {W0 W : World} {k S : Nat} {ws : List (List UInt8)} {cs : Array Value} (h : Ys W0 k S ws cs W) (j : Nat) (v : Value) : Ys W0 k S ws (cs.setIfInBounds j v) (W.setCell ⟨S, j, none⟩ v) := by
  have hf : Fr (fun i => i = S) W (W.setCell ⟨S, j, none⟩ v) := (Fr.refl (fun i => i = S) W).setCell ⟨S, j, none⟩ rfl v
  exact ⟨h.fr.trans (hf.mono fun i _ e => .inr e) fun i _ e => e, heap_setCell_same _ _ _ _ _ v h.row, h.wd.fr hf fun e => h.ne e.symm, vs_fr h.vs hf h.far, h.ne, h.far⟩
theorem Ys.froz {W0 W : World} {k S : Nat} {ws : List (List UInt8)} {cs : Array Value} (h : Ys W0 k S ws cs W) (j : Nat) : W.frozen? ⟨S, j, none⟩ = false := frozen_of_row (j := j) _ _ _ _ h.row
theorem Ys.cell {W0 W : World} {k S : Nat} {ws : List (List UInt8)} {cs : Array Value} (h : Ys W0 k S ws cs W) (j : Nat) {v : Value} (hv : cs[j]? = some v) : W.cell? ⟨S, j, none⟩ = some v := by rw [cell_of_row _ _ _ _ _ _ h.row]; exact hv
abbrev noX : Ending := .panicked [{ v := .iface 74 (.agg #[]), recovered := false }]
theorem ys_num_ok {W0 W : World} {k S n : Nat} {ws : List (List UInt8)} {cs : Array Value} (h : Ys W0 k S ws cs W) (hn : numW (ws.headD []) = some n) :
    Calls Tryd.prog 39 #[.pointer (some ⟨k, 0, none⟩)] W fun e w' => e = .returned (.int .i64 (n : Int)) ∧ Ys W0 k S ws.tail cs w' :=
  (num_ok h.wd h.vs hn).mono fun e w' ⟨h1, h2, h3⟩ => ⟨h1, h.call h2 h3⟩
theorem ys_num_no {W0 W : World} {k S : Nat} {ws : List (List UInt8)} {cs : Array Value} (h : Ys W0 k S ws cs W) (hn : numW (ws.headD []) = none) :
    Calls Tryd.prog 39 #[.pointer (some ⟨k, 0, none⟩)] W fun e w' => e = .panicked [{ v := .iface 74 (.agg #[]), recovered := false }] ∧ Fr (fun i => i = k ∨ i = S) W0 w' :=
  (num_no h.wd h.vs hn).mono fun e w' ⟨h1, h3⟩ => ⟨h1, h.stop h3⟩
theorem ys_st_ok {W0 W : World} {k S : Nat} {n : Int} {ws : List (List UInt8)} {cs : Array Value} (h : Ys W0 k S ws cs W) (hn : stW (ws.headD []) = some n) :
    Calls Tryd.prog 49 #[.pointer (some ⟨k, 0, none⟩)] W fun e w' => e = .returned (.int .i64 n) ∧ Ys W0 k S ws.tail cs w' :=
  (st_ok h.wd hn).mono fun e w' ⟨h1, h2, h3⟩ => ⟨h1, h.call h2 h3⟩
theorem ys_st_no {W0 W : World} {k S : Nat} {ws : List (List UInt8)} {cs : Array Value} (h : Ys W0 k S ws cs W) (hn : stW (ws.headD []) = none) :
    Calls Tryd.prog 49 #[.pointer (some ⟨k, 0, none⟩)] W fun e w' => e = .panicked [{ v := .iface 74 (.agg #[]), recovered := false }] ∧ Fr (fun i => i = k ∨ i = S) W0 w' :=
  (st_no h.wd hn).mono fun e w' ⟨h1, h3⟩ => ⟨h1, h.stop h3⟩
theorem ys_aft_ok {W0 W : World} {k S n : Nat} {ws : List (List UInt8)} {cs : Array Value} (wd : List UInt8) (h : Ys W0 k S ws cs W) (hn : afterP ws wd = some n) :
    Calls Tryd.prog 47 #[.pointer (some ⟨k, 0, none⟩), .string (Om.B wd)] W fun e w' => e = .returned (.int .i64 (n : Int)) ∧ Ys W0 k S ws.tail.tail cs w' :=
  (after_ok wd h.wd h.vs (afterP_some hn).1 (afterP_some hn).2).mono fun e w' ⟨h1, h2, h3⟩ => ⟨h1, h.call h2 h3⟩
theorem ys_aft_no {W0 W : World} {k S : Nat} {ws : List (List UInt8)} {cs : Array Value} (wd : List UInt8) (h : Ys W0 k S ws cs W) (hn : afterP ws wd = none) :
    Calls Tryd.prog 47 #[.pointer (some ⟨k, 0, none⟩), .string (Om.B wd)] W fun e w' => e = .panicked [{ v := .iface 74 (.agg #[]), recovered := false }] ∧ Fr (fun i => i = k ∨ i = S) W0 w' :=
  (after_no wd h.wd h.vs (afterP_none hn)).mono fun e w' ⟨h1, h3⟩ => ⟨h1, h.stop h3⟩
theorem ys_next {W0 W : World} {k S : Nat} {ws : List (List UInt8)} {cs : Array Value} (h : Ys W0 k S ws cs W) :
    Calls Tryd.prog 37 #[.pointer (some ⟨k, 0, none⟩)] W fun e w' => e = .returned (.string (Om.B (ws.headD []))) ∧ Ys W0 k S ws.tail cs w' :=
  (next_any h.wd).mono fun e w' ⟨h1, h2, h3⟩ => ⟨h1, h.call h2 h3⟩
/-- What slot tells. -/
def SlIs (k : Nat) (ws : List (List UInt8)) (w : World) (e : Ending) (w' : World) : Prop := (∃ x ws2, slotP ws = some (x, ws2) ∧ e = .returned (Lv x (.slice none 0 0)) ∧ Wd w' k ws2 ∧ Fr (fun i => i = k) w w') ∨ (slotP ws = none ∧ e = noE ∧ Fr (fun i => i = k) w w')
theorem zline_made (w W0 : World) (h : (w.alloc (.cells #[.int .i64 0, .int .i64 0, .int .i64 0, .int .i64 0, .int .u32 0, .int .i64 0, .bool false, .slice none 0 0] 54)).alloc (.cells #[.int .i64 0, .int .i64 0, .int .i64 0, .int .i64 0, .int .u32 0, .int .i64 0, .bool false, .slice none 0 0] 54) = W0) :
    Below w.heap.size w W0 ∧ W0.heap.size = w.heap.size + 2 ∧ W0.heap[w.heap.size]? = some (.cells #[.int .i64 0, .int .i64 0, .int .i64 0, .int .i64 0, .int .u32 0, .int .i64 0, .bool false, .slice none 0 0] 54 (0, 0)) ∧ W0.heap[w.heap.size + 1]? = some (.cells #[.int .i64 0, .int .i64 0, .int .i64 0, .int .i64 0, .int .u32 0, .int .i64 0, .bool false, .slice none 0 0] 54 (0, 0)) := by
  subst h
  generalize (Obj.cells #[.int .i64 0, .int .i64 0, .int .i64 0, .int .i64 0, .int .u32 0, .int .i64 0, .bool false, .slice none 0 0] 54) = ob
  have h1 := heap_alloc_new w ob
  have h2 := heap_alloc_new (w.alloc ob) ob
  have hs : (w.alloc ob).heap.size = w.heap.size + 1 := by simp
  rw [hs] at h2
  have hb : Below (w.heap.size + 1) (w.alloc ob) ((w.alloc ob).alloc ob) := (Below.refl _ _).alloc (by simp) _
  exact ⟨((Below.refl _ w).alloc (Nat.le_refl _) _).alloc (by simp) _, by simp, (hb.block _ (by omega)).trans h1, h2⟩
theorem frk {w W0 w' : World} {k : Nat} (hb : Below w.heap.size w W0) (hf : Fr (fun i => i = k ∨ i = w.heap.size + 1) W0 w') : Fr (fun i => i = k) w w' :=
  (Fr.of_below (F := fun i => i = k) hb).trans hf fun i hi e => by rcases e with e | e; exact e; omega
theorem size_cs {a b c d e f g h : Value} : (Tryd.prog.info? 54).map (·.size) = some (#[a, b, c, d, e, f, g, h] : Array Value).size := by
  show _ = some 8
  kernel_rfl
set_option maxHeartbeats 4000000 in
theorem slotp_any {w : World} {k : Nat} {ws : List (List UInt8)} (h : Wd w k ws) (hv : Vs w) :
    Calls Tryd.prog 38 #[.pointer (some ⟨k, 0, none⟩)] w (SlIs k ws w) := by
  obtain ⟨W0, hW0⟩ : ∃ W0, (w.alloc (.cells #[.int .i64 0, .int .i64 0, .int .i64 0, .int .i64 0, .int .u32 0, .int .i64 0, .bool false, .slice none 0 0] 54)).alloc (.cells #[.int .i64 0, .int .i64 0, .int .i64 0, .int .i64 0, .int .u32 0, .int .i64 0, .bool false, .slice none 0 0] 54) = W0 := ⟨_, rfl⟩
  obtain ⟨hB, hsz, hr0, hr1⟩ := zline_made w W0 hW0
  have hkl := h.lt
  have HB := Lib.hid hB
  have SZ := Lib.hid hsz
  have R0 := Lib.hid hr0
  have far : 0 < w.heap.size + 1 ∧ 2 < w.heap.size + 1 ∧ 3 < w.heap.size + 1 := by have := h.far; omega
  have Y0 : Hid (Ys W0 k (w.heap.size + 1) ws #[.int .i64 0, .int .i64 0, .int .i64 0, .int .i64 0, .int .u32 0, .int .i64 0, .bool false, .slice none 0 0] W0) := Lib.hid ⟨Fr.refl _ _, hr1, h.below hB, hv.below hB, by omega, far⟩
  have KN : Hid (w.heap.size ≠ k) := Lib.hid (by omega)
  clear h hv hB hsz hr0 hr1 far hkl
  unfold SlIs noE
  go_enter Tryd.func38, Tryd.ntmps38
  go_wp2_with fail
  clear hW0
  cases hp0 : numW (ws.headD []) with
  | none =>
    have P0 := Lib.hid hp0
    clear hp0
    go_wp2_with fail
    refine (ys_num_no Y0.out P0.out).mono ?_
    rintro e v0 ⟨rfl, hf⟩
    have F := Lib.hid (frk HB.out hf)
    clear hf
    go_wp2
    exact ⟨rfl, .inr ⟨(by unfold slotP; rw [P0.out]; rfl), rfl, F.out⟩⟩
  | some id =>
    have P0 := Lib.hid hp0
    clear hp0
    go_wp2_with fail
    refine (ys_num_ok Y0.out P0.out).mono ?_
    rintro e v0 ⟨rfl, hy⟩
    have z0 := Lib.hid hy
    have c0 := hy.cell 0 (v := .int .i64 0) rfl
    have f0 := hy.froz 0
    obtain ⟨V0, hV0⟩ : ∃ V, (v0.setCell ⟨w.heap.size + 1, 0, none⟩ (.int .i64 (id : Int))) = V := ⟨_, rfl⟩
    have Y1 : Hid (Ys W0 k (w.heap.size + 1) (ws.tail) #[.int .i64 (id : Int), .int .i64 0, .int .i64 0, .int .i64 0, .int .u32 0, .int .i64 0, .bool false, .slice none 0 0] V0) := Lib.hid (by rw [← hV0]; exact (hy.set 0 (.int .i64 (id : Int))))
    clear hy z0
    cases hp1 : stW ((ws.tail).headD []) with
    | none =>
      have P1 := Lib.hid hp1
      clear hp1
      go_wp2_with fail
      refine (ys_st_no Y1.out P1.out).mono ?_
      rintro e v1 ⟨rfl, hf⟩
      have F := Lib.hid (frk HB.out hf)
      clear hf
      go_wp2
      exact ⟨rfl, .inr ⟨(by unfold slotP; rw [P0.out, Option.bind_some, P1.out]; rfl), rfl, F.out⟩⟩
    | some st =>
      have P1 := Lib.hid hp1
      clear hp1
      go_wp2_with fail
      refine (ys_st_ok Y1.out P1.out).mono ?_
      rintro e v1 ⟨rfl, hy⟩
      have z0 := Lib.hid hy
      have c1 := hy.cell 1 (v := .int .i64 0) rfl
      have f1 := hy.froz 1
      obtain ⟨V1, hV1⟩ : ∃ V, (v1.setCell ⟨w.heap.size + 1, 1, none⟩ (.int .i64 st)) = V := ⟨_, rfl⟩
      have Y2 : Hid (Ys W0 k (w.heap.size + 1) (ws.tail.tail) #[.int .i64 (id : Int), .int .i64 st, .int .i64 0, .int .i64 0, .int .u32 0, .int .i64 0, .bool false, .slice none 0 0] V1) := Lib.hid (by rw [← hV1]; exact (hy.set 1 (.int .i64 st)))
      clear hy z0
      cases hp2 : numW ((ws.tail.tail).headD []) with
      | none =>
        have P2 := Lib.hid hp2
        clear hp2
        go_wp2_with fail
        refine (ys_num_no Y2.out P2.out).mono ?_
        rintro e v2 ⟨rfl, hf⟩
        have F := Lib.hid (frk HB.out hf)
        clear hf
        go_wp2
        exact ⟨rfl, .inr ⟨(by unfold slotP; rw [P0.out, Option.bind_some, P1.out, Option.bind_some, P2.out]; rfl), rfl, F.out⟩⟩
      | some a =>
        have P2 := Lib.hid hp2
        clear hp2
        go_wp2_with fail
        refine (ys_num_ok Y2.out P2.out).mono ?_
        rintro e v2 ⟨rfl, hy⟩
        have Y3 := Lib.hid hy
        clear hy
        cases hp3 : numW ((ws.tail.tail.tail).headD []) with
        | none =>
          have P3 := Lib.hid hp3
          clear hp3
          go_wp2_with fail
          refine (ys_num_no Y3.out P3.out).mono ?_
          rintro e v3 ⟨rfl, hf⟩
          have F := Lib.hid (frk HB.out hf)
          clear hf
          go_wp2
          exact ⟨rfl, .inr ⟨(by unfold slotP; rw [P0.out, Option.bind_some, P1.out, Option.bind_some, P2.out, Option.bind_some, P3.out]; rfl), rfl, F.out⟩⟩
        | some n =>
          have P3 := Lib.hid hp3
          clear hp3
          go_wp2_with fail
          refine (ys_num_ok Y3.out P3.out).mono ?_
          rintro e v3 ⟨rfl, hy⟩
          have z0 := Lib.hid hy
          have c2 := hy.cell 2 (v := .int .i64 0) rfl
          have f2 := hy.froz 2
          have c3 := hy.cell 3 (v := .int .i64 0) rfl
          have f3 := hy.froz 3
          obtain ⟨V3, hV3⟩ : ∃ V, ((v3.setCell ⟨w.heap.size + 1, 2, none⟩ (.int .i64 (a : Int))).setCell ⟨w.heap.size + 1, 3, none⟩ (.int .i64 (n : Int))) = V := ⟨_, rfl⟩
          have Y4 : Hid (Ys W0 k (w.heap.size + 1) (ws.tail.tail.tail.tail) #[.int .i64 (id : Int), .int .i64 st, .int .i64 (a : Int), .int .i64 (n : Int), .int .u32 0, .int .i64 0, .bool false, .slice none 0 0] V3) := Lib.hid (by rw [← hV3]; exact ((hy.set 2 (.int .i64 (a : Int))).set 3 (.int .i64 (n : Int))))
          clear hy z0
          cases hp4 : afterP (ws.tail.tail.tail.tail) wGen with
          | none =>
            have P4 := Lib.hid hp4
            clear hp4
            go_wp2_with fail
            refine (ys_aft_no wGen Y4.out P4.out).mono ?_
            rintro e v4 ⟨rfl, hf⟩
            have F := Lib.hid (frk HB.out hf)
            clear hf
            go_wp2
            exact ⟨rfl, .inr ⟨(by unfold slotP; rw [P0.out, Option.bind_some, P1.out, Option.bind_some, P2.out, Option.bind_some, P3.out, Option.bind_some, P4.out]; rfl), rfl, F.out⟩⟩
          | some g =>
            have P4 := Lib.hid hp4
            clear hp4
            have cw : IntKind.u32.wrap (g : Int) = (g : Int) := by have := uint_le (afterP_some P4.out).2; rw [IntWalk.u32_in _ (by omega)]
            go_wp2_with fail
            refine (ys_aft_ok wGen Y4.out P4.out).mono ?_
            rintro e v4 ⟨rfl, hy⟩
            have z0 := Lib.hid hy
            have c4 := hy.cell 4 (v := .int .u32 0) rfl
            have f4 := hy.froz 4
            obtain ⟨V4, hV4⟩ : ∃ V, (v4.setCell ⟨w.heap.size + 1, 4, none⟩ (.int .u32 (g : Int))) = V := ⟨_, rfl⟩
            have Y5 : Hid (Ys W0 k (w.heap.size + 1) (ws.tail.tail.tail.tail.tail.tail) #[.int .i64 (id : Int), .int .i64 st, .int .i64 (a : Int), .int .i64 (n : Int), .int .u32 (g : Int), .int .i64 0, .bool false, .slice none 0 0] V4) := Lib.hid (by rw [← hV4]; exact (hy.set 4 (.int .u32 (g : Int))))
            clear hy z0
            cases hp5 : afterP (ws.tail.tail.tail.tail.tail.tail) wRoom with
            | none =>
              have P5 := Lib.hid hp5
              clear hp5
              go_wp2_with fail
              refine (ys_aft_no wRoom Y5.out P5.out).mono ?_
              rintro e v5 ⟨rfl, hf⟩
              have F := Lib.hid (frk HB.out hf)
              clear hf
              go_wp2
              exact ⟨rfl, .inr ⟨(by unfold slotP; rw [P0.out, Option.bind_some, P1.out, Option.bind_some, P2.out, Option.bind_some, P3.out, Option.bind_some, P4.out, Option.bind_some, P5.out]; rfl), rfl, F.out⟩⟩
            | some room =>
              have P5 := Lib.hid hp5
              clear hp5
              go_wp2_with fail
              refine (ys_aft_ok wRoom Y5.out P5.out).mono ?_
              rintro e v5 ⟨rfl, hy⟩
              have z0 := Lib.hid hy
              have c5 := hy.cell 5 (v := .int .i64 0) rfl
              have f5 := hy.froz 5
              obtain ⟨V5, hV5⟩ : ∃ V, (v5.setCell ⟨w.heap.size + 1, 5, none⟩ (.int .i64 (room : Int))) = V := ⟨_, rfl⟩
              have Y6 : Hid (Ys W0 k (w.heap.size + 1) (ws.tail.tail.tail.tail.tail.tail.tail.tail) #[.int .i64 (id : Int), .int .i64 st, .int .i64 (a : Int), .int .i64 (n : Int), .int .u32 (g : Int), .int .i64 (room : Int), .bool false, .slice none 0 0] V5) := Lib.hid (by rw [← hV5]; exact (hy.set 5 (.int .i64 (room : Int))))
              clear hy z0
              by_cases hE : ws.tail.tail.tail.tail.tail.tail.tail.tail = []
              · have mc : V5.cell? ⟨k, 1, none⟩ = some (.bool false) := by have := more_cell Y6.out.wd; rw [hE] at this; exact this
                have HE := Lib.hid hE
                clear hE
                have ZR : Hid (V5.heap[w.heap.size]? = some (.cells #[.int .i64 0, .int .i64 0, .int .i64 0, .int .i64 0, .int .u32 0, .int .i64 0, .bool false, .slice none 0 0] 54 (0, 0))) := Lib.hid ((Y6.out.fr.block w.heap.size (by rw [SZ.out]; omega) (fun e => by rcases e with e | e; exact KN.out e; omega)).trans R0.out)
                go_wp2_with (first | (refine wpList_load_row rfl 54 _ rfl (w.heap.size + 1) rfl 54 #[.int .i64 (id : Int), .int .i64 st, .int .i64 (a : Int), .int .i64 (n : Int), .int .u32 (g : Int), .int .i64 (room : Int), .bool false, .slice none 0 0] (0, 0) _ Y6.out.row Tryd.underlying54 rfl size_cs ?_) | (refine wpList_store_row rfl 54 _ _ rfl w.heap.size #[.int .i64 (id : Int), .int .i64 st, .int .i64 (a : Int), .int .i64 (n : Int), .int .u32 (g : Int), .int .i64 (room : Int), .bool false, .slice none 0 0] rfl rfl 54 _ ZR.out size_cs rfl (by simp [Value.oneCell']) ?_))
                have WR := setRow_heap _ _ _ #[.int .i64 (id : Int), .int .i64 st, .int .i64 (a : Int), .int .i64 (n : Int), .int .u32 (g : Int), .int .i64 (room : Int), .bool false, .slice none 0 0] _ _ ZR.out
                have FF : Fr (fun i => i = k) w (V5.setRow w.heap.size #[.int .i64 (id : Int), .int .i64 st, .int .i64 (a : Int), .int .i64 (n : Int), .int .u32 (g : Int), .int .i64 (room : Int), .bool false, .slice none 0 0]) := (Fr.of_below (F := fun i => i = k) HB.out).trans (Y6.out.fr.mono (G := fun i => i = k ∨ i = w.heap.size + 1) (fun i _ e => e)) (fun i hi e => by rcases e with e | e; exact e; omega) |>.trans (Fr.setRow (F := fun i => i = w.heap.size) (Fr.refl _ _) w.heap.size rfl _) (fun i hi e => by omega)
                refine bodyPost_ret (results_cell_row (p := 2) (ty := 54) rfl _ _ w.heap.size 54 _ (0, 0) _ rfl WR Tryd.underlying54 rfl size_cs) rfl (.inl ⟨⟨id, st, a, n, g, room, false, []⟩, [], ?_, rfl, ?_, FF⟩)
                · unfold slotP
                  rw [P0.out, Option.bind_some, P1.out, Option.bind_some, P2.out, Option.bind_some, P3.out, Option.bind_some, P4.out, Option.bind_some, P5.out, Option.bind_some,  if_pos HE.out]
                · have := Y6.out.wd.fr (Fr.setRow (F := fun i => i = w.heap.size) (Fr.refl _ V5) w.heap.size rfl #[.int .i64 (id : Int), .int .i64 st, .int .i64 (a : Int), .int .i64 (n : Int), .int .u32 (g : Int), .int .i64 (room : Int), .bool false, .slice none 0 0]) (fun e => KN.out e.symm)
                  rw [HE.out] at this
                  exact this
              · have mc : V5.cell? ⟨k, 1, none⟩ = some (.bool true) := by have := more_cell Y6.out.wd; rw [show (!(ws.tail.tail.tail.tail.tail.tail.tail.tail).isEmpty) = true by simpa using hE] at this; exact this
                have HE := Lib.hid hE
                clear hE
                have NX := Lib.hid (ys_next Y6.out)
                obtain ⟨hd, hhd⟩ : ∃ hd, hd = (ws.tail.tail.tail.tail.tail.tail.tail.tail).headD [] := ⟨_, rfl⟩
                rw [← hhd] at NX
                by_cases hI : hd = wInvalid
                · subst hI
                  have be : ((Om.B wInvalid).toList == ([105, 110, 118, 97, 108, 105, 100] : List UInt8)) = true := b_is rfl
                  have NY := Lib.hid (fun w1 => need_yes w1)
                  have HH := Lib.hid hhd
                  clear hhd
                  go_wp2_with fail
                  refine NX.out.mono ?_
                  rintro e v6 ⟨rfl, hy⟩
                  have Y7 := Lib.hid hy
                  clear hy
                  go_wp2_with fail
                  refine (NY.out _).mono ?_
                  rintro e v7 ⟨rfl, rfl⟩
                  have c6 := Y7.out.cell 6 (v := .bool false) rfl
                  have f6 := Y7.out.froz 6
                  obtain ⟨V7, hV7⟩ : ∃ V, v6.setCell ⟨w.heap.size + 1, 6, none⟩ (.bool true) = V := ⟨_, rfl⟩
                  have Y8 : Hid (Ys W0 k (w.heap.size + 1) (ws.tail.tail.tail.tail.tail.tail.tail.tail.tail) #[.int .i64 (id : Int), .int .i64 st, .int .i64 (a : Int), .int .i64 (n : Int), .int .u32 (g : Int), .int .i64 (room : Int), .bool true, .slice none 0 0] V7) := Lib.hid (by rw [← hV7]; exact Y7.out.set 6 (.bool true))
                  have ZR : Hid (V7.heap[w.heap.size]? = some (.cells #[.int .i64 0, .int .i64 0, .int .i64 0, .int .i64 0, .int .u32 0, .int .i64 0, .bool false, .slice none 0 0] 54 (0, 0))) := Lib.hid ((Y8.out.fr.block w.heap.size (by rw [SZ.out]; omega) (fun e => by rcases e with e | e; exact KN.out e; omega)).trans R0.out)
                  go_wp2_with (first | (refine wpList_load_row rfl 54 _ rfl (w.heap.size + 1) rfl 54 #[.int .i64 (id : Int), .int .i64 st, .int .i64 (a : Int), .int .i64 (n : Int), .int .u32 (g : Int), .int .i64 (room : Int), .bool true, .slice none 0 0] (0, 0) _ Y8.out.row Tryd.underlying54 rfl size_cs ?_) | (refine wpList_store_row rfl 54 _ _ rfl w.heap.size #[.int .i64 (id : Int), .int .i64 st, .int .i64 (a : Int), .int .i64 (n : Int), .int .u32 (g : Int), .int .i64 (room : Int), .bool true, .slice none 0 0] rfl rfl 54 _ ZR.out size_cs rfl (by simp [Value.oneCell']) ?_))
                  have WR := setRow_heap _ _ _ #[.int .i64 (id : Int), .int .i64 st, .int .i64 (a : Int), .int .i64 (n : Int), .int .u32 (g : Int), .int .i64 (room : Int), .bool true, .slice none 0 0] _ _ ZR.out
                  have FF : Fr (fun i => i = k) w (V7.setRow w.heap.size #[.int .i64 (id : Int), .int .i64 st, .int .i64 (a : Int), .int .i64 (n : Int), .int .u32 (g : Int), .int .i64 (room : Int), .bool true, .slice none 0 0]) := (Fr.of_below (F := fun i => i = k) HB.out).trans (Y8.out.fr.mono (G := fun i => i = k ∨ i = w.heap.size + 1) (fun i _ e => e)) (fun i hi e => by rcases e with e | e; exact e; omega) |>.trans (Fr.setRow (F := fun i => i = w.heap.size) (Fr.refl _ _) w.heap.size rfl _) (fun i hi e => by omega)
                  refine bodyPost_ret (results_cell_row (p := 2) (ty := 54) rfl _ _ w.heap.size 54 _ (0, 0) _ rfl WR Tryd.underlying54 rfl size_cs) rfl (.inl ⟨⟨id, st, a, n, g, room, true, []⟩, ws.tail.tail.tail.tail.tail.tail.tail.tail.tail, ?_, rfl, ?_, FF⟩)
                  · unfold slotP
                    rw [P0.out, Option.bind_some, P1.out, Option.bind_some, P2.out, Option.bind_some, P3.out, Option.bind_some, P4.out, Option.bind_some, P5.out, Option.bind_some,  if_neg HE.out, if_pos HH.out.symm]
                  · exact Y8.out.wd.fr (Fr.setRow (F := fun i => i = w.heap.size) (Fr.refl _ V7) w.heap.size rfl #[.int .i64 (id : Int), .int .i64 st, .int .i64 (a : Int), .int .i64 (n : Int), .int .u32 (g : Int), .int .i64 (room : Int), .bool true, .slice none 0 0]) (fun e => KN.out e.symm)
                · have be : ((Om.B hd).toList == ([105, 110, 118, 97, 108, 105, 100] : List UInt8)) = false := b_isnt (q := wInvalid) hI
                  have NO := Lib.hid (fun w1 => need_no w1)
                  unfold noE at NO
                  have HI : Hid (¬ (ws.tail.tail.tail.tail.tail.tail.tail.tail).headD [] = wInvalid) := Lib.hid (by rw [← hhd]; exact hI)
                  clear hhd hI
                  go_wp2_with fail
                  refine NX.out.mono ?_
                  rintro e v6 ⟨rfl, hy⟩
                  have F := Lib.hid (frk HB.out hy.fr)
                  clear hy
                  go_wp2_with fail
                  refine (NO.out _).mono ?_
                  rintro e v7 ⟨rfl, rfl⟩
                  go_wp2
                  exact ⟨rfl, .inr ⟨(by unfold slotP; rw [P0.out, Option.bind_some, P1.out, Option.bind_some, P2.out, Option.bind_some, P3.out, Option.bind_some, P4.out, Option.bind_some, P5.out, Option.bind_some,  if_neg HE.out, if_neg HI.out]), rfl, F.out⟩⟩
end Pd
end Go.Proofs.YtheldnamllnkeaaDoor
