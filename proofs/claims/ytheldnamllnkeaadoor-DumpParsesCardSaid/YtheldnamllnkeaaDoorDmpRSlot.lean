/- The contract of the document's slot. Made by gen_dmprslot.py. -/
import Derived.Test.YtheldnamllnkeaaDoorDmpNums
import Derived.Test.YtheldnamllnkeaaDoorDmpSame
import Derived.Laws.Rows
namespace Go.Proofs.YtheldnamllnkeaaDoor
namespace Pd
open Go.RowKit Dsk Go.Maps
set_option maxRecDepth 100000
set_option linter.unusedVariables false

/-- A line's value, without exceptions. -/
def lval (x : Ln) : Value := .agg #[.int .i64 x.id, .int .i64 x.st, .int .i64 x.a, .int .i64 x.n, .int .u32 (x.g : Int), .int .i64 x.room, .bool x.inv, .slice none 0 0]
def lzero : Value := .agg #[.int .i64 0, .int .i64 0, .int .i64 0, .int .i64 0, .int .u32 0, .int .i64 0, .bool false, .slice none 0 0]
/-- What slot tells. -/
def RSlotIs (r : Option Ln) (w : World) (e : Ending) (w' : World) : Prop := match r with
  | none => e = .returned (.tuple #[lzero, .bool false]) ∧ Below w.heap.size w w'
  | some x => e = .returned (.tuple #[lval x, .bool true]) ∧ Below w.heap.size w w'
theorem size_line8 {a b c d e f g h : Value} : (Tryd.prog.info? 63).map (·.size) = some (#[a, b, c, d, e, f, g, h] : Array Value).size := by
  show _ = some 8
  kernel_rfl
theorem results_line_tmp {fn : Func} {p u : Tmp} (h : fn.results = #[.cell p 63, .tmp u]) (tmps : Array Value) (w : World) (g : Nat) (x0 x1 x2 x3 x4 x5 x6 x7 v : Value)
    (hp : tmps.getD p undef = .pointer (some ⟨g, 0, none⟩)) (hu : tmps.getD u undef = v) (hg : w.heap[g]? = some (.cells #[x0, x1, x2, x3, x4, x5, x6, x7] 63 (0, 0))) :
    (results fn tmps).run Tryd.prog w = .ok (.tuple #[.agg #[x0, x1, x2, x3, x4, x5, x6, x7], v]) w := by
  have hi : (Tryd.prog.info? 63).map (·.size) = some (#[x0, x1, x2, x3, x4, x5, x6, x7] : Array Value).size := size_line8
  rw [results_cell_tmp h, hp, hu]
  simp [asAddr, run_loadVar_row w g 63 63 #[x0, x1, x2, x3, x4, x5, x6, x7] (0, 0) _ hg Tryd.underlying63 rfl hi, Result.andThen]
theorem slot_set {w : World} {k : Nat} {a b c d e f g h : Value} (hk : w.heap[k]? = some (.cells #[a, b, c, d, e, f, g, h] 63 (0, 0))) (x y z u : Value) : ((((w.setCell ⟨k, 1, none⟩ x).setCell ⟨k, 2, none⟩ y).setCell ⟨k, 3, none⟩ z).setCell ⟨k, 4, none⟩ u).heap[k]? = some (.cells #[a, x, y, z, u, f, g, h] 63 (0, 0)) := by
  have h1 := heap_setCell_same w k 1 _ _ x hk
  have h2 := heap_setCell_same _ k 2 _ _ y h1
  have h3 := heap_setCell_same _ k 3 _ _ z h2
  exact heap_setCell_same _ k 4 _ _ u h3
theorem five {l : List Nat} (h : l.length = 5) : ∃ a b c g d, l = [a, b, c, g, d] := by
  match l, h with
  | [a, b, c, g, d], _ => exact ⟨a, b, c, g, d, rfl⟩
/-- The box of a line, in its block. -/
theorem line_box {w : World} {k : Nat} {a b c d e f g h : Value} (hk : w.heap[k]? = some (.cells #[a, b, c, d, e, f, g, h] 63 (0, 0))) : (∀ j v, #[a, b, c, d, e, f, g, h][j]? = some v → w.cell? ⟨k, j, none⟩ = some v) ∧ (∀ j, w.frozen? ⟨k, j, none⟩ = false) :=
  ⟨fun j v hj => by rw [cell_of_row _ _ _ _ _ _ hk]; exact hj, fun j => frozen_of_row (j := j) _ _ _ _ hk⟩
set_option maxHeartbeats 4000000 in
theorem rslot_any (s : List UInt8) (w : World) (hs : s.length ≤ 900000) : Calls Tryd.prog 26 #[.string (Om.B s)] w (RSlotIs (slotX (words s)) w) := by
  rw [← slotR_eq]
  obtain ⟨A, hA⟩ : ∃ A, A = words s := ⟨_, rfl⟩
  have NU : Hid (∀ mg iv W, Calls Tryd.prog 25 #[.string (Om.B s), .string (Om.B (formS mg iv))] W (NumsIs (getR A (wordsS mg iv)) W)) := Lib.hid fun mg iv W => by rw [hA, ← words_S]; exact rnums_any s (formS mg iv) W hs (Nat.le_trans (size_S mg iv) (by omega))
  have FO := Lib.hid (fun mg iv W => forms_any mg iv W)
  obtain ⟨ss, hss⟩ : ∃ ss, ss = Om.B s := ⟨_, rfl⟩
  rw [← hss] at NU ⊢
  rw [← hA]
  clear hA hs hss
  obtain ⟨W0, hW0⟩ : ∃ W0, w.alloc (.cells #[.int .i64 0, .int .i64 0, .int .i64 0, .int .i64 0, .int .u32 0, .int .i64 0, .bool false, .slice none 0 0] 63) = W0 := ⟨_, rfl⟩
  have HB0 : Hid (Below w.heap.size w W0) := Lib.hid (by rw [← hW0]; exact (Below.refl _ _).alloc (Nat.le_refl _) _)
  have HR0 : Hid (W0.heap[w.heap.size]? = some (.cells #[.int .i64 0, .int .i64 0, .int .i64 0, .int .i64 0, .int .u32 0, .int .i64 0, .bool false, .slice none 0 0] 63 (0, 0))) := Lib.hid (by rw [← hW0]; exact heap_alloc_new _ _)
  have LT0 : Hid (w.heap.size < W0.heap.size) := Lib.hid (Array.getElem?_eq_some_iff.1 HR0.out).1
  have FIN : Hid (∀ W x, Below W0.heap.size W0 W → slotR A four = some x → RSlotIs (slotR A four) w (.returned (.tuple #[lval x, .bool true])) (W.setRow w.heap.size #[.int .i64 x.id, .int .i64 x.st, .int .i64 x.a, .int .i64 x.n, .int .u32 (x.g : Int), .int .i64 x.room, .bool x.inv, .slice none 0 0]) ∧ (W.setRow w.heap.size #[.int .i64 x.id, .int .i64 x.st, .int .i64 x.a, .int .i64 x.n, .int .u32 (x.g : Int), .int .i64 x.room, .bool x.inv, .slice none 0 0]).heap[w.heap.size]? = some (.cells #[.int .i64 x.id, .int .i64 x.st, .int .i64 x.a, .int .i64 x.n, .int .u32 (x.g : Int), .int .i64 x.room, .bool x.inv, .slice none 0 0] 63 (0, 0))) := Lib.hid fun W x hb hx => by
    have hW := (hb.block _ LT0.out).trans HR0.out
    refine ⟨?_, setRow_heap _ _ _ _ _ _ hW⟩
    rw [hx]
    refine ⟨rfl, ?_⟩
    have b : Below w.heap.size w W := bgo HB0.out (Nat.le_refl _) hb
    exact b.trans ((Fr.setRow (F := fun b => b = w.heap.size) (Fr.refl _ W) w.heap.size rfl _).below b.size fun b hb => by rw [hb]; exact Nat.le_refl _)
  go_enter Tryd.func26, Tryd.ntmps26
  go_wp2_with fail
  clear hW0
  go_loopw [4] (fun i wr => Hid (Below W0.heap.size W0 wr) ∧ ((i = .int .i64 0 ∧ Hid True) ∨ (i = .int .i64 1 ∧ Hid (getR A (wordsS false false) = none)) ∨ (i = .int .i64 2 ∧ Hid (getR A (wordsS false false) = none ∧ getR A (wordsS true false) = none)) ∨ (i = .int .i64 3 ∧ Hid (getR A (wordsS false false) = none ∧ getR A (wordsS true false) = none ∧ getR A (wordsS false true) = none)) ∨ (i = .int .i64 4 ∧ Hid (slotR A four = none)))) (fun i _ => 4 - (Lib.intOf i).toNat)
  case atStart => exact ⟨Lib.hid (Below.refl _ _), .inl ⟨rfl, Lib.hid trivial⟩⟩
  case round =>
    obtain ⟨hwr, hrel⟩ := hrel
    rcases hrel with ⟨rfl, hk⟩ | ⟨rfl, hk⟩ | ⟨rfl, hk⟩ | ⟨rfl, hk⟩ | ⟨rfl, hk⟩
    · have F := Lib.hid (FO.out false false wr)
      have N := Lib.hid (NU.out false false wr)
      go_wp2_with fail
      refine F.out.mono ?_
      rintro e w1 ⟨rfl, rfl⟩
      cases hn : getR A (wordsS false false) with
      | none =>
        rw [hn] at N
        unfold NumsIs at N
        have NX : Hid (getR A (wordsS false false) = none) := Lib.hid hn
        clear hn
        go_wp2_with fail
        refine N.out.mono ?_
        rintro e w2 ⟨rfl, hb2⟩
        have B2 : Hid (Below W0.heap.size W0 w2) := Lib.hid (bgo hwr.out (Nat.le_refl _) hb2)
        clear hb2
        go_wp2
        go_roundw
        case rel => exact ⟨B2, .inr (.inl (⟨rfl, NX⟩))⟩
        case measure => simp [Lib.intOf]
      | some l =>
        obtain ⟨k1, k2, k3, k4⟩ := get_S hn
        obtain ⟨a, b, c, g, d, rfl⟩ := five k4
        have YES : Hid (slotR A four = some (mkL false false [a, b, c, g, d])) := Lib.hid (by unfold slotR four; simp [hn])
        have LE := Lib.hid (getR_le _ _ _ hn)
        have hgw : IntKind.u32.wrap (g : Int) = (g : Int) := IntWalk.u32_in _ (by have : g ≤ 4294967295 := k3; omega)
        rw [hn] at N
        unfold NumsIs at N
        clear hn k1 k2 k3 k4
        go_wp2_with fail
        refine N.out.mono ?_
        rintro e w2 ⟨v, rfl, hg2⟩
        obtain ⟨gg, cap, rfl, hlt, hcell⟩ := hg2.at_ (by simp)
        have B2 : Hid (Below W0.heap.size W0 w2) := Lib.hid (bgo hwr.out (Nat.le_refl _) hg2.below)
        have CC : Hid (∀ W, Below w2.heap.size w2 W → W.cell? ⟨gg, 0, none⟩ = some (.int .i64 (a : Int)) ∧ W.cell? ⟨gg, 1, none⟩ = some (.int .i64 (b : Int)) ∧ W.cell? ⟨gg, 2, none⟩ = some (.int .i64 (c : Int)) ∧ W.cell? ⟨gg, 3, none⟩ = some (.int .i64 (g : Int)) ∧ W.cell? ⟨gg, 4, none⟩ = some (.int .i64 (d : Int))) := Lib.hid fun W hb =>
          ⟨(hb.cell (p := ⟨gg, 0, none⟩) hlt).trans (hcell 0 a rfl), (hb.cell (p := ⟨gg, 1, none⟩) hlt).trans (hcell 1 b rfl), (hb.cell (p := ⟨gg, 2, none⟩) hlt).trans (hcell 2 c rfl), (hb.cell (p := ⟨gg, 3, none⟩) hlt).trans (hcell 3 g rfl), (hb.cell (p := ⟨gg, 4, none⟩) hlt).trans (hcell 4 d rfl)⟩
        obtain ⟨c0, c1, c2, c3, c4⟩ := CC.out w2 (Below.refl _ _)
        have LG := Lib.hid hlt
        clear hg2 hcell hlt
        rw [show ([a, b, c, g, d] : List Nat).length = 5 from rfl]
        go_wp2
        go_region_held3 (fun w' => w'.cell? ⟨gg, 0, none⟩ = some (.int .i64 (a : Int)) ∧ w'.cell? ⟨gg, 4, none⟩ = some (.int .i64 (d : Int)))
          (first | go_keep | (refine ⟨?_, ?_⟩ <;> assumption))
          (fail)
        rename_i hh
        clear hh c0 c1 c2 c3 c4
        obtain ⟨W3, hW3⟩ : ∃ W3, (w2.alloc (.cells #[.int .i64 (a : Int), .int .i64 0, .int .i64 0, .int .i64 0, .int .u32 0, .int .i64 (d : Int), .bool false, .slice none 0 0] 63)).drew = W3 := ⟨_, rfl⟩
        have B3 : Hid (Below w2.heap.size w2 W3) := Lib.hid (by rw [← hW3]; exact ((Below.refl _ _).alloc (Nat.le_refl _) _).drew)
        have R3 : Hid (W3.heap[w2.heap.size]? = some (.cells #[.int .i64 (a : Int), .int .i64 0, .int .i64 0, .int .i64 0, .int .u32 0, .int .i64 (d : Int), .bool false, .slice none 0 0] 63 (0, 0))) := Lib.hid (by rw [← hW3]; exact heap_alloc_new _ _)
        rw [hW3]
        clear hW3
        go_wp2_with fail
        refine still_tail 12 (by kernel_rfl) (by kernel_rfl) ?_
        intro w4 hw4
        have B4 : Hid (Below w2.heap.size w2 w4) := Lib.hid (by rw [hw4.out]; exact B3.out.drew)
        have R4 : Hid (w4.heap[w2.heap.size]? = some (.cells #[.int .i64 (a : Int), .int .i64 0, .int .i64 0, .int .i64 0, .int .u32 0, .int .i64 (d : Int), .bool false, .slice none 0 0] 63 (0, 0))) := Lib.hid (by rw [hw4.out]; exact R3.out)
        obtain ⟨-, c1, c2, c3, -⟩ := CC.out w4 B4.out
        obtain ⟨x1, xf⟩ := line_box R4.out
        have x1a := x1 1 _ rfl
        have x1b := x1 2 _ rfl
        have x1c := x1 3 _ rfl
        have x1d := x1 4 _ rfl
        clear hw4 x1
        simp only [List.take_succ_cons, List.take_zero, List.drop_succ_cons, List.drop_zero]
        repeat still_step
        refine wpStill_nil ?_
        obtain ⟨W5, hW5⟩ : ∃ W5, (((w4.setCell ⟨w2.heap.size, 1, none⟩ (.int .i64 1)).setCell ⟨w2.heap.size, 2, none⟩ (.int .i64 (b : Int))).setCell ⟨w2.heap.size, 3, none⟩ (.int .i64 (c : Int))).setCell ⟨w2.heap.size, 4, none⟩ (.int .u32 (g : Int)) = W5 := ⟨_, rfl⟩
        have R5 : Hid (W5.heap[w2.heap.size]? = some (.cells #[.int .i64 (a : Int), .int .i64 1, .int .i64 (b : Int), .int .i64 (c : Int), .int .u32 (g : Int), .int .i64 (d : Int), .bool false, .slice none 0 0] 63 (0, 0))) := Lib.hid (by rw [← hW5]; exact slot_set R4.out _ _ _ _)
        have B5 : Hid (Below W0.heap.size W0 W5) := Lib.hid (by rw [← hW5]; exact ((((bgo B2.out (Nat.le_refl _) B4.out).setCell (p := ⟨w2.heap.size, 1, none⟩) B2.out.size _).setCell (p := ⟨w2.heap.size, 2, none⟩) B2.out.size _).setCell (p := ⟨w2.heap.size, 3, none⟩) B2.out.size _).setCell (p := ⟨w2.heap.size, 4, none⟩) B2.out.size _)
        have RES : Hid (W5.heap[w.heap.size]? = some (.cells #[.int .i64 0, .int .i64 0, .int .i64 0, .int .i64 0, .int .u32 0, .int .i64 0, .bool false, .slice none 0 0] 63 (0, 0))) := Lib.hid ((B5.out.block _ LT0.out).trans HR0.out)
        have FN : Hid (RSlotIs (slotR A four) w (.returned (.tuple #[.agg #[.int .i64 (a : Int), .int .i64 1, .int .i64 (b : Int), .int .i64 (c : Int), .int .u32 (g : Int), .int .i64 (d : Int), .bool false, .slice none 0 0], .bool true])) (W5.setRow w.heap.size #[.int .i64 (a : Int), .int .i64 1, .int .i64 (b : Int), .int .i64 (c : Int), .int .u32 (g : Int), .int .i64 (d : Int), .bool false, .slice none 0 0]) ∧ (W5.setRow w.heap.size #[.int .i64 (a : Int), .int .i64 1, .int .i64 (b : Int), .int .i64 (c : Int), .int .u32 (g : Int), .int .i64 (d : Int), .bool false, .slice none 0 0]).heap[w.heap.size]? = some (.cells #[.int .i64 (a : Int), .int .i64 1, .int .i64 (b : Int), .int .i64 (c : Int), .int .u32 (g : Int), .int .i64 (d : Int), .bool false, .slice none 0 0] 63 (0, 0))) := Lib.hid (FIN.out W5 _ B5.out YES.out)
        clear c1 c2 c3 hgw
        go_wp2_with (first | (refine wpList_load_row rfl 63 _ rfl w2.heap.size rfl 63 #[.int .i64 (a : Int), .int .i64 1, .int .i64 (b : Int), .int .i64 (c : Int), .int .u32 (g : Int), .int .i64 (d : Int), .bool false, .slice none 0 0] (0, 0) _ R5.out Tryd.underlying63 rfl size_line8 ?_) | (refine wpList_store_row rfl 63 _ _ rfl w.heap.size #[.int .i64 (a : Int), .int .i64 1, .int .i64 (b : Int), .int .i64 (c : Int), .int .u32 (g : Int), .int .i64 (d : Int), .bool false, .slice none 0 0] rfl rfl 63 _ RES.out size_line8 rfl (by simp [Value.oneCell']) ?_))
        exact bodyPost_ret (results_line_tmp (p := 2) (u := 3) rfl _ _ w.heap.size _ _ _ _ _ _ _ _ _ rfl rfl FN.out.2) rfl FN.out.1
    · have F := Lib.hid (FO.out true false wr)
      have N := Lib.hid (NU.out true false wr)
      go_wp2_with fail
      refine F.out.mono ?_
      rintro e w1 ⟨rfl, rfl⟩
      cases hn : getR A (wordsS true false) with
      | none =>
        rw [hn] at N
        unfold NumsIs at N
        have NX : Hid (getR A (wordsS false false) = none ∧ getR A (wordsS true false) = none) := Lib.hid ⟨hk.out, hn⟩
        clear hn
        go_wp2_with fail
        refine N.out.mono ?_
        rintro e w2 ⟨rfl, hb2⟩
        have B2 : Hid (Below W0.heap.size W0 w2) := Lib.hid (bgo hwr.out (Nat.le_refl _) hb2)
        clear hb2
        go_wp2
        go_roundw
        case rel => exact ⟨B2, .inr (.inr (.inl (⟨rfl, NX⟩)))⟩
        case measure => simp [Lib.intOf]
      | some l =>
        obtain ⟨k1, k2, k3, k4⟩ := get_S hn
        obtain ⟨a, b, c, g, d, rfl⟩ := five k4
        have YES : Hid (slotR A four = some (mkL true false [a, b, c, g, d])) := Lib.hid (by unfold slotR four; simp [hk.out, hn])
        have LE := Lib.hid (getR_le _ _ _ hn)
        have hgw : IntKind.u32.wrap (g : Int) = (g : Int) := IntWalk.u32_in _ (by have : g ≤ 4294967295 := k3; omega)
        rw [hn] at N
        unfold NumsIs at N
        clear hn k1 k2 k3 k4
        go_wp2_with fail
        refine N.out.mono ?_
        rintro e w2 ⟨v, rfl, hg2⟩
        obtain ⟨gg, cap, rfl, hlt, hcell⟩ := hg2.at_ (by simp)
        have B2 : Hid (Below W0.heap.size W0 w2) := Lib.hid (bgo hwr.out (Nat.le_refl _) hg2.below)
        have CC : Hid (∀ W, Below w2.heap.size w2 W → W.cell? ⟨gg, 0, none⟩ = some (.int .i64 (a : Int)) ∧ W.cell? ⟨gg, 1, none⟩ = some (.int .i64 (b : Int)) ∧ W.cell? ⟨gg, 2, none⟩ = some (.int .i64 (c : Int)) ∧ W.cell? ⟨gg, 3, none⟩ = some (.int .i64 (g : Int)) ∧ W.cell? ⟨gg, 4, none⟩ = some (.int .i64 (d : Int))) := Lib.hid fun W hb =>
          ⟨(hb.cell (p := ⟨gg, 0, none⟩) hlt).trans (hcell 0 a rfl), (hb.cell (p := ⟨gg, 1, none⟩) hlt).trans (hcell 1 b rfl), (hb.cell (p := ⟨gg, 2, none⟩) hlt).trans (hcell 2 c rfl), (hb.cell (p := ⟨gg, 3, none⟩) hlt).trans (hcell 3 g rfl), (hb.cell (p := ⟨gg, 4, none⟩) hlt).trans (hcell 4 d rfl)⟩
        obtain ⟨c0, c1, c2, c3, c4⟩ := CC.out w2 (Below.refl _ _)
        have LG := Lib.hid hlt
        clear hg2 hcell hlt
        rw [show ([a, b, c, g, d] : List Nat).length = 5 from rfl]
        go_wp2
        go_region_held3 (fun w' => w'.cell? ⟨gg, 0, none⟩ = some (.int .i64 (a : Int)) ∧ w'.cell? ⟨gg, 4, none⟩ = some (.int .i64 (d : Int)))
          (first | go_keep | (refine ⟨?_, ?_⟩ <;> assumption))
          (fail)
        rename_i hh
        clear hh c0 c1 c2 c3 c4
        obtain ⟨W3, hW3⟩ : ∃ W3, (w2.alloc (.cells #[.int .i64 (a : Int), .int .i64 0, .int .i64 0, .int .i64 0, .int .u32 0, .int .i64 (d : Int), .bool false, .slice none 0 0] 63)).drew = W3 := ⟨_, rfl⟩
        have B3 : Hid (Below w2.heap.size w2 W3) := Lib.hid (by rw [← hW3]; exact ((Below.refl _ _).alloc (Nat.le_refl _) _).drew)
        have R3 : Hid (W3.heap[w2.heap.size]? = some (.cells #[.int .i64 (a : Int), .int .i64 0, .int .i64 0, .int .i64 0, .int .u32 0, .int .i64 (d : Int), .bool false, .slice none 0 0] 63 (0, 0))) := Lib.hid (by rw [← hW3]; exact heap_alloc_new _ _)
        rw [hW3]
        clear hW3
        go_wp2_with fail
        refine still_tail 12 (by kernel_rfl) (by kernel_rfl) ?_
        intro w4 hw4
        have B4 : Hid (Below w2.heap.size w2 w4) := Lib.hid (by rw [hw4.out]; exact B3.out.drew)
        have R4 : Hid (w4.heap[w2.heap.size]? = some (.cells #[.int .i64 (a : Int), .int .i64 0, .int .i64 0, .int .i64 0, .int .u32 0, .int .i64 (d : Int), .bool false, .slice none 0 0] 63 (0, 0))) := Lib.hid (by rw [hw4.out]; exact R3.out)
        obtain ⟨-, c1, c2, c3, -⟩ := CC.out w4 B4.out
        obtain ⟨x1, xf⟩ := line_box R4.out
        have x1a := x1 1 _ rfl
        have x1b := x1 2 _ rfl
        have x1c := x1 3 _ rfl
        have x1d := x1 4 _ rfl
        clear hw4 x1
        simp only [List.take_succ_cons, List.take_zero, List.drop_succ_cons, List.drop_zero]
        repeat still_step
        refine wpStill_nil ?_
        obtain ⟨W5, hW5⟩ : ∃ W5, (((w4.setCell ⟨w2.heap.size, 1, none⟩ (.int .i64 1)).setCell ⟨w2.heap.size, 2, none⟩ (.int .i64 (b : Int))).setCell ⟨w2.heap.size, 3, none⟩ (.int .i64 (c : Int))).setCell ⟨w2.heap.size, 4, none⟩ (.int .u32 (g : Int)) = W5 := ⟨_, rfl⟩
        have R5 : Hid (W5.heap[w2.heap.size]? = some (.cells #[.int .i64 (a : Int), .int .i64 1, .int .i64 (b : Int), .int .i64 (c : Int), .int .u32 (g : Int), .int .i64 (d : Int), .bool false, .slice none 0 0] 63 (0, 0))) := Lib.hid (by rw [← hW5]; exact slot_set R4.out _ _ _ _)
        have B5 : Hid (Below W0.heap.size W0 W5) := Lib.hid (by rw [← hW5]; exact ((((bgo B2.out (Nat.le_refl _) B4.out).setCell (p := ⟨w2.heap.size, 1, none⟩) B2.out.size _).setCell (p := ⟨w2.heap.size, 2, none⟩) B2.out.size _).setCell (p := ⟨w2.heap.size, 3, none⟩) B2.out.size _).setCell (p := ⟨w2.heap.size, 4, none⟩) B2.out.size _)
        obtain ⟨y1, yf⟩ := line_box R5.out
        have y1a := y1 1 _ rfl
        have yf1 := yf 1
        clear y1 yf
        obtain ⟨W6, hW6⟩ : ∃ W6, W5.setCell ⟨w2.heap.size, 1, none⟩ (.int .i64 2) = W6 := ⟨_, rfl⟩
        have R6 : Hid (W6.heap[w2.heap.size]? = some (.cells #[.int .i64 (a : Int), .int .i64 2, .int .i64 (b : Int), .int .i64 (c : Int), .int .u32 (g : Int), .int .i64 (d : Int), .bool false, .slice none 0 0] 63 (0, 0))) := Lib.hid (by rw [← hW6]; exact heap_setCell_same _ _ 1 _ _ _ R5.out)
        have B6 : Hid (Below W0.heap.size W0 W6) := Lib.hid (by rw [← hW6]; exact B5.out.setCell (p := ⟨w2.heap.size, 1, none⟩) B2.out.size _)
        have RES : Hid (W6.heap[w.heap.size]? = some (.cells #[.int .i64 0, .int .i64 0, .int .i64 0, .int .i64 0, .int .u32 0, .int .i64 0, .bool false, .slice none 0 0] 63 (0, 0))) := Lib.hid ((B6.out.block _ LT0.out).trans HR0.out)
        have FN : Hid (RSlotIs (slotR A four) w (.returned (.tuple #[.agg #[.int .i64 (a : Int), .int .i64 2, .int .i64 (b : Int), .int .i64 (c : Int), .int .u32 (g : Int), .int .i64 (d : Int), .bool false, .slice none 0 0], .bool true])) (W6.setRow w.heap.size #[.int .i64 (a : Int), .int .i64 2, .int .i64 (b : Int), .int .i64 (c : Int), .int .u32 (g : Int), .int .i64 (d : Int), .bool false, .slice none 0 0]) ∧ (W6.setRow w.heap.size #[.int .i64 (a : Int), .int .i64 2, .int .i64 (b : Int), .int .i64 (c : Int), .int .u32 (g : Int), .int .i64 (d : Int), .bool false, .slice none 0 0]).heap[w.heap.size]? = some (.cells #[.int .i64 (a : Int), .int .i64 2, .int .i64 (b : Int), .int .i64 (c : Int), .int .u32 (g : Int), .int .i64 (d : Int), .bool false, .slice none 0 0] 63 (0, 0))) := Lib.hid (FIN.out W6 _ B6.out YES.out)
        clear c1 c2 c3 hgw
        go_wp2_with (first | (refine wpList_load_row rfl 63 _ rfl w2.heap.size rfl 63 #[.int .i64 (a : Int), .int .i64 2, .int .i64 (b : Int), .int .i64 (c : Int), .int .u32 (g : Int), .int .i64 (d : Int), .bool false, .slice none 0 0] (0, 0) _ R6.out Tryd.underlying63 rfl size_line8 ?_) | (refine wpList_store_row rfl 63 _ _ rfl w.heap.size #[.int .i64 (a : Int), .int .i64 2, .int .i64 (b : Int), .int .i64 (c : Int), .int .u32 (g : Int), .int .i64 (d : Int), .bool false, .slice none 0 0] rfl rfl 63 _ RES.out size_line8 rfl (by simp [Value.oneCell']) ?_))
        exact bodyPost_ret (results_line_tmp (p := 2) (u := 3) rfl _ _ w.heap.size _ _ _ _ _ _ _ _ _ rfl rfl FN.out.2) rfl FN.out.1
    · have F := Lib.hid (FO.out false true wr)
      have N := Lib.hid (NU.out false true wr)
      go_wp2_with fail
      refine F.out.mono ?_
      rintro e w1 ⟨rfl, rfl⟩
      cases hn : getR A (wordsS false true) with
      | none =>
        rw [hn] at N
        unfold NumsIs at N
        have NX : Hid (getR A (wordsS false false) = none ∧ getR A (wordsS true false) = none ∧ getR A (wordsS false true) = none) := Lib.hid ⟨hk.out.1, hk.out.2, hn⟩
        clear hn
        go_wp2_with fail
        refine N.out.mono ?_
        rintro e w2 ⟨rfl, hb2⟩
        have B2 : Hid (Below W0.heap.size W0 w2) := Lib.hid (bgo hwr.out (Nat.le_refl _) hb2)
        clear hb2
        go_wp2
        go_roundw
        case rel => exact ⟨B2, .inr (.inr (.inr (.inl (⟨rfl, NX⟩))))⟩
        case measure => simp [Lib.intOf]
      | some l =>
        obtain ⟨k1, k2, k3, k4⟩ := get_S hn
        obtain ⟨a, b, c, g, d, rfl⟩ := five k4
        have YES : Hid (slotR A four = some (mkL false true [a, b, c, g, d])) := Lib.hid (by unfold slotR four; simp [hk.out.1, hk.out.2, hn])
        have LE := Lib.hid (getR_le _ _ _ hn)
        have hgw : IntKind.u32.wrap (g : Int) = (g : Int) := IntWalk.u32_in _ (by have : g ≤ 4294967295 := k3; omega)
        rw [hn] at N
        unfold NumsIs at N
        clear hn k1 k2 k3 k4
        go_wp2_with fail
        refine N.out.mono ?_
        rintro e w2 ⟨v, rfl, hg2⟩
        obtain ⟨gg, cap, rfl, hlt, hcell⟩ := hg2.at_ (by simp)
        have B2 : Hid (Below W0.heap.size W0 w2) := Lib.hid (bgo hwr.out (Nat.le_refl _) hg2.below)
        have CC : Hid (∀ W, Below w2.heap.size w2 W → W.cell? ⟨gg, 0, none⟩ = some (.int .i64 (a : Int)) ∧ W.cell? ⟨gg, 1, none⟩ = some (.int .i64 (b : Int)) ∧ W.cell? ⟨gg, 2, none⟩ = some (.int .i64 (c : Int)) ∧ W.cell? ⟨gg, 3, none⟩ = some (.int .i64 (g : Int)) ∧ W.cell? ⟨gg, 4, none⟩ = some (.int .i64 (d : Int))) := Lib.hid fun W hb =>
          ⟨(hb.cell (p := ⟨gg, 0, none⟩) hlt).trans (hcell 0 a rfl), (hb.cell (p := ⟨gg, 1, none⟩) hlt).trans (hcell 1 b rfl), (hb.cell (p := ⟨gg, 2, none⟩) hlt).trans (hcell 2 c rfl), (hb.cell (p := ⟨gg, 3, none⟩) hlt).trans (hcell 3 g rfl), (hb.cell (p := ⟨gg, 4, none⟩) hlt).trans (hcell 4 d rfl)⟩
        obtain ⟨c0, c1, c2, c3, c4⟩ := CC.out w2 (Below.refl _ _)
        have LG := Lib.hid hlt
        clear hg2 hcell hlt
        rw [show ([a, b, c, g, d] : List Nat).length = 5 from rfl]
        go_wp2
        go_region_held3 (fun w' => w'.cell? ⟨gg, 0, none⟩ = some (.int .i64 (a : Int)) ∧ w'.cell? ⟨gg, 4, none⟩ = some (.int .i64 (d : Int)))
          (first | go_keep | (refine ⟨?_, ?_⟩ <;> assumption))
          (fail)
        rename_i hh
        clear hh c0 c1 c2 c3 c4
        obtain ⟨W3, hW3⟩ : ∃ W3, (w2.alloc (.cells #[.int .i64 (a : Int), .int .i64 0, .int .i64 0, .int .i64 0, .int .u32 0, .int .i64 (d : Int), .bool true, .slice none 0 0] 63)).drew = W3 := ⟨_, rfl⟩
        have B3 : Hid (Below w2.heap.size w2 W3) := Lib.hid (by rw [← hW3]; exact ((Below.refl _ _).alloc (Nat.le_refl _) _).drew)
        have R3 : Hid (W3.heap[w2.heap.size]? = some (.cells #[.int .i64 (a : Int), .int .i64 0, .int .i64 0, .int .i64 0, .int .u32 0, .int .i64 (d : Int), .bool true, .slice none 0 0] 63 (0, 0))) := Lib.hid (by rw [← hW3]; exact heap_alloc_new _ _)
        rw [hW3]
        clear hW3
        go_wp2_with fail
        refine still_tail 12 (by kernel_rfl) (by kernel_rfl) ?_
        intro w4 hw4
        have B4 : Hid (Below w2.heap.size w2 w4) := Lib.hid (by rw [hw4.out]; exact B3.out.drew)
        have R4 : Hid (w4.heap[w2.heap.size]? = some (.cells #[.int .i64 (a : Int), .int .i64 0, .int .i64 0, .int .i64 0, .int .u32 0, .int .i64 (d : Int), .bool true, .slice none 0 0] 63 (0, 0))) := Lib.hid (by rw [hw4.out]; exact R3.out)
        obtain ⟨-, c1, c2, c3, -⟩ := CC.out w4 B4.out
        obtain ⟨x1, xf⟩ := line_box R4.out
        have x1a := x1 1 _ rfl
        have x1b := x1 2 _ rfl
        have x1c := x1 3 _ rfl
        have x1d := x1 4 _ rfl
        clear hw4 x1
        simp only [List.take_succ_cons, List.take_zero, List.drop_succ_cons, List.drop_zero]
        repeat still_step
        refine wpStill_nil ?_
        obtain ⟨W5, hW5⟩ : ∃ W5, (((w4.setCell ⟨w2.heap.size, 1, none⟩ (.int .i64 1)).setCell ⟨w2.heap.size, 2, none⟩ (.int .i64 (b : Int))).setCell ⟨w2.heap.size, 3, none⟩ (.int .i64 (c : Int))).setCell ⟨w2.heap.size, 4, none⟩ (.int .u32 (g : Int)) = W5 := ⟨_, rfl⟩
        have R5 : Hid (W5.heap[w2.heap.size]? = some (.cells #[.int .i64 (a : Int), .int .i64 1, .int .i64 (b : Int), .int .i64 (c : Int), .int .u32 (g : Int), .int .i64 (d : Int), .bool true, .slice none 0 0] 63 (0, 0))) := Lib.hid (by rw [← hW5]; exact slot_set R4.out _ _ _ _)
        have B5 : Hid (Below W0.heap.size W0 W5) := Lib.hid (by rw [← hW5]; exact ((((bgo B2.out (Nat.le_refl _) B4.out).setCell (p := ⟨w2.heap.size, 1, none⟩) B2.out.size _).setCell (p := ⟨w2.heap.size, 2, none⟩) B2.out.size _).setCell (p := ⟨w2.heap.size, 3, none⟩) B2.out.size _).setCell (p := ⟨w2.heap.size, 4, none⟩) B2.out.size _)
        have RES : Hid (W5.heap[w.heap.size]? = some (.cells #[.int .i64 0, .int .i64 0, .int .i64 0, .int .i64 0, .int .u32 0, .int .i64 0, .bool false, .slice none 0 0] 63 (0, 0))) := Lib.hid ((B5.out.block _ LT0.out).trans HR0.out)
        have FN : Hid (RSlotIs (slotR A four) w (.returned (.tuple #[.agg #[.int .i64 (a : Int), .int .i64 1, .int .i64 (b : Int), .int .i64 (c : Int), .int .u32 (g : Int), .int .i64 (d : Int), .bool true, .slice none 0 0], .bool true])) (W5.setRow w.heap.size #[.int .i64 (a : Int), .int .i64 1, .int .i64 (b : Int), .int .i64 (c : Int), .int .u32 (g : Int), .int .i64 (d : Int), .bool true, .slice none 0 0]) ∧ (W5.setRow w.heap.size #[.int .i64 (a : Int), .int .i64 1, .int .i64 (b : Int), .int .i64 (c : Int), .int .u32 (g : Int), .int .i64 (d : Int), .bool true, .slice none 0 0]).heap[w.heap.size]? = some (.cells #[.int .i64 (a : Int), .int .i64 1, .int .i64 (b : Int), .int .i64 (c : Int), .int .u32 (g : Int), .int .i64 (d : Int), .bool true, .slice none 0 0] 63 (0, 0))) := Lib.hid (FIN.out W5 _ B5.out YES.out)
        clear c1 c2 c3 hgw
        go_wp2_with (first | (refine wpList_load_row rfl 63 _ rfl w2.heap.size rfl 63 #[.int .i64 (a : Int), .int .i64 1, .int .i64 (b : Int), .int .i64 (c : Int), .int .u32 (g : Int), .int .i64 (d : Int), .bool true, .slice none 0 0] (0, 0) _ R5.out Tryd.underlying63 rfl size_line8 ?_) | (refine wpList_store_row rfl 63 _ _ rfl w.heap.size #[.int .i64 (a : Int), .int .i64 1, .int .i64 (b : Int), .int .i64 (c : Int), .int .u32 (g : Int), .int .i64 (d : Int), .bool true, .slice none 0 0] rfl rfl 63 _ RES.out size_line8 rfl (by simp [Value.oneCell']) ?_))
        exact bodyPost_ret (results_line_tmp (p := 2) (u := 3) rfl _ _ w.heap.size _ _ _ _ _ _ _ _ _ rfl rfl FN.out.2) rfl FN.out.1
    · have F := Lib.hid (FO.out true true wr)
      have N := Lib.hid (NU.out true true wr)
      go_wp2_with fail
      refine F.out.mono ?_
      rintro e w1 ⟨rfl, rfl⟩
      cases hn : getR A (wordsS true true) with
      | none =>
        rw [hn] at N
        unfold NumsIs at N
        have NX : Hid (slotR A four = none) := Lib.hid (by unfold slotR four; simp [hk.out.1, hk.out.2.1, hk.out.2.2, hn])
        clear hn
        go_wp2_with fail
        refine N.out.mono ?_
        rintro e w2 ⟨rfl, hb2⟩
        have B2 : Hid (Below W0.heap.size W0 w2) := Lib.hid (bgo hwr.out (Nat.le_refl _) hb2)
        clear hb2
        go_wp2
        go_roundw
        case rel => exact ⟨B2, .inr (.inr (.inr (.inr (⟨rfl, NX⟩))))⟩
        case measure => simp [Lib.intOf]
      | some l =>
        obtain ⟨k1, k2, k3, k4⟩ := get_S hn
        obtain ⟨a, b, c, g, d, rfl⟩ := five k4
        have YES : Hid (slotR A four = some (mkL true true [a, b, c, g, d])) := Lib.hid (by unfold slotR four; simp [hk.out.1, hk.out.2.1, hk.out.2.2, hn])
        have LE := Lib.hid (getR_le _ _ _ hn)
        have hgw : IntKind.u32.wrap (g : Int) = (g : Int) := IntWalk.u32_in _ (by have : g ≤ 4294967295 := k3; omega)
        rw [hn] at N
        unfold NumsIs at N
        clear hn k1 k2 k3 k4
        go_wp2_with fail
        refine N.out.mono ?_
        rintro e w2 ⟨v, rfl, hg2⟩
        obtain ⟨gg, cap, rfl, hlt, hcell⟩ := hg2.at_ (by simp)
        have B2 : Hid (Below W0.heap.size W0 w2) := Lib.hid (bgo hwr.out (Nat.le_refl _) hg2.below)
        have CC : Hid (∀ W, Below w2.heap.size w2 W → W.cell? ⟨gg, 0, none⟩ = some (.int .i64 (a : Int)) ∧ W.cell? ⟨gg, 1, none⟩ = some (.int .i64 (b : Int)) ∧ W.cell? ⟨gg, 2, none⟩ = some (.int .i64 (c : Int)) ∧ W.cell? ⟨gg, 3, none⟩ = some (.int .i64 (g : Int)) ∧ W.cell? ⟨gg, 4, none⟩ = some (.int .i64 (d : Int))) := Lib.hid fun W hb =>
          ⟨(hb.cell (p := ⟨gg, 0, none⟩) hlt).trans (hcell 0 a rfl), (hb.cell (p := ⟨gg, 1, none⟩) hlt).trans (hcell 1 b rfl), (hb.cell (p := ⟨gg, 2, none⟩) hlt).trans (hcell 2 c rfl), (hb.cell (p := ⟨gg, 3, none⟩) hlt).trans (hcell 3 g rfl), (hb.cell (p := ⟨gg, 4, none⟩) hlt).trans (hcell 4 d rfl)⟩
        obtain ⟨c0, c1, c2, c3, c4⟩ := CC.out w2 (Below.refl _ _)
        have LG := Lib.hid hlt
        clear hg2 hcell hlt
        rw [show ([a, b, c, g, d] : List Nat).length = 5 from rfl]
        go_wp2
        go_region_held3 (fun w' => w'.cell? ⟨gg, 0, none⟩ = some (.int .i64 (a : Int)) ∧ w'.cell? ⟨gg, 4, none⟩ = some (.int .i64 (d : Int)))
          (first | go_keep | (refine ⟨?_, ?_⟩ <;> assumption))
          (fail)
        rename_i hh
        clear hh c0 c1 c2 c3 c4
        obtain ⟨W3, hW3⟩ : ∃ W3, (w2.alloc (.cells #[.int .i64 (a : Int), .int .i64 0, .int .i64 0, .int .i64 0, .int .u32 0, .int .i64 (d : Int), .bool true, .slice none 0 0] 63)).drew = W3 := ⟨_, rfl⟩
        have B3 : Hid (Below w2.heap.size w2 W3) := Lib.hid (by rw [← hW3]; exact ((Below.refl _ _).alloc (Nat.le_refl _) _).drew)
        have R3 : Hid (W3.heap[w2.heap.size]? = some (.cells #[.int .i64 (a : Int), .int .i64 0, .int .i64 0, .int .i64 0, .int .u32 0, .int .i64 (d : Int), .bool true, .slice none 0 0] 63 (0, 0))) := Lib.hid (by rw [← hW3]; exact heap_alloc_new _ _)
        rw [hW3]
        clear hW3
        go_wp2_with fail
        refine still_tail 12 (by kernel_rfl) (by kernel_rfl) ?_
        intro w4 hw4
        have B4 : Hid (Below w2.heap.size w2 w4) := Lib.hid (by rw [hw4.out]; exact B3.out.drew)
        have R4 : Hid (w4.heap[w2.heap.size]? = some (.cells #[.int .i64 (a : Int), .int .i64 0, .int .i64 0, .int .i64 0, .int .u32 0, .int .i64 (d : Int), .bool true, .slice none 0 0] 63 (0, 0))) := Lib.hid (by rw [hw4.out]; exact R3.out)
        obtain ⟨-, c1, c2, c3, -⟩ := CC.out w4 B4.out
        obtain ⟨x1, xf⟩ := line_box R4.out
        have x1a := x1 1 _ rfl
        have x1b := x1 2 _ rfl
        have x1c := x1 3 _ rfl
        have x1d := x1 4 _ rfl
        clear hw4 x1
        simp only [List.take_succ_cons, List.take_zero, List.drop_succ_cons, List.drop_zero]
        repeat still_step
        refine wpStill_nil ?_
        obtain ⟨W5, hW5⟩ : ∃ W5, (((w4.setCell ⟨w2.heap.size, 1, none⟩ (.int .i64 1)).setCell ⟨w2.heap.size, 2, none⟩ (.int .i64 (b : Int))).setCell ⟨w2.heap.size, 3, none⟩ (.int .i64 (c : Int))).setCell ⟨w2.heap.size, 4, none⟩ (.int .u32 (g : Int)) = W5 := ⟨_, rfl⟩
        have R5 : Hid (W5.heap[w2.heap.size]? = some (.cells #[.int .i64 (a : Int), .int .i64 1, .int .i64 (b : Int), .int .i64 (c : Int), .int .u32 (g : Int), .int .i64 (d : Int), .bool true, .slice none 0 0] 63 (0, 0))) := Lib.hid (by rw [← hW5]; exact slot_set R4.out _ _ _ _)
        have B5 : Hid (Below W0.heap.size W0 W5) := Lib.hid (by rw [← hW5]; exact ((((bgo B2.out (Nat.le_refl _) B4.out).setCell (p := ⟨w2.heap.size, 1, none⟩) B2.out.size _).setCell (p := ⟨w2.heap.size, 2, none⟩) B2.out.size _).setCell (p := ⟨w2.heap.size, 3, none⟩) B2.out.size _).setCell (p := ⟨w2.heap.size, 4, none⟩) B2.out.size _)
        obtain ⟨y1, yf⟩ := line_box R5.out
        have y1a := y1 1 _ rfl
        have yf1 := yf 1
        clear y1 yf
        obtain ⟨W6, hW6⟩ : ∃ W6, W5.setCell ⟨w2.heap.size, 1, none⟩ (.int .i64 2) = W6 := ⟨_, rfl⟩
        have R6 : Hid (W6.heap[w2.heap.size]? = some (.cells #[.int .i64 (a : Int), .int .i64 2, .int .i64 (b : Int), .int .i64 (c : Int), .int .u32 (g : Int), .int .i64 (d : Int), .bool true, .slice none 0 0] 63 (0, 0))) := Lib.hid (by rw [← hW6]; exact heap_setCell_same _ _ 1 _ _ _ R5.out)
        have B6 : Hid (Below W0.heap.size W0 W6) := Lib.hid (by rw [← hW6]; exact B5.out.setCell (p := ⟨w2.heap.size, 1, none⟩) B2.out.size _)
        have RES : Hid (W6.heap[w.heap.size]? = some (.cells #[.int .i64 0, .int .i64 0, .int .i64 0, .int .i64 0, .int .u32 0, .int .i64 0, .bool false, .slice none 0 0] 63 (0, 0))) := Lib.hid ((B6.out.block _ LT0.out).trans HR0.out)
        have FN : Hid (RSlotIs (slotR A four) w (.returned (.tuple #[.agg #[.int .i64 (a : Int), .int .i64 2, .int .i64 (b : Int), .int .i64 (c : Int), .int .u32 (g : Int), .int .i64 (d : Int), .bool true, .slice none 0 0], .bool true])) (W6.setRow w.heap.size #[.int .i64 (a : Int), .int .i64 2, .int .i64 (b : Int), .int .i64 (c : Int), .int .u32 (g : Int), .int .i64 (d : Int), .bool true, .slice none 0 0]) ∧ (W6.setRow w.heap.size #[.int .i64 (a : Int), .int .i64 2, .int .i64 (b : Int), .int .i64 (c : Int), .int .u32 (g : Int), .int .i64 (d : Int), .bool true, .slice none 0 0]).heap[w.heap.size]? = some (.cells #[.int .i64 (a : Int), .int .i64 2, .int .i64 (b : Int), .int .i64 (c : Int), .int .u32 (g : Int), .int .i64 (d : Int), .bool true, .slice none 0 0] 63 (0, 0))) := Lib.hid (FIN.out W6 _ B6.out YES.out)
        clear c1 c2 c3 hgw
        go_wp2_with (first | (refine wpList_load_row rfl 63 _ rfl w2.heap.size rfl 63 #[.int .i64 (a : Int), .int .i64 2, .int .i64 (b : Int), .int .i64 (c : Int), .int .u32 (g : Int), .int .i64 (d : Int), .bool true, .slice none 0 0] (0, 0) _ R6.out Tryd.underlying63 rfl size_line8 ?_) | (refine wpList_store_row rfl 63 _ _ rfl w.heap.size #[.int .i64 (a : Int), .int .i64 2, .int .i64 (b : Int), .int .i64 (c : Int), .int .u32 (g : Int), .int .i64 (d : Int), .bool true, .slice none 0 0] rfl rfl 63 _ RES.out size_line8 rfl (by simp [Value.oneCell']) ?_))
        exact bodyPost_ret (results_line_tmp (p := 2) (u := 3) rfl _ _ w.heap.size _ _ _ _ _ _ _ _ _ rfl rfl FN.out.2) rfl FN.out.1
    · have RES : Hid (wr.heap[w.heap.size]? = some (.cells #[.int .i64 0, .int .i64 0, .int .i64 0, .int .i64 0, .int .u32 0, .int .i64 0, .bool false, .slice none 0 0] 63 (0, 0))) := Lib.hid ((hwr.out.block _ LT0.out).trans HR0.out)
      have RW := Lib.hid (setRow_heap _ _ _ #[.int .i64 0, .int .i64 0, .int .i64 0, .int .i64 0, .int .u32 0, .int .i64 0, .bool false, .slice none 0 0] _ _ RES.out)
      have FN : Hid (RSlotIs (slotR A four) w (.returned (.tuple #[.agg #[.int .i64 0, .int .i64 0, .int .i64 0, .int .i64 0, .int .u32 0, .int .i64 0, .bool false, .slice none 0 0], .bool false])) (wr.setRow w.heap.size #[.int .i64 0, .int .i64 0, .int .i64 0, .int .i64 0, .int .u32 0, .int .i64 0, .bool false, .slice none 0 0])) := Lib.hid (by
        rw [hk.out]
        refine ⟨rfl, ?_⟩
        have b : Below w.heap.size w wr := bgo HB0.out (Nat.le_refl _) hwr.out
        exact b.trans ((Fr.setRow (F := fun b => b = w.heap.size) (Fr.refl _ wr) w.heap.size rfl _).below b.size fun b hb => by rw [hb]; exact Nat.le_refl _))
      go_wp2_with (refine wpList_store_row rfl 63 _ _ rfl w.heap.size #[.int .i64 0, .int .i64 0, .int .i64 0, .int .i64 0, .int .u32 0, .int .i64 0, .bool false, .slice none 0 0] rfl rfl 63 _ RES.out size_line8 rfl (by simp [Value.oneCell']) ?_)
      exact bodyPost_ret (results_line_tmp (p := 2) (u := 3) rfl _ _ w.heap.size _ _ _ _ _ _ _ _ _ rfl rfl RW.out) rfl FN.out
end Pd
end Go.Proofs.YtheldnamllnkeaaDoor
