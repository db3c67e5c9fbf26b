/- Part 24 of the contracts and of the plain mathematics that the proof of the law rests on: StoR14, StoDid, TabRPut. -/
import Derived.Test.YtbmabcddciibfaaGreatWr04
import Derived.Test.YtbmabcddciibfaaGreatWr16
import Derived.Test.YtbmabcddciibfaaGreatWr17
import Derived.Test.YtbmabcddciibfaaGreatWr18
import Derived.Test.YtbmabcddciibfaaGreatWr19
import Derived.Test.YtbmabcddciibfaaGreatWr20
import Derived.Test.YtbmabcddciibfaaGreatWr21
import Derived.Test.YtbmabcddciibfaaGreatWr22
import Derived.Test.YtbmabcddciibfaaGreatWr23
import Derived.Laws.MakeOwn
import Derived.Lib.Agree
namespace Go.Proofs.YtbmabcddciibfaaGreat
namespace So
open Go.RowKit
set_option maxRecDepth 100000
set_option linter.unusedVariables false
theorem Pa.Ok.rroom {p : Pa} (h : p.Ok) : RRoomIs (p.a : Int) (p.n : Int) (p.g : Int) (p.st : Int) (p.ln : Int) (p.N : Int) 0 := by
  have h1 := rroom10_in (p.a : Int) (p.n : Int) (p.st : Int) p.g p.ln h.sup h.inB
  rw [h.room] at h1
  have e : Geo.noneE p.N = 0 := by have := h.pos; unfold Geo.noneE; rw [if_neg (by omega)]
  rw [e] at h1
  exact h1
theorem alloc2_else {w : World} {q : Nat} (h : q < w.heap.size) (o o' : Obj) (j : Nat) : ((w.alloc o).alloc o').cell? ⟨q, j, none⟩ = w.cell? ⟨q, j, none⟩ := by
  rw [alloc_else (w := w.alloc o) (by simp; omega), alloc_else h]
set_option maxHeartbeats 1000000 in
theorem rchunk10 {p : Pa} (hp : p.Ok) {i : Nat} (hi : i < p.N) (w : World) : Calls Tryz.prog 79 #[.agg #[.int .i64 (p.a : Int), .int .i64 (p.n : Int), .int .i64 (p.g : Int)], .agg #[.int .i64 (p.st : Int), .int .i64 (p.ln : Int)], .int .i64 (i : Int)] w fun e w' => e = .returned (.tuple #[.agg #[.int .i64 (p.data i : Int), .int .i64 (p.g : Int)], .int .i64 0]) ∧ Below w.heap.size w w' := by
  obtain ⟨W0, hW0⟩ : ∃ W0, (w.alloc (.cells #[.int .i64 (p.a : Int), .int .i64 (p.n : Int), .int .i64 (p.g : Int)] 23)).alloc (.cells #[.int .i64 (p.st : Int), .int .i64 (p.ln : Int)] 25) = W0 := ⟨_, rfl⟩
  have hB0 := rbox_made w _ _ _ _ _ W0 hW0
  obtain ⟨W1, hW1⟩ : ∃ W1, W0.alloc (.cells #[.int .i64 0, .int .i64 0] 25) = W1 := ⟨_, rfl⟩
  have hb1 : Below W0.heap.size W0 W1 := by rw [← hW1]; exact (Below.refl _ _).alloc (Nat.le_refl _) _
  have hz1 : W1.heap[W0.heap.size]? = some (.cells #[.int .i64 0, .int .i64 0] 25 (0, 0)) := by rw [← hW1]; exact heap_alloc_new W0 _
  have hsz0 : W0.heap.size = w.heap.size + 2 := by rw [← hW0]; simp
  have HB := Lib.hid (hB0.next hb1)
  have HZ := Lib.hid hz1
  have SZ := Lib.hid hsz0
  obtain ⟨_, ⟨a0, a1, a2, b0, b1⟩, _⟩ := HB.out
  obtain ⟨z0, z1, zf⟩ := duo_cells hz1
  have RM := Lib.hid hp.rroom
  unfold RRoomIs at RM
  have PG := Lib.hid (fun w1 => rpages05 p.N w1 hp.nums.N1)
  have hda := Pa.data_end hp hi
  have hhi := hp.high
  have ha1 := hp.nums.a1
  have hN1 := hp.nums.N1
  have hpg : Tb.pagesN p.N ≤ p.N := by unfold Tb.pagesN; omega
  have hdd : p.data i = p.st + 1 + Tb.pagesN p.N + i * p.g := rfl
  have d1 : decide ((i : Int) < 0) = false := by simp
  have d2 : decide ((i : Int) ≥ (p.N : Int)) = false := by simp; omega
  have d3 : decide ((p.N : Int) ≤ (i : Int)) = false := by simp; omega
  have d4 : decide (p.N ≤ i) = false := by simp; omega
  obtain ⟨M, hM⟩ : ∃ M, M = i * p.g := ⟨_, rfl⟩
  have e1 : IntKind.i64.wrap ((p.st : Int) + 1) = (p.st : Int) + 1 := IntWalk.i64_in _ (by omega)
  have e2 : IntKind.i64.wrap ((p.st : Int) + 1 + (Tb.pagesN p.N : Int)) = (p.st : Int) + 1 + (Tb.pagesN p.N : Int) := IntWalk.i64_in _ (by omega)
  have e3 : IntKind.i64.wrap ((i : Int) * (p.g : Int)) = (M : Int) := by
    have : (i : Int) * (p.g : Int) = (M : Int) := by rw [hM]; push_cast; rfl
    rw [this]
    exact IntWalk.i64_in _ (by omega)
  have e4 : IntKind.i64.wrap ((p.st : Int) + 1 + (Tb.pagesN p.N : Int) + (M : Int)) = (p.data i : Int) := by rw [IntWalk.i64_in _ (by omega)]; omega
  have NE : Hid (w.heap.size + 1 < W0.heap.size) := Lib.hid (by omega)
  have L0 : Hid (w.heap.size < W0.heap.size) := Lib.hid (by omega)
  have L1 : Hid (w.heap.size + 1 < W0.heap.size) := Lib.hid (by omega)
  clear hB0 hb1 hz1 hsz0 hp hi hda hhi ha1 hN1 hpg hdd hM
  go_enter Tryz.func79, Tryz.ntmps79
  go_wp2_with fail
  clear hW0 hW1
  refine (RM.out _).mono ?_
  rintro e w2 ⟨rfl, hb⟩
  have HB2 := Lib.hid (HB.out.next hb)
  have hz2 := (hb.block W0.heap.size (Dsk.lt_of_heap HZ.out)).trans HZ.out
  obtain ⟨_, ⟨a0, a1, a2, b0, b1⟩, _⟩ := HB2.out
  obtain ⟨z0, z1, zf⟩ := duo_cells hz2
  have HZ2 := Lib.hid hz2
  clear hb hz2
  go_wp2_with fail
  go_region_held3 (fun w' => w'.cell? ⟨w.heap.size, 2, none⟩ = some (.int .i64 (p.g : Int)) ∧ w'.cell? ⟨w.heap.size + 1, 0, none⟩ = some (.int .i64 (p.st : Int)))
    (first
      | (refine ⟨?_, ?_⟩ <;> (rw [drew_cell2]; first | (rw [duo_other L0.out]; assumption) | (rw [duo_other L1.out]; assumption)))
      | (refine ⟨?_, ?_⟩ <;> assumption))
    (first | (go_at_call 76; refine (PG.out _).mono ?_; rintro e w3 ⟨rfl, rfl⟩))
  go_wp2_with fail
  refine bodyPost_ret (results_ext (p := 6) (u := 7) rfl _ _ W0.heap.size _ _ _ rfl rfl (duo_set (w := w2) HZ2.out _ _)) rfl ⟨?_, ?_⟩
  · rfl
  · exact (below_duo HB2.out.bel (by have := NE.out; omega) _ _).drew
structure Rb where
  q : Nat
  tv : Value
  dv : Value
def Rb.fp (r : Rb) (k : Nat) : Prop := k = r.q ∨ r.tv.ownBlock = some k ∨ r.dv.ownBlock = some k
def Rb.cells (r : Rb) (p : Pa) (inv : Bool) : Array Value :=
  #[.int .i64 (p.a : Int), .int .i64 (p.n : Int), .int .i64 (p.g : Int), .int .i64 (p.st : Int), .int .i64 (p.ln : Int), .int .u32 (p.gen : Int), r.tv, r.dv, .bool inv]
structure Rs (w : World) (r : Rb) (p : Pa) (M : Ms) : Prop where
  head : w.heap[r.q]? = some (.cells (r.cells p M.inv) 58 (0, 0))
  row : Tb.Ints w r.tv M.T
  drow : w.ownsRow 0 9 1 r.dv M.D.length (Dsk.scells M.D)
  td : ∀ k, r.tv.ownBlock = some k → r.dv.ownBlock ≠ some k
  qt : r.tv.ownBlock ≠ some r.q
  qd : r.dv.ownBlock ≠ some r.q
theorem Rs.lt {w : World} {r : Rb} {p : Pa} {M : Ms} (h : Rs w r p M) (k : Nat) (hk : r.fp k) : k < w.heap.size := by
  rcases hk with rfl | hk | hk
  · exact Dsk.lt_of_heap h.head
  · obtain ⟨c, hc⟩ := Dsk.own_block h.row k hk; exact Dsk.lt_of_heap hc
  · obtain ⟨c, hc⟩ := Dsk.own_block h.drow k hk; exact Dsk.lt_of_heap hc
theorem Rs.same {w w' : World} {r : Rb} {p : Pa} {M : Ms} (h : Rs w r p M) (hb : ∀ k, r.fp k → w'.heap[k]? = w.heap[k]?) : Rs w' r p M :=
  ⟨(hb _ (.inl rfl)).trans h.head, Dsk.own_same h.row fun k hk => hb k (.inr (.inl hk)), Dsk.own_same h.drow fun k hk => hb k (.inr (.inr hk)), h.td, h.qt, h.qd⟩
theorem Rs.keep {w w' : World} {r : Rb} {p : Pa} {M : Ms} {F : Nat → Prop} (h : Rs w r p M) (hf : Dsk.Fr F w w') (hd : ∀ k, r.fp k → ¬ F k) : Rs w' r p M := h.same fun k hk => hf.block k (h.lt k hk) (hd k hk)
theorem Rs.below {w w' : World} {r : Rb} {p : Pa} {M : Ms} (h : Rs w r p M) (hb : Below w.heap.size w w') : Rs w' r p M := h.same fun k hk => hb.block k (h.lt k hk)
theorem Rs.reads {w : World} {r : Rb} {p : Pa} {M : Ms} (h : Rs w r p M) :
    w.cell? ⟨r.q, 0, none⟩ = some (.int .i64 (p.a : Int)) ∧ w.cell? ⟨r.q, 1, none⟩ = some (.int .i64 (p.n : Int)) ∧ w.cell? ⟨r.q, 2, none⟩ = some (.int .i64 (p.g : Int)) ∧
    w.cell? ⟨r.q, 3, none⟩ = some (.int .i64 (p.st : Int)) ∧ w.cell? ⟨r.q, 4, none⟩ = some (.int .i64 (p.ln : Int)) ∧ w.cell? ⟨r.q, 5, none⟩ = some (.int .u32 (p.gen : Int)) ∧
    w.cell? ⟨r.q, 6, none⟩ = some r.tv ∧ w.cell? ⟨r.q, 7, none⟩ = some r.dv ∧ w.cell? ⟨r.q, 8, none⟩ = some (.bool M.inv) ∧ ∀ j, w.frozen? ⟨r.q, j, none⟩ = false := by
  refine ⟨?_, ?_, ?_, ?_, ?_, ?_, ?_, ?_, ?_, fun j => frozen_of_row _ _ _ _ _ h.head⟩ <;> (rw [cell_of_row _ _ _ _ _ _ h.head]; rfl)
structure RSp (r r' : Rb) (w w' : World) : Prop where
  fr : Dsk.Fr r.fp w w'
  fp : ∀ k, r'.fp k → r.fp k ∨ w.heap.size ≤ k
  q : r'.q = r.q
theorem RSp.refl (r : Rb) (w : World) : RSp r r w w := ⟨Dsk.Fr.refl _ _, fun _ h => .inl h, rfl⟩
theorem RSp.of_below {r : Rb} {w w' : World} (h : Below w.heap.size w w') : RSp r r w w' := ⟨Dsk.Fr.of_below h, fun _ h => .inl h, rfl⟩
theorem RSp.trans {a b c : Rb} {u v w : World} (h : RSp a b u v) (k : RSp b c v w) : RSp a c u w := by
  refine ⟨h.fr.trans k.fr fun i hi hb => ?_, fun i hi => ?_, k.q.trans h.q⟩
  · rcases h.fp i hb with h1 | h1
    · exact h1
    · omega
  · rcases k.fp i hi with h1 | h1
    · exact h.fp i h1
    · exact .inr (Nat.le_trans h.fr.size h1)
def RWent (r : Rb) (p : Pa) (M : Ms) (w w' : World) : Prop := ∃ r', Rs w' r' p M ∧ RSp r r' w w'
theorem RWent.below {w w' : World} {r : Rb} {p : Pa} {M : Ms} (h : Rs w r p M) (hb : Below w.heap.size w w') : RWent r p M w w' := ⟨r, h.below hb, RSp.of_below hb⟩
theorem RWent.trans {w w1 w2 : World} {r r1 : Rb} {p : Pa} {M : Ms} (h1 : RSp r r1 w w1) (h : RWent r1 p M w1 w2) : RWent r p M w w2 := by
  obtain ⟨r2, hk, hs⟩ := h
  exact ⟨r2, hk, h1.trans hs⟩
def RGot (p : Pa) (M : Ms) (w : World) (e : Ending) (w' : World) : Prop := ∃ r, e = .returned (.tuple #[.pointer (some ⟨r.q, 0, none⟩), .int .i64 0]) ∧ Rs w' r p M ∧ (∀ k, r.fp k → w.heap.size ≤ k) ∧ Below w.heap.size w w'
theorem rnew_gen (a n g p m : Int) (w : World) : Calls Tryz.prog 33 #[.agg #[.int .i64 a, .int .i64 n, .int .i64 g], .agg #[.int .i64 p, .int .i64 m], .int .u32 0] w (NoStore 1 w) := by
  obtain ⟨W0, hW0⟩ : ∃ W0, (w.alloc (.cells #[.int .i64 a, .int .i64 n, .int .i64 g] 23)).alloc (.cells #[.int .i64 p, .int .i64 m] 25) = W0 := ⟨_, rfl⟩
  have HB := Lib.hid (rbox_made w _ _ _ _ _ W0 hW0)
  unfold NoStore
  go_enter Tryz.func33, Tryz.ntmps33
  go_wp2_with fail
  go_ret2
  exact ⟨rfl, HB.out.bel⟩
theorem rnew_room (a n g p m r x : Int) (gen : Nat) (w : World) (hg : gen ≠ 0) (hr : RRoomIs a n g p m r x) (hx : x ≠ 0) : Calls Tryz.prog 33 #[.agg #[.int .i64 a, .int .i64 n, .int .i64 g], .agg #[.int .i64 p, .int .i64 m], .int .u32 (gen : Int)] w (NoStore x w) := by
  obtain ⟨W0, hW0⟩ : ∃ W0, (w.alloc (.cells #[.int .i64 a, .int .i64 n, .int .i64 g] 23)).alloc (.cells #[.int .i64 p, .int .i64 m] 25) = W0 := ⟨_, rfl⟩
  have HB := Lib.hid (rbox_made w _ _ _ _ _ W0 hW0)
  obtain ⟨_, ⟨a0, a1, a2, b0, b1⟩, _⟩ := HB.out
  have RM := Lib.hid hr
  unfold RRoomIs at RM
  have e1 : ((gen : Int) == 0) = false := by simpa using hg
  have e2 : (x != 0) = true := by simpa using hx
  clear hg hx hr
  unfold NoStore
  go_enter Tryz.func33, Tryz.ntmps33
  go_wp2_with fail
  clear hW0
  refine (RM.out _).mono ?_
  rintro e w1 ⟨rfl, hb⟩
  have FB := Lib.hid (HB.out.bel.trans (hb.mono HB.out.bel.size))
  clear hb
  go_wp2_with fail
  go_ret2
  exact ⟨rfl, FB.out⟩
def rowZ (N : Nat) : Obj := .cells (madeCells #[.string (Om.B [])] N) 9
theorem info_str14 : (Tryz.prog.info? 9).map (fun i => (i.zero, i.size, i.bytes)) = some (some (.string (Om.B [])), 1, 16) := by kernel_rfl
theorem mk_run (N : Nat) (hN : N ≤ 1048576) (w1 : World) : (Instr.makeSlice 56 (.int .i64 (N : Int)) (.int .i64 (N : Int))).run Tryz.prog w1 = .ok (.slice (some ⟨w1.heap.size, 0, none⟩) N N) (w1.alloc (rowZ N)) := by
  obtain ⟨i0, hi, hz0, hz1, hz2⟩ := info_parts info_str14
  have h := run_make (P := Tryz.prog) w1 56 9 i0 _ Tryz.underlying56 hi hz0 .i64 .i64 (N : Int) (N : Int) (by omega) (Int.le_refl _) (by rw [hz2]; omega) (by omega)
  rw [Int.toNat_natCast, hz1, Nat.mul_one] at h
  exact h
theorem mk_row (N : Nat) (hN : N ≤ 1048576) (w1 : World) : (w1.alloc (rowZ N)).ownsRow 0 9 1 (.slice (some ⟨w1.heap.size, 0, none⟩) N N) N (Dsk.scells (List.replicate N [])) := by
  obtain ⟨i0, hi, hz0, hz1, hz2⟩ := info_parts info_str14
  obtain ⟨w', hrun, r1, _⟩ := run_make_full (P := Tryz.prog) w1 0 56 9 i0 _ 1 Tryz.underlying56 hi hz0 hz1 .i64 .i64 N (by rw [hz2]; omega) (by unfold maxLen; omega) (Nat.zero_le _)
  rw [mk_run N hN w1] at hrun
  injection hrun with _ hw
  rw [← hw] at r1
  have e : (madeCells (Value.string (Om.B [])).cells (N * 1)).toList = Dsk.scells (List.replicate N []) := by
    unfold Dsk.scells
    rw [Nat.mul_one, List.map_replicate]
    exact toList_madeCells_one (.string (Om.B [])) N
  rw [e] at r1
  exact r1
theorem rgot_of {w W W' : World} {p : Pa} {v : Value} {g : Nat} (hb : Below w.heap.size w W) (hv : Tb.Ints W v (List.replicate p.N (-1))) (hvn : ∀ k, v.ownBlock = some k → w.heap.size ≤ k) (hd : W.ownsRow 0 9 1 (.slice (some ⟨g, 0, none⟩) p.N p.N) p.N (Dsk.scells (List.replicate p.N [])))
    (hg : w.heap.size ≤ g) (hne : v.ownBlock ≠ some g) (hW : W.alloc (.cells #[.int .i64 (p.a : Int), .int .i64 (p.n : Int), .int .i64 (p.g : Int), .int .i64 (p.st : Int), .int .i64 (p.ln : Int), .int .u32 (p.gen : Int), v, .slice (some ⟨g, 0, none⟩) p.N p.N, .bool false] 58) = W') :
    RGot p (Ms.new p) w (.returned (.tuple #[.pointer (some ⟨W.heap.size, 0, none⟩), .int .i64 0])) W' := by
  have hb8 : Below W.heap.size W W' := by rw [← hW]; exact (Below.refl _ _).alloc (Nat.le_refl _) _
  have hr8 := heap_alloc_new W (.cells #[.int .i64 (p.a : Int), .int .i64 (p.n : Int), .int .i64 (p.g : Int), .int .i64 (p.st : Int), .int .i64 (p.ln : Int), .int .u32 (p.gen : Int), v, .slice (some ⟨g, 0, none⟩) p.N p.N, .bool false] 58)
  rw [hW] at hr8
  have hvl : ∀ k, v.ownBlock = some k → k < W.heap.size := fun k hk => by obtain ⟨c, hc⟩ := Dsk.own_block hv k hk; exact Dsk.lt_of_heap hc
  have hdl : g < W.heap.size := by obtain ⟨c, hc⟩ := Dsk.own_block hd g rfl; exact Dsk.lt_of_heap hc
  have hob : (Value.slice (some ⟨g, 0, none⟩) p.N p.N).ownBlock = some g := rfl
  refine ⟨⟨W.heap.size, v, .slice (some ⟨g, 0, none⟩) p.N p.N⟩, rfl, ⟨hr8, Dsk.own_same hv fun k hk => hb8.block k (hvl k hk), ?_, fun k hk h2 => ?_, fun h => ?_, fun h => ?_⟩, fun k hk => ?_, hb.trans (hb8.mono hb.size)⟩
  · show W'.ownsRow 0 9 1 _ (List.replicate p.N ([] : List UInt8)).length (Dsk.scells (List.replicate p.N []))
    rw [List.length_replicate]
    exact Dsk.own_same hd fun k hk => hb8.block k (by rw [hob] at hk; injection hk with hk; omega)
  · rw [hob] at h2
    injection h2 with h2
    rw [← h2] at hk
    exact hne hk
  · exact Nat.lt_irrefl _ (hvl _ h)
  · rw [hob] at h
    injection h with h
    have h : g = W.heap.size := h
    omega
  · rcases hk with hk | hk | hk
    · rw [hk]; exact hb.size
    · exact hvn k hk
    · rw [hob] at hk
      injection hk with hk
      omega
theorem fin_a {w w1 w2 : World} {p : Pa} {va : Option Addr} {vc : Nat} (hN : p.N ≤ 1048576) (h1 : Below w.heap.size w w1) (h2 : Below w1.heap.size w1 w2) (hv : Tb.Ints w2 (.slice va p.N vc) (List.replicate p.N (-1))) (hn : ∀ k, (Value.slice va p.N vc).ownBlock = some k → w1.heap.size ≤ k) :
    RGot p (Ms.new p) w (.returned (.tuple #[.pointer (some ⟨w2.heap.size + 1, 0, none⟩), .int .i64 0])) ((w2.alloc (rowZ p.N)).alloc (.cells #[.int .i64 (p.a : Int), .int .i64 (p.n : Int), .int .i64 (p.g : Int), .int .i64 (p.st : Int), .int .i64 (p.ln : Int), .int .u32 (p.gen : Int), .slice va p.N vc, .slice (some ⟨w2.heap.size, 0, none⟩) p.N p.N, .bool false] 58)) := by
  have hvl : ∀ k, (Value.slice va p.N vc).ownBlock = some k → k < w2.heap.size := fun k hk => by obtain ⟨c, hc⟩ := Dsk.own_block hv k hk; exact Dsk.lt_of_heap hc
  have hs : (w2.alloc (rowZ p.N)).heap.size = w2.heap.size + 1 := by simp
  have hw2 : Below w.heap.size w w2 := h1.trans (h2.mono h1.size)
  have := rgot_of (w := w) (W := w2.alloc (rowZ p.N)) (v := .slice va p.N vc) (g := w2.heap.size) (hw2.alloc hw2.size _) (Dsk.own_same hv fun k hk => Below.heap_alloc _ _ _ (hvl k hk)) (fun k hk => Nat.le_trans h1.size (hn k hk)) (mk_row p.N hN w2) hw2.size (fun h => Nat.lt_irrefl _ (hvl _ h)) rfl
  rw [hs] at this
  exact this
theorem fin_b {w w1 w2 : World} {p : Pa} {va : Option Addr} {vc : Nat} (hN : p.N ≤ 1048576) (h1 : Below w.heap.size w w1) (h2 : Below w1.heap.size w1 w2) (hr : w2.heap[w1.heap.size]? = some (rowZ p.N)) (hv : Tb.Ints w2 (.slice va p.N vc) (List.replicate p.N (-1))) (hn : ∀ k, (Value.slice va p.N vc).ownBlock = some k → w1.heap.size + 1 ≤ k) :
    RGot p (Ms.new p) w (.returned (.tuple #[.pointer (some ⟨w2.heap.size, 0, none⟩), .int .i64 0])) (w2.alloc (.cells #[.int .i64 (p.a : Int), .int .i64 (p.n : Int), .int .i64 (p.g : Int), .int .i64 (p.st : Int), .int .i64 (p.ln : Int), .int .u32 (p.gen : Int), .slice va p.N vc, .slice (some ⟨w1.heap.size, 0, none⟩) p.N p.N, .bool false] 58)) := by
  have hw2 : Below w.heap.size w w2 := h1.trans (h2.mono h1.size)
  exact rgot_of (w := w) (W := w2) (v := .slice va p.N vc) (g := w1.heap.size) hw2 hv (fun k hk => Nat.le_trans h1.size (Nat.le_of_succ_le (hn k hk))) (Dsk.own_same (mk_row p.N hN w1) fun k hk => by
      have : k = w1.heap.size := by injection hk with hk; exact hk.symm
      rw [this, hr, heap_alloc_new]) h1.size (fun h => by have := hn _ h; omega) rfl
set_option maxHeartbeats 2000000 in
theorem rnew_ok {p : Pa} (hp : p.Ok) (w : World) : Calls Tryz.prog 33 #[.agg #[.int .i64 (p.a : Int), .int .i64 (p.n : Int), .int .i64 (p.g : Int)], .agg #[.int .i64 (p.st : Int), .int .i64 (p.ln : Int)], .int .u32 (p.gen : Int)] w (RGot p (Ms.new p) w) := by
  obtain ⟨W0, hW0⟩ : ∃ W0, (w.alloc (.cells #[.int .i64 (p.a : Int), .int .i64 (p.n : Int), .int .i64 (p.g : Int)] 23)).alloc (.cells #[.int .i64 (p.st : Int), .int .i64 (p.ln : Int)] 25) = W0 := ⟨_, rfl⟩
  have HB := Lib.hid (rbox_made w _ _ _ _ _ W0 hW0)
  obtain ⟨_, ⟨a0, a1, a2, b0, b1⟩, _⟩ := HB.out
  have RM := Lib.hid hp.rroom
  unfold RRoomIs at RM
  have e1 : ((p.gen : Int) == 0) = false := by have := hp.gen1; simp; omega
  have hN1 := hp.nums.N1
  have NW : Hid (∀ w1, Calls Tryz.prog 74 #[.int .i64 (p.N : Int)] w1 (Tb.MadeR (List.replicate p.N (-1)) w1)) := Lib.hid fun w1 => Tb.rnew_any (p.N : Int) w1 p.N (by rw [if_neg (by omega), Int.toNat_natCast]) (by omega)
  have hmk := fun w1 => mk_run p.N hN1 w1
  have MKR := Lib.hid (fun w1 => mk_row p.N hN1 w1)
  have HN1 := Lib.hid hN1
  clear hp hN1
  go_enter Tryz.func33, Tryz.ntmps33
  go_wp2_with fail
  clear hW0
  refine (RM.out _).mono ?_
  rintro e w1 ⟨rfl, hb⟩
  have HB1 := Lib.hid (HB.out.next hb)
  obtain ⟨_, ⟨a0, a1, a2, b0, b1⟩, _⟩ := HB1.out
  have Q0 : Hid (w.heap.size < w1.heap.size) := Lib.hid (by have := HB1.out.sz; omega)
  have Q1 : Hid (w.heap.size + 1 < w1.heap.size) := Lib.hid (by have := HB1.out.sz; omega)
  clear hb
  go_upto_region 6 with fail
  go_region_held3 (fun w' => w'.cell? ⟨w.heap.size, 0, none⟩ = some (.int .i64 (p.a : Int)) ∧ w'.cell? ⟨w.heap.size, 1, none⟩ = some (.int .i64 (p.n : Int)) ∧ w'.cell? ⟨w.heap.size, 2, none⟩ = some (.int .i64 (p.g : Int)) ∧ w'.cell? ⟨w.heap.size + 1, 0, none⟩ = some (.int .i64 (p.st : Int)) ∧ w'.cell? ⟨w.heap.size + 1, 1, none⟩ = some (.int .i64 (p.ln : Int)))
    (first
      | (refine ⟨?_, ?_, ?_, ?_, ?_⟩ <;> (first | (rw [alloc2_else (w := w2) (Nat.lt_of_lt_of_le Q0.out B2.out.size)]; assumption) | (rw [alloc2_else (w := w2) (Nat.lt_of_lt_of_le Q1.out B2.out.size)]; assumption)))
      | (refine ⟨?_, ?_, ?_, ?_, ?_⟩ <;> (first | (rw [alloc_else (w := w2) (Nat.lt_of_lt_of_le Q0.out B2.out.size)]; assumption) | (rw [alloc_else (w := w2) (Nat.lt_of_lt_of_le Q1.out B2.out.size)]; assumption)))
      | (refine ⟨?_, ?_, ?_, ?_, ?_⟩ <;> (rw [drew_cell2]; first | (rw [alloc_else (w := w1) Q0.out]; assumption) | (rw [alloc_else (w := w1) Q1.out]; assumption)))
      | (refine ⟨?_, ?_, ?_, ?_, ?_⟩ <;> assumption))
    (first | (go_at_call 74; refine (NW.out _).mono ?_; rintro e w2 ⟨v, rfl, hv, hn, hb⟩; have B2 : Hid (Below w1.heap.size w1 w2) := Lib.hid (keepd hb (by first | exact (Below.refl _ _).drew | exact ((Below.refl _ _).alloc (Nat.le_refl _) _).drew)); obtain ⟨_, ⟨f0, f1, f2, f3, f4⟩, _⟩ := HB1.out.next B2.out; obtain ⟨va, vc, hvv⟩ := Dsk.own_slice hv; subst hvv; simp only [List.length_replicate] at hv hn; have HV := Lib.hid hv; have HVN := Lib.hid hn; clear hv hn; first | (have N2 := Lib.hid (row_drew hb)) | skip))
  all_goals
    go_wp2_with fail
    go_ret2
    first
    | exact fin_a HN1.out HB1.out.bel B2.out HV.out HVN.out
    | exact fin_b HN1.out HB1.out.bel B2.out N2.out HV.out (fun k hk => by have := HVN.out k hk; have h2 : (w1.alloc (rowZ p.N)).heap.size = w1.heap.size + 1 := by simp
                                                                           have h3 : (w1.alloc (rowZ p.N)).drew.heap.size = (w1.alloc (rowZ p.N)).heap.size := rfl
                                                                           omega)
end So
end Go.Proofs.YtbmabcddciibfaaGreat
namespace Go.Proofs.YtbmabcddciibfaaGreat
namespace So
open Go.RowKit
set_option linter.unusedVariables false
set_option maxRecDepth 100000
def ActOps (p : Pa) (M : Ms) (x : Ac) (ops : List Op) : Prop :=
  if x.k % 6 = 0 then AddOps p M x.cs ops else if x.k % 6 = 1 then WriOps p M x.o x.f x.d ops else if x.k % 6 = 2 then RemOps p M x.rm ops else if x.k % 6 = 4 then ops = spoOps p else ops = []
def actM (p : Pa) (M : Ms) (x : Ac) : Ms :=
  if x.k % 6 = 0 then addM p M x.cs else if x.k % 6 = 1 then wriM p M x.o x.f x.d else if x.k % 6 = 2 then remM M x.rm else if x.k % 6 = 4 then M.spoil else M
theorem next_act {p : Pa} (hp : p.Ok) {st : Dm.St} {M : Ms} (h : Live p st M) {x : Ac} {ops : List Op} (ho : ActOps p M x ops) : Next p st ops (actM p M x) := by
  unfold ActOps at ho
  unfold actM
  split at ho
  · rename_i h0; rw [if_pos h0]; exact next_add hp h ho
  · rename_i h0; rw [if_neg h0]
    split at ho
    · rename_i h1; rw [if_pos h1]; exact next_wri hp h ho
    · rename_i h1; rw [if_neg h1]
      split at ho
      · rename_i h2; rw [if_pos h2]; exact next_rem hp h ho
      · rename_i h2; rw [if_neg h2]
        split at ho
        · rename_i h3; rw [if_pos h3, ho]; exact next_spo hp h
        · rename_i h3; rw [if_neg h3, ho]; exact Next.none h
theorem fails_act {p : Pa} (hp : p.Ok) {st : Dm.St} {M : Ms} (h : Rest p st M) {x : Ac} {ops : List Op} (ho : ActOps p M x ops) (keep : List Bool) : Outcome p (Dm.one (Dm.restart (runs st ops).1 keep)) M (actM p M x) := by
  unfold ActOps at ho
  unfold actM
  split at ho
  · rename_i h0; rw [if_pos h0]; exact fails_add hp h ho keep
  · rename_i h0; rw [if_neg h0]
    split at ho
    · rename_i h1; rw [if_pos h1]; exact fails_wri hp h ho keep
    · rename_i h1; rw [if_neg h1]
      split at ho
      · rename_i h2; rw [if_pos h2]; exact fails_rem hp h ho keep
      · rename_i h2; rw [if_neg h2]
        split at ho
        · rename_i h3; rw [if_pos h3, ho]; exact fails_spo hp h keep
        · rename_i h3; rw [if_neg h3, ho]; exact h.same keep fun hv => hv
theorem addE_tab (M : Ms) (g : Nat) (l : List (Int × List UInt8)) : addE M.inv M.tab g l = addE M.inv M.T g l := by
  unfold Ms.tab addE
  cases M.inv <;> rfl
theorem remE_tab (M : Ms) (l : List Int) : remE M.inv M.tab l = remE M.inv M.T l := by
  unfold Ms.tab remE
  cases M.inv <;> rfl
theorem tab_no {M : Ms} (h : M.inv = false) : M.tab = M.T := by unfold Ms.tab; rw [h, if_neg (by decide)]
structure Bo where
  X : Nat
  b : Bk
  r : Rb
def Bo.fp (y : Bo) (k : Nat) : Prop := k = y.X ∨ y.b.fp k ∨ y.r.fp k
def Bo.cells (y : Bo) (p : Pa) : Array Value := #[.pointer (some ⟨y.b.d.p, 0, none⟩), .int .i64 (p.a : Int), .int .i64 (p.n : Int), .int .i64 (p.g : Int), .pointer (some ⟨y.b.q, 0, none⟩), .pointer (some ⟨y.r.q, 0, none⟩)]
structure Both (w : World) (y : Bo) (p : Pa) (inv : Bool) (st : Dm.St) (m : List Int) (M : Ms) : Prop where
  head : w.heap[y.X]? = some (.cells (y.cells p) 48 (0, 0))
  sk : Sk w y.b p inv st m
  rs : Rs w y.r p M
  ap : ∀ k, y.b.fp k → ¬ y.r.fp k
  bx : ¬ y.b.fp y.X
  rx : ¬ y.r.fp y.X
theorem Both.lt {w : World} {y : Bo} {p : Pa} {inv : Bool} {st : Dm.St} {m : List Int} {M : Ms} (h : Both w y p inv st m M) (k : Nat) (hk : y.fp k) : k < w.heap.size := by
  rcases hk with rfl | hk | hk
  · exact Dsk.lt_of_heap h.head
  · exact h.sk.lt k hk
  · exact h.rs.lt k hk
theorem Both.below {w w' : World} {y : Bo} {p : Pa} {inv : Bool} {st : Dm.St} {m : List Int} {M : Ms} (h : Both w y p inv st m M) (hb : Below w.heap.size w w') : Both w' y p inv st m M :=
  ⟨(hb.block _ (Dsk.lt_of_heap h.head)).trans h.head, h.sk.below hb, h.rs.below hb, h.ap, h.bx, h.rx⟩
theorem Both.reads {w : World} {y : Bo} {p : Pa} {inv : Bool} {st : Dm.St} {m : List Int} {M : Ms} (h : Both w y p inv st m M) :
    w.cell? ⟨y.X, 0, none⟩ = some (.pointer (some ⟨y.b.d.p, 0, none⟩)) ∧ w.cell? ⟨y.X, 1, none⟩ = some (.int .i64 (p.a : Int)) ∧ w.cell? ⟨y.X, 2, none⟩ = some (.int .i64 (p.n : Int)) ∧ w.cell? ⟨y.X, 3, none⟩ = some (.int .i64 (p.g : Int)) ∧
    w.cell? ⟨y.X, 4, none⟩ = some (.pointer (some ⟨y.b.q, 0, none⟩)) ∧ w.cell? ⟨y.X, 5, none⟩ = some (.pointer (some ⟨y.r.q, 0, none⟩)) ∧ ∀ j, w.frozen? ⟨y.X, j, none⟩ = false := by
  refine ⟨?_, ?_, ?_, ?_, ?_, ?_, fun j => frozen_of_row _ _ _ _ _ h.head⟩ <;> (rw [cell_of_row _ _ _ _ _ _ h.head]; rfl)
structure Bp (y y' : Bo) (w w' : World) : Prop where
  fr : Dsk.Fr y.fp w w'
  fp : ∀ k, y'.fp k → y.fp k ∨ w.heap.size ≤ k
  X : y'.X = y.X
  dp : y'.b.d.p = y.b.d.p
  rq : y'.r.q = y.r.q
theorem Bp.refl (y : Bo) (w : World) : Bp y y w w := ⟨Dsk.Fr.refl _ _, fun _ h => .inl h, rfl, rfl, rfl⟩
theorem Bp.of_below {y : Bo} {w w' : World} (h : Below w.heap.size w w') : Bp y y w w' := ⟨Dsk.Fr.of_below h, fun _ h => .inl h, rfl, rfl, rfl⟩
theorem Bp.trans {a b c : Bo} {u v w : World} (h : Bp a b u v) (k : Bp b c v w) : Bp a c u w := by
  refine ⟨h.fr.trans k.fr fun i hi hb => ?_, fun i hi => ?_, k.X.trans h.X, k.dp.trans h.dp, k.rq.trans h.rq⟩
  · rcases h.fp i hb with h1 | h1
    · exact h1
    · omega
  · rcases k.fp i hi with h1 | h1
    · exact h.fp i h1
    · exact .inr (Nat.le_trans h.fr.size h1)
theorem Both.store {w w' : World} {y : Bo} {p : Pa} {inv inv' : Bool} {st st' : Dm.St} {m m' : List Int} {M : Ms} (h : Both w y p inv st m M) (hs : SWent y.b p inv' st' m' w w') :
    ∃ y', Both w' y' p inv' st' m' M ∧ Bp y y' w w' ∧ y'.r = y.r ∧ y'.b.q = y.b.q := by
  obtain ⟨b', k, s⟩ := hs
  have hX := Dsk.lt_of_heap h.head
  have new : ∀ k, b'.fp k → k < w.heap.size → y.b.fp k := fun k hk hlt => (s.fp k hk).elim id fun c => by omega
  refine ⟨⟨y.X, b', y.r⟩, ⟨?_, k, h.rs.keep s.fr fun k hr hb => h.ap k hb hr, fun k hb hr => h.ap k (new k hb (h.rs.lt k hr)) hr, fun hb => h.bx (new _ hb hX), h.rx⟩, ⟨s.fr.mono fun k _ hk => .inr (.inl hk), fun k hk => ?_, rfl, s.dp, rfl⟩, rfl, s.q⟩
  · show w'.heap[y.X]? = some (.cells #[.pointer (some ⟨b'.d.p, 0, none⟩), _, _, _, .pointer (some ⟨b'.q, 0, none⟩), _] _ _)
    rw [s.fr.block _ hX h.bx, h.head, s.dp, s.q]
    rfl
  · rcases hk with rfl | hk | hk
    · exact .inl (.inl rfl)
    · exact (s.fp k hk).imp (fun h => .inr (.inl h)) id
    · exact .inl (.inr (.inr hk))
theorem Both.doc {w w' : World} {y : Bo} {p : Pa} {inv : Bool} {st : Dm.St} {m : List Int} {M M' : Ms} (h : Both w y p inv st m M) (hs : RWent y.r p M' w w') :
    ∃ y', Both w' y' p inv st m M' ∧ Bp y y' w w' ∧ y'.b = y.b := by
  obtain ⟨r', k, s⟩ := hs
  have hX := Dsk.lt_of_heap h.head
  have new : ∀ k, r'.fp k → k < w.heap.size → y.r.fp k := fun k hk hlt => (s.fp k hk).elim id fun c => by omega
  refine ⟨⟨y.X, y.b, r'⟩, ⟨?_, h.sk.keep s.fr h.ap, k, fun k hb hr => h.ap k hb (new k hr (h.sk.lt k hb)), h.bx, fun hr => h.rx (new _ hr hX)⟩, ⟨s.fr.mono fun k _ hk => .inr (.inr hk), fun k hk => ?_, rfl, rfl, s.q⟩, rfl⟩
  · show w'.heap[y.X]? = some (.cells #[.pointer (some ⟨y.b.d.p, 0, none⟩), _, _, _, .pointer (some ⟨y.b.q, 0, none⟩), .pointer (some ⟨r'.q, 0, none⟩)] _ _)
    rw [s.fr.block _ hX h.rx, h.head, s.q]
    rfl
  · rcases hk with rfl | hk | hk
    · exact .inl (.inl rfl)
    · exact .inl (.inr (.inl hk))
    · exact (s.fp k hk).imp (fun h => .inr (.inr h)) id
def ActEnd (y : Bo) (p : Pa) (st : Dm.St) (M : Ms) (x : Ac) (w : World) (e : Ending) (w' : World) : Prop :=
  ∃ (res : Bool) (ops : List Op) (inv' : Bool) (m' : List Int) (y' : Bo), e = .returned (.bool res) ∧ ActOps p M x ops ∧ Both w' y' p inv' (runs st ops).1 m' (actM p M x) ∧ Bp y y' w w' ∧
    (Live p st M → res = true ∧ inv' = (actM p M x).inv ∧ m' = (actM p M x).tab)
end So
end Go.Proofs.YtbmabcddciibfaaGreat
namespace Go.Proofs.YtbmabcddciibfaaGreat
namespace Tb
open Go.RowKit Dsk Go.Maps
set_option linter.unusedVariables false
set_option maxRecDepth 100000
def RWent (v : Value) (m : List Int) (w w' : World) : Prop := Ints w' v m ∧ Fr (fun k => v.ownBlock = some k) w w'
theorem RWent.refl {w : World} {v : Value} {m : List Int} (h : Ints w v m) : RWent v m w w := ⟨h, Fr.refl _ _⟩
theorem findI_some {m : List Int} {k : Int} {i : Nat} (h : find m k = some i) : findI m k = (i : Int) := by unfold findI; rw [h]
theorem findI_none {m : List Int} {k : Int} (h : find m k = none) : findI m k = -1 := by unfold findI; rw [h]
theorem rset {w : World} {b c : Nat} {m : List Int} (h : Ints w (.slice (some ⟨b, 0, none⟩) m.length c) m) (i : Nat) (x : Int) : RWent (.slice (some ⟨b, 0, none⟩) m.length c) (m.set i x) w (w.setCell ⟨b, i, none⟩ (.int .i64 x)) := by
  obtain ⟨h1, h2⟩ := ints_set h i x
  exact ⟨by show World.ownsRow _ _ _ _ _ _ _; simpa using h1, h2.mono fun k _ e => by rw [e]; rfl⟩
theorem rdrop_any {w : World} {a : Option Addr} {c : Nat} {m : List Int} (h : Ints w (.slice a m.length c) m) (k : Int) (hm : m.length ≤ 1048576) :
    Calls Tryz.prog 82 #[.slice a m.length c, .int .i64 k] w fun e w' => e = .returned (.tuple #[.int .i64 (drop m k).2.1, .int .i64 (drop m k).2.2]) ∧ RWent (.slice a m.length c) (drop m k).1 w w' := by
  have FI := Lib.hid (rfind_any h k hm)
  cases hf : find m k with
  | none =>
    rw [findI_none hf] at FI
    rw [drop_none hf]
    have FIN := Lib.hid (RWent.refl h)
    obtain ⟨n, hn⟩ : ∃ n, n = m.length := ⟨_, rfl⟩
    rw [← hn] at FI FIN ⊢
    clear hf h hn hm
    go_enter Tryz.func82, Tryz.ntmps82
    go_wp2_with (go_at_call 49; refine FI.out.mono ?_; rintro e w' ⟨rfl, rfl⟩)
    go_ret2
    exact ⟨rfl, FIN.out⟩
  | some i =>
    rw [findI_some hf] at FI
    rw [drop_has hf]
    have hil := find_lt hf
    obtain ⟨b, rfl, _, hc, hfr⟩ := ints_cell h i hil
    have FIN := Lib.hid (rset h i (-1))
    obtain ⟨n, hn⟩ : ∃ n, n = m.length := ⟨_, rfl⟩
    rw [← hn] at FI FIN hil hm ⊢
    clear hf h hn
    have d1 : decide ((i : Int) < 0) = false := by simp
    go_enter Tryz.func82, Tryz.ntmps82
    go_wp2_with (go_at_call 49; refine FI.out.mono ?_; rintro e w' ⟨rfl, rfl⟩)
    go_ret2
    exact ⟨rfl, FIN.out⟩
set_option maxHeartbeats 1000000 in
theorem rput_any {w : World} {a : Option Addr} {c : Nat} {m : List Int} (h : Ints w (.slice a m.length c) m) (k : Int) (hm : m.length ≤ 1048576) :
    Calls Tryz.prog 81 #[.slice a m.length c, .int .i64 k] w fun e w' => e = .returned (.tuple #[.int .i64 (put m k).2.1, .int .i64 (put m k).2.2]) ∧ RWent (.slice a m.length c) (put m k).1 w w' := by
  by_cases hk : 0 ≤ k ∧ k ≤ 2147483646
  · have d1 : decide (k < 0) = false := by simp; omega
    have d2 : decide (2147483646 < k) = false := by simp; omega
    have FI := Lib.hid (rfind_any h k hm)
    have H := Lib.hid h
    obtain ⟨n, hn⟩ : ∃ n, n = m.length := ⟨_, rfl⟩
    have HN := Lib.hid hn
    cases hf : find m k with
    | some i =>
      rw [findI_some hf] at FI
      rw [put_has hk hf]
      have FIN := Lib.hid (RWent.refl h)
      rw [← hn] at FI FIN ⊢
      have d3 : decide (0 ≤ (i : Int)) = true := by simp
      clear hf h hn hm hk
      go_enter Tryz.func81, Tryz.ntmps81
      go_wp2_with (go_at_call 49; refine FI.out.mono ?_; rintro e w' ⟨rfl, rfl⟩)
      go_ret2
      exact ⟨rfl, FIN.out⟩
    | none =>
      rw [findI_none hf] at FI
      have PN : Hid (∀ i, gap m = some i → put m k = (m.set i k, (i : Int), 0)) := Lib.hid fun i hg => put_new hk hf hg
      have PF : Hid (gap m = none → put m k = (m, 0, 111)) := Lib.hid fun hg => put_full hk hf hg
      obtain ⟨R, hR⟩ : ∃ R, R = put m k := ⟨_, rfl⟩
      rw [← hR] at PN PF ⊢
      rw [← hn] at FI hm ⊢
      have d3 : decide ((0 : Int) ≤ -1) = false := by decide
      clear hf h hn hk hR
      go_enter Tryz.func81, Tryz.ntmps81
      go_wp2_with (go_at_call 49; refine FI.out.mono ?_; rintro e w' ⟨rfl, rfl⟩)
      go_loopw [6] (fun i wr => ∃ j : Nat, i = .int .i64 (j : Int) ∧ j ≤ n ∧ Hid (w = wr) ∧ Hid (∀ x y, x < j → m[x]? = some y → 0 ≤ y)) (fun i _ => n - (Lib.intOf i).toNat)
      case atStart => exact ⟨0, rfl, Nat.zero_le _, Lib.hid rfl, Lib.hid fun x y hx => absurd hx (by omega)⟩
      case round =>
        obtain ⟨j, rfl, hj, hw, hno⟩ := hrel
        by_cases hlt : j < n
        · have t1 : decide ((j : Int) < (n : Int)) = true := by simp; omega
          have t2 : decide (j < n) = true := by simp; omega
          obtain ⟨b, hb, _, hc, hfr⟩ := ints_cell H.out j (by have := HN.out; omega)
          subst hb
          rw [hw.out] at hc hfr
          have hget := Hp.at_get m j (by have := HN.out; omega)
          obtain ⟨x, hx⟩ : ∃ x, x = Hp.at_ m j := ⟨_, rfl⟩
          rw [← hx] at hc hget
          have HG := Lib.hid hget
          have hw1 : IntKind.i64.wrap ((j : Int) + 1) = ((j + 1 : Nat) : Int) := by rw [IntWalk.i64_in _ (by omega)]; rfl
          clear hx hget
          by_cases hx0 : x < 0
          · have t3 : decide (x < 0) = true := by simpa using hx0
            have hg : gap m = some j := gap_some.2 ⟨⟨x, HG.out, hx0⟩, fun y z hy hz => hno.out y z hy hz⟩
            have FIN : Hid (R = (m.set j k, (j : Int), 0) ∧ RWent (.slice (some ⟨b, 0, none⟩) n c) (m.set j k) w (wr.setCell ⟨b, j, none⟩ (.int .i64 k))) := by
              refine Lib.hid ⟨PN.out j hg, ?_⟩
              have := rset H.out j k
              rw [← hw.out, HN.out]
              exact this
            clear hg hx0 PN PF FI
            go_wp2
            go_ret2
            obtain ⟨e1, e2⟩ := FIN.out
            exact ⟨by rw [e1]; rfl, by rw [e1]; exact e2⟩
          · have t3 : decide (x < 0) = false := by simpa using hx0
            have N2 : Hid (∀ y z, y < j + 1 → m[y]? = some z → 0 ≤ z) := Lib.hid fun y z hy hz => by
              by_cases e : y = j
              · rw [e, HG.out] at hz; injection hz with hz; omega
              · exact hno.out y z (by omega) hz
            clear hx0
            go_wp2
            go_roundw
            case rel => exact ⟨j + 1, by go_num, by omega, hw, N2⟩
            case measure => simp [Lib.intOf]; omega
        · obtain rfl : j = n := by omega
          have t1 : decide ((j : Int) < (j : Int)) = false := by simp
          have t2 : decide (j < j) = false := by simp
          have hg : gap m = none := gap_none.2 fun x hx => by
            obtain ⟨y, hy⟩ := List.getElem?_of_mem hx
            exact hno.out y x (by have := (List.getElem?_eq_some_iff.1 hy).1; have := HN.out; omega) hy
          have FIN : Hid (R = (m, 0, 111) ∧ RWent (.slice a j c) m w wr) := by
            refine Lib.hid ⟨PF.out hg, ?_⟩
            have := RWent.refl H.out
            rw [← hw.out, HN.out]
            exact this
          clear hg PN PF FI
          go_wp2
          go_ret2
          obtain ⟨e1, e2⟩ := FIN.out
          exact ⟨by rw [e1]; rfl, by rw [e1]; exact e2⟩
  · rw [put_arg hk]
    have FIN := Lib.hid (RWent.refl h)
    obtain ⟨n, hn⟩ : ∃ n, n = m.length := ⟨_, rfl⟩
    rw [← hn] at FIN ⊢
    by_cases h0 : k < 0
    · have d1 : decide (k < 0) = true := by simpa using h0
      clear h hn hm hk
      go_enter Tryz.func81, Tryz.ntmps81
      go_wp2
      go_ret2
      exact ⟨rfl, FIN.out⟩
    · have d1 : decide (k < 0) = false := by simpa using h0
      have d2 : decide (2147483646 < k) = true := by simp; omega
      clear h hn hm hk
      go_enter Tryz.func81, Tryz.ntmps81
      go_wp2
      go_ret2
      exact ⟨rfl, FIN.out⟩
end Tb
end Go.Proofs.YtbmabcddciibfaaGreat
