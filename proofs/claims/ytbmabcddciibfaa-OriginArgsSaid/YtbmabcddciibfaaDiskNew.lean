/- Contracts of the disk's New and Load, and of its calls on no disk. -/
import Derived.Test.YtbmabcddciibfaaDiskPut
namespace Go.Proofs.Ytbmabcddciibfaa
namespace Dsk
open Go.RowKit
set_option maxRecDepth 100000
set_option linter.unusedVariables false
theorem info_byte : (Try.prog.info? 5).map (fun i => (i.zero, i.size, i.bytes)) = some (some (.int .u8 0), 1, 1) := by kernel_rfl

/-- A disk that is there; all that it is lies in new blocks. -/
def Made (st : Dm.St) (B : Nat) (w : World) (e : Ending) (w' : World) : Prop := ∃ o, e = .returned (.pointer (some ⟨o.p, 0, none⟩)) ∧ Dk w' o st ∧ (∀ k, o.fp k → B ≤ k) ∧ Below B w w'

theorem new_no (n : Int) (w : World) (h : n < 0 ∨ 1048576 < n) : Calls Try.prog 8 #[.int .i64 n] w fun e w' => e = .returned (.pointer none) ∧ w = w' := by
  by_cases h0 : n < 0
  · have hd : decide (n < 0) = true := by simpa using h0
    go_enter Try.func8, Try.ntmps8
    go_wp2
    go_ret
    exact ⟨rfl, rfl⟩
  · have hd : decide (n < 0) = false := by simpa using h0
    have hd2 : decide (1048576 < n) = true := by simp; omega
    go_enter Try.func8, Try.ntmps8
    go_wp2
    go_ret
    exact ⟨rfl, rfl⟩

theorem zeros_cells (n : Nat) : (madeCells #[.int .u8 0] n).toList = Lib.byteCells (List.replicate n 0) := by
  rw [toList_madeCells_one (.int .u8 0) n, Lib.byteCells, List.map_replicate]
  rfl
theorem new_any (n : Nat) (w : World) (h : n ≤ 1048576) : Calls Try.prog 8 #[.int .i64 (n : Int)] w fun e w' => Made (Dm.fresh n) w.heap.size w e w' := by
  obtain ⟨i0, hi, hz0, hz1, hz2⟩ := info_parts info_byte
  have hmm := @run_makeMap Try.prog
  obtain ⟨N, hN⟩ : ∃ N, N = n * 64 := ⟨_, rfl⟩
  have hNi : (n : Int) * 64 = (N : Int) := by omega
  have HN := Lib.hid hN
  have hNb : N ≤ 67108864 := by omega
  have hd : decide ((n : Int) < 0) = false := by simp
  clear hN
  go_enter Try.func8, Try.ntmps8
  go_wp2_with (first | (at_make; refine wpList_make_full _ rfl _ _ 56 rfl 0 5 i0 _ 1 Try.underlying56 hi hz0 hz1 _ _ _ _ N rfl rfl rfl rfl ?b2 ?b3 ?b4 ?_))
  case b2 => rw [hz2]; omega
  case b3 => unfold maxLen; omega
  case b4 => omega
  intro w1 hown hgr
  have HO := Lib.hid hown
  have HG := Lib.hid hgr
  clear hown hgr
  go_wp2
  go_ret
  have hsz : w.heap.size < w1.heap.size := by
    have := (HO.out.lt w.heap.size rfl).2
    exact this
  have hrow : w1.heap[w.heap.size]? = some (.cells (Lib.byteCells (List.replicate N 0)).toArray 5 (0, 0)) := by
    rcases HO.out.2 with ⟨h1, _⟩ | ⟨g, cap, cur, hv, _, hh, _, _, hcs, htk⟩
    · cases h1
    · injection hv with h1 _ h3
      injection h1 with h1
      injection h1 with h1
      subst h1
      subst h3
      rw [hh, ← zeros_cells N, ← htk, List.take_of_length_le (by rw [Array.length_toList]; omega)]
  have hflat : (Dm.fresh n).S.flatten = List.replicate N 0 := by rw [Dm.fresh_flat, HN.out, Nat.mul_comm]
  have hlen : 64 * (Dm.fresh n).S.length = N := by rw [HN.out]; simp [Dm.fresh]; omega
  refine ⟨⟨w1.heap.size + 1, w.heap.size, .slice none 0 0, w1.heap.size, -1, []⟩, rfl, ⟨Dm.fresh_ok n h, ?_, ?_, World.ownsRow_nil _ _ _ _, ⟨.map [], 0, ?_, Nat.le_refl _, mapOk_nil⟩, (show max (-1 : Int) (-1) = -1 by decide), (show (-9223372036854775808 : Int) ≤ -1 by decide), (show (-1 : Int) ≤ 9223372036854775807 by decide)⟩, ?_, ?_⟩
  · rw [hlen]
    exact (by simp : w1.heap.size + 1 = (w1.alloc (.map #[] 0)).heap.size) ▸ heap_alloc_new (w1.alloc (.map #[] 0)) _
  · rw [List.append_nil, hflat, Below.heap_alloc _ _ _ (by simp; omega), Below.heap_alloc _ _ _ hsz]; exact hrow
  · exact (World.ownsMap_made w1 Try.prog 3 _).alloc _
  · rintro k (hk | hk | hk | hk)
    · show w.heap.size ≤ k; rw [hk]; show w.heap.size ≤ w1.heap.size + 1; omega
    · show w.heap.size ≤ k; rw [hk]; exact Nat.le_refl _
    · cases hk
    · show w.heap.size ≤ k; rw [hk]; show w.heap.size ≤ w1.heap.size; omega
  · have hb : Below w.heap.size w w1 := (Below.refl _ _).grown HG.out (Nat.le_refl _) (fun k e => by cases e)
    exact (hb.alloc (by omega) _).alloc (by simp; omega) _

/-- The first bytes of a new disk are laid over. -/
theorem load_end {l : List UInt8} {w w1 w2 : World} {o : Ob} {n : Nat} (hn : n = (l.length + 63) / 64) (hfew : n ≤ 1048576) (hd : Dk w1 o (Dm.fresh n)) (hfp : ∀ k, o.fp k → w.heap.size ≤ k) (hb : Below w.heap.size w w1)
    (h2 : w2 = w1.setRow o.sb (Lib.byteCells ((List.replicate (64 * n) 0 ++ o.sp).take 0 ++ l ++ (List.replicate (64 * n) 0 ++ o.sp).drop (0 + l.length))).toArray) :
    Made (Dm.load l) w.heap.size w (.returned (.pointer (some ⟨o.p, 0, none⟩))) w2 := by
  obtain ⟨a1, a2, a4, a3⟩ := hd.apart
  obtain ⟨D, m, hm, r⟩ := hd.newest
  have hp : (List.replicate (64 * n) 0 ++ o.sp).take 0 ++ l ++ (List.replicate (64 * n) (0 : UInt8) ++ o.sp).drop (0 + l.length) = Dm.pad l ++ o.sp := by
    rw [List.drop_append_of_le_length (by rw [List.length_replicate]; omega), List.drop_replicate]
    simp only [List.take_zero, List.nil_append, Dm.pad, List.append_assoc]
    congr 3
    omega
  rw [hp] at h2
  subst h2
  have hlen : (Dm.load l).S.length = (Dm.fresh n).S.length := by rw [Dm.load_length, ← hn]; simp [Dm.fresh]
  refine ⟨o, rfl, ⟨Dm.load_ok l (by omega), ?_, ?_, own_same hd.pend fun k hk => setRow_other _ _ _ _ (a3 k hk).2.1, ⟨D, m, map_same hm (setRow_other _ _ _ _ a4), r⟩, hd.fuse, hd.low, hd.high⟩, hfp, ?_⟩
  · rw [setRow_other _ _ _ _ (Ne.symm a1), hd.head, hlen]; rfl
  · rw [Dm.load_flat]; exact setRow_heap _ _ _ _ _ _ hd.stands
  · exact hb.trans ⟨rfl, rfl, rfl, by simp, fun k hk => setRow_other _ _ _ _ (fun e => by have := hfp o.sb (.inr (.inl rfl)); omega)⟩
/-! No disk. -/
theorem sectors_nil (w : World) : Calls Try.prog 22 #[.pointer none] w fun e w' => e = .returned (.int .i64 0) ∧ w = w' := by
  go_enter Try.func22, Try.ntmps22
  go_wp2
  go_ret
  exact ⟨rfl, rfl⟩
theorem flush_nil (w : World) : Calls Try.prog 16 #[.pointer none] w fun e w' => e = .returned (.int .i64 1) ∧ w = w' := by
  go_enter Try.func16, Try.ntmps16
  go_wp2
  go_ret
  exact ⟨rfl, rfl⟩
theorem write_nil (a : Int) (s : ByteArray) (w : World) : Calls Try.prog 28 #[.pointer none, .int .i64 a, .string s] w fun e w' => e = .returned (.int .i64 1) ∧ w = w' := by
  go_enter Try.func28, Try.ntmps28
  go_wp2
  go_ret
  exact ⟨rfl, rfl⟩
theorem read_nil (a n : Int) (w : World) : Calls Try.prog 24 #[.pointer none, .int .i64 a, .int .i64 n] w fun e w' => e = .returned (.tuple #[.string ⟨#[]⟩, .int .i64 1]) ∧ w = w' := by
  go_enter Try.func24, Try.ntmps24
  go_wp2
  go_ret2
  exact ⟨rfl, rfl⟩
theorem fail_nil (n : Int) (w : World) : Calls Try.prog 15 #[.pointer none, .int .i64 n] w fun e w' => e = .returned (.tuple #[]) ∧ w = w' := by
  go_enter Try.func15, Try.ntmps15
  go_wp2
  go_end0
  exact ⟨rfl, rfl⟩
end Dsk
end Go.Proofs.Ytbmabcddciibfaa