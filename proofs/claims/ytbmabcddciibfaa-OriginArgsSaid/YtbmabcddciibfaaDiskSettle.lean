/- Contracts of the disk's settle, put. -/
import Derived.Test.YtbmabcddciibfaaDiskSmall
import Derived.StillTailTactics
namespace Go.Proofs.Ytbmabcddciibfaa
namespace Dsk
open Go.RowKit
set_option maxRecDepth 100000
set_option linter.unusedVariables false
/-- 'copy(dst, s)', s a text, at the operation. -/
theorem wpList_copy_str {P : Program} {w : World} {ops : Array Oper} {rest : List Oper} {o : Oper} {a : Act} {Q : Exit → Act → World → Prop} (hgd : o.guard = none) (d s : Operand) (dT sT : TypeId)
    (ho : o.op = .call { callee := .builtin .copy, args := #[d, s], argTypes := #[dT, sT] }) (elem : TypeId) (hu : P.underlying dT = some (.slice elem)) (hsz : (P.info? elem).map (·.size) = some 1)
    (g off dLen dCap : Nat) (l : List UInt8) (hd : a.eval d = .slice (some ⟨g, off, none⟩) dLen dCap) (hs : a.eval s = .string (Om.B l)) (cur : List UInt8) (t : TypeId) (hg : w.heap[g]? = some (.cells (Lib.byteCells cur).toArray t (0, 0)))
    (hle : l.length ≤ dLen) (hfit : off + l.length ≤ cur.length)
    (h : ∀ w', Hid (w' = w.setRow g (Lib.byteCells (cur.take off ++ l ++ cur.drop (off + l.length))).toArray) → wpList P ops Q rest (a.put o.dst (goInt l.length)) w') : wpList P ops Q (o :: rest) a w := by
  refine wpList_plain hgd fun K hK => ?_
  have hrun := Lib.run_copy_row_string (P := P) w dT sT o.type elem g off dLen dCap (Om.B l) (Lib.byteCells cur).toArray t hu hsz hg hle (by simpa [Lib.byteCells, Om.B_size] using hfit)
  unfold Oper.wp
  simp [execOp, ho, resolve, invoke, builtin, hd, hs, hrun, Result.andThen]
  refine hK _ _ (h _ ?_)
  show _ = _
  congr 2
  show _ ++ (Lib.byteCells (Om.L (Om.B l)) ++ _) = _
  rw [Om.L_B, Om.B_size]
  simp [Lib.byteCells]

/-- A region that reads, and ends in operations that may write: the world under one name. -/
theorem still_tail {P : Program} {id : Nat} {Q : Exit → Act → World → Prop} {a : Act} {w : World} {l : List Oper} (n : Nat) (hm : P.follows .mixedOrders = true) (hB : Region.lexTailB .any l.toArray n = true)
    (h : ∀ w2, Hid (w2 = w.drew) → wpStill P l.toArray w2 (fun a' => wpList P l.toArray Q (l.drop n) a' w2) (l.take n) a) : (Code.region id l.toArray true).wp P Q a w :=
  wp_region_still_tail n hm hB (h w.drew (show _ = _ from rfl))
theorem info_u8 : (Try.prog.info? 5).map (·.size) = some 1 := by kernel_rfl

theorem Dk.setStands {w : World} {o : Ob} {st : Dm.St} (h : Dk w o st) (k : Nat) (l : List UInt8) (hl : l.length = 64) : Dk (w.setRow o.sb (Lib.byteCells ((st.S.set k l).flatten ++ o.sp)).toArray) o { st with S := st.S.set k l } := by
  obtain ⟨a1, a2, a4, a3⟩ := h.apart
  obtain ⟨D, n, hm, r⟩ := h.newest
  refine ⟨⟨?_, fun x hx => by rw [List.length_set]; exact h.ok.writes x hx, h.ok.fuse, by rw [List.length_set]; exact h.ok.few⟩, ?_, setRow_heap _ _ _ _ _ _ h.stands, ?_, ⟨D, n, map_same hm (setRow_other _ _ _ _ a4), r⟩, h.fuse, h.low, h.high⟩
  · intro x hx
    rcases List.mem_or_eq_of_mem_set hx with h1 | h1
    · exact h.ok.sectors x h1
    · rw [h1]; exact hl
  · rw [setRow_other _ _ _ _ (Ne.symm a1), h.head, List.length_set]
  · exact own_same h.pend fun k hk => setRow_other _ _ _ _ (a3 k hk).2.1

theorem settle_any {w : World} {o : Ob} {st : Dm.St} (h : Dk w o st) (k : Nat) (l : List UInt8) (hk : k < st.S.length) (hl : l.length = 64) :
    Calls Try.prog 32 #[.pointer (some ⟨o.p, 0, none⟩), .agg #[.int .i64 (k : Int), .string (Om.B l)]] w fun e w' => e = .returned (.tuple #[]) ∧ Dk w' o { st with S := st.S.set k l } ∧ Step o o w w' := by
  obtain ⟨h0, _, _, _, _, hf⟩ := h.reads
  have hp := lt_of_heap h.head
  have hst := h.stands
  have hfew := h.ok.few
  have hflat := Dm.flat_length h.ok.sectors
  have hset := Dm.flat_set h.ok.sectors k hk l
  obtain ⟨n, hn⟩ : ∃ n, n = st.S.length := ⟨_, rfl⟩
  rw [← hn] at h0 hfew hk hflat
  obtain ⟨N, hN⟩ : ∃ N, N = 64 * n := ⟨_, rfl⟩
  obtain ⟨K, hK⟩ : ∃ K, K = 64 * k := ⟨_, rfl⟩
  rw [← hN] at h0 hflat
  rw [← hK] at hset
  obtain ⟨C, hC⟩ : ∃ C, C = N + o.sp.length := ⟨_, rfl⟩
  rw [← hC] at h0
  have hKN : K + 64 ≤ N := by omega
  have hwr : IntKind.i64.wrap ((k : Int) * 64) = (K : Int) := by rw [IntWalk.i64_in _ (by omega)]; omega
  have b1 : (K : Int) ≤ (N : Int) := by omega
  have b2 : ¬ C = K := by omega
  have b4 : K ≤ C := by omega
  have hCb : N ≤ C := by omega
  have b3 : K ≤ N := by omega
  have HKK := Lib.hid hK
  clear hN hK hk hfew hC
  have H := Lib.hid h
  have HST := Lib.hid hst
  have HF := Lib.hid hflat
  have HL := Lib.hid hl
  have HSET := Lib.hid hset
  have HN := Lib.hid hn
  clear hf h hst hflat hl hset hn
  go_enter Try.func32, Try.ntmps32
  go_wp2
  have c0 : (w.alloc (.cells #[.int .i64 (k : Int), .string (Om.B l)] 69)).cell? ⟨o.p, 0, none⟩ = w.cell? ⟨o.p, 0, none⟩ := by
    exact World.cell?_of_block (w := w) (a := ⟨o.p, 0, none⟩) (Below.heap_alloc _ _ _ hp)
  refine still_tail 10 (by kernel_rfl) (by kernel_rfl) ?_
  intro w2 hw2
  have g0 : w2.cell? ⟨o.p, 0, none⟩ = some (.slice (some ⟨o.sb, 0, none⟩) N C) := by rw [hw2.out]; exact c0.trans h0
  have g1 : w2.cell? ⟨w.heap.size, 0, none⟩ = some (.int .i64 (k : Int)) := by rw [hw2.out]; show (w.alloc _).cell? _ = _; rw [World.cell?_alloc_at _ _ _ _ rfl]; rfl
  have g2 : w2.cell? ⟨w.heap.size, 1, none⟩ = some (.string (Om.B l)) := by rw [hw2.out]; show (w.alloc _).cell? _ = _; rw [World.cell?_alloc_at _ _ _ _ rfl]; rfl
  have gs : w2.heap[o.sb]? = some (.cells (Lib.byteCells (st.S.flatten ++ o.sp)).toArray 5 (0, 0)) := by rw [hw2.out]; exact (Below.heap_alloc _ _ _ (lt_of_heap HST.out)).trans HST.out
  have GS := Lib.hid gs
  clear c0 gs h0
  simp only [List.take_succ_cons, List.take_zero, List.drop_succ_cons, List.drop_zero]
  repeat still_step
  refine wpStill_nil ?_
  refine wpList_copy_str rfl _ _ _ _ rfl 5 Try.underlying56 info_u8 o.sb K (N - K) (C - K) l rfl rfl _ _ GS.out (by rw [HL.out]; omega) (by rw [HL.out, List.length_append, HF.out]; omega) ?_
  intro w3 hw3
  go_wp2
  go_end0
  have hbel : Below w.heap.size w w2 := by rw [hw2.out]; exact ((Below.refl _ _).alloc (Nat.le_refl _) _).drew
  have e3 : w3 = w2.setRow o.sb (Lib.byteCells ((st.S.set k l).flatten ++ o.sp)).toArray := by
    rw [hw3.out, HSET.out, HL.out, List.take_append_of_le_length (by rw [HF.out]; omega), List.drop_append_of_le_length (by rw [HF.out]; omega)]
    simp only [List.append_assoc]
  rw [e3]
  refine ⟨rfl, (H.out.below hbel).setStands k l HL.out, ⟨(Fr.of_below hbel).setRow _ (.inr (.inl rfl)) _, fun _ h => .inl h, rfl⟩⟩
end Dsk
end Go.Proofs.Ytbmabcddciibfaa