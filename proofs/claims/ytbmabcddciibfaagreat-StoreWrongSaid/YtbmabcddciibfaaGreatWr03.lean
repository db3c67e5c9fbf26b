/- Part 3 of the contracts and of the plain mathematics that the proof of the law rests on: DiskSettle, AppendHome, DiskPut, DiskNew, DiskLook, DiskRead. -/
import Derived.Test.YtbmabcddciibfaaGreatWr02
import Derived.StillTailTactics
import Derived.Laws.AppendOwn
import Derived.Laws.OwnMore
import Derived.WalkKit
import Derived.OwnWalk
import Derived.Lib.BufferRead
import Derived.Laws.IdiomStrings
import Derived.LoopTactic
namespace Go.Proofs.YtbmabcddciibfaaGreat
namespace Dsk
open Go.RowKit
set_option maxRecDepth 100000
set_option linter.unusedVariables false
theorem wpList_copy_str {P : Program} {w : World} {ops : Array Oper} {rest : List Oper} {o : Oper} {a : Act} {Q : Exit → Act → World → Prop} (hgd : o.guard = none) (d s : Operand) (dT sT : TypeId)
    (ho : o.op = .call { callee := .builtin .copy, args := #[d, s], argTypes := #[dT, sT] }) (elem : TypeId) (hu : P.underlying dT = some (.slice elem)) (hsz : (P.info? elem).map (·.size) = some 1)
    (g off dLen dCap : Nat) (l : List UInt8) (hd : a.eval d = .slice (some ⟨g, off, none⟩) dLen dCap) (hs : a.eval s = .string (Om.B l)) (cur : List UInt8) (t : TypeId) (hg : w.heap[g]? = some (.cells (Lib.byteCells cur).toArray t (0, 0)))
    (hle : l.length ≤ dLen) (hfit : off + l.length ≤ cur.length)
    (h : ∀ w', Hid (w' = w.setRow g (Lib.byteCells (cur.take off ++ l ++ cur.drop (off + l.length))).toArray) → wpList P ops Q rest (a.put o.dst (goInt l.length)) w') : wpList P ops Q (o :: rest) a w := by
  refine wpList_plain hgd fun K hK => ?_
  have hrun := Lib.run_copy_row_string (P := P) w dT sT o.type elem g off dLen dCap (Om.B l) (Lib.byteCells cur).toArray t hu hsz hg hle (by simpa [Lib.byteCells, Om.B_size] using hfit)
  unfold Oper.wp
  simp [execOp, ho, resolve, invoke, builtin, hd, hs, hrun, Result.andThen]
  refine hK _ _ (h _ ?_)
  show _ = _
  congr 2
  show _ ++ (Lib.byteCells (Om.L (Om.B l)) ++ _) = _
  rw [Om.L_B, Om.B_size]
  simp [Lib.byteCells]
theorem still_tail {P : Program} {id : Nat} {Q : Exit → Act → World → Prop} {a : Act} {w : World} {l : List Oper} (n : Nat) (hm : P.follows .mixedOrders = true) (hB : Region.lexTailB .any l.toArray n = true)
    (h : ∀ w2, Hid (w2 = w.drew) → wpStill P l.toArray w2 (fun a' => wpList P l.toArray Q (l.drop n) a' w2) (l.take n) a) : (Code.region id l.toArray true).wp P Q a w :=
  wp_region_still_tail n hm hB (h w.drew (show _ = _ from rfl))
theorem info_u8 : (Tryz.prog.info? 5).map (·.size) = some 1 := by kernel_rfl
theorem Dk.setStands {w : World} {o : Ob} {st : Dm.St} (h : Dk w o st) (k : Nat) (l : List UInt8) (hl : l.length = 64) : Dk (w.setRow o.sb (Lib.byteCells ((st.S.set k l).flatten ++ o.sp)).toArray) o { st with S := st.S.set k l } := by
  obtain ⟨a1, a2, a4, a3⟩ := h.apart
  obtain ⟨D, n, hm, r⟩ := h.newest
  refine ⟨⟨?_, fun x hx => by rw [List.length_set]; exact h.ok.writes x hx, h.ok.fuse, by rw [List.length_set]; exact h.ok.few⟩, ?_, setRow_heap _ _ _ _ _ _ h.stands, ?_, ⟨D, n, map_same hm (setRow_other _ _ _ _ a4), r⟩, h.fuse, h.low, h.high⟩
  · intro x hx
    rcases List.mem_or_eq_of_mem_set hx with h1 | h1
    · exact h.ok.sectors x h1
    · rw [h1]; exact hl
  · rw [setRow_other _ _ _ _ (Ne.symm a1), h.head, List.length_set]
  · exact own_same h.pend fun k hk => setRow_other _ _ _ _ (a3 k hk).2.1
theorem settle_any {w : World} {o : Ob} {st : Dm.St} (h : Dk w o st) (k : Nat) (l : List UInt8) (hk : k < st.S.length) (hl : l.length = 64) :
    Calls Tryz.prog 42 #[.pointer (some ⟨o.p, 0, none⟩), .agg #[.int .i64 (k : Int), .string (Om.B l)]] w fun e w' => e = .returned (.tuple #[]) ∧ Dk w' o { st with S := st.S.set k l } ∧ Step o o w w' := by
  obtain ⟨h0, _, _, _, _, hf⟩ := h.reads
  have hp := lt_of_heap h.head
  have hst := h.stands
  have hfew := h.ok.few
  have hflat := Dm.flat_length h.ok.sectors
  have hset := Dm.flat_set h.ok.sectors k hk l
  obtain ⟨n, hn⟩ : ∃ n, n = st.S.length := ⟨_, rfl⟩
  rw [← hn] at h0 hfew hk hflat
  obtain ⟨N, hN⟩ : ∃ N, N = 64 * n := ⟨_, rfl⟩
  obtain ⟨K, hK⟩ : ∃ K, K = 64 * k := ⟨_, rfl⟩
  rw [← hN] at h0 hflat
  rw [← hK] at hset
  obtain ⟨C, hC⟩ : ∃ C, C = N + o.sp.length := ⟨_, rfl⟩
  rw [← hC] at h0
  have hKN : K + 64 ≤ N := by omega
  have hwr : IntKind.i64.wrap ((k : Int) * 64) = (K : Int) := by rw [IntWalk.i64_in _ (by omega)]; omega
  have b1 : (K : Int) ≤ (N : Int) := by omega
  have b2 : ¬ C = K := by omega
  have b4 : K ≤ C := by omega
  have hCb : N ≤ C := by omega
  have b3 : K ≤ N := by omega
  have HKK := Lib.hid hK
  clear hN hK hk hfew hC
  have H := Lib.hid h
  have HST := Lib.hid hst
  have HF := Lib.hid hflat
  have HL := Lib.hid hl
  have HSET := Lib.hid hset
  have HN := Lib.hid hn
  clear hf h hst hflat hl hset hn
  go_enter Tryz.func42, Tryz.ntmps42
  go_wp2
  have c0 : (w.alloc (.cells #[.int .i64 (k : Int), .string (Om.B l)] 100)).cell? ⟨o.p, 0, none⟩ = w.cell? ⟨o.p, 0, none⟩ := by
    exact World.cell?_of_block (w := w) (a := ⟨o.p, 0, none⟩) (Below.heap_alloc _ _ _ hp)
  refine still_tail 10 (by kernel_rfl) (by kernel_rfl) ?_
  intro w2 hw2
  have g0 : w2.cell? ⟨o.p, 0, none⟩ = some (.slice (some ⟨o.sb, 0, none⟩) N C) := by rw [hw2.out]; exact c0.trans h0
  have g1 : w2.cell? ⟨w.heap.size, 0, none⟩ = some (.int .i64 (k : Int)) := by rw [hw2.out]; show (w.alloc _).cell? _ = _; rw [World.cell?_alloc_at _ _ _ _ rfl]; rfl
  have g2 : w2.cell? ⟨w.heap.size, 1, none⟩ = some (.string (Om.B l)) := by rw [hw2.out]; show (w.alloc _).cell? _ = _; rw [World.cell?_alloc_at _ _ _ _ rfl]; rfl
  have gs : w2.heap[o.sb]? = some (.cells (Lib.byteCells (st.S.flatten ++ o.sp)).toArray 5 (0, 0)) := by rw [hw2.out]; exact (Below.heap_alloc _ _ _ (lt_of_heap HST.out)).trans HST.out
  have GS := Lib.hid gs
  clear c0 gs h0
  simp only [List.take_succ_cons, List.take_zero, List.drop_succ_cons, List.drop_zero]
  repeat still_step
  refine wpStill_nil ?_
  refine wpList_copy_str rfl _ _ _ _ rfl 5 Tryz.underlying65 info_u8 o.sb K (N - K) (C - K) l rfl rfl _ _ GS.out (by rw [HL.out]; omega) (by rw [HL.out, List.length_append, HF.out]; omega) ?_
  intro w3 hw3
  go_wp2
  go_end0
  have hbel : Below w.heap.size w w2 := by rw [hw2.out]; exact ((Below.refl _ _).alloc (Nat.le_refl _) _).drew
  have e3 : w3 = w2.setRow o.sb (Lib.byteCells ((st.S.set k l).flatten ++ o.sp)).toArray := by
    rw [hw3.out, HSET.out, HL.out, List.take_append_of_le_length (by rw [HF.out]; omega), List.drop_append_of_le_length (by rw [HF.out]; omega)]
    simp only [List.append_assoc]
  rw [e3]
  refine ⟨rfl, (H.out.below hbel).setStands k l HL.out, ⟨(Fr.of_below hbel).setRow _ (.inr (.inl rfl)) _, fun _ h => .inl h, rfl⟩⟩
end Dsk
end Go.Proofs.YtbmabcddciibfaaGreat
namespace Go.Proofs.YtbmabcddciibfaaGreat
namespace Dsk
open Go.RowKit
set_option linter.unusedVariables false
theorem run_append_home {P : Program} (w : World) (t ty e : TypeId) (i : TypeInfo) (z : Value) (size bytes : Nat) (ht : P.underlying t = some (.slice e)) (hi : P.info? e = some i) (hz : i.zero = some z)
    (hsize : i.size = size) (hby : i.bytes = bytes) (hzs : z.cells.size = size) (hsz : 0 < size) (v : Value) (n : Nat) (xs : List Value) (hown : w.ownsRow 0 e size v n xs)
    (a : Addr) (m c : Nat) (news : List Value) (hl : news.length = m * size) (hnews : ∀ j u, news[j]? = some u → w.cell? (a.add j) = some u) (h1 : ∀ u ∈ news, u.oneCell' = true)
    (h63 : n + m ≤ maxLen) (hbytes : (n + m) * bytes ≤ 140737488355328) :
    ∃ v' w', (Builtin.append_ #[t, t] ty #[v, .slice (some a) m c]).run P w = .ok v' w' ∧ w'.ownsRow 0 e size v' (n + m) (xs ++ news) ∧ w.grownBy w' v.ownBlock ∧ (v'.ownBlock = v.ownBlock ∨ v'.ownBlock = some w.heap.size) := by
  obtain ⟨v', w', hr, ho, hg, hnil⟩ := run_append_own (P := P) w 0 t ty e i z size bytes ht hi hz hsize hby hzs hsz v n xs hown a m c news hl hnews h1 h63 hbytes (Nat.zero_le _)
  refine ⟨v', w', hr, ho, hg, ?_⟩
  subst hsize
  subst hby
  have hsmall : n + m ≤ 9223372036854775807 := by simp only [maxLen] at h63; omega
  rcases hown.2 with ⟨rfl, rfl⟩ | ⟨g, cap, cur, rfl, hbg, hgg, hnc, hcm, hcs, htake⟩
  · by_cases hm : m = 0
    · left; rw [hnil.2 ⟨rfl, hm⟩]
    · have hr2 := run_append_nil (P := P) w t ty e i z ht hi hz a m c news hl hnews (by omega) (by omega) (by have hb := hbytes; simp only [Nat.zero_add] at hb; omega)
      rw [hr2] at hr
      injection hr with hv _
      subst hv
      exact .inr rfl
  · by_cases hroom : n + m ≤ cap
    · have hfit : n * i.size + news.length ≤ cur.size := by rw [hl, hcs, ← Nat.add_mul]; exact Nat.mul_le_mul_right _ hroom
      have hr2 := run_append_room (P := P) w t ty e i ht hi g n cap cur hgg a m c news hl hnews h1 hroom hfit
      rw [hr2] at hr
      injection hr with hv _
      subst hv
      exact .inl rfl
    · have hr2 := run_append_grow (P := P) w t ty e i z ht hi hz ⟨g, 0, none⟩ n cap xs hown.1 (hown.cells (g := g) rfl) a m c news hl hnews (by omega) (by omega) (growslice_fits (by omega) hbytes)
      rw [hr2] at hr
      injection hr with hv _
      subst hv
      exact .inr rfl
theorem wpList_append_home {P : Program} {w : World} {ops : Array Oper} {rest : List Oper} {o : Oper} {a : Act} {Q : Exit → Act → World → Prop} (hgd : o.guard = none) (s x : Operand) (t : TypeId)
    (ho : o.op = .call { callee := .builtin .append, args := #[s, x], argTypes := #[t, t] }) (e : TypeId) (i : TypeInfo) (z : Value) (size bytes : Nat) (ht : P.underlying t = some (.slice e)) (hi : P.info? e = some i) (hz : i.zero = some z)
    (hsize : i.size = size) (hby : i.bytes = bytes) (hzs : z.cells.size = size) (hsz : 0 < size) (v : Value) (n : Nat) (xs : List Value) (hs : a.eval s = v) (hown : w.ownsRow 0 e size v n xs)
    (ad : Addr) (m c : Nat) (news : List Value) (hx : a.eval x = .slice (some ad) m c) (hl : news.length = m * size) (hnews : ∀ j u, news[j]? = some u → w.cell? (ad.add j) = some u) (h1 : ∀ u ∈ news, u.oneCell' = true)
    (h63 : n + m ≤ maxLen) (hbytes : (n + m) * bytes ≤ 140737488355328)
    (h : ∀ v' w', w'.ownsRow 0 e size v' (n + m) (xs ++ news) → w.grownBy w' v.ownBlock → (v'.ownBlock = v.ownBlock ∨ v'.ownBlock = some w.heap.size) → wpList P ops Q rest (a.put o.dst v') w') : wpList P ops Q (o :: rest) a w := by
  refine wpList_plain hgd fun K hK => ?_
  obtain ⟨v', w', hr, h2, h3, h4⟩ := run_append_home (P := P) w t o.type e i z size bytes ht hi hz hsize hby hzs hsz v n xs hown ad m c news hl hnews h1 h63 hbytes
  unfold Oper.wp execOp
  simp only [ho, resolve, invoke, builtin, Sem.run_bind, Sem.run_pure, Result.andThen_ok, List.map_toArray, List.map_cons, List.map_nil, hs, hx, hr]
  exact hK _ _ (h v' w' h2 h3 h4)
end Dsk
end Go.Proofs.YtbmabcddciibfaaGreat
namespace Go.Proofs.YtbmabcddciibfaaGreat
namespace Dsk
open Go.RowKit
set_option maxRecDepth 100000
set_option linter.unusedVariables false
theorem info_write : (Tryz.prog.info? 100).map (fun i => (i.zero, i.size, i.bytes)) = some (some (.agg #[.int .i64 0, .string ⟨#[]⟩]), 2, 24) := by kernel_rfl
theorem int_law : Maps.Keyed Tryz.prog 3 := Maps.int_keyed Tryz.underlying3
theorem put_any {w : World} {o : Ob} {st : Dm.St} (h : Dk w o st) (k : Nat) (l : List UInt8) (hk : k < st.S.length) (hl : l.length = 64) (hP : st.P.length ≤ 1099511627776) :
    Calls Tryz.prog 104 #[.pointer (some ⟨o.p, 0, none⟩), .int .i64 (k : Int), .string (Om.B l)] w fun e w' => e = .returned (.tuple #[]) ∧ Went o (Dm.put st k l) w w' := by
  obtain ⟨i0, hi, hz0, hz1, hz2⟩ := info_parts info_write
  obtain ⟨_, h1, h2, _, _, hf⟩ := h.reads
  have hp := lt_of_heap h.head
  have hfew := h.ok.few
  obtain ⟨pa, pc, hpv⟩ := own_slice h.pend
  obtain ⟨D, nm, hm, hnm, hmo⟩ := h.newest
  obtain ⟨a1, a2, a4, a3⟩ := h.apart
  have hown := h.pend
  rw [hpv] at h1 hown
  obtain ⟨n, hn⟩ : ∃ n, n = st.P.length := ⟨_, rfl⟩
  have HO : Hid (w.ownsRow 0 100 2 (.slice pa n pc) n (wcells st.P)) := by rw [hn]; exact hown
  rw [← hn] at h1 hP hnm
  have H := Lib.hid h
  have HM := Lib.hid hm
  have HMO := Lib.hid hmo
  have HPV : Hid (o.pv = .slice pa n pc) := by rw [hn]; exact hpv
  have HN := Lib.hid hn
  have HH := Lib.hid h.head
  clear hf h hm hmo hpv hown hn
  go_enter Tryz.func104, Tryz.ntmps104
  go_wp2
  refine still_tail 10 (by kernel_rfl) (by kernel_rfl) ?_
  intro w2 hw2
  have g1 : w2.cell? ⟨o.p, 1, none⟩ = some (.slice pa n pc) := by rw [hw2.out]; exact h1
  have g2 : w2.cell? ⟨o.p, 2, none⟩ = some (.map (some o.mb)) := by rw [hw2.out]; exact h2
  have GM := Lib.hid (show w2.ownsMap _ _ _ _ _ _ by rw [hw2.out]; exact HM.out.drew)
  clear h1 h2
  simp only [List.take_succ_cons, List.take_zero, List.drop_succ_cons, List.drop_zero]
  repeat still_step
  refine wpStill_nil ?_
  refine wpList_mapUpdate_own _ rfl _ _ _ 96 rfl 3 3 int_law Tryz.underlying96 _ o.mb nm D rfl GM.out (by unfold maxLen; omega) _ _ (.int .i64 (k : Int)) rfl rfl (Maps.keyOf_int_mk Tryz.underlying3 (WalkArith.wf_i64 (by omega))) (.lit (.int .i64 (n : Int))) [] (plainElem_int Tryz.underlying3 (WalkArith.wf_i64 (by omega))) ?_
  intro w3 hm3 hg3
  have hh3 : w3.heap[o.p]? = some (.cells (o.cells (64 * st.S.length) st.dead) 98 (0, 0)) := by
    rw [hg3.block o.p (by rw [hw2.out]; exact hp) (by simpa using Ne.symm a2), hw2.out]; exact HH.out
  have e1 : w3.cell? ⟨o.p, 1, none⟩ = some (.slice pa n pc) := by
    rw [cell_of_row _ _ _ _ _ _ hh3, ← HPV.out]; rfl
  have f1 : w3.frozen? ⟨o.p, 1, none⟩ = false := frozen_of_row _ _ _ _ _ hh3
  have HO3 : Hid (w3.ownsRow 0 100 2 (.slice pa n pc) n (wcells st.P)) := by
    refine own_same HO.out fun j hj => ?_
    have hj' : o.pv.ownBlock = some j := by rw [HPV.out]; exact hj
    rw [hg3.block j (by rw [hw2.out]; exact H.out.lt j (.inr (.inr (.inl hj')))) (by simpa using (a3 j hj').2.2), hw2.out]; rfl
  have HM3 := Lib.hid hm3
  have HG3 := Lib.hid hg3
  have HH3 := Lib.hid hh3
  clear hm3 hg3 hh3 g1 g2
  go_wp2_with (at_builtin; refine wpList_append_home rfl _ _ 95 rfl 100 i0 _ 2 24 Tryz.underlying95 hi hz0 hz1 hz2 rfl (by decide) _ _ _ rfl (HO3.out.alloc _) ⟨w3.heap.size, 0, none⟩ 1 1 [.int .i64 (k : Int), .string (Om.B l)] rfl rfl ?c1 ?c2 ?c3 ?c4 ?_)
  case c1 =>
    intro j u hu
    rcases j with _ | _ | j
    · injection hu with hu; subst hu; exact World.cell?_alloc_at _ _ _ _ rfl
    · injection hu with hu; subst hu; exact World.cell?_alloc_at _ _ _ _ rfl
    · simp at hu
  case c2 =>
    intro u hu
    rcases List.mem_cons.1 hu with rfl | hu
    · rfl
    · rw [List.mem_singleton.1 hu]; rfl
  case c3 => unfold maxLen; omega
  case c4 => omega
  intro v4 w4 hown4 hg4 hv4
  have hsz3 : w2.heap.size ≤ w3.heap.size := HG3.out.size
  have hh4 : w4.heap[o.p]? = some (.cells (o.cells (64 * st.S.length) st.dead) 98 (0, 0)) := by
    have hp3 := lt_of_heap HH3.out
    rw [hg4.block o.p (by simp; omega) (fun e => (a3 o.p (by rw [HPV.out]; exact e.symm)).1 rfl), Below.heap_alloc _ _ _ hp3]; exact HH3.out
  have e4 : w4.cell? ⟨o.p, 1, none⟩ = some (.slice pa n pc) := by rw [cell_of_row _ _ _ _ _ _ hh4, ← HPV.out]; rfl
  have f4 : w4.frozen? ⟨o.p, 1, none⟩ = false := frozen_of_row _ _ _ _ _ hh4
  obtain ⟨a', c', rfl⟩ := own_slice hown4
  have HO4 := Lib.hid hown4
  have HG4 := Lib.hid hg4
  have HV4 := Lib.hid hv4
  have HH4 := Lib.hid hh4
  clear hown4 hg4 hh4 hv4
  go_wp2
  go_end0
  have hs3 : w.heap.size ≤ w3.heap.size := by have := HG3.out.size; rw [hw2.out] at this; exact this
  have hs4 : w3.heap.size < w4.heap.size := by have := HG4.out.size; simp at this; omega
  have hb3 : ∀ j, j < w.heap.size → j ≠ o.mb → w3.heap[j]? = w.heap[j]? := fun j hj hne => by
    rw [HG3.out.block j (by rw [hw2.out]; exact hj) (by simpa using hne), hw2.out]; rfl
  have hb4 : ∀ j, j < w3.heap.size → o.pv.ownBlock ≠ some j → w4.heap[j]? = w3.heap[j]? := fun j hj hne => by
    rw [HG4.out.block j (by simp; omega) (fun e => hne (by rw [HPV.out]; exact e.symm)), Below.heap_alloc _ _ _ hj]
  have hsb : o.sb < w.heap.size := lt_of_heap H.out.stands
  have hmb : o.mb < w.heap.size := H.out.lt o.mb (.inr (.inr (.inr rfl)))
  have hfp : ∀ j, (Value.slice a' (n + 1) c').ownBlock = some j → j ≠ o.p := fun j hj e => by
    obtain ⟨cur, hc⟩ := own_block HO4.out j hj
    rw [e, HH4.out] at hc; injection hc with hc; injection hc with _ hc; cases hc
  refine ⟨rfl, { o with pv := .slice a' (n + 1) c' }, ?_, ⟨?_, ?_, rfl⟩⟩
  · refine ⟨Dm.put_ok H.out.ok k l hk hl, ?_, ?_, ?_, ⟨_, nm + 1, map_same (map_same HM3.out (hb4 _ (show o.mb < _ by omega) fun e => (a3 _ e).2.2 rfl)) (Below.heap_setCell _ _ _ _ a2), ?_, ?_⟩, H.out.fuse, H.out.low, H.out.high⟩
    · rw [heap_setCell_same _ _ _ _ _ _ HH4.out]; rfl
    · rw [Below.heap_setCell _ _ _ _ a1, hb4 _ (by omega) (fun e => (a3 _ e).2.1 rfl), hb3 _ hsb (Ne.symm a4)]; exact H.out.stands
    · have := own_same HO4.out (w' := w4.setCell ⟨o.p, 1, none⟩ (.slice a' (n + 1) c')) fun j hj => Below.heap_setCell _ _ _ _ (hfp j hj)
      rw [HN.out, ← wcells_snoc] at this
      show World.ownsRow _ _ _ _ _ (st.P ++ [(k, l)]).length (wcells (st.P ++ [(k, l)]))
      rw [List.length_append, HN.out]
      exact this
    · show nm + 1 ≤ (st.P ++ [(k, l)]).length; rw [List.length_append, ← HN.out]; simp; omega
    · have := mapOk_put HMO.out k l; rw [← HN.out] at this; exact this
  · refine Fr.setCell (b := w4) ⟨?_, ?_, ?_, by omega, fun j hj hF => ?_⟩ _ (.inl rfl) _
    · rw [HG4.out.os]; show w3.os = _; rw [HG3.out.os, hw2.out]; rfl
    · rw [HG4.out.tape]; show w3.tape = _; rw [HG3.out.tape, hw2.out]; rfl
    · rw [HG4.out.output]; show w3.output = _; rw [HG3.out.output, hw2.out]; rfl
    · rw [hb4 j (by omega) (fun e => hF (.inr (.inr (.inl e)))), hb3 j hj (fun e => hF (.inr (.inr (.inr e))))]
  · rintro j (hj | hj | hj | hj)
    · exact .inl (.inl hj)
    · exact .inl (.inr (.inl hj))
    · rcases HV4.out with e | e
      · exact .inl (.inr (.inr (.inl (by rw [HPV.out, ← e]; exact hj))))
      · right
        have hj2 : (Value.slice a' (n + 1) c').ownBlock = some j := hj
        rw [e] at hj2
        injection hj2 with hj2
        have hal : (w3.alloc (.cells #[.int .i64 (k : Int), .string (Om.B l)] 100)).heap.size = w3.heap.size + 1 := by simp
        omega
    · exact .inl (.inr (.inr (.inr hj)))
end Dsk
end Go.Proofs.YtbmabcddciibfaaGreat
namespace Go.Proofs.YtbmabcddciibfaaGreat
namespace Dsk
open Go.RowKit
set_option maxRecDepth 100000
set_option linter.unusedVariables false
theorem info_byte : (Tryz.prog.info? 5).map (fun i => (i.zero, i.size, i.bytes)) = some (some (.int .u8 0), 1, 1) := by kernel_rfl
def Made (st : Dm.St) (B : Nat) (w : World) (e : Ending) (w' : World) : Prop := ∃ o, e = .returned (.pointer (some ⟨o.p, 0, none⟩)) ∧ Dk w' o st ∧ (∀ k, o.fp k → B ≤ k) ∧ Below B w w'
theorem zeros_cells (n : Nat) : (madeCells #[.int .u8 0] n).toList = Lib.byteCells (List.replicate n 0) := by
  rw [toList_madeCells_one (.int .u8 0) n, Lib.byteCells, List.map_replicate]
  rfl
theorem new_any (n : Nat) (w : World) (h : n ≤ 1048576) : Calls Tryz.prog 19 #[.int .i64 (n : Int)] w fun e w' => Made (Dm.fresh n) w.heap.size w e w' := by
  obtain ⟨i0, hi, hz0, hz1, hz2⟩ := info_parts info_byte
  have hmm := @run_makeMap Tryz.prog
  obtain ⟨N, hN⟩ : ∃ N, N = n * 64 := ⟨_, rfl⟩
  have hNi : (n : Int) * 64 = (N : Int) := by omega
  have HN := Lib.hid hN
  have hNb : N ≤ 67108864 := by omega
  have hd : decide ((n : Int) < 0) = false := by simp
  clear hN
  go_enter Tryz.func19, Tryz.ntmps19
  go_wp2_with (first | (at_make; refine wpList_make_full _ rfl _ _ 65 rfl 0 5 i0 _ 1 Tryz.underlying65 hi hz0 hz1 _ _ _ _ N rfl rfl rfl rfl ?b2 ?b3 ?b4 ?_))
  case b2 => rw [hz2]; omega
  case b3 => unfold maxLen; omega
  case b4 => omega
  intro w1 hown hgr
  have HO := Lib.hid hown
  have HG := Lib.hid hgr
  clear hown hgr
  go_wp2
  go_ret
  have hsz : w.heap.size < w1.heap.size := by
    have := (HO.out.lt w.heap.size rfl).2
    exact this
  have hrow : w1.heap[w.heap.size]? = some (.cells (Lib.byteCells (List.replicate N 0)).toArray 5 (0, 0)) := by
    rcases HO.out.2 with ⟨h1, _⟩ | ⟨g, cap, cur, hv, _, hh, _, _, hcs, htk⟩
    · cases h1
    · injection hv with h1 _ h3
      injection h1 with h1
      injection h1 with h1
      subst h1
      subst h3
      rw [hh, ← zeros_cells N, ← htk, List.take_of_length_le (by rw [Array.length_toList]; omega)]
  have hflat : (Dm.fresh n).S.flatten = List.replicate N 0 := by rw [Dm.fresh_flat, HN.out, Nat.mul_comm]
  have hlen : 64 * (Dm.fresh n).S.length = N := by rw [HN.out]; simp [Dm.fresh]; omega
  refine ⟨⟨w1.heap.size + 1, w.heap.size, .slice none 0 0, w1.heap.size, -1, []⟩, rfl, ⟨Dm.fresh_ok n h, ?_, ?_, World.ownsRow_nil _ _ _ _, ⟨.map [], 0, ?_, Nat.le_refl _, mapOk_nil⟩, (show max (-1 : Int) (-1) = -1 by decide), (show (-9223372036854775808 : Int) ≤ -1 by decide), (show (-1 : Int) ≤ 9223372036854775807 by decide)⟩, ?_, ?_⟩
  · rw [hlen]
    exact (by simp : w1.heap.size + 1 = (w1.alloc (.map #[] 0)).heap.size) ▸ heap_alloc_new (w1.alloc (.map #[] 0)) _
  · rw [List.append_nil, hflat, Below.heap_alloc _ _ _ (by simp; omega), Below.heap_alloc _ _ _ hsz]; exact hrow
  · exact (World.ownsMap_made w1 Tryz.prog 3 _).alloc _
  · rintro k (hk | hk | hk | hk)
    · show w.heap.size ≤ k; rw [hk]; show w.heap.size ≤ w1.heap.size + 1; omega
    · show w.heap.size ≤ k; rw [hk]; exact Nat.le_refl _
    · cases hk
    · show w.heap.size ≤ k; rw [hk]; show w.heap.size ≤ w1.heap.size; omega
  · have hb : Below w.heap.size w w1 := (Below.refl _ _).grown HG.out (Nat.le_refl _) (fun k e => by cases e)
    exact (hb.alloc (by omega) _).alloc (by simp; omega) _
theorem load_end {l : List UInt8} {w w1 w2 : World} {o : Ob} {n : Nat} (hn : n = (l.length + 63) / 64) (hfew : n ≤ 1048576) (hd : Dk w1 o (Dm.fresh n)) (hfp : ∀ k, o.fp k → w.heap.size ≤ k) (hb : Below w.heap.size w w1)
    (h2 : w2 = w1.setRow o.sb (Lib.byteCells ((List.replicate (64 * n) 0 ++ o.sp).take 0 ++ l ++ (List.replicate (64 * n) 0 ++ o.sp).drop (0 + l.length))).toArray) :
    Made (Dm.load l) w.heap.size w (.returned (.pointer (some ⟨o.p, 0, none⟩))) w2 := by
  obtain ⟨a1, a2, a4, a3⟩ := hd.apart
  obtain ⟨D, m, hm, r⟩ := hd.newest
  have hp : (List.replicate (64 * n) 0 ++ o.sp).take 0 ++ l ++ (List.replicate (64 * n) (0 : UInt8) ++ o.sp).drop (0 + l.length) = Dm.pad l ++ o.sp := by
    rw [List.drop_append_of_le_length (by rw [List.length_replicate]; omega), List.drop_replicate]
    simp only [List.take_zero, List.nil_append, Dm.pad, List.append_assoc]
    congr 3
    omega
  rw [hp] at h2
  subst h2
  have hlen : (Dm.load l).S.length = (Dm.fresh n).S.length := by rw [Dm.load_length, ← hn]; simp [Dm.fresh]
  refine ⟨o, rfl, ⟨Dm.load_ok l (by omega), ?_, ?_, own_same hd.pend fun k hk => setRow_other _ _ _ _ (a3 k hk).2.1, ⟨D, m, map_same hm (setRow_other _ _ _ _ a4), r⟩, hd.fuse, hd.low, hd.high⟩, hfp, ?_⟩
  · rw [setRow_other _ _ _ _ (Ne.symm a1), hd.head, hlen]; rfl
  · rw [Dm.load_flat]; exact setRow_heap _ _ _ _ _ _ hd.stands
  · exact hb.trans ⟨rfl, rfl, rfl, by simp, fun k hk => setRow_other _ _ _ _ (fun e => by have := hfp o.sb (.inr (.inl rfl)); omega)⟩
theorem load_any (l : List UInt8) (w : World) (h : l.length ≤ 67108864) : Calls Tryz.prog 18 #[.string (Om.B l)] w fun e w' => Made (Dm.load l) w.heap.size w e w' := by
  have hs := Om.B_size l
  obtain ⟨n, hn⟩ : ∃ n, n = l.length := ⟨_, rfl⟩
  rw [← hn] at hs h
  have HN := Lib.hid hn
  clear hn
  by_cases h0 : n % 64 = 0
  · obtain ⟨m, hm⟩ : ∃ m, m = (n + 63) / 64 := ⟨_, rfl⟩
    have hm0 : ((n : Int) % 64 != 0) = false := by simp; omega
    have hmi : (n : Int) / 64 = (m : Int) := by omega
    have hc := new_any m w (by omega)
    have HC := Lib.hid hc
    have HM := Lib.hid hm
    have hml : m ≤ 1048576 := by omega
    have hnm : n ≤ 64 * m := by omega
    clear hc hm
    go_enter Tryz.func18, Tryz.ntmps18
    go_wp2_with fail
    refine HC.out.mono ?_
    rintro e w1 ⟨o, rfl, hd, hfp, hb⟩
    obtain ⟨g0, _⟩ := hd.reads
    have hst := hd.stands
    rw [Dm.fresh_flat] at hst
    have hS : (Dm.fresh m).S.length = m := by simp [Dm.fresh]
    rw [hS] at g0
    have HD := Lib.hid hd
    have HF := Lib.hid hfp
    have HB := Lib.hid hb
    have HST := Lib.hid hst
    clear hd hfp hb hst hS
    go_wp2_with (refine wpList_copy_str rfl (.tmp 21) (.tmp 22) 65 9 rfl 5 Tryz.underlying65 info_u8 o.sb 0 (64 * m) (64 * m + o.sp.length) l rfl rfl _ _ HST.out (by rw [← HN.out]; omega) (by rw [← HN.out, List.length_append, List.length_replicate]; omega) ?_; intro w2 hw2)
    go_ret
    exact load_end (by rw [HM.out, HN.out]) hml HD.out HF.out HB.out hw2.out
  · obtain ⟨m, hm⟩ : ∃ m, m = (n + 63) / 64 := ⟨_, rfl⟩
    have hm0 : ((n : Int) % 64 != 0) = true := by simp; omega
    have hmi : (n : Int) / 64 + 1 = (m : Int) := by omega
    have hc := new_any m w (by omega)
    have HC := Lib.hid hc
    have HM := Lib.hid hm
    have hml : m ≤ 1048576 := by omega
    have hnm : n ≤ 64 * m := by omega
    clear hc hm
    go_enter Tryz.func18, Tryz.ntmps18
    go_wp2_with fail
    refine HC.out.mono ?_
    rintro e w1 ⟨o, rfl, hd, hfp, hb⟩
    obtain ⟨g0, _⟩ := hd.reads
    have hst := hd.stands
    rw [Dm.fresh_flat] at hst
    have hS : (Dm.fresh m).S.length = m := by simp [Dm.fresh]
    rw [hS] at g0
    have HD := Lib.hid hd
    have HF := Lib.hid hfp
    have HB := Lib.hid hb
    have HST := Lib.hid hst
    clear hd hfp hb hst hS
    go_wp2_with (refine wpList_copy_str rfl (.tmp 21) (.tmp 22) 65 9 rfl 5 Tryz.underlying65 info_u8 o.sb 0 (64 * m) (64 * m + o.sp.length) l rfl rfl _ _ HST.out (by rw [← HN.out]; omega) (by rw [← HN.out, List.length_append, List.length_replicate]; omega) ?_; intro w2 hw2)
    go_ret
    exact load_end (by rw [HM.out, HN.out]) hml HD.out HF.out HB.out hw2.out
end Dsk
end Go.Proofs.YtbmabcddciibfaaGreat
namespace Go.Proofs.YtbmabcddciibfaaGreat
namespace Dsk
open Go.RowKit
set_option maxRecDepth 100000
set_option linter.unusedVariables false
theorem zero_int (w : World) : (zeroValue 3).run Tryz.prog w = .ok (.int .i64 0) w := by kernel_rfl
theorem wpList_copy_byt {P : Program} {w : World} {ops : Array Oper} {rest : List Oper} {o : Oper} {a : Act} {Q : Exit → Act → World → Prop} (hgd : o.guard = none) (d s : Operand) (dT sT : TypeId)
    (ho : o.op = .call { callee := .builtin .copy, args := #[d, s], argTypes := #[dT, sT] }) (elem : TypeId) (hu : P.underlying dT = some (.slice elem)) (hsz : (P.info? elem).map (·.size) = some 1)
    (g off dLen dCap sb so sLen sCap : Nat) (hd : a.eval d = .slice (some ⟨g, off, none⟩) dLen dCap) (hs : a.eval s = .slice (some ⟨sb, so, none⟩) sLen sCap) (cur src : List UInt8) (t t' : TypeId) (hg : w.heap[g]? = some (.cells (Lib.byteCells cur).toArray t (0, 0)))
    (hsr : w.heap[sb]? = some (.cells (Lib.byteCells src).toArray t' (0, 0))) (hle : sLen ≤ dLen) (hin : so + sLen ≤ src.length) (hfit : off + sLen ≤ cur.length)
    (h : ∀ w', Hid (w' = w.setRow g (Lib.byteCells (cur.take off ++ (src.drop so).take sLen ++ cur.drop (off + sLen))).toArray) → wpList P ops Q rest (a.put o.dst (goInt sLen)) w') : wpList P ops Q (o :: rest) a w := by
  have hlen : (Lib.byteCells ((src.drop so).take sLen)).length = sLen := by rw [Lib.byteCells_length, List.length_take, List.length_drop]; omega
  refine wpList_copy_own hgd d s dT sT ho elem hu hsz g off dLen dCap ⟨sb, so, none⟩ sLen sCap hd hs _ t hg (Lib.byteCells ((src.drop so).take sLen)) (by rw [hlen]; exact (Nat.min_eq_left hle).symm) ?_ (by rw [hlen]; simpa [Lib.byteCells] using hfit) (Lib.byteCells_one _) ?_
  · intro j v hv
    have hj : j < sLen := by
      have := (List.getElem?_eq_some_iff.1 hv).1
      omega
    have : (⟨sb, so, none⟩ : Addr).add j = ⟨sb, so + j, none⟩ := by unfold Addr.add; split <;> simp_all
    rw [this, cell_of_row _ _ _ _ _ _ hsr]
    rw [Lib.byteCells, List.getElem?_map, List.getElem?_take, if_pos hj, List.getElem?_drop] at hv
    simpa [Lib.byteCells] using hv
  · rw [hlen]
    refine h _ ?_
    show _ = _
    congr 2
    simp [Lib.byteCells]
theorem look_any {w : World} {o : Ob} {st : Dm.St} (h : Dk w o st) (k : Nat) (hk : k < st.S.length) (g off n : Nat) (cur : List UInt8) (hg : w.heap[g]? = some (.cells (Lib.byteCells cur).toArray 5 (0, 0))) (hne : ¬ o.fp g) (hn : 64 ≤ n) (hfit : off + 64 ≤ cur.length)
    (hP : st.P.length ≤ 1099511627776) :
    Calls Tryz.prog 97 #[.pointer (some ⟨o.p, 0, none⟩), .slice (some ⟨g, off, none⟩) n n, .int .i64 (k : Int)] w fun e w' => e = .returned (.tuple #[]) ∧ w' = w.setRow g (Lib.byteCells (cur.take off ++ Dm.one st k ++ cur.drop (off + 64))).toArray := by
  obtain ⟨h0, h1, h2, _, _, hf⟩ := h.reads
  obtain ⟨D, nm, hm, hnm, hmo⟩ := h.newest
  have hone := Dm.one_length h.ok k hk
  have hfew := h.ok.few
  have HM := Lib.hid hm
  have HKEY := Lib.hid (Maps.keyOf_int_mk Tryz.underlying3 (WalkArith.wf_i64 (n := (k : Int)) (by omega)))
  have HG := Lib.hid hg
  have HONE := Lib.hid hone
  rcases hmo.2 k with ⟨m1, m2⟩ | ⟨i, d, m1, m2, m3, m4⟩
  · have he : Dm.one st k = st.S.getD k [] := Dm.last_none m2 _
    have hget := Dm.flat_get h.ok.sectors k hk
    have hst := h.stands
    have hfl := Dm.flat_length h.ok.sectors
    obtain ⟨N, hN⟩ : ∃ N, N = 64 * st.S.length := ⟨_, rfl⟩
    obtain ⟨K, hK⟩ : ∃ K, K = 64 * k := ⟨_, rfl⟩
    have hKN : K + 64 ≤ N := by omega
    have hNb : N ≤ 67108864 := by omega
    have hki : IntKind.i64.wrap ((k : Int) * 64) = (K : Int) := by rw [IntWalk.i64_in _ (by omega)]; omega
    have b1 : (K : Int) ≤ (N : Int) := by omega
    have b2' : K + 64 ≤ N := hKN
    have b3 : K ≤ N := by omega
    rw [← hN] at h0 hfl
    rw [← hK] at hget
    obtain ⟨C, hC⟩ : ∃ C, C = N + o.sp.length := ⟨_, rfl⟩
    rw [← hC] at h0
    have hget : ((st.S.flatten ++ o.sp).drop K).take 64 = st.S.getD k [] := by
      rw [List.drop_append_of_le_length (by omega), List.take_append_of_le_length (by rw [List.length_drop]; omega)]; exact hget
    have hCN : N ≤ C := by omega
    clear hC
    have b2 : ¬ C = K := by omega
    have b4 : 64 ≤ C - K := by omega
    have b5 : (64 : Int) ≤ ((C - K : Nat) : Int) := by omega
    have b6 : K ≤ C := by omega
    have HST := Lib.hid hst
    have HGET := Lib.hid hget
    have HE := Lib.hid he
    have HFL := Lib.hid hfl
    clear hm hmo hg hone hst hget he hfl hN hK hf h h1 m2 hk
    go_enter Tryz.func97, Tryz.ntmps97
    go_wp2_with (first | (at_lookup; refine wpList_lookup_own_ok_int _ rfl _ _ 96 rfl 3 3 .i64 int_law Tryz.underlying96 Tryz.underlying3 (zero_int _) o.mb nm D rfl HM.out _ (.int .i64 (k : Int)) rfl HKEY.out ?_; intro c hat hwc; clear hat hwc) | (refine wpList_copy_byt rfl (.tmp 28) (.tmp 36) 65 65 rfl 5 Tryz.underlying65 info_u8 g off n n o.sb K 64 (C - K) rfl rfl _ _ _ _ HG.out HST.out hn (by rw [List.length_append, HFL.out]; omega) hfit ?_; intro w2 hw2))
    go_end0
    exact ⟨rfl, by rw [hw2.out, HGET.out, HE.out]; simp only [List.append_assoc]⟩
  · have hd : Dm.one st k = d := m4 _
    have hi : i < st.P.length := (List.getElem?_eq_some_iff.1 m3).1
    have hPi : st.P[i] = (k, d) := (List.getElem?_eq_some_iff.1 m3).2
    obtain ⟨pa, pc, hpv⟩ := own_slice h.pend
    have hown := h.pend
    rw [hpv] at h1 hown
    have hcell := (wcells_get st.P i hi).2
    rw [hPi] at hcell
    rcases hown.2 with ⟨_, hz⟩ | ⟨gg, cap, cc, hv, _⟩
    · omega
    · injection hv with hv1 _ hv3
      subst hv1
      subst hv3
      have hat := hown.cellAt (2 * i + 1) (by omega)
      rw [hcell, Nat.mul_comm] at hat
      have m2' := m2 (.lit (.int .i64 0))
      obtain ⟨n0, hn0⟩ : ∃ n0, n0 = st.P.length := ⟨_, rfl⟩
      rw [← hn0] at h1 hi hP
      have M2 := Lib.hid m2'
      have HD := Lib.hid hd
      clear hm hmo hg hone hf h h0 m2 m2' m3 m4 hpv hown hcell hPi hn0 hd
      go_enter Tryz.func97, Tryz.ntmps97
      go_wp2_with (first | (at_lookup; refine wpList_lookup_own_ok_int _ rfl _ _ 96 rfl 3 3 .i64 int_law Tryz.underlying96 Tryz.underlying3 (zero_int _) o.mb nm D rfl HM.out _ (.int .i64 (k : Int)) rfl HKEY.out ?_; intro c hatc hwc; rw [M2.out] at hatc; injection hatc with hatc; injection hatc with _ hatc; subst hatc; clear hwc) | (refine wpList_copy_str rfl (.tmp 18) (.tmp 26) 65 9 rfl 5 Tryz.underlying65 info_u8 g off n n d rfl rfl _ _ HG.out (by rw [← HD.out, HONE.out]; omega) (by rw [← HD.out, HONE.out]; omega) ?_; intro w2 hw2))
      refine bodyPost_ret (results_none rfl _ _ _) rfl ?_
      refine ⟨rfl, ?_⟩
      have h64 := HONE.out
      rw [HD.out] at h64 ⊢
      rw [hw2.out, h64]; simp only [List.append_assoc]
end Dsk
end Go.Proofs.YtbmabcddciibfaaGreat
namespace Go.Proofs.YtbmabcddciibfaaGreat
namespace Dsk
open Go.RowKit
set_option maxRecDepth 100000
set_option linter.unusedVariables false
theorem row_text {W : World} {g n cap : Nat} {l sp : List UInt8} {t : TypeId} (hg : W.heap[g]? = some (.cells (Lib.byteCells (l ++ sp)).toArray t (0, 0))) (hl : l.length = n) :
    (convert 65 9 (.slice (some ⟨g, 0, none⟩) n cap)).run Tryz.prog W = .ok (.string (Om.B l)) W := by
  subst hl
  exact run_convert_bytes_back (P := Tryz.prog) W 65 9 5 ⟨g, 0, none⟩ cap l Tryz.underlying65 Tryz.underlying5 Tryz.underlying9 (fun i hi => by
    rw [show (⟨g, 0, none⟩ : Addr).add i = ⟨g, i, none⟩ from by unfold Addr.add; split <;> simp_all, cell_of_row _ _ _ _ _ _ hg]
    rw [List.getElem?_toArray, Lib.byteCells_append, List.getElem?_append_left (by rw [Lib.byteCells_length]; exact hi)]
    simp [Lib.byteCells, hi])
theorem bytes_any {w : World} {o : Ob} {st : Dm.St} (h : Dk w o st) : Calls Tryz.prog 17 #[.pointer (some ⟨o.p, 0, none⟩)] w fun e w' => e = .returned (.string (Om.B st.S.flatten)) ∧ w = w' := by
  obtain ⟨h0, _, _, _, _, _⟩ := h.reads
  have hcv := row_text (cap := 64 * st.S.length + o.sp.length) h.stands (Dm.flat_length h.ok.sectors)
  obtain ⟨N, hN⟩ : ∃ N, N = 64 * st.S.length := ⟨_, rfl⟩
  rw [← hN] at h0 hcv
  clear hN h
  go_enter Tryz.func17, Tryz.ntmps17
  go_wp2
  go_ret
  exact ⟨rfl, rfl⟩
def half (st : Dm.St) (a n k : Nat) : List UInt8 := Dm.span st a k ++ List.replicate (64 * (n - k)) 0
theorem half_length {st : Dm.St} (h : Dm.Ok st) {a n k : Nat} (hk : k ≤ n) (hn : a + n ≤ st.S.length) : (half st a n k).length = 64 * n := by
  unfold half
  rw [List.length_append, Dm.span_length h a k (by omega), List.length_replicate]; omega
theorem half_step {st : Dm.St} (h : Dm.Ok st) {a n k : Nat} (hk : k < n) (hn : a + n ≤ st.S.length) :
    (half st a n k).take (64 * k) ++ Dm.one st (a + k) ++ (half st a n k).drop (64 * k + 64) = half st a n (k + 1) := by
  have hl := Dm.span_length h a k (by omega)
  unfold half
  rw [Dm.span_succ, ← hl, List.take_left, ← List.drop_drop, List.drop_left, List.drop_replicate, List.append_assoc, List.append_assoc]
  congr 3
  omega
theorem half_zero (st : Dm.St) (a n : Nat) : half st a n 0 = List.replicate (64 * n) 0 := by simp [half, Dm.span]
theorem half_end (st : Dm.St) (a n : Nat) : half st a n n = Dm.span st a n := by simp [half]
theorem row_of_made {w w1 : World} {N : Nat} (h : w1.ownsRow w.heap.size 5 1 (.slice (some ⟨w.heap.size, 0, none⟩) N N) N (madeCells #[.int .u8 0] N).toList) : w1.heap[w.heap.size]? = some (.cells (Lib.byteCells (List.replicate N 0)).toArray 5 (0, 0)) := by
  rcases h.2 with ⟨h1, _⟩ | ⟨g, cap, cur, hv, _, hh, _, _, hcs, htk⟩
  · cases h1
  · injection hv with h1 _ h3
    injection h1 with h1
    injection h1 with h1
    subst h1
    subst h3
    rw [hh, ← zeros_cells N, ← htk, List.take_of_length_le (by rw [Array.length_toList]; omega)]
theorem read_no {w : World} {o : Ob} {st : Dm.St} (h : Dk w o st) (a n : Int) (ha : a ≤ 9223372036854775807) (hno : st.dead = true ∨ Dm.thereB st a n = false) :
    Calls Tryz.prog 56 #[.pointer (some ⟨o.p, 0, none⟩), .int .i64 a, .int .i64 n] w fun e w' => e = .returned (.tuple #[.string (Om.B (Dm.readS st a n)), .int .i64 (Dm.readE st a n)]) ∧ w = w' := by
  obtain ⟨_, _, _, _, h4, _⟩ := h.reads
  cases hdead : st.dead with
  | true =>
    have hs : Dm.readS st a n = [] := by unfold Dm.readS; rw [if_pos hdead]
    have he : Dm.readE st a n = 41 := by unfold Dm.readE; rw [if_pos hdead]
    rw [hs, he]
    rw [hdead] at h4
    clear hs he hdead hno h
    go_enter Tryz.func56, Tryz.ntmps56
    go_wp2
    go_ret2
    exact ⟨rfl, rfl⟩
  | false =>
    have hth : Dm.thereB st a n = false := hno.resolve_left (by rw [hdead]; decide)
    have hs : Dm.readS st a n = [] := by unfold Dm.readS; rw [if_neg (by rw [hdead]; decide), hth]; rfl
    have he : Dm.readE st a n = 2 := by unfold Dm.readE; rw [if_neg (by rw [hdead]; decide), hth]; rfl
    rw [hs, he]
    rw [hdead] at h4
    have hc := has_any h a n ha
    rw [hth] at hc
    have HC := Lib.hid hc
    clear hs he hdead hno h hth hc
    go_enter Tryz.func56, Tryz.ntmps56
    go_wp2_with (go_at_call 96; refine HC.out.mono ?_; rintro e w' ⟨rfl, rfl⟩)
    go_ret2
    exact ⟨rfl, rfl⟩
theorem read_yes {w : World} {o : Ob} {st : Dm.St} (h : Dk w o st) (a n : Nat) (hdead : st.dead = false) (hn : a + n ≤ st.S.length) (hP : st.P.length ≤ 1099511627776) :
    Calls Tryz.prog 56 #[.pointer (some ⟨o.p, 0, none⟩), .int .i64 (a : Int), .int .i64 (n : Int)] w fun e w' => e = .returned (.tuple #[.string (Om.B (Dm.span st a n)), .int .i64 0]) ∧ Below w.heap.size w w' := by
  obtain ⟨i0, hi, hz0, hz1, hz2⟩ := info_parts info_byte
  obtain ⟨_, _, _, _, h4, _⟩ := h.reads
  have hfew := h.ok.few
  have hc := has_any h (a : Int) (n : Int) (by omega)
  rw [(Dm.there_iff st a n).2 ⟨by omega, by omega, by omega⟩] at hc
  rw [hdead] at h4
  have HC := Lib.hid hc
  have H := Lib.hid h
  obtain ⟨N, hN⟩ : ∃ N, N = 64 * n := ⟨_, rfl⟩
  have hNi : (n : Int) * 64 = (N : Int) := by omega
  have hNb : N ≤ 67108864 := by omega
  have HN := Lib.hid hN
  clear hc h hN hdead
  go_enter Tryz.func56, Tryz.ntmps56
  go_wp2_with (first | (go_at_call 96; refine HC.out.mono ?_; rintro e w' ⟨rfl, rfl⟩) | (at_make; refine wpList_make_full _ rfl _ _ 65 rfl w.heap.size 5 i0 _ 1 Tryz.underlying65 hi hz0 hz1 _ _ _ _ N rfl rfl rfl rfl ?b2 ?b3 ?b4 ?_))
  case b2 => rw [hz2]; omega
  case b3 => unfold maxLen; omega
  case b4 => omega
  intro w1 hown hgr
  have HR := Lib.hid (row_of_made hown)
  have hb1 : Below w.heap.size w w1 := (Below.refl _ _).grown hgr (Nat.le_refl _) (fun k e => by cases e)
  have hsz : w.heap.size < w1.heap.size := (hown.lt w.heap.size rfl).2
  clear hown hgr
  have HB := Lib.hid hb1
  clear hb1
  go_wp2
  go_loopw [28] (fun i wr => ∃ k : Nat, k ≤ n ∧ i = .int .i64 k ∧ Hid (wr.heap[w.heap.size]? = some (.cells (Lib.byteCells (half st a n k)).toArray 5 (0, 0))) ∧ Hid (Below w.heap.size w wr)) (fun i _ => n - (Go.RowKit.intOf i).toNat)
  case atStart => exact ⟨0, Nat.zero_le _, rfl, (by rw [half_zero, ← HN.out]; exact HR.out), HB⟩
  case round =>
    obtain ⟨k, hk, rfl, hr, hb⟩ := hrel
    clear HR HB hsz
    by_cases hlt : k < n
    · obtain ⟨K, hK⟩ : ∃ K, K = 64 * k := ⟨_, rfl⟩
      have hKN : K + 64 ≤ N := by have := HN.out; omega
      have hki : IntKind.i64.wrap ((k : Int) * 64) = (K : Int) := by rw [IntWalk.i64_in _ (by omega)]; omega
      have hks : IntKind.i64.wrap ((a : Int) + (k : Int)) = ((a + k : Nat) : Int) := by rw [IntWalk.i64_in _ (by omega)]; omega
      have b1 : (K : Int) ≤ (N : Int) := by omega
      have b2 : ¬ N = K := by omega
      have b3 : K ≤ N := by omega
      have hd : decide (k < n) = true := by simpa using hlt
      have hl := half_length H.out.ok (Nat.le_of_lt hlt) hn
      have hcall := look_any (H.out.below hb.out) (a + k) (by omega) w.heap.size K (N - K) _ hr.out (fun e => Nat.lt_irrefl _ (H.out.lt _ e)) (by omega) (by rw [hl]; omega) hP
      rw [hK, half_step H.out.ok hlt hn, ← hK] at hcall
      have HCALL := Lib.hid hcall
      clear hcall hl hK
      go_wp2_with (go_at_call 97; refine HCALL.out.mono ?_; rintro e w' ⟨rfl, hw'⟩; have HW := Lib.hid hw'; clear hw')
      go_roundw
      case rel =>
        refine ⟨k + 1, by omega, by go_num, ?_, ?_⟩
        · show _ = _
          rw [HW.out]; exact setRow_heap _ _ _ _ _ _ hr.out
        · show Below _ _ _
          rw [HW.out]
          exact hb.out.trans ⟨rfl, rfl, rfl, by simp, fun j hj => setRow_other _ _ _ _ (by omega)⟩
      case measure => simp [Go.RowKit.intOf]; omega
    · obtain rfl : k = n := by omega
      have hcv := row_text (cap := N) (sp := []) (by rw [List.append_nil]; exact hr.out) (half_length H.out.ok (Nat.le_refl _) hn)
      rw [half_end, ← HN.out] at hcv
      go_wp2
      go_ret2
      exact ⟨rfl, hb.out⟩
end Dsk
end Go.Proofs.YtbmabcddciibfaaGreat
