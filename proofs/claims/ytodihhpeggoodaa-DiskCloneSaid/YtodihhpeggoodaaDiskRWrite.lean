/- Contracts of the document's disk: Write, Flush, Restart. -/
import Derived.Test.YtodihhpeggoodaaDiskRRead
import Derived.Deep.AppendLies
import Derived.Deep.RegionLaw
namespace Go.Proofs.Ytodihhpeggoodaa
namespace Dsk
open Go.RowKit
set_option linter.unusedVariables false

theorem rwrite_no {w : World} {r : Ro} {st : Dm.St} (h : Rk w r st) (a : Int) (l : List UInt8) (ha : a ≤ 9223372036854775807) (hl : l.length ≤ 140737488355328) (hno : st.dead = true ∨ l.length % 64 ≠ 0 ∨ Dm.thereB st a (l.length / 64 : Nat) = false) :
    Calls Try.prog 26 #[.pointer (some ⟨r.p, 0, none⟩), .int .i64 a, .string (Om.B l)] w fun e w' => e = .returned (.int .i64 (Dm.write st a l).2) ∧ w = w' := by
  obtain ⟨_, _, _, h3, _⟩ := h.reads
  have hs := Om.B_size l
  obtain ⟨n, hn⟩ : ∃ n, n = l.length := ⟨_, rfl⟩
  cases hdead : st.dead with
  | true =>
    have e1 : Dm.write st a l = (st, 41) := by unfold Dm.write; rw [if_pos hdead]
    rw [e1]
    rw [hdead] at h3
    clear hs hdead hno h e1 hn
    go_enter Try.func26, Try.ntmps26
    go_wp2
    go_ret
    exact ⟨rfl, rfl⟩
  | false =>
    by_cases hm : l.length % 64 = 0
    · have hth : Dm.thereB st a (l.length / 64 : Nat) = false := (hno.resolve_left (by rw [hdead]; decide)).resolve_left (by omega)
      have e1 : Dm.write st a l = (st, 2) := by unfold Dm.write; rw [if_neg (by rw [hdead]; decide), if_pos hm, hth]; rfl
      rw [e1]
      rw [hdead] at h3
      have hc := there_any h a ((l.length / 64 : Nat) : Int) ha
      rw [hth] at hc
      rw [← hn] at hs hc hm hl
      obtain ⟨m, hmm⟩ : ∃ m, m = n / 64 := ⟨_, rfl⟩
      rw [← hmm] at hc
      have hm0 : ((n : Int) % 64 != 0) = false := by simp; omega
      have hq : (n : Int) / 64 = (m : Int) := by omega
      clear hmm hm
      have HC := Lib.hid hc
      clear hdead hno h hth hc e1 hn
      go_enter Try.func26, Try.ntmps26
      go_wp2_with (go_at_call 38; refine HC.out.mono ?_; rintro e w' ⟨rfl, rfl⟩)
      go_ret
      exact ⟨rfl, rfl⟩
    · have e1 : Dm.write st a l = (st, 1) := by unfold Dm.write; rw [if_neg (by rw [hdead]; decide), if_neg hm]
      rw [e1]
      rw [hdead] at h3
      rw [← hn] at hs hm hl
      have hm0 : ((n : Int) % 64 != 0) = true := by simp; omega
      clear hdead hno h e1 hn
      go_enter Try.func26, Try.ntmps26
      go_wp2
      go_ret
      exact ⟨rfl, rfl⟩

/-- Behind so many puts. -/
structure RMid (r : Ro) (st : Dm.St) (a : Nat) (cs : List (List UInt8)) (k : Nat) (w wr : World) (st' : Dm.St) (r' : Ro) : Prop where
  dk : Rk wr r' st'
  dead : st'.dead = false
  step : RStep r r' w wr
  puts : Dm.puts st a cs = Dm.puts st' (a + k) (cs.drop k)
  S : st'.S = st.S
  P : st'.P.length ≤ st.P.length + k
theorem spend_alive {st : Dm.St} (h : Dm.spendB st = true) : (Dm.spendS st).dead = false := by
  unfold Dm.spendB at h
  simp at h
  unfold Dm.spendS
  rw [if_neg h.1, if_neg (by simp [h.2])]
  exact h.2
theorem extract_mid (l : List UInt8) (a b : Nat) : (Om.B l).extract a b = Om.B ((l.drop a).take (b - a)) := by
  apply ByteArray.ext
  rw [ByteArray.data_extract]
  apply Array.ext'
  rw [Array.toList_extract, List.extract_eq_take_drop]
  rfl
/-- Behind an append onto the pending writes: all that is asked of the world. -/
structure RApp (r : Ro) (st : Dm.St) (x : Nat × List UInt8) (w w' : World) (v : Value) : Prop where
  os : w'.os = w.os
  tape : w'.tape = w.tape
  output : w'.output = w.output
  size : w.heap.size ≤ w'.heap.size
  block : ∀ k, k < w.heap.size → r.pv.ownBlock ≠ some k → w'.heap[k]? = w.heap[k]?
  own : w'.ownsRow 0 45 2 v (st.P.length + 1) (wcells (st.P ++ [x]))
  home : ∀ k, v.ownBlock = some k → r.pv.ownBlock = some k ∨ w.heap.size ≤ k
theorem RApp.of {r : Ro} {st : Dm.St} {a k : Nat} {l : List UInt8} {w w2 : World} {pa : Option Addr} {np pc g cap : Nat} (hpv : r.pv = .slice pa np pc) (hnp : np = st.P.length)
    (hown : w2.ownsRow 0 45 2 (.slice (some ⟨g, 0, none⟩) (np + 1) cap) (np + 1) (wcells st.P ++ [.int .i64 ((a : Int) + (k : Int)), .string (Om.B l)]))
    (hg : (w.alloc (.cells #[.int .i64 ((a : Int) + (k : Int)), .string (Om.B l)] 45)).drew.grownBy w2 (Value.slice pa np pc).ownBlock) (hat : (Value.slice pa np pc).ownBlock = some g ∨ g = w.heap.size + 1) :
    RApp r st (a + k, l) w w2 (.slice (some ⟨g, 0, none⟩) (np + 1) cap) := by
  have hz : (w.alloc (.cells #[.int .i64 ((a : Int) + (k : Int)), .string (Om.B l)] 45)).drew.heap.size = w.heap.size + 1 := by simp
  refine ⟨hg.os, hg.tape, hg.output, ?_, fun j hj hne => ?_, ?_, fun j hj => ?_⟩
  · have := hg.size; omega
  · rw [hpv] at hne
    exact (hg.block j (by omega) (fun e => hne e.symm)).trans (Below.heap_alloc _ _ _ hj)
  · rw [wcells_snoc, ← hnp]
    exact hown
  · injection hj with hj
    have hj : g = j := hj
    rw [hpv]
    rcases hat with e | e
    · exact .inl (by rw [e, hj])
    · exact .inr (by omega)
theorem RApp.head {r : Ro} {st : Dm.St} {x : Nat × List UInt8} {w w' : World} {v : Value} (h : RApp r st x w w' v) (hr : Rk w r st) : w'.heap[r.p]? = some (.cells (r.cells st.fuse st.dead) 37 (0, 0)) := by
  rw [h.block r.p (hr.lt _ (.inl rfl)) (fun e => (hr.apart.2.1 _ e) rfl)]; exact hr.head
theorem RApp.done {r : Ro} {st : Dm.St} {k : Nat} {l : List UInt8} {w w' : World} {v : Value} (h : RApp r st (k, l) w w' v) (hr : Rk w r st) (hk : k < st.S.length) (hl : l.length = 64) :
    Rk (w'.setCell ⟨r.p, 1, none⟩ v) { r with pv := v } (Dm.put st k l) ∧ RStep r { r with pv := v } w (w'.setCell ⟨r.p, 1, none⟩ v) := by
  have hh := h.head hr
  obtain ⟨a1, a2, a3⟩ := hr.apart
  have hvp : ∀ j, v.ownBlock = some j → j ≠ r.p := fun j hj e => by
    obtain ⟨cur, hc⟩ := own_block h.own j hj
    rw [e, hh] at hc; injection hc with hc; injection hc with _ hc; cases hc
  refine ⟨⟨Dm.put_ok hr.ok k l hk hl, ?_, ?_, ?_, hr.high⟩, ⟨?_, ?_, rfl⟩⟩
  · rw [heap_setCell_same _ _ _ _ _ _ hh]; rfl
  · refine own_same hr.stands fun j hj => ?_
    rw [Below.heap_setCell _ _ _ _ (a1 j hj)]
    exact h.block j (hr.lt j (.inr (.inl hj))) (a3 j hj)
  · have := own_same h.own (w' := w'.setCell ⟨r.p, 1, none⟩ v) fun j hj => Below.heap_setCell _ _ _ _ (hvp j hj)
    show World.ownsRow _ _ _ _ _ (st.P ++ [(k, l)]).length (wcells (st.P ++ [(k, l)]))
    rw [List.length_append]
    exact this
  · refine Fr.setCell (b := w') ⟨h.os, h.tape, h.output, h.size, fun j hj hF => ?_⟩ _ (.inl rfl) _
    exact h.block j hj (fun e => hF (.inr (.inr e)))
  · rintro j (hj | hj | hj)
    · exact .inl (.inl hj)
    · exact .inl (.inr (.inl hj))
    · rcases h.home j hj with e | e
      · exact .inl (.inr (.inr e))
      · exact .inr e
theorem info_rwrite : (Try.prog.info? 45).map (fun i => (i.zero, i.size, i.bytes)) = some (some (.agg #[.int .i64 0, .string ⟨#[]⟩]), 2, 24) := by kernel_rfl

set_option maxHeartbeats 1000000 in
theorem rwrite_yes {w : World} {r : Ro} {st : Dm.St} (h : Rk w r st) (a : Nat) (l : List UInt8) (hdead : st.dead = false) (hm : l.length % 64 = 0) (hth : a + l.length / 64 ≤ st.S.length) (hP : st.P.length ≤ 549755813888) :
    Calls Try.prog 26 #[.pointer (some ⟨r.p, 0, none⟩), .int .i64 (a : Int), .string (Om.B l)] w fun e w' => e = .returned (.int .i64 (Dm.puts st a (Dm.chunks l)).2) ∧ RWent r (Dm.puts st a (Dm.chunks l)).1 w w' := by
  obtain ⟨i0, hi, hz0, hz1, hz2⟩ := info_parts info_rwrite
  obtain ⟨_, _, _, h3, _⟩ := h.reads
  have hs := Om.B_size l
  have hfew := h.ok.few
  have hc := there_any h (a : Int) ((l.length / 64 : Nat) : Int) (by omega)
  rw [(Dm.there_iff st a _).2 ⟨by omega, by omega, by omega⟩] at hc
  obtain ⟨n, hn⟩ : ∃ n, n = l.length := ⟨_, rfl⟩
  obtain ⟨m, hmm⟩ : ∃ m, m = n / 64 := ⟨_, rfl⟩
  have HDEAD := Lib.hid hdead
  rw [hdead] at h3
  rw [← hn] at hs hc hm hth
  rw [← hmm] at hc hth
  have hm0 : ((n : Int) % 64 != 0) = false := by simp; omega
  have hq : (n : Int) / 64 = (m : Int) := by omega
  have hnm : n = 64 * m := by omega
  have hcl : (Dm.chunks l).length = m := by rw [Dm.chunks_length, ← hn, hmm]
  have HC := Lib.hid hc
  have H := Lib.hid h
  have HN := Lib.hid hn
  have HNM := Lib.hid hnm
  have HCL := Lib.hid hcl
  have HM : m ≤ 1048576 := by omega
  have HNb : n ≤ 67108864 := by omega
  clear hdead h hc hn hmm hnm hcl hm
  go_enter Try.func26, Try.ntmps26
  go_wp2_with (go_at_call 38; refine HC.out.mono ?_; rintro e w' ⟨rfl, rfl⟩)
  go_loopw [8] (fun i wr => ∃ (k : Nat) (st' : Dm.St) (r' : Ro), k ≤ m ∧ i = .int .i64 k ∧ Hid (RMid r st a (Dm.chunks l) k w wr st' r')) (fun i _ => m - (intOf i).toNat)
  case atStart => exact ⟨0, st, r, Nat.zero_le _, rfl, Lib.hid ⟨H.out, HDEAD.out, RStep.refl _ _, rfl, rfl, Nat.le_refl _⟩⟩
  case round =>
    obtain ⟨k, st', r', hk, rfl, hmid⟩ := hrel
    clear HC h3
    by_cases hlt : k < m
    · obtain ⟨K, hK⟩ : ∃ K, K = 64 * k := ⟨_, rfl⟩
      have hKN : K + 64 ≤ n := by have := HNM.out; omega
      have hd : decide (k < m) = true := by simpa using hlt
      have hsp := thing_any hmid.out.dk hmid.out.dead
      rw [hmid.out.step.p] at hsp
      have hdrop := drop_chunks (l := l) (k := k) (by have := HN.out; have := HNM.out; omega)
      cases hb : Dm.spendB st' with
      | false =>
        rw [hb] at hsp
        have HSP := Lib.hid hsp
        have HB := Lib.hid hb
        have HD := Lib.hid hdrop
        clear hsp hb hdrop hK
        go_wp2_with (go_at_call 40; refine HSP.out.mono ?_; rintro e w' ⟨rfl, hw1, hw2⟩; have HW1 := Lib.hid hw1; have HW2 := Lib.hid hw2; clear hw1 hw2)
        go_ret
        have e1 : Dm.puts st a (Dm.chunks l) = (Dm.spendS st', 41) := by rw [hmid.out.puts, HD.out, puts_stop HB.out]
        rw [e1]
        exact ⟨rfl, r', HW1.out, hmid.out.step.trans HW2.out⟩
      | true =>
        rw [hb] at hsp
        have HSP := Lib.hid hsp
        have HB := Lib.hid hb
        have HD := Lib.hid hdrop
        have HK := Lib.hid hK
        clear hsp hb hdrop
        go_wp2_with fail
        refine HSP.out.mono ?_
        rintro e w1 ⟨rfl, hd1, hs1⟩
        have hlen : ((l.drop (64 * k)).take 64).length = 64 := by
          rw [List.length_take, List.length_drop, ← HN.out, ← HK.out]; omega
        have hp1 := hmid.out.step.p
        obtain ⟨st1, hst1⟩ : ∃ s, s = Dm.spendS st' := ⟨_, rfl⟩
        have hS1 : st1.S = st.S := by rw [hst1]; exact (Dm.spendS_S st').trans hmid.out.S
        have hP1 : st1.P.length ≤ st.P.length + k := by rw [hst1, Dm.spendS_P]; exact hmid.out.P
        have hA1 : st1.dead = false := by rw [hst1]; exact spend_alive HB.out
        rw [← hst1] at hd1
        have HST1 := Lib.hid hst1
        obtain ⟨c, hc⟩ : ∃ c, c = (l.drop (64 * k)).take 64 := ⟨_, rfl⟩
        rw [← hc] at hlen
        have hx : (Om.B l).extract (64 * k) (64 * k + 64) = Om.B c := by
          rw [extract_mid, hc, Nat.add_sub_cancel_left]
        obtain ⟨_, g1, _, _, hf⟩ := hd1.reads
        obtain ⟨pa, pc, hpv⟩ := own_slice hd1.pend
        rw [hpv] at g1
        have hpend := hd1.pend
        rw [hpv] at hpend
        obtain ⟨np, hnp⟩ : ∃ np, np = st1.P.length := ⟨_, rfl⟩
        have hpb : np ≤ 1099511627776 := by omega
        rw [← hnp] at g1 hpend hpv
        have hlt1 := hd1.lt r'.p (.inl rfl)
        have hal : Below w1.heap.size w1 (w1.alloc (.cells #[.int .i64 ((a : Int) + (k : Int)), .string (Om.B c)] 45)).drew := ((Below.refl _ _).alloc (Nat.le_refl _) _).drew
        have g1a : (w1.alloc (.cells #[.int .i64 ((a : Int) + (k : Int)), .string (Om.B c)] 45)).cell? ⟨r'.p, 1, none⟩ = some (.slice pa np pc) :=
          (World.cell?_of_block (w := w1) (a := ⟨r'.p, 1, none⟩) (Below.heap_alloc _ _ _ hlt1)).trans g1
        have OWN : Hid ((w1.alloc (.cells #[.int .i64 ((a : Int) + (k : Int)), .string (Om.B c)] 45)).drew.ownsRow 0 45 2 (.slice pa np pc) np (wcells st1.P)) :=
          own_same hpend fun j hj => hal.block j (hd1.lt j (.inr (.inr (by rw [hpv]; exact hj))))
        have NEWS : Hid (∀ j u, ([.int .i64 ((a : Int) + (k : Int)), .string (Om.B c)] : List Value)[j]? = some u → (w1.alloc (.cells #[.int .i64 ((a : Int) + (k : Int)), .string (Om.B c)] 45)).drew.cell? ((⟨w1.heap.size, 0, none⟩ : Addr).add j) = some u) :=
          World.news_of_block (cs := #[.int .i64 ((a : Int) + (k : Int)), .string (Om.B c)]) (show (w1.alloc _).heap[w1.heap.size]? = _ from heap_alloc_new _ _)
        have ONE : Hid (∀ u ∈ ([.int .i64 ((a : Int) + (k : Int)), .string (Om.B c)] : List Value), u.oneCell' = true) := by
          intro u hu
          rcases List.mem_cons.1 hu with rfl | hu
          · rfl
          · rw [List.mem_singleton.1 hu]; rfl
        rw [hp1] at g1 g1a
        have b0 : (0 : Int) ≤ 64 * (k : Int) := by omega
        have b1 : (0 : Int) ≤ 64 * (k : Int) + 64 := by omega
        have b2 : 64 * (k : Int) + 64 ≤ (n : Int) := by omega
        have b3 : 64 * (k : Int) ≤ 64 * (k : Int) + 64 := by omega
        have b4 : (64 * (k : Int)).toNat = 64 * k := by omega
        have b5 : (64 * (k : Int) + 64).toNat = 64 * k + 64 := by omega
        have hki2 : IntKind.i64.wrap (64 * (k : Int) + 64) = 64 * (k : Int) + 64 := by rw [IntWalk.i64_in _ (by omega)]
        have hki : IntKind.i64.wrap (64 * (k : Int)) = 64 * (k : Int) := by rw [IntWalk.i64_in _ (by omega)]
        have hks : IntKind.i64.wrap ((a : Int) + (k : Int)) = (a : Int) + (k : Int) := by rw [IntWalk.i64_in _ (by omega)]
        have HD1 := Lib.hid hd1
        have HS1 := Lib.hid hs1
        have HC := Lib.hid hc
        have HP1 := Lib.hid hp1
        have HPV := Lib.hid hpv
        have HNP := Lib.hid hnp
        have HS := Lib.hid hS1
        have HPL := Lib.hid hP1
        have HA := Lib.hid hA1
        have HLEN := Lib.hid hlen
        clear hd1 hs1 hc hp1 hpv hnp hS1 hP1 hA1 hlen hpend hf hal hst1
        go_wp2
        go_region_law (refine step_append_lies _ rfl (.tmp 41) (.tmp 53) 35 rfl 0 45 i0 _ 2 24 Try.underlying35 hi hz0 hz1 hz2 rfl (by decide) (.slice pa np pc) np (wcells st1.P) (by simp [Act.eval]) OWN.out ⟨w1.heap.size, 0, none⟩ 1 1 [.int .i64 ((a : Int) + (k : Int)), .string (Om.B c)] (by simp [Act.eval]) rfl NEWS.out ONE.out (by omega) (by unfold maxLen; omega) (by omega) (Nat.zero_le _) (w1.heap.size + 1) (by simp) ?_; intro g cap w2 hown2 hg2 hat2 hlt2; have APP := Lib.hid (RApp.of HPV.out HNP.out hown2 hg2 hat2); have hh := APP.out.head HD1.out; rw [HP1.out] at hh; have c4 : w2.cell? ⟨r.p, 1, none⟩ = some r'.pv := (by rw [cell_of_row _ _ _ _ _ _ hh]; rfl); have f4 : w2.frozen? ⟨r.p, 1, none⟩ = false := frozen_of_row _ _ _ _ _ hh; clear hh hown2 hg2 hat2 hlt2)
        all_goals
          go_wp2
          go_roundw
          case rel =>
            have hdn := APP.out.done HD1.out (by rw [HS.out]; omega) HLEN.out
            rw [HP1.out] at hdn
            refine ⟨k + 1, _, _, by omega, by go_num, Lib.hid ⟨hdn.1, HA.out, hmid.out.step.trans (HS1.out.trans hdn.2), ?_, HS.out, ?_⟩⟩
            · rw [hmid.out.puts, HD.out, puts_step HB.out, HST1.out, HC.out]; rfl
            · show (st1.P ++ _).length ≤ _
              rw [List.length_append]
              have := HPL.out
              simp
              omega
          case measure => simp [intOf]; omega
    · obtain rfl : k = m := by omega
      have hd : decide (k < k) = false := by simp
      go_wp2
      go_ret
      have e1 : Dm.puts st a (Dm.chunks l) = (st', 0) := by rw [hmid.out.puts, List.drop_of_length_le (by rw [HCL.out]; omega)]; rfl
      rw [e1]
      exact ⟨rfl, r', hmid.out.dk, hmid.out.step⟩
end Dsk
end Go.Proofs.Ytodihhpeggoodaa
