/- Part 5 of the contracts and of the plain mathematics that the proof of the law rests on: DiskRLoad, DiskAct, DiskArgs, TabHeapMath. -/
import Derived.Test.YtbmabcddciibfaaGreatWr04
import Derived.Deep.RegionHeld3
import Derived.OpenShut
import Derived.Deep.Slices
import Derived.Deep.Fields
namespace Go.Proofs.YtbmabcddciibfaaGreat
namespace Dsk
open Go.RowKit
set_option maxRecDepth 100000
set_option linter.unusedVariables false
def RMade (st : Dm.St) (B : Nat) (w : World) (e : Ending) (w' : World) : Prop := ∃ r, e = .returned (.pointer (some ⟨r.p, 0, none⟩)) ∧ Rk w' r st ∧ (∀ k, r.fp k → B ≤ k) ∧ Below B w w'
structure SApp (r : Ro) (st : Dm.St) (x : List UInt8) (w w' : World) (v : Value) : Prop where
  os : w'.os = w.os
  tape : w'.tape = w.tape
  output : w'.output = w.output
  size : w.heap.size ≤ w'.heap.size
  block : ∀ k, k < w.heap.size → r.sv.ownBlock ≠ some k → w'.heap[k]? = w.heap[k]?
  own : w'.ownsRow 0 9 1 v (st.S.length + 1) (scells (st.S ++ [x]))
  home : ∀ k, v.ownBlock = some k → r.sv.ownBlock = some k ∨ w.heap.size ≤ k
theorem SApp.of {r : Ro} {st : Dm.St} {l : List UInt8} {w w2 : World} {pa : Option Addr} {np pc g cap : Nat} (hpv : r.sv = .slice pa np pc) (hnp : np = st.S.length)
    (hown : w2.ownsRow 0 9 1 (.slice (some ⟨g, 0, none⟩) (np + 1) cap) (np + 1) (scells st.S ++ [.string (Om.B l)]))
    (hg : (w.alloc (.cells #[.string (Om.B l)] 9)).drew.grownBy w2 (Value.slice pa np pc).ownBlock) (hat : (Value.slice pa np pc).ownBlock = some g ∨ g = w.heap.size + 1) :
    SApp r st l w w2 (.slice (some ⟨g, 0, none⟩) (np + 1) cap) := by
  have hz : (w.alloc (.cells #[.string (Om.B l)] 9)).drew.heap.size = w.heap.size + 1 := by simp
  refine ⟨hg.os, hg.tape, hg.output, ?_, fun j hj hne => ?_, ?_, fun j hj => ?_⟩
  · have := hg.size; omega
  · rw [hpv] at hne
    exact (hg.block j (by omega) (fun e => hne e.symm)).trans (Below.heap_alloc _ _ _ hj)
  · rw [scells_snoc, ← hnp]
    exact hown
  · injection hj with hj
    have hj : g = j := hj
    rw [hpv]
    rcases hat with e | e
    · exact .inl (by rw [e, hj])
    · exact .inr (by omega)
theorem SApp.head {r : Ro} {st : Dm.St} {x : List UInt8} {w w' : World} {v : Value} (h : SApp r st x w w' v) (hr : Rk w r st) : w'.heap[r.p]? = some (.cells (r.cells st.fuse st.dead) 162 (0, 0)) := by
  rw [h.block r.p (hr.lt _ (.inl rfl)) (fun e => (hr.apart.1 _ e) rfl)]; exact hr.head
theorem SApp.done {r : Ro} {st : Dm.St} {l : List UInt8} {w w' : World} {v : Value} (h : SApp r st l w w' v) (hr : Rk w r st) (hl : l.length = 64) (hf : st.S.length + 1 ≤ 1048576) :
    Rk (w'.setCell ⟨r.p, 0, none⟩ v) { r with sv := v } { st with S := st.S ++ [l] } ∧ RStep r { r with sv := v } w (w'.setCell ⟨r.p, 0, none⟩ v) := by
  have hh := h.head hr
  obtain ⟨a1, a2, a3⟩ := hr.apart
  have hvp : ∀ j, v.ownBlock = some j → j ≠ r.p := fun j hj e => by
    obtain ⟨cur, hc⟩ := own_block h.own j hj
    rw [e, hh] at hc; injection hc with hc; injection hc with _ hc; cases hc
  refine ⟨⟨⟨?_, fun x hx => ?_, hr.ok.fuse, by rw [List.length_append]; exact hf⟩, ?_, ?_, ?_, hr.high⟩, ⟨?_, ?_, rfl⟩⟩
  · intro x hx
    rcases List.mem_append.1 hx with hx | hx
    · exact hr.ok.sectors x hx
    · rw [List.mem_singleton.1 hx]; exact hl
  · obtain ⟨h1, h2⟩ := hr.ok.writes x hx
    exact ⟨by rw [List.length_append]; exact Nat.lt_of_lt_of_le h1 (Nat.le_add_right _ _), h2⟩
  · rw [heap_setCell_same _ _ _ _ _ _ hh]; rfl
  · have := own_same h.own (w' := w'.setCell ⟨r.p, 0, none⟩ v) fun j hj => Below.heap_setCell _ _ _ _ (hvp j hj)
    show World.ownsRow _ _ _ _ _ (st.S ++ [l]).length (scells (st.S ++ [l]))
    rw [List.length_append]
    exact this
  · refine own_same hr.pend fun j hj => ?_
    rw [Below.heap_setCell _ _ _ _ (a2 j hj)]
    exact h.block j (hr.lt j (.inr (.inr hj))) (fun e => a3 j e hj)
  · refine Fr.setCell (b := w') ⟨h.os, h.tape, h.output, h.size, fun j hj hF => ?_⟩ _ (.inl rfl) _
    exact h.block j hj (fun e => hF (.inr (.inl e)))
  · rintro j (hj | hj | hj)
    · exact .inl (.inl hj)
    · rcases h.home j hj with e | e
      · exact .inl (.inr (.inl e))
      · exact .inr e
    · exact .inl (.inr (.inr hj))
theorem info_string : (Tryz.prog.info? 9).map (fun i => (i.zero, i.size, i.bytes)) = some (some (.string ⟨#[]⟩), 1, 16) := by kernel_rfl
theorem made_empty (w : World) : Rk (w.alloc (.cells #[.slice none 0 0, .slice none 0 0, .int .i64 (-1), .bool false] 162)) ⟨w.heap.size, .slice none 0 0, .slice none 0 0⟩ ⟨[], [], -1, false⟩ :=
  ⟨⟨(fun x hx => by cases hx), (fun x hx => by cases hx), Int.le_refl _, Nat.zero_le _⟩, heap_alloc_new _ _, World.ownsRow_nil _ _ _ _, World.ownsRow_nil _ _ _ _, (by decide)⟩
set_option maxHeartbeats 1000000 in
theorem rload_any (l : List UInt8) (w : World) (h : l.length ≤ 67108864) : Calls Tryz.prog 72 #[.string (Om.B l)] w fun e w' => RMade (Dm.load l) w.heap.size w e w' := by
  obtain ⟨i0, hi, hz0, hz1, hz2⟩ := info_parts info_string
  go_enter Tryz.func72, Tryz.ntmps72
  go_wp2
  go_loop [0] (fun s => ∃ j : Nat, j ≤ (64 - l.length % 64) % 64 ∧ s = .string (Om.B (l ++ List.replicate j 0))) (fun s => match s with | .string b => 67108928 - b.size | _ => 0)
  case atStart => exact ⟨0, Nat.zero_le _, by simp⟩
  case round =>
    obtain ⟨j, hj, rfl⟩ := hrel
    have hsz : (Om.B (l ++ List.replicate j 0)).size = l.length + j := by rw [Om.B_size, List.length_append, List.length_replicate]
    by_cases hlt : (l.length + j) % 64 = 0
    · have hjj : l ++ List.replicate j 0 = Dm.pad l := by unfold Dm.pad; congr 2; omega
      rw [hjj] at hsz
      obtain ⟨n, hn⟩ : ∃ n, n = l.length + j := ⟨_, rfl⟩
      rw [← hn] at hsz hlt
      have hmod : ((n : Int) % 64 != 0) = false := by simp; omega
      have hnb : n ≤ 67108928 := by omega
      have hpl : (Dm.pad l).length = n := by rw [← hjj, List.length_append, List.length_replicate, hn]
      obtain ⟨m, hm⟩ : ∃ m, m = n / 64 := ⟨_, rfl⟩
      have hcl : (Dm.chunks (Dm.pad l)).length = m := by rw [Dm.chunks_length, hpl, hm]
      rw [hjj]
      have HPL := Lib.hid hpl
      have HM : Hid (n = 64 * m) := by show n = 64 * m; omega
      have hm1 : m ≤ 1048576 := by omega
      have HCL := Lib.hid hcl
      obtain ⟨P, hP⟩ : ∃ P, P = Dm.pad l := ⟨_, rfl⟩
      rw [← hP] at hsz ⊢
      have HP := Lib.hid hP
      clear hjj hn hlt hpl hm hcl hj hP
      go_wp2
      go_loopw [4] (fun i wr => ∃ I : Nat, I ≤ n ∧ i = .int .i64 (I : Int) ∧ Hid (∃ k r, I = 64 * k ∧ k ≤ m ∧ Rk wr r ⟨(Dm.chunks (Dm.pad l)).take k, [], -1, false⟩ ∧ r.p = w.heap.size ∧ (∀ j, r.fp j → w.heap.size ≤ j) ∧ Below w.heap.size w wr)) (fun i _ => n - (Go.RowKit.intOf i).toNat)
      case atStart =>
        refine ⟨0, Nat.zero_le _, rfl, Lib.hid ⟨0, _, rfl, Nat.zero_le _, made_empty w, rfl, ?_, (Below.refl _ _).alloc (Nat.le_refl _) _⟩⟩
        rintro j (hj | hj | hj)
        · show w.heap.size ≤ j; rw [hj]; exact Nat.le_refl _
        · cases hj
        · cases hj
      case round =>
        obtain ⟨I, hI, rfl, hrl⟩ := hrel
        obtain ⟨k, r, hIk, hkm, hr, hrp, hrf, hrb⟩ := hrl.out
        by_cases hlt : I < n
        · have hd : decide (I < n) = true := by simpa using hlt
          have hkm' : k < m := by have := HM.out; omega
          have hIn : I + 64 ≤ n := by have := HM.out; omega
          obtain ⟨c, hc⟩ : ∃ c, c = (P.drop (64 * k)).take 64 := ⟨_, rfl⟩
          have hlen : c.length = 64 := by
            rw [hc, List.length_take, List.length_drop, HP.out, HPL.out]; omega
          have hx : (Om.B P).extract I (I + 64) = Om.B c := by
            rw [extract_mid, hc, Nat.add_sub_cancel_left, hIk]
          have htake : (Dm.chunks (Dm.pad l)).take (k + 1) = (Dm.chunks (Dm.pad l)).take k ++ [c] := by
            rw [List.take_succ_eq_append_getElem (by rw [HCL.out]; exact hkm'), hc, HP.out]
            congr 2
            simp [Dm.chunks]
          have hSl : ((Dm.chunks (Dm.pad l)).take k).length = k := by rw [List.length_take, HCL.out]; omega
          obtain ⟨g1, _, _, _, hf⟩ := hr.reads
          obtain ⟨pa, pc, hpv⟩ := own_slice hr.stands
          rw [hpv] at g1
          have hpend := hr.stands
          rw [hpv] at hpend
          have hlt1 := hr.lt r.p (.inl rfl)
          rw [hSl] at g1 hpend hpv
          have hal : Below wr.heap.size wr (wr.alloc (.cells #[.string (Om.B c)] 9)).drew := ((Below.refl _ _).alloc (Nat.le_refl _) _).drew
          have g1a : (wr.alloc (.cells #[.string (Om.B c)] 9)).cell? ⟨r.p, 0, none⟩ = some (.slice pa k pc) :=
            (World.cell?_of_block (w := wr) (a := ⟨r.p, 0, none⟩) (Below.heap_alloc _ _ _ hlt1)).trans g1
          have OWN : Hid ((wr.alloc (.cells #[.string (Om.B c)] 9)).drew.ownsRow 0 9 1 (.slice pa k pc) k (scells ((Dm.chunks (Dm.pad l)).take k))) :=
            own_same hpend fun j hj => hal.block j (hr.lt j (.inr (.inl (by rw [hpv]; exact hj))))
          have NEWS : Hid (∀ j u, ([.string (Om.B c)] : List Value)[j]? = some u → (wr.alloc (.cells #[.string (Om.B c)] 9)).drew.cell? ((⟨wr.heap.size, 0, none⟩ : Addr).add j) = some u) :=
            World.news_of_block (cs := #[.string (Om.B c)]) (show (wr.alloc _).heap[wr.heap.size]? = _ from heap_alloc_new _ _)
          have ONE : Hid (∀ u ∈ ([.string (Om.B c)] : List Value), u.oneCell' = true) := by
            intro u hu
            rw [List.mem_singleton.1 hu]; rfl
          rw [hrp] at g1 g1a
          have hki2 : IntKind.i64.wrap ((I : Int) + 64) = (I : Int) + 64 := by rw [IntWalk.i64_in _ (by omega)]
          have b1 : (0 : Int) ≤ (I : Int) + 64 := by omega
          have b2 : (I : Int) + 64 ≤ (n : Int) := by omega
          have b3 : (I : Int) ≤ (I : Int) + 64 := by omega
          have b5 : ((I : Int) + 64).toNat = I + 64 := by omega
          have HR := Lib.hid hr
          have HRP := Lib.hid hrp
          have HRF := Lib.hid hrf
          have HRB := Lib.hid hrb
          have HPV := Lib.hid hpv
          have HSL := Lib.hid hSl
          have HT := Lib.hid htake
          have HL := Lib.hid hlen
          have HIK := Lib.hid hIk
          clear hr hrp hrf hrb hpv hSl htake hlen hIk hc hpend hal hf hrl
          go_wp2
          go_region_law (refine step_append_lies _ rfl (.tmp 23) (.tmp 29) 56 rfl 0 9 i0 _ 1 16 Tryz.underlying56 hi hz0 hz1 hz2 rfl (by decide) (.slice pa k pc) k (scells ((Dm.chunks (Dm.pad l)).take k)) (by simp [Act.eval]) OWN.out ⟨wr.heap.size, 0, none⟩ 1 1 [.string (Om.B c)] (by simp [Act.eval]) rfl NEWS.out ONE.out (by omega) (by unfold maxLen; omega) (by omega) (Nat.zero_le _) (wr.heap.size + 1) (by simp) ?_; intro g cap w2 hown2 hg2 hat2 hlt2; have APP := Lib.hid (SApp.of (st := ⟨(Dm.chunks (Dm.pad l)).take k, [], -1, false⟩) HPV.out HSL.out.symm hown2 hg2 hat2); have hh := APP.out.head HR.out; rw [HRP.out] at hh; have c4 : w2.cell? ⟨w.heap.size, 0, none⟩ = some r.sv := (by rw [cell_of_row _ _ _ _ _ _ hh]; rfl); have f4 : w2.frozen? ⟨w.heap.size, 0, none⟩ = false := frozen_of_row _ _ _ _ _ hh; clear hh hown2 hg2 hat2 hlt2)
          all_goals
            go_wp2
            go_roundw
            case rel =>
              have hdn := APP.out.done HR.out HL.out (by show ((Dm.chunks (Dm.pad l)).take k).length + 1 ≤ _; rw [HSL.out]; omega)
              have hst := hdn.2
              have h1 := hdn.1
              rw [HRP.out] at h1 hst
              refine ⟨I + 64, by omega, by go_num, Lib.hid ⟨k + 1, ⟨w.heap.size, .slice (some ⟨g, 0, none⟩) (k + 1) cap, r.pv⟩, by have := HIK.out; omega, hkm', ?_, rfl, fun j hj => ?_, HRB.out.trans (hst.fr.below (by exact HRB.out.size) HRF.out)⟩⟩
              · rw [HT.out]; exact h1
              · rcases hst.fp j hj with e | e
                · exact HRF.out j e
                · exact Nat.le_trans HRB.out.size e
            case measure => simp [Go.RowKit.intOf]; omega
        · obtain rfl : I = n := by omega
          have hd : decide (I < I) = false := by simp
          have HR := Lib.hid hr
          have HRP := Lib.hid hrp
          have HRF := Lib.hid hrf
          have HRB := Lib.hid hrb
          have HIK := Lib.hid hIk
          clear hr hrp hrf hrb hIk hrl
          go_wp2
          go_ret
          refine ⟨r, by rw [HRP.out]; rfl, ?_, HRF.out, HRB.out⟩
          have h1 := HR.out
          have : k = m := by have := HIK.out; have := HM.out; omega
          rw [this, List.take_of_length_le (by rw [HCL.out]; omega)] at h1
          exact h1
    · obtain ⟨n, hn⟩ : ∃ n, n = l.length + j := ⟨_, rfl⟩
      rw [← hn] at hsz hlt
      have hmod : ((n : Int) % 64 != 0) = true := by simp; omega
      have hnb : n ≤ 67108928 := by omega
      have happ : Om.B (l ++ List.replicate j 0) ++ ⟨#[0]⟩ = Om.B (l ++ List.replicate (j + 1) 0) := by
        rw [List.replicate_succ', ← List.append_assoc]; exact Om.B_append _ [0]
      have hov : ¬ 9223372036854775807 < n + 1 := by omega
      have HN := Lib.hid hn
      have HLT := Lib.hid hlt
      have HSZ := Lib.hid hsz
      clear hn hlt
      go_wp2
      go_round
      case rel => exact ⟨j + 1, by have := HN.out; have := HLT.out; omega, rfl⟩
      case measure =>
        show 67108928 - (Om.B (l ++ List.replicate (j + 1) 0)).size < 67108928 - (Om.B (l ++ List.replicate j 0)).size
        rw [Om.B_size, Om.B_size, List.length_append, List.length_append, List.length_replicate, List.length_replicate]
        have := HN.out
        omega
end Dsk
end Go.Proofs.YtbmabcddciibfaaGreat
namespace Go.Proofs.YtbmabcddciibfaaGreat
namespace Dsk
open Go.RowKit
set_option linter.unusedVariables false
structure Ac where
  k : Nat
  a : Int
  n : Int
  d : List UInt8
  ks : List Bool
  ka : Option Addr
  kc : Nat
def Ac.row (x : Ac) : Array Value := #[.int .u8 (x.k : Int), .int .i64 x.a, .int .i64 x.n, .string (Om.B x.d), .slice x.ka x.ks.length x.kc]
def Ac.step (x : Ac) (st : Dm.St) : Dm.St := match x.k % 5 with
  | 0 => st
  | 1 => (Dm.write st x.a x.d).1
  | 2 => (Dm.flush st).1
  | 3 => Dm.fail st x.n
  | _ => Dm.restart st x.ks
def Ac.same (x : Ac) (st sr : Dm.St) : Bool := match x.k % 5 with
  | 0 => decide (Dm.readS st x.a x.n = Dm.readS sr x.a x.n) && decide (Dm.readE st x.a x.n = Dm.readE sr x.a x.n)
  | 1 => decide ((Dm.write st x.a x.d).2 = (Dm.write sr x.a x.d).2)
  | 2 => decide ((Dm.flush st).2 = (Dm.flush sr).2)
  | _ => true
structure Ac.Wf (x : Ac) : Prop where
  k : x.k < 256
  alo : -9223372036854775808 ≤ x.a
  ahi : x.a ≤ 9223372036854775807
  nlo : -9223372036854775808 ≤ x.n
  nhi : x.n ≤ 9223372036854775807
  d : x.d.length ≤ 140737488355328
  ks : x.ks.length ≤ 140737488355328
structure Two (o : Ob) (r : Ro) (o' : Ob) (r' : Ro) (st sr : Dm.St) (w w' : World) : Prop where
  dk : Dk w' o' st
  rk : Rk w' r' sr
  fr : Fr (fun k => o.fp k ∨ r.fp k) w w'
  ofp : ∀ k, o'.fp k → o.fp k ∨ w.heap.size ≤ k
  rfp : ∀ k, r'.fp k → r.fp k ∨ w.heap.size ≤ k
  dj : ∀ k, o'.fp k → ¬ r'.fp k
  op : o'.p = o.p
  rp : r'.p = r.p
theorem Two.refl {o : Ob} {r : Ro} {st sr : Dm.St} {w : World} (h : Dk w o st) (hr : Rk w r sr) (dj : ∀ k, o.fp k → ¬ r.fp k) : Two o r o r st sr w w :=
  ⟨h, hr, Fr.refl _ _, fun _ h => .inl h, fun _ h => .inl h, dj, rfl, rfl⟩
theorem Two.trans {o o1 o2 : Ob} {r r1 r2 : Ro} {st sr st2 sr2 : Dm.St} {w w1 w2 : World} (h : Two o r o1 r1 st sr w w1) (k : Two o1 r1 o2 r2 st2 sr2 w1 w2) : Two o r o2 r2 st2 sr2 w w2 := by
  refine ⟨k.dk, k.rk, h.fr.trans k.fr fun i hi hb => ?_, fun i hi => ?_, fun i hi => ?_, k.dj, k.op.trans h.op, k.rp.trans h.rp⟩
  · rcases hb with hb | hb
    · rcases h.ofp i hb with e | e
      · exact .inl e
      · omega
    · rcases h.rfp i hb with e | e
      · exact .inr e
      · omega
  · rcases k.ofp i hi with e | e
    · exact h.ofp i e
    · exact .inr (Nat.le_trans h.fr.size e)
  · rcases k.rfp i hi with e | e
    · exact h.rfp i e
    · exact .inr (Nat.le_trans h.fr.size e)
theorem Kept.mono {w : World} {F G : Nat → Prop} {a : Option Addr} {ks : List Bool} (h : Kept w F a ks) (hg : ∀ i, i < w.heap.size → G i → F i) : Kept w G a ks := fun hn => by
  obtain ⟨b, off, e, hF, hb, hc⟩ := h hn
  exact ⟨b, off, e, fun c => hF (hg b hb c), hb, hc⟩
theorem B_ne {p q : List UInt8} (h : p ≠ q) : ((Om.B p).toList == (Om.B q).toList) = false := by
  rw [beq_eq_false_iff_ne, Lib.toList_data, Lib.toList_data]
  intro c
  exact h (by rw [← Om.L_B p, ← Om.L_B q]; exact c)
theorem Step.cell {o o' : Ob} {st : Dm.St} {w w1 W : World} (h : Dk w o st) (hs : Step o o' w1 W) (hlt : w.heap.size < w1.heap.size) (j : Nat) : W.cell? ⟨w.heap.size, j, none⟩ = w1.cell? ⟨w.heap.size, j, none⟩ :=
  World.cell?_of_block (w := w1) (a := ⟨w.heap.size, j, none⟩) (hs.fr.block w.heap.size hlt (fun e => Nat.lt_irrefl _ (h.lt _ e)))
theorem RStep.cell {r r' : Ro} {sr : Dm.St} {w w1 W : World} (h : Rk w r sr) (hs : RStep r r' w1 W) (hlt : w.heap.size < w1.heap.size) (j : Nat) : W.cell? ⟨w.heap.size, j, none⟩ = w1.cell? ⟨w.heap.size, j, none⟩ :=
  World.cell?_of_block (w := w1) (a := ⟨w.heap.size, j, none⟩) (hs.fr.block w.heap.size hlt (fun e => Nat.lt_irrefl _ (h.lt _ e)))
end Dsk
end Go.Proofs.YtbmabcddciibfaaGreat
namespace Go.Proofs.YtbmabcddciibfaaGreat
namespace Dsk
open Go.RowKit Go.ChangeShapes Go.WideShapes Go.Deep
set_option linter.unusedVariables false
section
variable {H : Type} {enc : TypeId × Value → H} {w : World} {spare : Nat → Bool} {held : Bool}
theorem lt_of_cell {w : World} {a : Addr} {v : Value} (h : w.cell? a = some v) : a.block < w.heap.size := by
  unfold World.cell? at h
  by_cases hb : a.block < w.heap.size
  · exact hb
  · rw [Array.getElem?_eq_none (by omega)] at h
    simp at h
theorem plain_at {a : Addr} {v : Value} (h : w.cell? a = some v) : ∃ b off, a = ⟨b, off, none⟩ := by
  obtain ⟨b, off, spot⟩ := a
  have : spot = none := by simpa using World.cell?_spot h
  subst this
  exact ⟨b, off, rfl⟩
theorem view_bools {fuel : Nat} {v : Value} {x : DataW H × List MemPlace} (h : DataW.trod enc Tryz.prog w 0 spare held fuel 32 [v] = some x) :
    ∃ (ka : Option Addr) (ks : List Bool) (kc : Nat), v = .slice ka ks.length kc ∧ ks.length ≤ maxLen ∧ Kept w (fun k => w.heap.size ≤ k) ka ks := by
  rcases open_slice1 Tryz.underlying32 (by kernel_rfl) h with ⟨h0, _⟩ | ⟨a, len, cap, m, n, V, D, Pl, hv, _, hlc, hcm, hm, _, hx⟩
  · injection h0 with h0
    exact ⟨none, [], 0, h0, Nat.zero_le _, Kept.none _ _ _⟩
  · injection hv with hv
    have hlm : len ≤ m := by rw [hm]; split <;> omega
    obtain ⟨B, hB⟩ := choose_lt (α := Bool) (n := m) (p := fun i b => w.cell? (a.add i) = some (.bool b)) (fun i hi => by
      obtain ⟨h1, h2⟩ := hx i hi
      obtain ⟨b, hb, _⟩ := DataW.trod_bool Tryz.underlying4 h2
      injection hb with hb
      exact ⟨b, by rw [h1, hb]⟩)
    refine ⟨some a, (List.range len).map B, cap, ?_, ?_, fun hn => ?_⟩
    · rw [hv, List.length_map, List.length_range]
    · rw [List.length_map, List.length_range]; omega
    · rw [List.length_map, List.length_range] at hn
      have h0 := hB 0 (by omega)
      rw [show a.add 0 = a from rfl] at h0
      obtain ⟨b, off, rfl⟩ := plain_at h0
      refine ⟨b, off, rfl, ?_, lt_of_cell h0, fun i hi => ?_⟩
      · have := lt_of_cell h0; intro c; have c : w.heap.size ≤ b := c; exact absurd this (by show ¬ b < _; omega)
      · rw [List.length_map, List.length_range] at hi
        rw [← Go.WideShapes.add_plain, hB i (by omega)]
        simp [hi]
structure ActAt (w : World) (b off : Nat) (x : Ac) : Prop where
  c0 : w.cell? ⟨b, off, none⟩ = some (.int .u8 (x.k : Int))
  c1 : w.cell? ⟨b, off + 1, none⟩ = some (.int .i64 x.a)
  c2 : w.cell? ⟨b, off + 2, none⟩ = some (.int .i64 x.n)
  c3 : w.cell? ⟨b, off + 3, none⟩ = some (.string (Om.B x.d))
  c4 : w.cell? ⟨b, off + 4, none⟩ = some (.slice x.ka x.ks.length x.kc)
  k : x.k < 256
  alo : -9223372036854775808 ≤ x.a
  ahi : x.a ≤ 9223372036854775807
  nlo : -9223372036854775808 ≤ x.n
  nhi : x.n ≤ 9223372036854775807
  d : x.d.length ≤ 9223372036854775807
  ks : x.ks.length ≤ 9223372036854775807
  kept : Kept w (fun k => w.heap.size ≤ k) x.ka x.ks
instance : Inhabited Ac := ⟨⟨0, 0, 0, [], [], none, 0⟩⟩
theorem i64_wf {n : Int} (h : (Lit.int .i64 n).wf = true) : -9223372036854775808 ≤ n ∧ n ≤ 9223372036854775807 := by
  simp [Lit.wf, IntKind.min, IntKind.max, IntKind.signed, IntKind.bits] at h
  omega
theorem u8_wf {n : Int} (h : (Lit.int .u8 n).wf = true) : ∃ m : Nat, n = (m : Int) ∧ m < 256 := by
  simp [Lit.wf, IntKind.min, IntKind.max, IntKind.signed, IntKind.bits] at h
  exact ⟨n.toNat, by omega, by omega⟩
theorem cells_u8 : Tryz.prog.cellsOf 5 = 1 := by kernel_rfl
theorem cells_int : Tryz.prog.cellsOf 3 = 1 := by kernel_rfl
theorem cells_str : Tryz.prog.cellsOf 9 = 1 := by kernel_rfl
theorem cells_bools : Tryz.prog.cellsOf 32 = 1 := by kernel_rfl
end
end Dsk
end Go.Proofs.YtbmabcddciibfaaGreat
namespace Go.Proofs.YtbmabcddciibfaaGreat
namespace Hp
def at_ (g : List Int) (k : Nat) : Int := g.getD k 0
theorem at_get (g : List Int) (k : Nat) (h : k < g.length) : g[k]? = some (at_ g k) := by unfold at_; rw [List.getD_eq_getElem?_getD, List.getElem?_eq_getElem h]; rfl
theorem at_append_left (g : List Int) (x : Int) (k : Nat) (h : k < g.length) : at_ (g ++ [x]) k = at_ g k := by unfold at_; rw [List.getD_eq_getElem?_getD, List.getD_eq_getElem?_getD, List.getElem?_append_left h]
theorem at_mem (g : List Int) (k : Nat) (h : k < g.length) : at_ g k ∈ g := by
  have := at_get g k h
  exact List.mem_of_getElem? this
theorem mem_at {g : List Int} {x : Int} (h : x ∈ g) : ∃ k, k < g.length ∧ at_ g k = x := by
  obtain ⟨k, hk, e⟩ := List.getElem_of_mem h
  refine ⟨k, hk, ?_⟩
  unfold at_
  rw [List.getD_eq_getElem?_getD, List.getElem?_eq_getElem hk, e]
  rfl
def swap (g : List Int) (i j : Nat) : List Int := (g.set i (at_ g j)).set j (at_ g i)
theorem swap_length (g : List Int) (i j : Nat) : (swap g i j).length = g.length := by simp [swap]
theorem at_set (g : List Int) (i k : Nat) (x : Int) (h : i < g.length) : at_ (g.set i x) k = if k = i then x else at_ g k := by
  unfold at_
  rw [List.getD_eq_getElem?_getD, List.getD_eq_getElem?_getD, List.getElem?_set]
  by_cases e : i = k
  · subst e; simp [h]
  · rw [if_neg e, if_neg (fun c => e c.symm)]
theorem at_swap (g : List Int) (i j k : Nat) (hi : i < g.length) (hj : j < g.length) : at_ (swap g i j) k = if k = j then at_ g i else if k = i then at_ g j else at_ g k := by
  unfold swap
  rw [at_set _ _ _ _ (by simpa using hj), at_set _ _ _ _ hi]
theorem swap_perm (g : List Int) (i j : Nat) (hi : i < g.length) (hj : j < g.length) : (swap g i j).Perm g := by
  have e1 : at_ g j = g[j] := by unfold at_; rw [List.getD_eq_getElem?_getD, List.getElem?_eq_getElem hj]; rfl
  have e2 : at_ g i = g[i] := by unfold at_; rw [List.getD_eq_getElem?_getD, List.getElem?_eq_getElem hi]; rfl
  unfold swap
  rw [e1, e2]
  exact List.set_set_perm hi hj
abbrev par (k : Nat) : Nat := (k - 1) / 2
def HeapN (g : List Int) (n : Nat) : Prop := ∀ k, 0 < k → k < n → at_ g (par k) ≤ at_ g k
def Heap (g : List Int) : Prop := HeapN g g.length
theorem heap_nil : Heap [] := fun k _ h => by simp at h
theorem heap_least {g : List Int} {n : Nat} (h : HeapN g n) : ∀ k, k < n → at_ g 0 ≤ at_ g k := by
  intro k
  induction k using Nat.strongRecOn with
  | ind k ih =>
    intro hk
    by_cases e : k = 0
    · rw [e]; exact Int.le_refl _
    · exact Int.le_trans (ih (par k) (by unfold par; omega) (by unfold par; omega)) (h k (by omega) hk)
def Up (g : List Int) (j : Nat) : Prop := j < g.length ∧ (∀ k, 0 < k → k < g.length → k ≠ j → at_ g (par k) ≤ at_ g k) ∧ (∀ k, 0 < k → k < g.length → par k = j → 0 < j → at_ g (par j) ≤ at_ g k)
theorem up_start {g : List Int} (h : Heap g) (x : Int) : Up (g ++ [x]) g.length := by
  refine ⟨by simp, fun k h0 hk hne => ?_, fun k h0 hk e _ => ?_⟩
  · have hk' : k < g.length := by simp at hk; omega
    rw [at_append_left _ _ _ hk', at_append_left _ _ _ (by unfold par; omega)]
    exact h k h0 hk'
  · simp at hk
    unfold par at e
    omega
theorem up_done {g : List Int} {j : Nat} (h : Up g j) (hd : j = 0 ∨ at_ g (par j) ≤ at_ g j) : Heap g := by
  intro k h0 hk
  by_cases e : k = j
  · subst e
    rcases hd with hd | hd
    · omega
    · exact hd
  · exact h.2.1 k h0 hk e
theorem up_step {g : List Int} {j : Nat} (h : Up g j) (h0 : 0 < j) (hlt : at_ g j < at_ g (par j)) : Up (swap g (par j) j) (par j) := by
  obtain ⟨hj, h1, h2⟩ := h
  have hp : par j < g.length := by unfold par; omega
  have hpj : par j < j := by unfold par; omega
  refine ⟨by rw [swap_length]; exact hp, fun k hk hkl hne => ?_, fun k hk hkl e hpos => ?_⟩
  · rw [swap_length] at hkl
    rw [at_swap _ _ _ _ hp hj, at_swap _ _ _ _ hp hj]
    by_cases e1 : k = j
    · subst e1
      rw [if_neg (by omega), if_pos rfl, if_pos rfl]
      omega
    · rw [if_neg (by omega : ¬ k = j), if_neg hne]
      by_cases e2 : par k = j
      · rw [if_pos e2]
        exact h2 k hk hkl e2 h0
      · rw [if_neg e2]
        by_cases e3 : par k = par j
        · rw [if_pos e3]
          have := h1 k hk hkl e1
          rw [e3] at this
          omega
        · rw [if_neg e3]
          exact h1 k hk hkl e1
  · rw [swap_length] at hkl
    have hpp : par (par j) < par j := by show (par j - 1) / 2 < par j; omega
    have hpl : par j < g.length := hp
    have hA : at_ g (par (par j)) ≤ at_ g (par j) := h1 (par j) hpos hpl (by omega)
    rw [at_swap _ _ _ _ hp hj, at_swap _ _ _ _ hp hj, if_neg (by omega : ¬ par (par j) = j), if_neg (by omega : ¬ par (par j) = par j)]
    have hkp : k ≠ par j := by intro c; rw [c] at e; omega
    by_cases e1 : k = j
    · rw [if_pos e1]; exact hA
    · rw [if_neg e1, if_neg hkp]
      have := h1 k hk hkl e1
      rw [e] at this
      exact Int.le_trans hA this
def Down (g : List Int) (i n : Nat) : Prop := n ≤ g.length ∧ (∀ k, 0 < k → k < n → par k ≠ i → at_ g (par k) ≤ at_ g k) ∧ (∀ k, 0 < k → k < n → par k = i → 0 < i → at_ g (par i) ≤ at_ g k)
theorem down_start {g : List Int} (h : Heap g) (n : Nat) (hn : g.length = n + 1) : Down (swap g 0 n) 0 n := by
  refine ⟨by rw [swap_length]; omega, fun k h0 hk hne => ?_, fun k h0 hk e hpos => by omega⟩
  rw [at_swap _ _ _ _ (by omega) (by omega), at_swap _ _ _ _ (by omega) (by omega), if_neg (by unfold par; omega), if_neg hne, if_neg (by omega), if_neg (by omega)]
  exact h k h0 (by omega)
theorem down_leaf {g : List Int} {i n : Nat} (h : Down g i n) (hl : n ≤ 2 * i + 1) : HeapN g n := fun k h0 hk => h.2.1 k h0 hk (by unfold par; omega)
def Least (g : List Int) (i j n : Nat) : Prop := j < n ∧ par j = i ∧ 0 < j ∧ ∀ k, 0 < k → k < n → par k = i → at_ g j ≤ at_ g k
theorem least_one {g : List Int} {i n : Nat} (h : 2 * i + 1 < n) (h2 : n ≤ 2 * i + 2 ∨ at_ g (2 * i + 1) ≤ at_ g (2 * i + 2)) : Least g i (2 * i + 1) n := by
  refine ⟨h, by unfold par; omega, by omega, fun k h0 hk e => ?_⟩
  have : k = 2 * i + 1 ∨ k = 2 * i + 2 := by unfold par at e; omega
  rcases this with rfl | rfl
  · exact Int.le_refl _
  · rcases h2 with h2 | h2
    · omega
    · exact h2
theorem least_two {g : List Int} {i n : Nat} (h : 2 * i + 2 < n) (h2 : at_ g (2 * i + 2) < at_ g (2 * i + 1)) : Least g i (2 * i + 2) n := by
  refine ⟨h, by unfold par; omega, by omega, fun k h0 hk e => ?_⟩
  have : k = 2 * i + 1 ∨ k = 2 * i + 2 := by unfold par at e; omega
  rcases this with rfl | rfl
  · omega
  · exact Int.le_refl _
theorem down_done {g : List Int} {i j n : Nat} (h : Down g i n) (hl : Least g i j n) (hd : at_ g i ≤ at_ g j) : HeapN g n := fun k h0 hk => by
  by_cases e : par k = i
  · rw [e]; exact Int.le_trans hd (hl.2.2.2 k h0 hk e)
  · exact h.2.1 k h0 hk e
theorem down_step {g : List Int} {i j n : Nat} (h : Down g i n) (hl : Least g i j n) (hlt : at_ g j < at_ g i) : Down (swap g i j) j n := by
  obtain ⟨hn, h1, h2⟩ := h
  obtain ⟨hj, hp, h0j, hmin⟩ := hl
  have hij : i < j := by unfold par at hp; omega
  have hi' : i < g.length := by omega
  have hj' : j < g.length := by omega
  refine ⟨by rw [swap_length]; exact hn, fun k h0 hk hne => ?_, fun k h0 hk e hpos => ?_⟩
  · rw [at_swap _ _ _ _ hi' hj', at_swap _ _ _ _ hi' hj', if_neg hne]
    by_cases e1 : par k = i
    · rw [if_pos e1]
      by_cases e2 : k = j
      · rw [if_pos e2]; omega
      · rw [if_neg e2, if_neg (by unfold par at e1; omega)]
        exact hmin k h0 hk e1
    · rw [if_neg e1, if_neg (by intro c; rw [c] at e1; exact e1 hp)]
      by_cases e3 : k = i
      · rw [if_pos e3, e3]
        exact h2 j h0j hj hp (by omega)
      · rw [if_neg e3]
        exact h1 k h0 hk e1
  · rw [hp, at_swap _ _ _ _ hi' hj', at_swap _ _ _ _ hi' hj', if_neg (by omega), if_pos rfl]
    have hkj : k ≠ j := by unfold par at e; omega
    have hki : k ≠ i := by unfold par at e; omega
    rw [if_neg hkj, if_neg hki]
    have := h1 k h0 hk (by omega)
    rw [e] at this
    exact this
theorem take_last {g : List Int} {n : Nat} (hn : g.length = n + 1) : g = g.take n ++ [at_ g n] := by
  have e : at_ g n = g[n] := by unfold at_; rw [List.getD_eq_getElem?_getD, List.getElem?_eq_getElem (by omega)]; rfl
  rw [e]
  have := List.take_append_drop n g
  rw [List.drop_eq_getElem_cons (by omega), List.drop_eq_nil_of_le (by omega)] at this
  exact this.symm
theorem heap_take {g : List Int} {n : Nat} (h : HeapN g n) (hn : n ≤ g.length) : Heap (g.take n) := by
  intro k h0 hk
  have hk' : k < n := by simp at hk; omega
  have e : ∀ i, i < n → at_ (g.take n) i = at_ g i := fun i hi => by unfold at_; rw [List.getD_eq_getElem?_getD, List.getD_eq_getElem?_getD, List.getElem?_take, if_pos hi]
  rw [e k hk', e (par k) (by unfold par; omega)]
  exact h k h0 hk'
end Hp
end Go.Proofs.YtbmabcddciibfaaGreat
