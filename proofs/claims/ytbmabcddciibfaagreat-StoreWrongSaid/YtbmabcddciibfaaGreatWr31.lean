/- Part 31 of the contracts and of the plain mathematics that the proof of the law rests on: StoWrR, AppendCopy, TabRPage. -/
import Derived.Test.YtbmabcddciibfaaGreatWr02
import Derived.Test.YtbmabcddciibfaaGreatWr03
import Derived.Test.YtbmabcddciibfaaGreatWr17
import Derived.Test.YtbmabcddciibfaaGreatWr24
import Derived.Test.YtbmabcddciibfaaGreatWr30
import Derived.Lib.Agree
import Derived.WalkSpells
import Derived.LoopTactic
import Derived.Deep.QuietTactic
import Derived.BigQuiet
import Derived.RegionTactic
namespace Go.Proofs.YtbmabcddciibfaaGreat
namespace So
open Go.RowKit
set_option maxRecDepth 100000
set_option linter.unusedVariables false
theorem three_box (w : World) (x y z : Value) (T U V : TypeId) (W0 : World) (h : ((w.alloc (.cells #[x] T)).alloc (.cells #[y] U)).alloc (.cells #[z] V) = W0) :
    Below w.heap.size w W0 ∧ W0.cell? ⟨w.heap.size, 0, none⟩ = some x ∧ W0.cell? ⟨w.heap.size + 1, 0, none⟩ = some y ∧ W0.cell? ⟨w.heap.size + 2, 0, none⟩ = some z ∧ W0.heap.size = w.heap.size + 3 := by
  obtain ⟨W1, hW1⟩ : ∃ W1, (w.alloc (.cells #[x] T)).alloc (.cells #[y] U) = W1 := ⟨_, rfl⟩
  obtain ⟨h1, h2, h3, h4⟩ := two_box w x y T U W1 hW1
  rw [hW1] at h
  subst h
  have hr := heap_alloc_new W1 (.cells #[z] V)
  have hb : Below W1.heap.size W1 (W1.alloc (.cells #[z] V)) := (Below.refl _ _).alloc (Nat.le_refl _) _
  rw [h4] at hr
  exact ⟨h1.trans (hb.mono h1.size), (hb.cell (p := ⟨w.heap.size, 0, none⟩) (by show w.heap.size < _; omega)).trans h2, (hb.cell (p := ⟨w.heap.size + 1, 0, none⟩) (by show w.heap.size + 1 < _; omega)).trans h3, by rw [cell_of_row _ _ _ _ _ _ hr]; rfl, by simp [h4]⟩
def fE (inv : Bool) (m : List Int) (o : Int) : Int := if inv = true then 162 else if (Tb.find m o).isSome = true then 0 else 161
def rE (inv : Bool) (m : List Int) (p : Pa) (o f n : Int) : Int := if fE inv m o = 0 then if inCh p f n = true then 0 else 2 else fE inv m o
def wE (inv : Bool) (m : List Int) (p : Pa) (o f : Int) (d : List UInt8) : Int := if fE inv m o = 0 then if d.length % 64 = 0 then if inCh p f ((d.length / 64 : Nat) : Int) = true then 0 else 2 else 1 else fE inv m o
theorem fE_tab (M : Ms) (o : Int) : fE M.inv M.tab o = findE M o := by
  unfold fE findE Ms.tab
  cases M.inv <;> simp
theorem rE_tab (M : Ms) (p : Pa) (o f n : Int) : rE M.inv M.tab p o f n = readE p M o f n := by unfold rE readE; rw [fE_tab]
theorem wE_tab (M : Ms) (p : Pa) (o f : Int) (d : List UInt8) : wE M.inv M.tab p o f d = wriE p M o f d := by unfold wE wriE; rw [fE_tab]
theorem find_two {w : World} {b : Bk} {p : Pa} {inv : Bool} {st : Dm.St} {m : List Int} (h : Sk w b p inv st m) (hp : p.Ok) (hm : inv = false → m.length = p.N) (o : Int) (hk : (Lit.int .i64 o).wf = true) :
    (fE inv m o ≠ 0 ∧ Calls Tryz.prog 52 #[.pointer (some ⟨b.q, 0, none⟩), .int .i64 o] w fun e w' => e = .returned (.tuple #[.agg #[.int .i64 0, .int .i64 0], .int .i64 (fE inv m o)]) ∧ Below w.heap.size w w') ∨
    (fE inv m o = 0 ∧ ∃ i, inv = false ∧ Tb.find m o = some i ∧ i < p.N ∧ Calls Tryz.prog 52 #[.pointer (some ⟨b.q, 0, none⟩), .int .i64 o] w fun e w' => e = .returned (.tuple #[.agg #[.int .i64 (p.data i : Int), .int .i64 (p.g : Int)], .int .i64 0]) ∧ Below w.heap.size w w') := by
  have FI := sfind_any h hp hm o hk
  unfold FindIs at FI
  cases inv with
  | true =>
    left
    refine ⟨by unfold fE; rw [if_pos rfl]; decide, FI.mono ?_⟩
    rintro e w' ⟨hb, ⟨_, rfl⟩ | ⟨h1, _⟩ | ⟨h1, _⟩⟩
    · exact ⟨by unfold fE; rw [if_pos rfl], hb⟩
    · cases h1
    · cases h1
  | false =>
    cases hf : Tb.find m o with
    | none =>
      left
      refine ⟨by unfold fE; rw [hf]; decide, FI.mono ?_⟩
      rintro e w' ⟨hb, ⟨h1, _⟩ | ⟨_, _, rfl⟩ | ⟨_, i, h1, _⟩⟩
      · cases h1
      · exact ⟨by unfold fE; rw [hf]; rfl, hb⟩
      · rw [hf] at h1; cases h1
    | some i =>
      right
      refine ⟨by unfold fE; rw [hf]; rfl, i, rfl, rfl, by have := Tb.find_lt hf; rw [hm rfl] at this; exact this, FI.mono ?_⟩
      rintro e w' ⟨hb, ⟨h1, _⟩ | ⟨_, h1, _⟩ | ⟨_, j, h1, rfl⟩⟩
      · cases h1
      · rw [hf] at h1; cases h1
      · rw [hf] at h1
        injection h1 with h1
        subst h1
        exact ⟨rfl, hb⟩
def WriPost (b : Bk) (p : Pa) (inv : Bool) (st : Dm.St) (m : List Int) (o f : Int) (d : List UInt8) (w : World) (e : Ending) (w' : World) : Prop :=
  (wE inv m p o f d ≠ 0 ∧ e = .returned (.int .i64 (wE inv m p o f d)) ∧ SWent b p inv st m w w') ∨
  (wE inv m p o f d = 0 ∧ ∃ i, Tb.find m o = some i ∧ e = .returned (.int .i64 (runs st [wriOp p i f.toNat d]).2) ∧ SWent b p inv (runs st [wriOp p i f.toNat d]).1 m w w')
theorem five_of {w W0 W2 W : World} {q dp g : Nat} {A L f : Int} {d : Value} (hB : Below w.heap.size w W0) (hsz : W0.heap.size = w.heap.size + 3) (c0 : W0.cell? ⟨w.heap.size, 0, none⟩ = some (.pointer (some ⟨q, 0, none⟩))) (c1 : W0.cell? ⟨w.heap.size + 1, 0, none⟩ = some (.int .i64 f)) (c2 : W0.cell? ⟨w.heap.size + 2, 0, none⟩ = some d)
    (h02 : Below W0.heap.size W0 W2) (hr : W2.heap[g]? = some (.cells #[.int .i64 A, .int .i64 L] 25 (0, 0))) (h2 : Below W2.heap.size W2 W) (h3 : W.cell? ⟨q, 3, none⟩ = some (.pointer (some ⟨dp, 0, none⟩))) : Five q dp w.heap.size g (w.heap.size + 1) (w.heap.size + 2) A f d W := by
  have h0 : Below W0.heap.size W0 W := h02.trans (h2.mono h02.size)
  have hr2 := (h2.block g (Dsk.lt_of_heap hr)).trans hr
  exact ⟨(h0.cell (p := ⟨w.heap.size, 0, none⟩) (by show w.heap.size < _; omega)).trans c0, h3, by rw [cell_of_row _ _ _ _ _ _ hr2]; rfl, (h0.cell (p := ⟨w.heap.size + 1, 0, none⟩) (by show w.heap.size + 1 < _; omega)).trans c1, (h0.cell (p := ⟨w.heap.size + 2, 0, none⟩) (by show w.heap.size + 2 < _; omega)).trans c2⟩
theorem five_next {w W' w' : World} {b : Bk} {p : Pa} {inv : Bool} {st' : Dm.St} {m : List Int} {g0 g1 g2 g3 : Nat} {A f : Int} {d : Value} (h : Five b.q b.d.p g0 g1 g2 g3 A f d W') (hs : SWent b p inv st' m W' w') (hl : ∀ k, b.fp k → k < w.heap.size) (hg : w.heap.size ≤ g0 ∧ w.heap.size ≤ g1 ∧ w.heap.size ≤ g2 ∧ w.heap.size ≤ g3) : Five b.q b.d.p g0 g1 g2 g3 A f d w' := by
  have hf := hs.fr
  obtain ⟨b', k', s'⟩ := hs
  have r := k'.reads
  rw [s'.q, s'.dp] at r
  obtain ⟨a0, a1, a2, a3, a4⟩ := h
  have k : ∀ (g : Nat) (v : Value), w.heap.size ≤ g → W'.cell? ⟨g, 0, none⟩ = some v → w'.cell? ⟨g, 0, none⟩ = some v := fun g v hg hv => (fr_cell hf (World.block_lt_of_cell? _ _ hv) fun e => by have := hl g e; omega).trans hv
  exact ⟨k _ _ hg.1 a0, r.2.2.2.1, k _ _ hg.2.1 a2, k _ _ hg.2.2.1 a3, k _ _ hg.2.2.2 a4⟩
theorem wri_runs (st : Dm.St) (p : Pa) (i : Nat) (f : Int) (d : List UInt8) (hf : 0 ≤ f) : runs st [wriOp p i f.toNat d] = Dm.write st ((p.data i : Int) + f) d := by
  rw [runs_one_op]
  show ((Dm.write st ((p.data i + f.toNat : Nat) : Int) d).1, (Dm.write st ((p.data i + f.toNat : Nat) : Int) d).2) = _
  rw [show ((p.data i + f.toNat : Nat) : Int) = (p.data i : Int) + f by omega]
set_option maxHeartbeats 2000000 in
theorem write_pub {w : World} {b : Bk} {p : Pa} {inv : Bool} {st : Dm.St} {m : List Int} (h : Sk w b p inv st m) (hp : p.Ok) (hm : inv = false → m.length = p.N) (o f : Int) (d : List UInt8) (ho : (Lit.int .i64 o).wf = true) (hf : (Lit.int .i64 f).wf = true) (hd : d.length ≤ 137438953472) (hP : st.P.length ≤ 274877906944) :
    Calls Tryz.prog 22 #[.pointer (some ⟨b.q, 0, none⟩), .int .i64 o, .int .i64 f, .string (Om.B d)] w (WriPost b p inv st m o f d w) := by
  have hmf : ∀ (fn : Fn) (first cap : Array Value) (w : World), (Instr.makeFunc fn first cap).run Tryz.prog w = .ok (.func fn first cap) w := fun _ _ _ _ => rfl
  obtain ⟨W0, hW0⟩ : ∃ W0, ((w.alloc (.cells #[.pointer (some ⟨b.q, 0, none⟩)] 45)).alloc (.cells #[.int .i64 f] 3)).alloc (.cells #[.string (Om.B d)] 9) = W0 := ⟨_, rfl⟩
  obtain ⟨hB, c0, c1, c2, hsz⟩ := three_box w _ _ _ _ _ _ W0 hW0
  have h0 := h.below hB
  have HB := Lib.hid hB
  have SZ := Lib.hid hsz
  have HSK := Lib.hid h
  have DONE : Hid (∀ w', Below w.heap.size w w' → SWent b p inv st m w w') := Lib.hid fun w' hb => SWent.below hb (SWent.refl (h.below hb))
  unfold WriPost
  rcases find_two h0 hp hm o ho with ⟨hx, FI⟩ | ⟨hx, i, hiv, hfi, hil, FI⟩
  · have FIH := Lib.hid FI
    have e1 : (fE inv m o != 0) = true := by simpa using hx
    have E : Hid (wE inv m p o f d = fE inv m o ∧ fE inv m o ≠ 0) := Lib.hid ⟨by unfold wE; rw [if_neg hx], hx⟩
    obtain ⟨x, hxx⟩ : ∃ x, x = fE inv m o := ⟨_, rfl⟩
    rw [← hxx] at FIH e1 E
    clear h h0 hB hsz hm ho hf hd hP hp FI hx hxx
    go_enter Tryz.func22, Tryz.ntmps22
    go_wp2_with fail
    clear hW0
    refine FIH.out.mono ?_
    rintro e w1 ⟨rfl, hb⟩
    have FB := Lib.hid (HB.out.trans (hb.mono HB.out.size))
    clear hb
    go_wp2_with fail
    go_ret
    refine .inl ⟨by rw [E.out.1]; exact E.out.2, by rw [E.out.1]; rfl, DONE.out _ (FB.out.trans ((Below.refl _ _).alloc (Nat.le_refl _) _ |>.mono FB.out.size))⟩
  · have hsz2 : (Om.B d).size = d.length := Om.B_size d
    obtain ⟨n, hn⟩ : ∃ n, n = d.length := ⟨_, rfl⟩
    rw [← hn] at hsz2
    obtain ⟨q, hq⟩ : ∃ q, q = n / 64 := ⟨_, rfl⟩
    have hq2 : (n : Int) / 64 = (q : Int) := by omega
    have e0 : (((n : Nat) : Int) % 64 != 0) = !(decide (n % 64 = 0)) := by
      by_cases c : n % 64 = 0
      · rw [decide_eq_true c]; simp; omega
      · rw [decide_eq_false c]; simp; omega
    have hda := Pa.data_end hp hil
    have hhi := hp.high
    have ha1 := hp.nums.a1
    have hg2 := hp.nums.g2
    have WI : Hid (∀ w1, Calls Tryz.prog 53 #[.int .i64 f, .int .i64 (q : Int), .agg #[.int .i64 (p.data i : Int), .int .i64 (p.g : Int)]] w1 fun e w' => e = .returned (.bool (inCh p f (q : Int))) ∧ Below w1.heap.size w1 w') := Lib.hid fun w1 => within_any f (q : Int) (p.data i : Int) (p.g : Int) w1 hf (by omega) (by omega)
    have E : Hid (wE inv m p o f d = if n % 64 = 0 then if inCh p f (q : Int) = true then 0 else 2 else 1) := Lib.hid (by unfold wE; rw [if_pos hx, ← hn, ← hq])
    have FF : Hid (Tb.find m o = some i) := Lib.hid hfi
    have FIH := Lib.hid FI
    have AT : Hid (∀ w1 W2 w3, Below W0.heap.size W0 w1 → w1.alloc (.cells #[.int .i64 (p.data i : Int), .int .i64 (p.g : Int)] 25) = W2 → Below W2.heap.size W2 w3 → inCh p f (q : Int) = true → Calls Tryz.prog 46 #[.func (.func 60) #[] #[.pointer (some ⟨w.heap.size, 0, none⟩), .pointer (some ⟨w1.heap.size, 0, none⟩), .pointer (some ⟨w.heap.size + 1, 0, none⟩), .pointer (some ⟨w.heap.size + 2, 0, none⟩)]] w3 fun e w' => e = .returned (.int .i64 (runs st [wriOp p i f.toNat d]).2) ∧ SWent b p inv (runs st [wriOp p i f.toNat d]).1 m w w') := Lib.hid fun w1 W2 w3 hb1 hW2 hb3 hin => by
      obtain ⟨f0, n0, hfn⟩ := inCh_iff.1 hin
      rw [wri_runs st p i f d f0]
      have hb2 : Below w1.heap.size w1 W2 := by rw [← hW2]; exact (Below.refl _ _).alloc (Nat.le_refl _) _
      have hr2 : W2.heap[w1.heap.size]? = some (.cells #[.int .i64 (p.data i : Int), .int .i64 (p.g : Int)] 25 (0, 0)) := by rw [← hW2]; exact heap_alloc_new w1 _
      have h02 : Below W0.heap.size W0 W2 := hb1.trans (hb2.mono hb1.size)
      have hw2 : Below w.heap.size w W2 := hB.trans (h02.mono hB.size)
      have hw3 : Below w.heap.size w w3 := hw2.trans (hb3.mono hw2.size)
      refine (attempt_st (h.below hw3) (enters_of Tryz.func60 (by kernel_rfl) rfl) (fun x inv' st' m' => x = (Dm.write st ((p.data i : Int) + f) d).2 ∧ inv' = inv ∧ st' = (Dm.write st ((p.data i : Int) + f) d).1 ∧ m' = m) fun W hW hb => ?_).mono ?_
      · have hwW : Below w.heap.size w W := hw3.trans (hb.mono hw3.size)
        have h2W : Below W2.heap.size W2 W := hb3.trans (hb.mono hb3.size)
        have kW := h.below hwW
        have r := kW.reads
        have hfive := five_of (f := f) (d := .string (Om.B d)) hB hsz c0 c1 c2 h02 hr2 h2W r.2.2.2.1
        have hwr : IntKind.i64.wrap ((p.data i : Int) + f) = (p.data i : Int) + f := IntWalk.i64_in _ (by omega)
        refine (wri_clo (X := (Dm.write st ((p.data i : Int) + f) d).2) (Q := fun w' => SWent b p inv (Dm.write st ((p.data i : Int) + f) d).1 m W w') hfive hwr fun W' hW' => ?_).mono ?_
        · have hwW' : Below w.heap.size w W' := hwW.trans (hW'.mono hwW.size)
          refine (Dsk.write_any (h.below hwW').dk ((p.data i : Int) + f) d (by omega) (by omega) (by omega)).mono ?_
          rintro e w' ⟨rfl, hwent⟩
          have hs : SWent b p inv (Dm.write st ((p.data i : Int) + f) d).1 m W' w' := (h.below hwW').went hwent
          have rW' := (h.below hwW').reads
          refine ⟨rfl, five_next (w := w) ?_ hs (fun k hk => h.lt k hk) ⟨Nat.le_refl _, Nat.le_trans hB.size hb1.size, by omega, by omega⟩, SWent.below hW' hs⟩
          exact five_of hB hsz c0 c1 c2 h02 hr2 (h2W.trans (hW'.mono h2W.size)) rW'.2.2.2.1
        · rintro e w' ⟨h1, h2⟩
          exact ⟨_, _, _, _, h1, ⟨rfl, rfl, rfl, rfl⟩, h2⟩
      · rintro e w' ⟨x, inv', st', m', rfl, ⟨rfl, rfl, rfl, rfl⟩, h2⟩
        exact ⟨rfl, SWent.below hw3 h2⟩
    have hwq : IntKind.i64.wrap (q : Int) = (q : Int) := IntWalk.i64_in _ (by omega)
    clear h h0 hB hm ho hf hd hP hp FI hx hfi hil hiv hn hq hda hhi ha1 hg2
    by_cases hm0 : n % 64 = 0
    · rw [decide_eq_true hm0] at e0
      have e0 : ((n : Int) % 64 != 0) = false := e0
      have E : Hid (wE inv m p o f d = if inCh p f (q : Int) = true then 0 else 2) := Lib.hid (by rw [E.out, if_pos hm0])
      clear hm0
      cases hin : inCh p f (q : Int) with
      | false =>
        rw [hin] at WI E
        clear hin AT
        go_enter Tryz.func22, Tryz.ntmps22
        go_wp2_with fail
        clear hW0
        refine FIH.out.mono ?_
        rintro e w1 ⟨rfl, hb⟩
        have B1 := Lib.hid hb
        obtain ⟨W2, hW2⟩ : ∃ W2, w1.alloc (.cells #[.int .i64 (p.data i : Int), .int .i64 (p.g : Int)] 25) = W2 := ⟨_, rfl⟩
        have hb2 : Below w1.heap.size w1 W2 := by rw [← hW2]; exact (Below.refl _ _).alloc (Nat.le_refl _) _
        have hr2 : W2.heap[w1.heap.size]? = some (.cells #[.int .i64 (p.data i : Int), .int .i64 (p.g : Int)] 25 (0, 0)) := by rw [← hW2]; exact heap_alloc_new w1 _
        obtain ⟨y0, y1, yf⟩ := duo_cells hr2
        have h02 : Below W0.heap.size W0 W2 := hb.trans (hb2.mono hb.size)
        have z1 := (h02.cell (p := ⟨w.heap.size + 1, 0, none⟩) (by show w.heap.size + 1 < _; rw [SZ.out]; omega)).trans c1
        have z2 := (h02.cell (p := ⟨w.heap.size + 2, 0, none⟩) (by show w.heap.size + 2 < _; rw [SZ.out]; omega)).trans c2
        have FB := Lib.hid (HB.out.trans (h02.mono HB.out.size))
        clear hb hb2 hr2 h02
        go_wp2_with fail
        clear hW2
        refine (WI.out _).mono ?_
        rintro e w3 ⟨rfl, hb⟩
        have FB3 := Lib.hid (FB.out.trans (hb.mono FB.out.size))
        clear hb
        go_wp2_with fail
        go_ret
        exact .inl ⟨by rw [E.out]; decide, by rw [E.out]; rfl, DONE.out _ FB3.out⟩
      | true =>
        rw [hin] at WI E
        have HIN := Lib.hid hin
        clear hin
        go_enter Tryz.func22, Tryz.ntmps22
        go_wp2_with fail
        clear hW0
        refine FIH.out.mono ?_
        rintro e w1 ⟨rfl, hb⟩
        have B1 := Lib.hid hb
        obtain ⟨W2, hW2⟩ : ∃ W2, w1.alloc (.cells #[.int .i64 (p.data i : Int), .int .i64 (p.g : Int)] 25) = W2 := ⟨_, rfl⟩
        have hb2 : Below w1.heap.size w1 W2 := by rw [← hW2]; exact (Below.refl _ _).alloc (Nat.le_refl _) _
        have hr2 : W2.heap[w1.heap.size]? = some (.cells #[.int .i64 (p.data i : Int), .int .i64 (p.g : Int)] 25 (0, 0)) := by rw [← hW2]; exact heap_alloc_new w1 _
        obtain ⟨y0, y1, yf⟩ := duo_cells hr2
        have h02 : Below W0.heap.size W0 W2 := hb.trans (hb2.mono hb.size)
        have z1 := (h02.cell (p := ⟨w.heap.size + 1, 0, none⟩) (by show w.heap.size + 1 < _; rw [SZ.out]; omega)).trans c1
        have z2 := (h02.cell (p := ⟨w.heap.size + 2, 0, none⟩) (by show w.heap.size + 2 < _; rw [SZ.out]; omega)).trans c2
        have A2 := Lib.hid (fun w3 (h3 : Below W2.heap.size W2 w3) => AT.out w1 W2 w3 hb hW2 h3 HIN.out)
        clear hb hb2 hr2 h02 AT
        go_wp2_with fail
        clear hW2
        refine (WI.out _).mono ?_
        rintro e w3 ⟨rfl, hb⟩
        have A3 := Lib.hid (A2.out w3 hb)
        clear hb A2
        go_wp2_with fail
        refine A3.out.mono ?_
        rintro e w4 ⟨rfl, hw⟩
        have HW := Lib.hid hw
        clear hw
        go_wp2_with fail
        go_ret
        exact .inr ⟨by rw [E.out]; rfl, i, FF.out, rfl, HW.out⟩
    · rw [decide_eq_false hm0] at e0
      have e0 : ((n : Int) % 64 != 0) = true := e0
      have E : Hid (wE inv m p o f d = 1) := Lib.hid (by rw [E.out, if_neg hm0])
      clear hm0 AT WI
      go_enter Tryz.func22, Tryz.ntmps22
      go_wp2_with fail
      clear hW0
      refine FIH.out.mono ?_
      rintro e w1 ⟨rfl, hb⟩
      obtain ⟨W2, hW2⟩ : ∃ W2, w1.alloc (.cells #[.int .i64 (p.data i : Int), .int .i64 (p.g : Int)] 25) = W2 := ⟨_, rfl⟩
      have hb2 : Below w1.heap.size w1 W2 := by rw [← hW2]; exact (Below.refl _ _).alloc (Nat.le_refl _) _
      have h02 : Below W0.heap.size W0 W2 := hb.trans (hb2.mono hb.size)
      have z2 := (h02.cell (p := ⟨w.heap.size + 2, 0, none⟩) (by show w.heap.size + 2 < _; rw [SZ.out]; omega)).trans c2
      have FB := Lib.hid (HB.out.trans (h02.mono HB.out.size))
      clear hb hb2 h02
      go_wp2_with fail
      go_ret
      exact .inl ⟨by rw [E.out]; decide, by rw [E.out]; rfl, DONE.out _ FB.out⟩
def RdPost (p : Pa) (inv : Bool) (st : Dm.St) (m : List Int) (o f n : Int) (w : World) (e : Ending) (w' : World) : Prop := Below w.heap.size w w' ∧
  ((rE inv m p o f n ≠ 0 ∧ e = .returned (.tuple #[.string (Om.B []), .int .i64 (rE inv m p o f n)])) ∨
  (rE inv m p o f n = 0 ∧ ∃ i, Tb.find m o = some i ∧ e = .returned (.tuple #[.string (Om.B (Dm.readS st ((p.data i : Int) + f) n)), .int .i64 0])))
set_option maxHeartbeats 2000000 in
theorem read_pub {w : World} {b : Bk} {p : Pa} {inv : Bool} {st : Dm.St} {m : List Int} (h : Sk w b p inv st m) (hp : p.Ok) (hm : inv = false → m.length = p.N) (o f n : Int) (ho : (Lit.int .i64 o).wf = true) (hf : (Lit.int .i64 f).wf = true) (hd : st.dead = false) (hl : st.S.length = p.a) (hP : st.P.length ≤ 274877906944) :
    Calls Tryz.prog 20 #[.pointer (some ⟨b.q, 0, none⟩), .int .i64 o, .int .i64 f, .int .i64 n] w (RdPost p inv st m o f n w) := by
  have hmf : ∀ (fn : Fn) (first cap : Array Value) (w : World), (Instr.makeFunc fn first cap).run Tryz.prog w = .ok (.func fn first cap) w := fun _ _ _ _ => rfl
  obtain ⟨W0, hW0⟩ : ∃ W0, ((w.alloc (.cells #[.pointer (some ⟨b.q, 0, none⟩)] 45)).alloc (.cells #[.int .i64 f] 3)).alloc (.cells #[.int .i64 n] 3) = W0 := ⟨_, rfl⟩
  obtain ⟨hB, c0, c1, c2, hsz⟩ := three_box w _ _ _ _ _ _ W0 hW0
  have h0 := h.below hB
  have HB := Lib.hid hB
  have SZ := Lib.hid hsz
  unfold RdPost
  rcases find_two h0 hp hm o ho with ⟨hx, FI⟩ | ⟨hx, i, hiv, hfi, hil, FI⟩
  · have FIH := Lib.hid FI
    have e1 : (fE inv m o != 0) = true := by simpa using hx
    have E : Hid (rE inv m p o f n = fE inv m o ∧ fE inv m o ≠ 0) := Lib.hid ⟨by unfold rE; rw [if_neg hx], hx⟩
    obtain ⟨x, hxx⟩ : ∃ x, x = fE inv m o := ⟨_, rfl⟩
    rw [← hxx] at FIH e1 E
    clear h h0 hB hsz hm ho hf hd hl hP hp FI hx hxx
    go_enter Tryz.func20, Tryz.ntmps20
    go_wp2_with fail
    clear hW0
    refine FIH.out.mono ?_
    rintro e w1 ⟨rfl, hb⟩
    have FB := Lib.hid (HB.out.trans (hb.mono HB.out.size))
    clear hb
    go_wp2_with fail
    go_ret2
    exact ⟨FB.out.trans ((Below.refl _ _).alloc (Nat.le_refl _) _ |>.mono FB.out.size), .inl ⟨by rw [E.out.1]; exact E.out.2, by rw [E.out.1]; rfl⟩⟩
  · have hda := Pa.data_end hp hil
    have hhi := hp.high
    have ha1 := hp.nums.a1
    have hg2 := hp.nums.g2
    have WI : Hid (∀ w1, Calls Tryz.prog 53 #[.int .i64 f, .int .i64 n, .agg #[.int .i64 (p.data i : Int), .int .i64 (p.g : Int)]] w1 fun e w' => e = .returned (.bool (inCh p f n)) ∧ Below w1.heap.size w1 w') := Lib.hid fun w1 => within_any f n (p.data i : Int) (p.g : Int) w1 hf (by omega) (by omega)
    have E : Hid (rE inv m p o f n = if inCh p f n = true then 0 else 2) := Lib.hid (by unfold rE; rw [if_pos hx])
    have FF : Hid (Tb.find m o = some i) := Lib.hid hfi
    have FIH := Lib.hid FI
    obtain ⟨D, hD⟩ : ∃ D, D = Dm.readS st ((p.data i : Int) + f) n := ⟨_, rfl⟩
    have AT : Hid (∀ w1 W2 w3 W4, Below W0.heap.size W0 w1 → w1.alloc (.cells #[.int .i64 (p.data i : Int), .int .i64 (p.g : Int)] 25) = W2 → Below W2.heap.size W2 w3 → w3.alloc (.cells #[.string (Om.B [])] 9) = W4 → inCh p f n = true → Calls Tryz.prog 46 #[.func (.func 54) #[] #[.pointer (some ⟨w.heap.size, 0, none⟩), .pointer (some ⟨w1.heap.size, 0, none⟩), .pointer (some ⟨w.heap.size + 1, 0, none⟩), .pointer (some ⟨w.heap.size + 2, 0, none⟩), .pointer (some ⟨w3.heap.size, 0, none⟩)]] W4 fun e w' => e = .returned (.int .i64 0) ∧ Below w.heap.size w w' ∧ w'.cell? ⟨w3.heap.size, 0, none⟩ = some (.string (Om.B D))) := Lib.hid fun w1 W2 w3 W4 hb1 hW2 hb3 hW4 hin => by
      obtain ⟨f0, n0, hfn⟩ := inCh_iff.1 hin
      have hb2 : Below w1.heap.size w1 W2 := by rw [← hW2]; exact (Below.refl _ _).alloc (Nat.le_refl _) _
      have hr2 : W2.heap[w1.heap.size]? = some (.cells #[.int .i64 (p.data i : Int), .int .i64 (p.g : Int)] 25 (0, 0)) := by rw [← hW2]; exact heap_alloc_new w1 _
      have hb4 : Below w3.heap.size w3 W4 := by rw [← hW4]; exact (Below.refl _ _).alloc (Nat.le_refl _) _
      have hr4 : W4.heap[w3.heap.size]? = some (.cells #[.string (Om.B [])] 9 (0, 0)) := by rw [← hW4]; exact heap_alloc_new w3 _
      have h02 : Below W0.heap.size W0 W2 := hb1.trans (hb2.mono hb1.size)
      have hw2 : Below w.heap.size w W2 := hB.trans (h02.mono hB.size)
      have hw3 : Below w.heap.size w w3 := hw2.trans (hb3.mono hw2.size)
      have hw4 : Below w.heap.size w W4 := hw3.trans (hb4.mono hw3.size)
      have hlt2 := Dsk.lt_of_heap hr2
      have hlt23 := Nat.lt_of_lt_of_le hlt2 hb3.size
      have h1s := hb1.size
      refine (attempt_any (w := W4) (Z := fun x w2 => x = 0 ∧ ∃ W wb, W4.alloc (.cells #[.int .i64 0] 41) = W ∧ Below W.heap.size W wb ∧ w2 = wb.setCell ⟨w3.heap.size, 0, none⟩ (.string (Om.B D))) (enters_of Tryz.func54 (by kernel_rfl) rfl) ?_ ?_).mono ?_
      · rintro x w2 ⟨rfl, W, wb, hW, hb, rfl⟩
        have hr : W.heap[W4.heap.size]? = some (.cells #[.int .i64 0] 41 (0, 0)) := by rw [← hW]; exact heap_alloc_new W4 _
        have hne : W4.heap.size ≠ w3.heap.size := by have := Dsk.lt_of_heap hr4; omega
        rw [Below.heap_setCell _ ⟨w3.heap.size, 0, none⟩ _ _ hne, hb.block _ (Dsk.lt_of_heap hr), hr]
      · obtain ⟨W, hW⟩ : ∃ W, W4.alloc (.cells #[.int .i64 0] 41) = W := ⟨_, rfl⟩
        rw [hW]
        have hbW : Below W4.heap.size W4 W := by rw [← hW]; exact (Below.refl _ _).alloc (Nat.le_refl _) _
        have hwW : Below w.heap.size w W := hw4.trans (hbW.mono hw4.size)
        have h2W : Below W2.heap.size W2 W := hb3.trans ((hb4.trans (hbW.mono hb4.size)).mono hb3.size)
        have kW := h.below hwW
        have r := kW.reads
        have hfive := five_of (f := f) (d := .int .i64 n) hB hsz c0 c1 c2 h02 hr2 h2W r.2.2.2.1
        have hwr : IntKind.i64.wrap ((p.data i : Int) + f) = (p.data i : Int) + f := IntWalk.i64_in _ (by omega)
        have hrW : W.heap[w3.heap.size]? = some (.cells #[.string (Om.B [])] 9 (0, 0)) := (hbW.block _ (Dsk.lt_of_heap hr4)).trans hr4
        have hqlt := h.lt b.q (.inl rfl)
        have hBs := hB.size
        refine (rd_clo (g4 := w3.heap.size) (n := n) (d := D) (z := .string (Om.B [])) hfive hwr (by rw [cell_of_row _ _ _ _ _ _ hrW]; rfl) (frozen_of_row (j := 0) _ _ _ _ hrW) ⟨by omega, by omega, by omega, by omega, by omega⟩ fun W' hW' => ?_).mono ?_
        · have hwW' : Below w.heap.size w W' := hwW.trans (hW'.mono hwW.size)
          have RD := Dsk.read_any (h.below hwW').dk ((p.data i : Int) + f) n (by omega) (by omega)
          have e0 : Dm.readE st ((p.data i : Int) + f) n = 0 := by
            unfold Dm.readE
            rw [hd, if_neg (by decide), if_pos]
            rw [Dm.there_iff, hl]
            omega
          rw [e0, ← hD] at RD
          exact RD
        · rintro e w' ⟨h1, wb, h2, h3⟩
          exact ⟨0, h1, rfl, W, wb, rfl, h2, h3⟩
      · rintro e w' ⟨x, w2, rfl, ⟨rfl, W, wb, hW, hb, rfl⟩, hf2⟩
        have hbW : Below W4.heap.size W4 W := by rw [← hW]; exact (Below.refl _ _).alloc (Nat.le_refl _) _
        have hwb : Below w.heap.size w wb := hw4.trans ((hbW.trans (hb.mono hbW.size)).mono hw4.size)
        have hrb : wb.heap[w3.heap.size]? = some (.cells #[.string (Om.B [])] 9 (0, 0)) := by
          rw [hb.block _ (Nat.lt_of_lt_of_le (Dsk.lt_of_heap hr4) hbW.size), hbW.block _ (Dsk.lt_of_heap hr4), hr4]
        have hs3 := hw3.size
        have hne : w3.heap.size ≠ W4.heap.size := by have := Dsk.lt_of_heap hr4; omega
        have hsb : Below w.heap.size w (wb.setCell ⟨w3.heap.size, 0, none⟩ (.string (Om.B D))) := hwb.setCell (p := ⟨w3.heap.size, 0, none⟩) hs3 _
        refine ⟨rfl, hsb.trans (hf2.below hsb.size fun k hk => by rw [hk]; exact hw4.size), ?_⟩
        have hlt : w3.heap.size < (wb.setCell ⟨w3.heap.size, 0, none⟩ (.string (Om.B D))).heap.size := Dsk.lt_of_heap (heap_setCell_same _ _ _ _ _ _ hrb)
        rw [fr_cell hf2 hlt (fun e => hne e), cell_of_row _ _ _ _ _ _ (heap_setCell_same _ _ _ _ _ _ hrb)]
        rfl
    have HDD := Lib.hid hD
    clear h h0 hB hm ho hf hd hl hP hp FI hx hfi hil hiv hda hhi ha1 hg2 hD
    cases hin : inCh p f n with
    | false =>
      rw [hin] at WI E
      clear hin AT
      go_enter Tryz.func20, Tryz.ntmps20
      go_wp2_with fail
      clear hW0
      refine FIH.out.mono ?_
      rintro e w1 ⟨rfl, hb⟩
      obtain ⟨W2, hW2⟩ : ∃ W2, w1.alloc (.cells #[.int .i64 (p.data i : Int), .int .i64 (p.g : Int)] 25) = W2 := ⟨_, rfl⟩
      have hb2 : Below w1.heap.size w1 W2 := by rw [← hW2]; exact (Below.refl _ _).alloc (Nat.le_refl _) _
      have hr2 : W2.heap[w1.heap.size]? = some (.cells #[.int .i64 (p.data i : Int), .int .i64 (p.g : Int)] 25 (0, 0)) := by rw [← hW2]; exact heap_alloc_new w1 _
      obtain ⟨y0, y1, yf⟩ := duo_cells hr2
      have h02 : Below W0.heap.size W0 W2 := hb.trans (hb2.mono hb.size)
      have z1 := (h02.cell (p := ⟨w.heap.size + 1, 0, none⟩) (by show w.heap.size + 1 < _; rw [SZ.out]; omega)).trans c1
      have z2 := (h02.cell (p := ⟨w.heap.size + 2, 0, none⟩) (by show w.heap.size + 2 < _; rw [SZ.out]; omega)).trans c2
      have FB := Lib.hid (HB.out.trans (h02.mono HB.out.size))
      clear hb hb2 hr2 h02
      go_wp2_with fail
      clear hW2
      refine (WI.out _).mono ?_
      rintro e w3 ⟨rfl, hb⟩
      have FB3 := Lib.hid (FB.out.trans (hb.mono FB.out.size))
      clear hb
      go_wp2_with fail
      go_ret2
      exact ⟨FB3.out, .inl ⟨by rw [E.out]; decide, by rw [E.out]; rfl⟩⟩
    | true =>
      rw [hin] at WI E
      have HIN := Lib.hid hin
      clear hin
      go_enter Tryz.func20, Tryz.ntmps20
      go_wp2_with fail
      clear hW0
      refine FIH.out.mono ?_
      rintro e w1 ⟨rfl, hb⟩
      obtain ⟨W2, hW2⟩ : ∃ W2, w1.alloc (.cells #[.int .i64 (p.data i : Int), .int .i64 (p.g : Int)] 25) = W2 := ⟨_, rfl⟩
      have hb2 : Below w1.heap.size w1 W2 := by rw [← hW2]; exact (Below.refl _ _).alloc (Nat.le_refl _) _
      have hr2 : W2.heap[w1.heap.size]? = some (.cells #[.int .i64 (p.data i : Int), .int .i64 (p.g : Int)] 25 (0, 0)) := by rw [← hW2]; exact heap_alloc_new w1 _
      obtain ⟨y0, y1, yf⟩ := duo_cells hr2
      have h02 : Below W0.heap.size W0 W2 := hb.trans (hb2.mono hb.size)
      have z1 := (h02.cell (p := ⟨w.heap.size + 1, 0, none⟩) (by show w.heap.size + 1 < _; rw [SZ.out]; omega)).trans c1
      have z2 := (h02.cell (p := ⟨w.heap.size + 2, 0, none⟩) (by show w.heap.size + 2 < _; rw [SZ.out]; omega)).trans c2
      have A2 := Lib.hid (fun w3 (h3 : Below W2.heap.size W2 w3) => AT.out w1 W2 w3 _ hb hW2 h3 rfl HIN.out)
      clear hb hb2 hr2 h02 AT
      go_wp2_with fail
      clear hW2
      refine (WI.out _).mono ?_
      rintro e w3 ⟨rfl, hb⟩
      have A3 := Lib.hid (A2.out w3 hb)
      clear hb A2
      go_wp2_with fail
      refine A3.out.mono ?_
      rintro e w4 ⟨rfl, hw, hcell⟩
      have HW := Lib.hid hw
      clear hw
      go_wp2_with fail
      go_ret2
      refine ⟨HW.out, .inr ⟨by rw [E.out]; rfl, i, FF.out, ?_⟩⟩
      rw [← HDD.out]
      rfl
end So
end Go.Proofs.YtbmabcddciibfaaGreat
namespace Go.Proofs.YtbmabcddciibfaaGreat
namespace Dsk
open Go.RowKit
set_option linter.unusedVariables false
theorem run_append_copy {P : Program} (w : World) (t ty e : TypeId) (i : TypeInfo) (z : Value) (size bytes : Nat) (ht : P.underlying t = some (.slice e)) (hi : P.info? e = some i) (hz : i.zero = some z)
    (hsize : i.size = size) (hby : i.bytes = bytes) (hzs : z.cells.size = size) (hsz : 0 < size) (v : Value) (n : Nat) (xs : List Value) (hown : w.ownsRow 0 e size v n xs) (h1 : ∀ u ∈ xs, u.oneCell' = true)
    (h63 : n ≤ maxLen) (hbytes : n * bytes ≤ 140737488355328) :
    ∃ va vc w', (Builtin.append_ #[t, t] ty #[.slice none 0 0, v]).run P w = .ok (.slice va n vc) w' ∧ w'.ownsRow 0 e size (.slice va n vc) n xs ∧ (∀ k, (Value.slice va n vc).ownBlock = some k → w.heap.size ≤ k) ∧ Below w.heap.size w w' := by
  rcases hown.2 with ⟨rfl, h0⟩ | ⟨g, cap, cur, rfl, _⟩
  · subst h0
    have hxs : xs = [] := List.eq_nil_of_length_eq_zero (by have := hown.1; simpa using this)
    subst hxs
    refine ⟨none, 0, w, ?_, World.ownsRow_nil _ _ _ _, (fun k hk => by cases hk), Below.refl _ _⟩
    simp [Builtin.append_, run_underlying ht, sizeOf, typeInfo, hi, Builtin.lenOf, Builtin.firstCells]
  · obtain ⟨v', w', hr, ho, hg, hv⟩ := run_append_home (P := P) w t ty e i z size bytes ht hi hz hsize hby hzs hsz (.slice none 0 0) 0 [] (World.ownsRow_nil _ _ _ _) ⟨g, 0, none⟩ n cap xs hown.1 (fun j u hu => by
      rw [show (⟨g, 0, none⟩ : Addr).add j = ⟨g, j, none⟩ from by unfold Addr.add; split <;> simp_all, hown.cellAt j (by rw [← hown.1]; exact (List.getElem?_eq_some_iff.1 hu).1)]
      exact hu) h1 (by omega) (by rw [Nat.zero_add]; exact hbytes)
    rw [Nat.zero_add, List.nil_append] at ho
    obtain ⟨va, vc, hvv⟩ := own_slice ho
    subst hvv
    refine ⟨va, vc, w', hr, ho, fun k hk => ?_, (Below.refl _ _).grown hg (Nat.le_refl _) (fun k e => by cases e)⟩
    rcases hv with e | e
    · rw [hk] at e; cases e
    · rw [hk] at e; injection e with e; omega
theorem run_append_types {P : Program} (w : World) (t t2 ty e e2 : TypeId) (ht : P.underlying t = some (.slice e)) (ht2 : P.underlying t2 = some (.slice e2)) (i : TypeInfo) (hi : P.info? e = some i) (b : Option Addr) (n c : Nat) (x : Value) :
    (Builtin.append_ #[t, t2] ty #[.slice b n c, x]).run P w = (Builtin.append_ #[t, t] ty #[.slice b n c, x]).run P w := by
  simp [Builtin.append_, run_underlying ht, run_underlying ht2, sizeOf, typeInfo, hi]
theorem wpList_append_copy {P : Program} {w : World} {ops : Array Oper} {rest : List Oper} {o : Oper} {a : Act} {Q : Exit → Act → World → Prop} (hgd : o.guard = none) (s x : Operand) (t t2 : TypeId)
    (ho : o.op = .call { callee := .builtin .append, args := #[s, x], argTypes := #[t, t2] }) (e e2 : TypeId) (i : TypeInfo) (z : Value) (size bytes : Nat) (ht : P.underlying t = some (.slice e)) (ht2 : P.underlying t2 = some (.slice e2)) (hi : P.info? e = some i) (hz : i.zero = some z)
    (hsize : i.size = size) (hby : i.bytes = bytes) (hzs : z.cells.size = size) (hsz : 0 < size) (v : Value) (n : Nat) (xs : List Value) (hs : a.eval s = .slice none 0 0) (hx : a.eval x = v) (hown : w.ownsRow 0 e size v n xs) (h1 : ∀ u ∈ xs, u.oneCell' = true)
    (h63 : n ≤ maxLen) (hbytes : n * bytes ≤ 140737488355328)
    (h : ∀ va vc w', w'.ownsRow 0 e size (.slice va n vc) n xs → (∀ k, (Value.slice va n vc).ownBlock = some k → w.heap.size ≤ k) → Below w.heap.size w w' → wpList P ops Q rest (a.put o.dst (.slice va n vc)) w') : wpList P ops Q (o :: rest) a w := by
  refine wpList_plain hgd fun K hK => ?_
  obtain ⟨va, vc, w', hr, h2, h3, h4⟩ := run_append_copy (P := P) w t o.type e i z size bytes ht hi hz hsize hby hzs hsz v n xs hown h1 h63 hbytes
  have hr2 := (run_append_types (P := P) w t t2 o.type e e2 ht ht2 i hi none 0 0 v).trans hr
  unfold Oper.wp execOp
  simp only [ho, resolve, invoke, builtin, Sem.run_bind, Sem.run_pure, Result.andThen_ok, List.map_toArray, List.map_cons, List.map_nil, hs, hx, hr2]
  exact hK _ _ (h va vc w' h2 h3 h4)
end Dsk
end Go.Proofs.YtbmabcddciibfaaGreat
namespace Go.Proofs.YtbmabcddciibfaaGreat
namespace Tb
open Go.RowKit Dsk Go.Maps
set_option linter.unusedVariables false
set_option maxRecDepth 100000
theorem rcopy_any {w : World} {a : Option Addr} {c : Nat} {m : List Int} (h : Ints w (.slice a m.length c) m) (hm : m.length ≤ 1048576) :
    Calls Tryz.prog 44 #[.slice a m.length c] w (MadeR m w) := by
  obtain ⟨i0, hi, hz0, hz1, hz2⟩ := info_parts info_int
  have H := Lib.hid h
  have ONE := Lib.hid (ints_one m)
  obtain ⟨n, hn⟩ : ∃ n, n = m.length := ⟨_, rfl⟩
  have OWN : Hid (w.ownsRow 0 3 1 (.slice a n c) n (nums m)) := by rw [hn]; exact h
  have HN := Lib.hid hn
  rw [← hn] at hm ⊢
  clear h hn
  go_enter Tryz.func44, Tryz.ntmps44
  go_wp2_with (at_builtin; refine wpList_append_copy rfl (.tmp 4) (.tmp 5) 55 55 rfl 3 3 i0 _ 1 8 Tryz.underlying55 Tryz.underlying55 hi hz0 hz1 hz2 rfl (by decide) (.slice a n c) n (nums m) rfl rfl OWN.out ONE.out (by unfold maxLen; omega) (by omega) ?_; intro va vc w2 h1 h2 h3; have H1 := Lib.hid h1; have H2 := Lib.hid h2; have H3 := Lib.hid h3; clear h1 h2 h3)
  go_ret
  exact ⟨_, rfl, by show World.ownsRow _ _ _ _ _ _ _; rw [← HN.out]; exact H1.out, H2.out, H3.out⟩
theorem page_take (m : List Int) (i j : Nat) (hj : j < 13) : (page m i).take (j + 1) = (page m i).take j ++ [(m[13 * i + j]?).getD (-1)] := by
  rw [List.take_add_one, page_get _ _ _ hj]
  rfl
set_option maxHeartbeats 1000000 in
theorem rpage_any {w : World} {a : Option Addr} {c : Nat} {m : List Int} (h : Ints w (.slice a m.length c) m) (i : Int) (hm : m.length ≤ 1048576) :
    Calls Tryz.prog 77 #[.slice a m.length c, .int .i64 i] w (MadeP (pageL m i) (pageE m i) w) := by
  have PG := Lib.hid (rpages_any a m.length c w hm)
  by_cases hin : 0 ≤ i ∧ i < (pagesN m.length : Int)
  · obtain ⟨k, rfl⟩ : ∃ k : Nat, i = (k : Int) := ⟨i.toNat, by omega⟩
    have hk : k < pagesN m.length := by omega
    rw [pageL_in hk, pageE_in hk]
    have H := Lib.hid h
    obtain ⟨n, hn⟩ : ∃ n, n = m.length := ⟨_, rfl⟩
    have HN := Lib.hid hn
    rw [← hn] at PG hk hm ⊢
    have hkb : k ≤ 1048576 := by unfold pagesN at hk; omega
    obtain ⟨q, hq⟩ : ∃ q, q = pagesN n := ⟨_, rfl⟩
    rw [← hq] at PG hk
    have d1 : decide ((k : Int) < 0) = false := by simp
    have d2 : decide ((q : Int) ≤ (k : Int)) = false := by simp; omega
    have d3 : decide (q ≤ k) = false := by simp; omega
    obtain ⟨K, hK⟩ : ∃ K, K = 13 * k := ⟨_, rfl⟩
    have hKb : K ≤ 13631488 := by omega
    have k1 : IntKind.i64.wrap (13 * (k : Int)) = (K : Int) := by rw [IntWalk.i64_in _ (by omega)]; omega
    have k2 : 13 * (k : Int) = (K : Int) := by omega
    have k3 : IntKind.i64.wrap (K : Int) = (K : Int) := by rw [IntWalk.i64_in _ (by omega)]
    have k4 : IntKind.i64.wrap ((K : Int) + 13) = ((K + 13 : Nat) : Int) := by rw [IntWalk.i64_in _ (by omega)]; omega
    have PT : Hid (∀ j, j < 13 → (page m k).take (j + 1) = (page m k).take j ++ [(m[K + j]?).getD (-1)]) := Lib.hid fun j hj => by rw [hK]; exact page_take m k j hj
    clear h hn hq hin hK hk
    go_enter Tryz.func77, Tryz.ntmps77
    go_wp2_with (go_at_call 115; refine PG.out.mono ?_; rintro e w' ⟨rfl, rfl⟩)
    go_loopw [7, 6] (fun x s wr => ∃ (j : Nat) (v : Value), x = .int .i64 ((K + j : Nat) : Int) ∧ s = v ∧ j ≤ 13 ∧ Hid (Grows w ((page m k).take j) v j wr)) (fun x _ _ => K + 13 - (Lib.intOf x).toNat)
    case atStart => exact ⟨0, _, rfl, rfl, by omega, Lib.hid (Grows.nil (Below.refl _ _))⟩
    case round =>
      obtain ⟨j, v, rfl, rfl, hj, hg⟩ := hrel
      obtain ⟨J, hJ⟩ : ∃ J, J = K + j := ⟨_, rfl⟩
      rw [← hJ]
      by_cases hlt : j < 13
      · have t1 : decide ((J : Int) < ((K + 13 : Nat) : Int)) = true := by simp; omega
        have t1' : decide (J < K + 13) = true := by simp; omega
        have t1'' : decide ((J : Int) < (K : Int) + 13) = true := by simp; omega
        have hw1 : IntKind.i64.wrap ((J : Int) + 1) = ((J + 1 : Nat) : Int) := by rw [IntWalk.i64_in _ (by omega)]; rfl
        obtain ⟨va, vc, hv⟩ := own_slice hg.out.row
        subst hv
        have HL := Lib.hid hg.out.len
        have hpt := PT.out j hlt
        rw [← hJ] at hpt
        have HJ := Lib.hid hJ
        have t4 : decide (j < 13) = true := by simpa using hlt
        have hjb : j ≤ 1099511627776 := by omega
        clear hJ
        by_cases hin : J < n
        · have t2 : decide ((J : Int) < (n : Int)) = true := by simp; omega
          have t3 : decide (J < n) = true := by simp; omega
          obtain ⟨b, hb, hbl, hc, _⟩ := ints_cell H.out J (by have := HN.out; omega)
          subst hb
          have hc2 := (hg.out.below.cell (p := ⟨b, J, none⟩) hbl).trans hc
          have hget := Hp.at_get m J (by have := HN.out; omega)
          rw [hget] at hpt
          obtain ⟨x, hx⟩ : ∃ x, x = Hp.at_ m J := ⟨_, rfl⟩
          rw [← hx] at hc2 hpt
          have HPT := Lib.hid hpt
          have OWN := Lib.hid (hg.out.own x)
          clear hc hget hx hpt
          go_wp2_with (at_builtin; refine wpList_addN rfl (.tmp 29) (.tmp 34) 31 Tryz.underlying31 rfl (.slice va j vc) j ((page m k).take j) rfl HL.out (by omega) OWN.out wr.heap.size x rfl (by simp) ?_; intro v' w2 h1 h2 h3; have G2 := Lib.hid (hg.out.add h1 h2 h3); clear h1 h2 h3)
          go_roundw
          case rel => exact ⟨j + 1, _, by rw [HJ.out]; go_num, rfl, by omega, by rw [HPT.out]; exact G2⟩
          case measure => have := HJ.out; simp [Lib.intOf]; omega
        · have t2 : decide ((J : Int) < (n : Int)) = false := by simp; omega
          have t3 : decide (J < n) = false := by simp; omega
          have hnone : m[J]? = none := List.getElem?_eq_none (by have := HN.out; omega)
          rw [hnone] at hpt
          have HPT := Lib.hid hpt
          have OWN := Lib.hid (hg.out.own (-1))
          clear hnone hpt
          go_wp2_with (at_builtin; refine wpList_addN rfl (.tmp 36) (.tmp 37) 31 Tryz.underlying31 rfl (.slice va j vc) j ((page m k).take j) rfl HL.out (by omega) OWN.out wr.heap.size (-1) rfl (by simp) ?_; intro v' w2 h1 h2 h3; have G2 := Lib.hid (hg.out.add h1 h2 h3); clear h1 h2 h3)
          go_roundw
          case rel => exact ⟨j + 1, _, by rw [HJ.out]; go_num, rfl, by omega, by rw [HPT.out]; exact G2⟩
          case measure => have := HJ.out; simp [Lib.intOf]; omega
      · obtain rfl : j = 13 := by omega
        subst hJ
        have t1 : decide (((K + 13 : Nat) : Int) < ((K + 13 : Nat) : Int)) = false := by simp
        have t1'' : decide ((K : Int) + 13 < (K : Int) + 13) = false := by simp
        have t1' : decide (K + 13 < K + 13) = false := by simp
        have hg2 := hg.out
        rw [List.take_of_length_le (by rw [page_length]; omega)] at hg2
        have HG := Lib.hid hg2
        clear hg2
        go_wp2
        go_ret2
        obtain ⟨v', e1, e2, e3, e4⟩ := HG.out.made
        injection e1 with e1
        subst e1
        exact ⟨_, rfl, e2, e3, e4⟩
  · have e1 : pageL m i = [] := by unfold pageL; rw [if_neg hin]
    have e2 : pageE m i = 2 := by unfold pageE; rw [if_neg hin]
    rw [e1, e2]
    obtain ⟨n, hn⟩ : ∃ n, n = m.length := ⟨_, rfl⟩
    rw [← hn] at PG hin ⊢
    obtain ⟨q, hq⟩ : ∃ q, q = pagesN n := ⟨_, rfl⟩
    rw [← hq] at PG hin
    have FIN : Hid (MadeP [] 2 w (.returned (.tuple #[.slice none 0 0, .int .i64 2])) w) := Lib.hid ⟨_, rfl, World.ownsRow_nil _ _ _ _, (fun k hk => by cases hk), Below.refl _ _⟩
    by_cases h0 : i < 0
    · have d1 : decide (i < 0) = true := by simpa using h0
      clear h hn hq hin e1 e2
      go_enter Tryz.func77, Tryz.ntmps77
      go_wp2
      go_ret2
      exact FIN.out
    · have d1 : decide (i < 0) = false := by simpa using h0
      have d2 : decide ((q : Int) ≤ i) = true := by simp; omega
      clear h hn hq hin e1 e2 h0
      go_enter Tryz.func77, Tryz.ntmps77
      go_wp2_with (go_at_call 115; refine PG.out.mono ?_; rintro e w' ⟨rfl, rfl⟩)
      go_ret2
      exact FIN.out
end Tb
end Go.Proofs.YtbmabcddciibfaaGreat
