/- Part 37 of the contracts and of the plain mathematics that the proof of the law rests on: StoFw, StoNil, StoWw, StoAlM. -/
import Derived.Test.YtbmabcddciibfaaGreatWr03
import Derived.Test.YtbmabcddciibfaaGreatWr04
import Derived.Test.YtbmabcddciibfaaGreatWr05
import Derived.Test.YtbmabcddciibfaaGreatWr18
import Derived.Test.YtbmabcddciibfaaGreatWr20
import Derived.Test.YtbmabcddciibfaaGreatWr25
import Derived.Test.YtbmabcddciibfaaGreatWr29
import Derived.Test.YtbmabcddciibfaaGreatWr31
import Derived.Test.YtbmabcddciibfaaGreatWr33
import Derived.Test.YtbmabcddciibfaaGreatWr36
namespace Go.Proofs.YtbmabcddciibfaaGreat
namespace So
open Go.RowKit
set_option linter.unusedVariables false
set_option maxRecDepth 100000
theorem act_pend {p : Pa} (hp : p.Ok) {st : Dm.St} {M : Ms} (h : Live p st M) {x : Ac} {ops : List Op} (ho : ActOps p M x ops) : (runs st ops).1.P.length ≤ st.P.length + x.d.length / 64 := by
  unfold ActOps at ho
  split at ho
  · rcases ho with ⟨_, rfl⟩ | ⟨h1, _, cs, hc, rfl⟩
    · exact Nat.le_add_right _ _
    · obtain ⟨hi, ha, hl⟩ := addE_zero h.fit.tok h1
      rw [(live_add hp h ha hl hi hc).2.2]
      exact Nat.zero_le _
  · split at ho
    · rcases ho with ⟨_, rfl⟩ | ⟨h1, rfl⟩
      · exact Nat.le_add_right _ _
      · have := runs_count h.ok [wriOp p (findP M x.o) x.f.toNat x.d]
        have e : ([wriOp p (findP M x.o) x.f.toNat x.d].map sec).sum = x.d.length / 64 := by simp [wriOp, sec]
        rw [e] at this
        exact this
    · split at ho
      · rcases ho with ⟨_, rfl⟩ | ⟨h1, _, cs, hc, rfl⟩
        · exact Nat.le_add_right _ _
        · obtain ⟨hi, hm⟩ := remE_zero h1
          rw [(live_rem hp h hm hi hc).2.2]
          exact Nat.zero_le _
      · split at ho
        · rw [ho, (live_spo hp h).2.2]
          exact Nat.zero_le _
        · rw [ho]
          exact Nat.le_add_right _ _
def left (st : Dm.St) : Int := (st.P.length : Int) + st.fuse
theorem spend_left {st : Dm.St} (h : 0 ≤ st.fuse) : 0 ≤ (Dm.spendS st).fuse ∧ left (Dm.spendS st) ≤ left st ∧ (Dm.spendB st = true → (Dm.spendS st).fuse = st.fuse - 1) := by
  unfold Dm.spendS Dm.spendB left
  by_cases h0 : st.fuse = 0
  · rw [if_pos h0]
    refine ⟨h, Int.le_refl _, fun c => ?_⟩
    rw [decide_eq_true h0] at c
    cases c
  · rw [if_neg h0]
    cases hd : st.dead with
    | true => exact ⟨h, Int.le_refl _, fun c => by simp at c⟩
    | false =>
      rw [if_neg (by decide), if_pos (by omega)]
      exact ⟨by show 0 ≤ st.fuse - 1; omega, by show (st.P.length : Int) + (st.fuse - 1) ≤ _; omega, fun _ => rfl⟩
theorem puts_left {cs : List (List UInt8)} {st : Dm.St} {k : Nat} (h : 0 ≤ st.fuse) : 0 ≤ (Dm.puts st k cs).1.fuse ∧ left (Dm.puts st k cs).1 ≤ left st := by
  induction cs generalizing st k with
  | nil => exact ⟨h, Int.le_refl _⟩
  | cons c cs ih =>
    obtain ⟨h1, h2, h3⟩ := spend_left h
    unfold Dm.puts
    cases hb : Dm.spendB st with
    | false => simp only [Bool.false_eq_true, if_false]; exact ⟨h1, h2⟩
    | true =>
      simp only [if_true]
      have := ih (st := Dm.put (Dm.spendS st) k c) (k := k + 1) h1
      refine ⟨this.1, Int.le_trans this.2 ?_⟩
      have e := h3 hb
      unfold left
      show (((Dm.spendS st).P ++ [(k, c)]).length : Int) + (Dm.spendS st).fuse ≤ _
      rw [Dm.spendS_P, List.length_append, e]
      simp
      omega
theorem step_left {st : Dm.St} (h : 0 ≤ st.fuse) (o : Op) : 0 ≤ (step st o).1.fuse ∧ left (step st o).1 ≤ left st := by
  cases o with
  | fl =>
    show 0 ≤ (Dm.flush st).1.fuse ∧ left (Dm.flush st).1 ≤ left st
    obtain ⟨h1, h2, h3⟩ := spend_left h
    unfold Dm.flush
    split
    · refine ⟨h1, ?_⟩
      unfold left at h2 ⊢
      show (([] : List (Nat × List UInt8)).length : Int) + (Dm.spendS st).fuse ≤ _
      simp
      omega
    · exact ⟨h1, h2⟩
  | wr k d =>
    show 0 ≤ (Dm.write st (k : Int) d).1.fuse ∧ left (Dm.write st (k : Int) d).1 ≤ left st
    unfold Dm.write
    split
    · exact ⟨h, Int.le_refl _⟩
    · split
      · split
        · exact puts_left h
        · exact ⟨h, Int.le_refl _⟩
      · exact ⟨h, Int.le_refl _⟩
theorem runs_left {ops : List Op} {st : Dm.St} (h : 0 ≤ st.fuse) : 0 ≤ (runs st ops).1.fuse ∧ left (runs st ops).1 ≤ left st := by
  induction ops generalizing st with
  | nil => exact ⟨h, Int.le_refl _⟩
  | cons o r ih =>
    have h1 := step_left h o
    by_cases hs : (step st o).2 = 0
    · rw [runs_yes _ hs]
      have := ih h1.1
      exact ⟨this.1, Int.le_trans this.2 h1.2⟩
    · rw [runs_no _ hs]
      exact h1
structure Fa (W0 : World) (p : Pa) (X dp rq k : Nat) (y : Bo) (st : Dm.St) (M : Ms) (wr : World) : Prop where
  X : y.X = X
  dp : y.b.d.p = dp
  rq : y.r.q = rq
  both : Both wr y p M.inv st M.tab M
  live : Live p st M
  few : st.P.length ≤ 18 * k
  low : ∀ j, y.fp j → W0.heap.size ≤ j
  bel : Below W0.heap.size W0 wr
def FA (W0 : World) (p : Pa) (X dp rq k : Nat) (wr : World) : Prop := ∃ y st M, Fa W0 p X dp rq k y st M wr
theorem FA.next {W0 wr w2 : World} {p : Pa} {X dp rq k : Nat} (h : FA W0 p X dp rq k wr) (hb : Below wr.heap.size wr w2) : FA W0 p X dp rq k w2 := by
  obtain ⟨y, st, M, h⟩ := h
  exact ⟨y, st, M, h.X, h.dp, h.rq, h.both.below hb, h.live, h.few, h.low, h.bel.trans (hb.mono h.bel.size)⟩
theorem FA.bel {W0 wr : World} {p : Pa} {X dp rq k : Nat} (h : FA W0 p X dp rq k wr) : Below W0.heap.size W0 wr := by
  obtain ⟨y, st, M, h⟩ := h
  exact h.bel
theorem FA.cells {W0 wr : World} {p : Pa} {X dp rq k : Nat} (h : FA W0 p X dp rq k wr) : wr.cell? ⟨X, 0, none⟩ = some (.pointer (some ⟨dp, 0, none⟩)) ∧ wr.cell? ⟨X, 5, none⟩ = some (.pointer (some ⟨rq, 0, none⟩)) := by
  obtain ⟨y, st, M, h⟩ := h
  obtain ⟨c0, -, -, -, -, c5, -⟩ := h.both.reads
  rw [h.X, h.dp] at c0
  rw [h.X, h.rq] at c5
  exact ⟨c0, c5⟩
theorem FA.begin {W0 wr : World} {p : Pa} {e : Ending} (h : BegYes p W0 e wr) : ∃ X dp rq, e = .returned (.tuple #[.pointer (some ⟨X, 0, none⟩), .bool true, .bool true]) ∧ FA W0 p X dp rq 0 wr := by
  obtain ⟨y, st, he, h1, h2, h3, h4, h5⟩ := h
  exact ⟨y.X, y.b.d.p, y.r.q, he, y, st, _, rfl, rfl, rfl, h1, h2, by rw [h3]; exact Nat.zero_le _, h4, h5⟩
theorem FA.act {w W0 wr : World} {p : Pa} {X dp rq k : Nat} (h : FA W0 p X dp rq k wr) (hp : p.Ok) (hw : Below w.heap.size w W0) (hk : k ≤ 24) {x : Ac} {l : Al} (hin : AcIn w x l) (hf : FitA x) (lv : Value) :
    Calls Tryz.prog 8 #[.pointer (some ⟨X, 0, none⟩), caseV p lv, .agg (x.vals l).toArray] wr fun e w' => e = .returned (.bool true) ∧ FA W0 p X dp rq (k + 1) w' := by
  obtain ⟨y, st, M, h⟩ := h
  rw [← h.X]
  have hw0 := hw.size
  have f1 := h.few
  have f2 := hf.d
  have f3 := hf.cs
  have f4 := hf.rm
  refine (sact_any h.both hp h.live.fit h.live.stand (by omega) h.live.awake.dead h.live.len x l hin (hw.trans (h.bel.mono hw.size)) (fun j hj => Nat.le_trans hw0 (h.low j hj)) (by omega) (by omega) (by omega) lv).mono ?_
  rintro e w' ⟨res, ops, inv', m', y', he, ho, hb, hs, hl⟩
  obtain ⟨rfl, rfl, rfl⟩ := hl h.live
  have hpend := act_pend hp h.live ho
  refine ⟨he, y', _, _, hs.X, hs.dp.trans h.dp, hs.rq.trans h.rq, hb, (next_act hp h.live ho).live, by omega, fun j hj => (hs.fp j hj).elim (h.low j) (Nat.le_trans h.bel.size), h.bel.trans (hs.fr.below h.bel.size h.low)⟩
structure Fb (W0 : World) (p : Pa) (X dp rq : Nat) (y : Bo) (st : Dm.St) (M : Ms) (wr : World) : Prop where
  X : y.X = X
  dp : y.b.d.p = dp
  rq : y.r.q = rq
  both : Both wr y p M.inv st M.tab M
  rest : Rest p st M
  dead : st.dead = false
  len : st.S.length = p.a
  low : ∀ j, y.fp j → W0.heap.size ≤ j
  bel : Below W0.heap.size W0 wr
def FB (W0 : World) (p : Pa) (X dp rq : Nat) (wr : World) : Prop := ∃ y st M, Fb W0 p X dp rq y st M wr
theorem FB.next {W0 wr w2 : World} {p : Pa} {X dp rq : Nat} (h : FB W0 p X dp rq wr) (hb : Below wr.heap.size wr w2) : FB W0 p X dp rq w2 := by
  obtain ⟨y, st, M, h⟩ := h
  exact ⟨y, st, M, h.X, h.dp, h.rq, h.both.below hb, h.rest, h.dead, h.len, h.low, h.bel.trans (hb.mono h.bel.size)⟩
theorem FB.cells {W0 wr : World} {p : Pa} {X dp rq : Nat} (h : FB W0 p X dp rq wr) : wr.cell? ⟨X, 0, none⟩ = some (.pointer (some ⟨dp, 0, none⟩)) ∧ wr.cell? ⟨X, 5, none⟩ = some (.pointer (some ⟨rq, 0, none⟩)) := by
  obtain ⟨y, st, M, h⟩ := h
  obtain ⟨c0, -, -, -, -, c5, -⟩ := h.both.reads
  rw [h.X, h.dp] at c0
  rw [h.X, h.rq] at c5
  exact ⟨c0, c5⟩
theorem FB.bel {W0 wr : World} {p : Pa} {X dp rq : Nat} (h : FB W0 p X dp rq wr) : Below W0.heap.size W0 wr := by
  obtain ⟨y, st, M, h⟩ := h
  exact h.bel
theorem FA.flush {W0 wr : World} {p : Pa} {X dp rq k : Nat} (h : FA W0 p X dp rq k wr) (hk : k ≤ 1000) :
    Calls Tryz.prog 9 #[.pointer (some ⟨dp, 0, none⟩)] wr fun e w' => ∃ x, e = .returned (.int .i64 x) ∧ FB W0 p X dp rq w' := by
  obtain ⟨y, st, M, h⟩ := h
  rw [← h.dp]
  have f1 := h.few
  refine (Dsk.flush_any h.both.sk.dk (by omega)).mono ?_
  rintro e w' ⟨he, d', hd, hs⟩
  obtain ⟨_, hlv, hP⟩ := live_fl h.live
  obtain ⟨y', hb, hs2, e1, e2⟩ := h.both.disk hd hs
  refine ⟨_, he, y', _, M, hs2.X.trans h.X, hs2.dp, by rw [e1]; exact h.rq, hb, ⟨hlv.ok, hP, hlv.fit, hlv.stand⟩, hlv.awake.dead, hlv.len, fun j hj => (hs2.fp j hj).elim (h.low j) (Nat.le_trans h.bel.size), h.bel.trans (hs2.fr.below h.bel.size h.low)⟩
structure Cp (W0 : World) (p : Pa) (y : Bo) (M : Ms) (cq : Nat) (c : Rb) (wr : World) : Prop where
  q : c.q = cq
  rs : Rs wr c p M
  low : ∀ j, c.fp j → W0.heap.size ≤ j
  ap : ∀ j, c.fp j → ¬ y.fp j
theorem Cp.next {W0 wr w2 : World} {p : Pa} {y : Bo} {M : Ms} {cq : Nat} {c : Rb} (h : Cp W0 p y M cq c wr) (hb : Below wr.heap.size wr w2) : Cp W0 p y M cq c w2 := ⟨h.q, h.rs.below hb, h.low, h.ap⟩
theorem Cp.step {W0 wr w2 : World} {p : Pa} {y y' : Bo} {M : Ms} {cq : Nat} {c : Rb} (h : Cp W0 p y M cq c wr) (hs : Bp y y' wr w2) : Cp W0 p y' M cq c w2 :=
  ⟨h.q, h.rs.keep hs.fr h.ap, h.low, fun j hj hy => (hs.fp j hy).elim (h.ap j hj) fun c => by have := h.rs.lt j hj; omega⟩
def FC (W0 : World) (p : Pa) (X dp rq cq : Nat) (wr : World) : Prop := ∃ y st M c, Fb W0 p X dp rq y st M wr ∧ Cp W0 p y M cq c wr
theorem FC.next {W0 wr w2 : World} {p : Pa} {X dp rq cq : Nat} (h : FC W0 p X dp rq cq wr) (hb : Below wr.heap.size wr w2) : FC W0 p X dp rq cq w2 := by
  obtain ⟨y, st, M, c, h, hc⟩ := h
  exact ⟨y, st, M, c, ⟨h.X, h.dp, h.rq, h.both.below hb, h.rest, h.dead, h.len, h.low, h.bel.trans (hb.mono h.bel.size)⟩, hc.next hb⟩
theorem FC.bel {W0 wr : World} {p : Pa} {X dp rq cq : Nat} (h : FC W0 p X dp rq cq wr) : Below W0.heap.size W0 wr := by
  obtain ⟨y, st, M, c, h, -⟩ := h
  exact h.bel
theorem FC.cells {W0 wr : World} {p : Pa} {X dp rq cq : Nat} (h : FC W0 p X dp rq cq wr) : wr.cell? ⟨X, 0, none⟩ = some (.pointer (some ⟨dp, 0, none⟩)) := by
  obtain ⟨y, st, M, c, h, -⟩ := h
  obtain ⟨c0, -, -, -, -, c5, -⟩ := h.both.reads
  rw [h.X, h.dp] at c0
  exact c0
def FD (W0 : World) (p : Pa) (X dp rq cq : Nat) (wr : World) : Prop := ∃ y st M c, Fb W0 p X dp rq y st M wr ∧ Cp W0 p y M cq c wr ∧ 0 ≤ st.fuse ∧ st.fuse ≤ 39
theorem FD.next {W0 wr w2 : World} {p : Pa} {X dp rq cq : Nat} (h : FD W0 p X dp rq cq wr) (hb : Below wr.heap.size wr w2) : FD W0 p X dp rq cq w2 := by
  obtain ⟨y, st, M, c, h, hc, h1, h2⟩ := h
  exact ⟨y, st, M, c, ⟨h.X, h.dp, h.rq, h.both.below hb, h.rest, h.dead, h.len, h.low, h.bel.trans (hb.mono h.bel.size)⟩, hc.next hb, h1, h2⟩
theorem FD.bel {W0 wr : World} {p : Pa} {X dp rq cq : Nat} (h : FD W0 p X dp rq cq wr) : Below W0.heap.size W0 wr := by
  obtain ⟨y, st, M, c, h, -⟩ := h
  exact h.bel
structure Fe (W0 : World) (p : Pa) (X dp rq : Nat) (x : Ac) (y : Bo) (st : Dm.St) (M : Ms) (wr : World) : Prop where
  X : y.X = X
  dp : y.b.d.p = dp
  rq : y.r.q = rq
  both : ∃ inv m, Both wr y p inv st m (actM p M x)
  fit : Fit p M
  out : ∀ keep, Outcome p (Dm.one (Dm.restart st keep)) M (actM p M x)
  few : st.P.length ≤ 39
  len : st.S.length = p.a
  low : ∀ j, y.fp j → W0.heap.size ≤ j
  bel : Below W0.heap.size W0 wr
def FE (W0 : World) (p : Pa) (X dp rq cq : Nat) (x : Ac) (wr : World) : Prop := ∃ y st M c, Fe W0 p X dp rq x y st M wr ∧ Cp W0 p y M cq c wr
theorem FE.next {W0 wr w2 : World} {p : Pa} {X dp rq cq : Nat} {x : Ac} (h : FE W0 p X dp rq cq x wr) (hb : Below wr.heap.size wr w2) : FE W0 p X dp rq cq x w2 := by
  obtain ⟨y, st, M, c, h, hc⟩ := h
  obtain ⟨inv, m, hB⟩ := h.both
  exact ⟨y, st, M, c, ⟨h.X, h.dp, h.rq, ⟨inv, m, hB.below hb⟩, h.fit, h.out, h.few, h.len, h.low, h.bel.trans (hb.mono h.bel.size)⟩, hc.next hb⟩
theorem FE.bel {W0 wr : World} {p : Pa} {X dp rq cq : Nat} {x : Ac} (h : FE W0 p X dp rq cq x wr) : Below W0.heap.size W0 wr := by
  obtain ⟨y, st, M, c, h, -⟩ := h
  exact h.bel
theorem FE.cells {W0 wr : World} {p : Pa} {X dp rq cq : Nat} {x : Ac} (h : FE W0 p X dp rq cq x wr) : wr.cell? ⟨X, 0, none⟩ = some (.pointer (some ⟨dp, 0, none⟩)) := by
  obtain ⟨y, st, M, c, h, -⟩ := h
  obtain ⟨inv, m, hB⟩ := h.both
  obtain ⟨c0, -, -, -, -, c5, -⟩ := hB.reads
  rw [h.X, h.dp] at c0
  exact c0
theorem FD.act {w W0 wr : World} {p : Pa} {X dp rq cq : Nat} (h : FD W0 p X dp rq cq wr) (hp : p.Ok) (hw : Below w.heap.size w W0) {x : Ac} {l : Al} (hin : AcIn w x l) (hf : FitA x) (lv : Value) :
    Calls Tryz.prog 8 #[.pointer (some ⟨X, 0, none⟩), caseV p lv, .agg (x.vals l).toArray] wr fun e w' => ∃ res, e = .returned (.bool res) ∧ FE W0 p X dp rq cq x w' := by
  obtain ⟨y, st, M, c, h, hc, u0, u1⟩ := h
  rw [← h.X]
  have hw0 := hw.size
  have f2 := hf.d
  have f3 := hf.cs
  have f4 := hf.rm
  refine (sact_any h.both hp h.rest.fit h.rest.stand (by rw [h.rest.none]; decide) h.dead h.len x l hin (hw.trans (h.bel.mono hw.size)) (fun j hj => Nat.le_trans hw0 (h.low j hj)) (by omega) (by omega) (by omega) lv).mono ?_
  rintro e w' ⟨res, ops, inv', m', y', he, ho, hb, hs, hl⟩
  have hlf := runs_left (ops := ops) u0
  have hP0 : st.P.length = 0 := by rw [h.rest.none]; rfl
  refine ⟨res, he, y', _, M, c, ⟨hs.X, hs.dp.trans h.dp, hs.rq.trans h.rq, ⟨inv', m', hb⟩, h.rest.fit, fun keep => fails_act hp h.rest ho keep, ?_, ?_, fun j hj => (hs.fp j hj).elim (h.low j) (Nat.le_trans h.bel.size), h.bel.trans (hs.fr.below h.bel.size h.low)⟩, hc.step hs⟩
  · have := hlf.1
    have := hlf.2
    unfold left at this
    omega
  · rw [(runs_ok h.rest.ok ops).2]
    exact h.len
structure Ff (W0 : World) (p : Pa) (X dp rq : Nat) (x : Ac) (y : Bo) (st : Dm.St) (M : Ms) (wr : World) : Prop where
  X : y.X = X
  dp : y.b.d.p = dp
  rq : y.r.q = rq
  both : ∃ inv m, Both wr y p inv st m (actM p M x)
  fit : Fit p M
  out : Outcome p (Dm.one st) M (actM p M x)
  none : st.P = []
  dead : st.dead = false
  len : st.S.length = p.a
  low : ∀ j, y.fp j → W0.heap.size ≤ j
  bel : Below W0.heap.size W0 wr
def FF (W0 : World) (p : Pa) (X dp rq cq : Nat) (x : Ac) (wr : World) : Prop := ∃ y st M c, Ff W0 p X dp rq x y st M wr ∧ Cp W0 p y M cq c wr
theorem FF.next {W0 wr w2 : World} {p : Pa} {X dp rq cq : Nat} {x : Ac} (h : FF W0 p X dp rq cq x wr) (hb : Below wr.heap.size wr w2) : FF W0 p X dp rq cq x w2 := by
  obtain ⟨y, st, M, c, h, hc⟩ := h
  obtain ⟨inv, m, hB⟩ := h.both
  exact ⟨y, st, M, c, ⟨h.X, h.dp, h.rq, ⟨inv, m, hB.below hb⟩, h.fit, h.out, h.none, h.dead, h.len, h.low, h.bel.trans (hb.mono h.bel.size)⟩, hc.next hb⟩
theorem FF.bel {W0 wr : World} {p : Pa} {X dp rq cq : Nat} {x : Ac} (h : FF W0 p X dp rq cq x wr) : Below W0.heap.size W0 wr := by
  obtain ⟨y, st, M, c, h, -⟩ := h
  exact h.bel
theorem FF.cells {W0 wr : World} {p : Pa} {X dp rq cq : Nat} {x : Ac} (h : FF W0 p X dp rq cq x wr) : wr.cell? ⟨X, 0, none⟩ = some (.pointer (some ⟨dp, 0, none⟩)) ∧ wr.cell? ⟨X, 1, none⟩ = some (.int .i64 (p.a : Int)) ∧ wr.cell? ⟨X, 2, none⟩ = some (.int .i64 (p.n : Int)) ∧ wr.cell? ⟨X, 3, none⟩ = some (.int .i64 (p.g : Int)) := by
  obtain ⟨y, st, M, c, h, -⟩ := h
  obtain ⟨inv, m, hB⟩ := h.both
  obtain ⟨c0, c1, c2, c3, -⟩ := hB.reads
  rw [h.X] at c0 c1 c2 c3
  rw [h.dp] at c0
  exact ⟨c0, c1, c2, c3⟩
theorem FE.restart {w W0 wr : World} {p : Pa} {X dp rq cq : Nat} {x : Ac} {l : Al} (h : FE W0 p X dp rq cq x wr) (hw : Below w.heap.size w W0) (hin : AcIn w x l) (hk : x.kp.length ≤ 1000) :
    Calls Tryz.prog 12 #[.pointer (some ⟨dp, 0, none⟩), .slice l.ka x.kp.length l.kc] wr fun e w' => e = .returned (.tuple #[]) ∧ FF W0 p X dp rq cq x w' := by
  obtain ⟨y, st, M, c, h, hc⟩ := h
  obtain ⟨inv, m, hB⟩ := h.both
  rw [← h.dp]
  have hw0 := hw.size
  have hkept : Dsk.Kept wr y.b.d.fp l.ka x.kp := fun hn => by
    obtain ⟨b, off, e, hF, hb, hcs⟩ := hin.kr hn
    have wall : Below w.heap.size w wr := hw.trans (h.bel.mono hw.size)
    exact ⟨b, off, e, fun hf => by have := h.low b (.inr (.inl (.inr (.inl hf)))); omega, Nat.lt_of_lt_of_le hb wall.size, fun i hi => (wall.cell (p := ⟨b, off + i, none⟩) hb).trans (hcs i hi)⟩
  have few := h.few
  refine (Dsk.restart_any hB.sk.dk (by omega) x.kp l.ka l.kc (by omega) hkept).mono ?_
  rintro e w' ⟨he, d', hd, hs⟩
  obtain ⟨y', hb, hs2, e1, e2⟩ := hB.disk hd hs
  have hlen : (Dm.restart st x.kp).S.length = p.a := by
    show (Dm.settle st.S st.P x.kp).length = _
    rw [Dm.settle_length]
    exact h.len
  refine ⟨he, y', _, M, c, ⟨hs2.X.trans h.X, hs2.dp, by rw [e1]; exact h.rq, ⟨_, _, hb⟩, h.fit, h.out x.kp, rfl, rfl, hlen, fun j hj => (hs2.fp j hj).elim (h.low j) (Nat.le_trans h.bel.size), h.bel.trans (hs2.fr.below h.bel.size h.low)⟩, hc.step hs2⟩
structure Fg (W0 : World) (p : Pa) (X rq cq q : Nat) (x : Ac) (st : Dm.St) (M : Ms) (inv : Bool) (T : List Int) (b : Bk) (r c : Rb) (wr : World) : Prop where
  hq : b.q = q
  hrq : r.q = rq
  hcq : c.q = cq
  sk : Sk wr b p inv st T
  rs : Rs wr r p (actM p M x)
  cs : Rs wr c p M
  ptr : ∃ o, wr.heap[X]? = some (.cells o 48 (0, 0)) ∧ o[5]? = some (.pointer (some ⟨rq, 0, none⟩))
  fit : Fit p M
  yes : inv = true → (actM p M x).inv = true
  no : inv = false → M.inv = false ∧ Mix p (Dm.one st) M (actM p M x) T
  none : st.P = []
  dead : st.dead = false
  len : st.S.length = p.a
  bel : Below W0.heap.size W0 wr
def FG (W0 : World) (p : Pa) (X rq cq q : Nat) (x : Ac) (inv : Bool) (wr : World) : Prop := ∃ st M T b r c, Fg W0 p X rq cq q x st M inv T b r c wr
theorem FG.next {W0 wr w2 : World} {p : Pa} {X rq cq q : Nat} {x : Ac} {inv : Bool} (h : FG W0 p X rq cq q x inv wr) (hb : Below wr.heap.size wr w2) : FG W0 p X rq cq q x inv w2 := by
  obtain ⟨st, M, T, b, r, c, h⟩ := h
  obtain ⟨o, ho, ho2⟩ := h.ptr
  exact ⟨st, M, T, b, r, c, h.hq, h.hrq, h.hcq, h.sk.below hb, h.rs.below hb, h.cs.below hb, ⟨o, (hb.block _ (Dsk.lt_of_heap ho)).trans ho, ho2⟩, h.fit, h.yes, h.no, h.none, h.dead, h.len, h.bel.trans (hb.mono h.bel.size)⟩
theorem FG.bel {W0 wr : World} {p : Pa} {X rq cq q : Nat} {x : Ac} {inv : Bool} (h : FG W0 p X rq cq q x inv wr) : Below W0.heap.size W0 wr := by
  obtain ⟨st, M, T, b, r, c, h⟩ := h
  exact h.bel
theorem FG.inv {W0 wr : World} {p : Pa} {X rq cq q : Nat} {x : Ac} {inv : Bool} (h : FG W0 p X rq cq q x inv wr) : Calls Tryz.prog 14 #[.pointer (some ⟨q, 0, none⟩)] wr fun e w' => e = .returned (.bool inv) ∧ wr = w' := by
  obtain ⟨st, M, T, b, r, c, h⟩ := h
  rw [← h.hq]
  exact sinv_any h.sk
theorem FG.ptr {W0 wr : World} {p : Pa} {X rq cq q : Nat} {x : Ac} {inv : Bool} (h : FG W0 p X rq cq q x inv wr) : wr.cell? ⟨X, 5, none⟩ = some (.pointer (some ⟨rq, 0, none⟩)) := by
  obtain ⟨st, M, T, b, r, c, h⟩ := h
  obtain ⟨o, ho, ho2⟩ := h.ptr
  rw [cell_of_row _ _ _ _ _ _ ho]
  exact ho2
theorem FG.yes {W0 wr : World} {p : Pa} {X rq cq q : Nat} {x : Ac} (h : FG W0 p X rq cq q x true wr) : wr.cell? ⟨rq, 8, none⟩ = some (.bool true) := by
  obtain ⟨st, M, T, b, r, c, h⟩ := h
  obtain ⟨-, -, -, -, -, -, -, -, c8, -⟩ := h.rs.reads
  rw [h.hrq, h.yes rfl] at c8
  exact c8
theorem FG.no {W0 wr : World} {p : Pa} {X rq cq q : Nat} {x : Ac} (h : FG W0 p X rq cq q x false wr) : wr.cell? ⟨cq, 8, none⟩ = some (.bool false) := by
  obtain ⟨st, M, T, b, r, c, h⟩ := h
  obtain ⟨-, -, -, -, -, -, -, -, c8, -⟩ := h.cs.reads
  rw [h.hcq, (h.no rfl).1] at c8
  exact c8
theorem AcIn.up {w w' : World} {x : Ac} {l : Al} (h : AcIn w x l) (hb : Below w.heap.size w w') : AcIn w' x l :=
  ⟨h.k, h.o, h.f, h.n, h.d, h.cs, h.csd, h.cr.below hb, h.rm, h.rmd, h.rr.below hb, h.kp, fun hn => by
    obtain ⟨b, off, e, hF, hlt, hc⟩ := h.kr hn
    exact ⟨b, off, e, fun c => by have c : w'.heap.size ≤ b := c; have := hb.size; omega, Nat.lt_of_lt_of_le hlt hb.size, fun i hi => (hb.cell (p := ⟨b, off + i, none⟩) hlt).trans (hc i hi)⟩⟩
end So
end Go.Proofs.YtbmabcddciibfaaGreat
namespace Go.Proofs.YtbmabcddciibfaaGreat
namespace So
open Go.RowKit
set_option linter.unusedVariables false
set_option maxRecDepth 100000
theorem ninv (w : World) : Calls Tryz.prog 14 #[.pointer none] w fun e w' => e = .returned (.bool false) ∧ w = w' := by
  go_enter Tryz.func14, Tryz.ntmps14
  go_wp2_with fail
  go_ret
  exact ⟨rfl, rfl⟩
theorem nhas (k : Int) (w : World) : Calls Tryz.prog 26 #[.pointer none, .int .i64 k] w fun e w' => e = .returned (.bool false) ∧ w = w' := by
  go_enter Tryz.func26, Tryz.ntmps26
  go_wp2_with fail
  go_ret
  exact ⟨rfl, rfl⟩
theorem nall (w : World) : Calls Tryz.prog 27 #[.pointer none] w fun e w' => e = .returned (.slice none 0 0) ∧ w = w' := by
  go_enter Tryz.func27, Tryz.ntmps27
  go_wp2_with fail
  go_ret
  exact ⟨rfl, rfl⟩
theorem nleft (w : World) : Calls Tryz.prog 25 #[.pointer none] w fun e w' => e = .returned (.int .i64 0) ∧ w = w' := by
  go_enter Tryz.func25, Tryz.ntmps25
  go_wp2_with fail
  go_ret
  exact ⟨rfl, rfl⟩
theorem nspoil (w : World) : Calls Tryz.prog 24 #[.pointer none] w fun e w' => e = .returned (.int .i64 1) ∧ Below w.heap.size w w' := by
  go_enter Tryz.func24, Tryz.ntmps24
  go_wp2_with fail
  go_ret
  exact ⟨rfl, Below.refl _ _⟩
theorem nadd (w : World) : Calls Tryz.prog 21 #[.pointer none, .slice none 0 0] w fun e w' => e = .returned (.int .i64 1) ∧ Below w.heap.size w w' := by
  obtain ⟨W0, hW0⟩ : ∃ W0, (w.alloc (.cells #[.pointer none] 45)).alloc (.cells #[.slice none 0 0] 91) = W0 := ⟨_, rfl⟩
  obtain ⟨hB, c0, c1, hsz⟩ := two_box w _ _ _ _ W0 hW0
  have HB := Lib.hid hB
  clear hB hsz
  go_enter Tryz.func21, Tryz.ntmps21
  go_wp2_with fail
  go_ret
  exact ⟨rfl, HB.out⟩
theorem nremove (w : World) : Calls Tryz.prog 23 #[.pointer none, .slice none 0 0] w fun e w' => e = .returned (.int .i64 1) ∧ Below w.heap.size w w' := by
  obtain ⟨W0, hW0⟩ : ∃ W0, (w.alloc (.cells #[.pointer none] 45)).alloc (.cells #[.slice none 0 0] 31) = W0 := ⟨_, rfl⟩
  obtain ⟨hB, c0, c1, hsz⟩ := two_box w _ _ _ _ W0 hW0
  have HB := Lib.hid hB
  clear hB hsz
  go_enter Tryz.func23, Tryz.ntmps23
  go_wp2_with fail
  go_ret
  exact ⟨rfl, HB.out⟩
theorem nfind (o : Int) (w : World) : Calls Tryz.prog 52 #[.pointer none, .int .i64 o] w fun e w' => e = .returned (.tuple #[.agg #[.int .i64 0, .int .i64 0], .int .i64 1]) ∧ Below w.heap.size w w' := by
  obtain ⟨W0, hW0⟩ : ∃ W0, w.alloc (.cells #[.int .i64 0, .int .i64 0] 25) = W0 := ⟨_, rfl⟩
  obtain ⟨hB, hz, hsz⟩ := ext_made w W0 hW0
  obtain ⟨z0, z1, zf⟩ := duo_cells hz
  have Z := Lib.hid hz
  have HB := Lib.hid hB
  clear hB hz hsz
  go_enter Tryz.func52, Tryz.ntmps52
  go_wp2_with fail
  clear hW0
  refine bodyPost_ret (results_ext (p := 4) (u := 5) rfl _ _ w.heap.size _ _ _ rfl rfl (duo_set Z.out _ _)) rfl ⟨rfl, ?_⟩
  exact below_duo HB.out (Nat.le_refl _) _ _
theorem nread (o f n : Int) (w : World) : Calls Tryz.prog 20 #[.pointer none, .int .i64 o, .int .i64 f, .int .i64 n] w fun e w' => e = .returned (.tuple #[.string (Om.B []), .int .i64 1]) ∧ Below w.heap.size w w' := by
  obtain ⟨W0, hW0⟩ : ∃ W0, ((w.alloc (.cells #[.pointer none] 45)).alloc (.cells #[.int .i64 f] 3)).alloc (.cells #[.int .i64 n] 3) = W0 := ⟨_, rfl⟩
  obtain ⟨hB, c0, c1, c2, hsz⟩ := three_box w _ _ _ _ _ _ W0 hW0
  have HB := Lib.hid hB
  have FI := Lib.hid (fun w1 => nfind o w1)
  clear hB hsz
  go_enter Tryz.func20, Tryz.ntmps20
  go_wp2_with fail
  clear hW0
  refine (FI.out _).mono ?_
  rintro e w1 ⟨rfl, hb⟩
  have FB := Lib.hid (HB.out.trans (hb.mono HB.out.size))
  clear hb
  go_wp2_with fail
  go_ret2
  exact ⟨rfl, FB.out.alloc FB.out.size _⟩
theorem nwrite (o f : Int) (d : ByteArray) (w : World) : Calls Tryz.prog 22 #[.pointer none, .int .i64 o, .int .i64 f, .string d] w fun e w' => e = .returned (.int .i64 1) ∧ Below w.heap.size w w' := by
  obtain ⟨W0, hW0⟩ : ∃ W0, ((w.alloc (.cells #[.pointer none] 45)).alloc (.cells #[.int .i64 f] 3)).alloc (.cells #[.string d] 9) = W0 := ⟨_, rfl⟩
  obtain ⟨hB, c0, c1, c2, hsz⟩ := three_box w _ _ _ _ _ _ W0 hW0
  have HB := Lib.hid hB
  have FI := Lib.hid (fun w1 => nfind o w1)
  clear hB hsz
  go_enter Tryz.func22, Tryz.ntmps22
  go_wp2_with fail
  clear hW0
  refine (FI.out _).mono ?_
  rintro e w1 ⟨rfl, hb⟩
  have FB := Lib.hid (HB.out.trans (hb.mono HB.out.size))
  clear hb
  go_wp2_with fail
  go_ret
  exact ⟨rfl, FB.out.alloc FB.out.size _⟩
end So
end Go.Proofs.YtbmabcddciibfaaGreat
namespace Go.Proofs.YtbmabcddciibfaaGreat
namespace So
open Go.RowKit
set_option linter.unusedVariables false
set_option maxRecDepth 100000
theorem cut_set (F : List UInt8) (k : Nat) (c : UInt8) (x : Nat) : ((F.set k c).drop (64 * x)).take 64 = if k / 64 = x then ((F.drop (64 * x)).take 64).set (k % 64) c else (F.drop (64 * x)).take 64 := by
  by_cases h : k < 64 * x
  · rw [List.drop_set, if_pos h, if_neg (by omega)]
  · rw [List.drop_set, if_neg h, List.take_set]
    by_cases h2 : k / 64 = x
    · rw [if_pos h2, show k - 64 * x = k % 64 by omega]
    · rw [if_neg h2]
      rw [List.set_eq_of_length_le (by rw [List.length_take]; omega)]
theorem load_one14 {l : List UInt8} {a x : Nat} (hl : l.length = 64 * a) (hx : x < a) : Dm.one (Dm.load l) x = (l.drop (64 * x)).take 64 := by
  have hp : Dm.pad l = l := by
    unfold Dm.pad
    rw [show (64 - l.length % 64) % 64 = 0 by omega]
    exact List.append_nil _
  show (Dm.chunks (Dm.pad l)).getD x [] = _
  rw [hp, Dm.chunks_get _ _ (by omega)]
theorem load_len14 {l : List UInt8} {a : Nat} (hl : l.length = 64 * a) : (Dm.load l).S.length = a := by rw [Dm.load_length]; omega
theorem flat_one {st : Dm.St} (hok : Dm.Ok st) (hP : st.P = []) {x : Nat} (hx : x < st.S.length) : (st.S.flatten.drop (64 * x)).take 64 = Dm.one st x := by
  rw [Dm.flat_get hok.sectors x hx]
  unfold Dm.one
  rw [hP]
  rfl
def turnN (p : Pa) (V : Bool) : Nat := if V = true then 0 else p.pg
theorem open_turned {p : Pa} (hp : p.Ok) {st : Dm.St} {M : Ms} (h : Rest p st M) (hl : st.S.length = p.a) {k : Nat} (c : UInt8) (h1 : 64 * p.st ≤ k) (h2 : k < 64 * p.st + 64 * (turnN p M.inv + 1)) :
    openE p (Dm.one (Dm.load (st.S.flatten.set k c))) = if st.S.flatten.set k c = st.S.flatten then 0 else 165 := by
  have hF : st.S.flatten.length = 64 * p.a := by rw [Dm.flat_length h.ok.sectors, hl]
  obtain ⟨F, hFF⟩ : ∃ F, F = st.S.flatten := ⟨_, rfl⟩
  have hsl : (F.set k c).length = 64 * p.a := by rw [List.length_set, hFF, hF]
  have hhi := hp.high
  have hsz := hp.nums.size
  have one : ∀ x, x < p.a → Dm.one (Dm.load (F.set k c)) x = if k / 64 = x then (Dm.one st x).set (k % 64) c else Dm.one st x := fun x hx => by
    rw [load_one14 hsl hx, cut_set, hFF, flat_one h.ok h.none (by rw [hl]; exact hx)]
  have hst : p.st < p.a := by omega
  have hat : ∀ x, x < p.a → k / 64 = x → (Dm.one st x)[k % 64]? = F[k]? := fun x hx e => by
    rw [← flat_one h.ok h.none (by rw [hl]; exact hx), ← hFF, List.getElem?_take, if_pos (Nat.mod_lt _ (by decide)), List.getElem?_drop]
    congr 1
    omega
  rw [← hFF]
  by_cases e : F.set k c = F
  · rw [if_pos e]
    have same : ∀ x, x < p.a → Dm.one (Dm.load (F.set k c)) x = Dm.one st x := fun x hx => by
      rw [load_one14 hsl hx, e, hFF, flat_one h.ok h.none (by rw [hl]; exact hx)]
    refine (open_stand hp (M := M) ⟨?_, fun hv i hi => ?_, fun i q hi h0 j hj => ?_⟩ h.fit).1
    · rw [same _ hst]; exact h.stand.head
    · rw [same _ (by have := Pa.page_in hp hi; omega)]; exact h.stand.page hv i hi
    · rw [same _ (by have := Pa.data_lt hp (h.fit.lt hi) hj; omega)]; exact h.stand.data i q hi h0 j hj
  · rw [if_neg e]
    have hne : F[k]? ≠ some c := fun hc => e (by
      obtain ⟨hk, hv⟩ := List.getElem?_eq_some_iff.1 hc
      rw [← hv, List.set_getElem_self])
    by_cases hr : k / 64 = p.st
    · have hone := one p.st hst
      rw [if_pos hr, h.stand.head] at hone
      refine open_head hp (Nat.mod_lt _ (by decide)) (c := c) (b := M.inv) ?_ hone
      have := hat p.st hst hr
      rw [h.stand.head] at this
      rw [this]
      exact hne
    · have hv : M.inv = false := by
        cases hv : M.inv with
        | false => rfl
        | true =>
          unfold turnN at h2
          rw [hv, if_pos rfl] at h2
          omega
      unfold turnN at h2
      rw [hv, if_neg (by decide)] at h2
      obtain ⟨i, hi⟩ : ∃ i, k / 64 = p.page i ∧ i < p.pg := ⟨k / 64 - p.st - 1, by unfold Pa.page; omega, by omega⟩
      have hpa : p.page i < p.a := by have := Pa.page_in hp hi.2; omega
      have hone := one (p.page i) hpa
      rw [if_pos hi.1, h.stand.page hv i hi.2] at hone
      have hhead := one p.st hst
      rw [if_neg hr, h.stand.head, hv] at hhead
      refine open_page hp hhead hi.2 (Nat.mod_lt _ (by decide)) (c := c) (ls := Tb.page M.T i) ?_ hone
      have := hat (p.page i) hpa hi.1
      rw [h.stand.page hv i hi.2] at this
      rw [this]
      exact hne
theorem turned_parts (l : List UInt8) (n k : Nat) (c : UInt8) (hn : l.length = n) (hn2 : n ≤ 67108864) (hk : k < n) : ∃ s T p q, s = Om.B l ∧ T = l.set k c ∧ s.size = n ∧ s.extract 0 k = Om.B p ∧ s.extract (k + 1) n = Om.B q ∧ (Om.B p ++ Om.B [c]) ++ Om.B q = Om.B T ∧
    ¬ 9223372036854775807 < (Om.B p).size + (Om.B [c]).size ∧ ¬ 9223372036854775807 < (Om.B p ++ Om.B [c]).size + (Om.B q).size ∧ T.length = n := by
  have e := Om.extract_end (Om.B l) (k + 1)
  rw [show (Om.B l).size = n from (Om.B_size l).trans hn, Om.L_B] at e
  refine ⟨_, _, l.take k, l.drop (k + 1), rfl, rfl, (Om.B_size l).trans hn, ?_, e, ?_, ?_, ?_, ?_⟩
  · rw [Om.extract_front, Om.L_B]
  · rw [Om.B_append, Om.B_append, List.set_eq_take_append_cons_drop, if_pos (by omega), List.append_assoc]
    rfl
  · rw [Om.B_size, Om.B_size, List.length_take]
    simp
    omega
  · rw [Om.B_append, Om.B_size, Om.B_size, List.length_append, List.length_take, List.length_drop]
    simp
    omega
  · rw [List.length_set]; exact hn
theorem str_turn (W : World) (y : Nat) (hy : y < 256) : (convert 65 9 (.slice (some ⟨W.heap.size, 0, none⟩) 1 1)).run Tryz.prog (W.alloc (.cells #[.int .u8 (y : Int)] 5)).drew = .ok (.string (Om.B [UInt8.ofNat y])) (W.alloc (.cells #[.int .u8 (y : Int)] 5)).drew := by
  have e : (y : Int) = ((UInt8.ofNat y).toNat : Int) := by rw [UInt8.toNat_ofNat']; omega
  rw [e]
  exact run_convert_bytes_back (P := Tryz.prog) (W.alloc (.cells #[.int .u8 ((UInt8.ofNat y).toNat : Int)] 5)).drew 65 9 5 ⟨W.heap.size, 0, none⟩ 1 [UInt8.ofNat y] Tryz.underlying65 Tryz.underlying5 Tryz.underlying9 (fun i hi => by
    have : i = 0 := by simpa using hi
    subst this
    simp [Addr.add])
structure Wb (W0 : World) (p : Pa) (X dp rq : Nat) (V : Bool) (l : List UInt8) (y : Bo) (st : Dm.St) (M : Ms) (wr : World) : Prop where
  fb : Fb W0 p X dp rq y st M wr
  inv : M.inv = V
  flat : st.S.flatten = l
def WB (W0 : World) (p : Pa) (X dp rq : Nat) (V : Bool) (l : List UInt8) (wr : World) : Prop := ∃ y st M, Wb W0 p X dp rq V l y st M wr
theorem FB.seen {W0 wr : World} {p : Pa} {X dp rq : Nat} (h : FB W0 p X dp rq wr) : ∃ V l, WB W0 p X dp rq V l wr := by
  obtain ⟨y, st, M, h⟩ := h
  exact ⟨_, _, y, st, M, h, rfl, rfl⟩
theorem WB.len {W0 wr : World} {p : Pa} {X dp rq : Nat} {V : Bool} {l : List UInt8} (h : WB W0 p X dp rq V l wr) : l.length = 64 * p.a := by
  obtain ⟨y, st, M, h⟩ := h
  rw [← h.flat, Dm.flat_length h.fb.rest.ok.sectors, h.fb.len]
theorem WB.next {W0 wr w2 : World} {p : Pa} {X dp rq : Nat} {V : Bool} {l : List UInt8} (h : WB W0 p X dp rq V l wr) (hb : Below wr.heap.size wr w2) : WB W0 p X dp rq V l w2 := by
  obtain ⟨y, st, M, h⟩ := h
  have f := h.fb
  exact ⟨y, st, M, ⟨f.X, f.dp, f.rq, f.both.below hb, f.rest, f.dead, f.len, f.low, f.bel.trans (hb.mono f.bel.size)⟩, h.inv, h.flat⟩
theorem WB.bel {W0 wr : World} {p : Pa} {X dp rq : Nat} {V : Bool} {l : List UInt8} (h : WB W0 p X dp rq V l wr) : Below W0.heap.size W0 wr := by
  obtain ⟨y, st, M, h⟩ := h
  exact h.fb.bel
theorem WB.cells {W0 wr : World} {p : Pa} {X dp rq : Nat} {V : Bool} {l : List UInt8} (h : WB W0 p X dp rq V l wr) : wr.cell? ⟨X, 0, none⟩ = some (.pointer (some ⟨dp, 0, none⟩)) ∧ wr.cell? ⟨X, 1, none⟩ = some (.int .i64 (p.a : Int)) ∧ wr.cell? ⟨X, 2, none⟩ = some (.int .i64 (p.n : Int)) ∧ wr.cell? ⟨X, 3, none⟩ = some (.int .i64 (p.g : Int)) ∧
    wr.cell? ⟨X, 5, none⟩ = some (.pointer (some ⟨rq, 0, none⟩)) ∧ wr.cell? ⟨rq, 8, none⟩ = some (.bool V) := by
  obtain ⟨y, st, M, h⟩ := h
  obtain ⟨c0, c1, c2, c3, -, c5, -⟩ := h.fb.both.reads
  obtain ⟨-, -, -, -, -, -, -, -, d8, -⟩ := h.fb.both.rs.reads
  rw [h.fb.X] at c0 c1 c2 c3 c5
  rw [h.fb.dp] at c0
  rw [h.fb.rq] at c5 d8
  rw [h.inv] at d8
  exact ⟨c0, c1, c2, c3, c5, d8⟩
theorem WB.bytes {W0 wr : World} {p : Pa} {X dp rq : Nat} {V : Bool} {l : List UInt8} (h : WB W0 p X dp rq V l wr) : Calls Tryz.prog 17 #[.pointer (some ⟨dp, 0, none⟩)] wr fun e w' => e = .returned (.string (Om.B l)) ∧ wr = w' := by
  obtain ⟨y, st, M, h⟩ := h
  rw [← h.fb.dp, ← h.flat]
  exact Dsk.bytes_any h.fb.both.sk.dk
theorem WB.turn {W0 wr : World} {p : Pa} {X dp rq : Nat} {V : Bool} {l : List UInt8} (h : WB W0 p X dp rq V l wr) (hp : p.Ok) {k : Nat} (c : UInt8) (h1 : 64 * p.st ≤ k) (h2 : k < 64 * p.st + 64 * (turnN p V + 1)) (W : World) (hW : Below wr.heap.size wr W) (o : Dsk.Ob) (hd : Dsk.Dk W o (Dm.load (l.set k c))) (ho : ∀ j, o.fp j → wr.heap.size ≤ j) :
    Calls Tryz.prog 13 #[.pointer (some ⟨o.p, 0, none⟩), .agg #[.int .i64 (p.a : Int), .int .i64 (p.n : Int), .int .i64 (p.g : Int)], .agg #[.int .i64 (p.st : Int), .int .i64 (p.ln : Int)], .int .u32 (p.gen : Int)] W fun e w' => ∃ v, e = .returned (.tuple #[.pointer v, .int .i64 (if l.set k c = l then 0 else 165)]) ∧ Below wr.heap.size wr w' := by
  have hl := h.len
  obtain ⟨y, st, M, h⟩ := h
  have hE := open_turned hp h.fb.rest h.fb.len c h1 (by rw [h.inv]; exact h2)
  rw [h.flat] at hE
  have hsl : (l.set k c).length = 64 * p.a := by rw [List.length_set, hl]
  refine (open_any hp hd rfl (load_len14 hsl) (by show ([] : List (Nat × List UInt8)).length ≤ _; simp)).mono ?_
  rintro e w' (⟨e0, b', he, -, -, -, -, -, hf⟩ | ⟨e1, he, hb⟩)
  · rw [hE] at e0
    exact ⟨_, by rw [e0]; exact he, hW.trans (hf.below hW.size ho)⟩
  · rw [hE] at e1
    exact ⟨_, by rw [e1]; exact he, hW.trans (hb.mono hW.size)⟩
def nextG (g : Nat) : Nat := if g = 4294967295 then 0 else g + 1
def nextE (g : Nat) : Int := if g = 4294967295 then 1 else 165
theorem nextG_wrap (g : Nat) (h : g < 4294967296) : IntKind.u32.wrap ((g : Int) + 1) = (nextG g : Int) := by
  unfold nextG
  split
  · rename_i e; rw [e]; rfl
  · simp [IntKind.wrap, IntKind.signed, IntKind.bits]
    omega
theorem WB.other {W0 wr : World} {p : Pa} {X dp rq : Nat} {V : Bool} {l : List UInt8} (h : WB W0 p X dp rq V l wr) (hp : p.Ok) (W : World) (hW : Below wr.heap.size wr W) :
    Calls Tryz.prog 13 #[.pointer (some ⟨dp, 0, none⟩), .agg #[.int .i64 (p.a : Int), .int .i64 (p.n : Int), .int .i64 (p.g : Int)], .agg #[.int .i64 (p.st : Int), .int .i64 (p.ln : Int)], .int .u32 (nextG p.gen : Int)] W (NoStore (nextE p.gen) W) := by
  have h := h.next hW
  obtain ⟨y, st, M, h⟩ := h
  have g1 := hp.gen1
  have g2 := hp.gen2
  by_cases e : p.gen = 4294967295
  · have e1 : nextG p.gen = 0 := by unfold nextG; rw [if_pos e]
    have e2 : nextE p.gen = 1 := by unfold nextE; rw [if_pos e]
    rw [e1, e2]
    exact op_err (some ⟨dp, 0, none⟩) _ _ _ _ _ 1 0 W (by decide) fun w1 _ => sempty_gen (some ⟨dp, 0, none⟩) _ _ _ _ _ w1
  · have e1 : nextG p.gen = p.gen + 1 := by unfold nextG; rw [if_neg e]
    have e2 : nextE p.gen = 165 := by unfold nextE; rw [if_neg e]
    rw [e1, e2]
    have hp' : ({ p with gen := p.gen + 1 } : Pa).Ok := ⟨hp.sup, hp.room, hp.pos, hp.low, hp.high, by show 1 ≤ p.gen + 1; omega, by show p.gen + 1 < 4294967296; omega⟩
    have hE : openE { p with gen := p.gen + 1 } (Dm.one st) = 165 := open_gen hp (p.gen + 1) (by omega) h.fb.rest.stand.head
    rw [← h.fb.dp]
    refine (open_any hp' h.fb.both.sk.dk h.fb.dead h.fb.len (by rw [h.fb.rest.none]; decide)).mono ?_
    rintro e w' (⟨e0, -⟩ | ⟨-, hn⟩)
    · rw [hE] at e0
      cases e0
    · exact hn
theorem no_disk (p : Pa) (W : World) : Calls Tryz.prog 13 #[.pointer none, .agg #[.int .i64 (p.a : Int), .int .i64 (p.n : Int), .int .i64 (p.g : Int)], .agg #[.int .i64 (p.st : Int), .int .i64 (p.ln : Int)], .int .u32 (p.gen : Int)] W (NoStore 1 W) :=
  op_err none _ _ _ _ _ 1 p.gen W (by decide) fun w1 _ => sempty_nil _ _ _ _ _ p.gen w1
theorem few_disk {p : Pa} (hp : p.Ok) {W : World} {o : Dsk.Ob} (hd : Dsk.Dk W o (Dm.fresh 1)) : Calls Tryz.prog 13 #[.pointer (some ⟨o.p, 0, none⟩), .agg #[.int .i64 (p.a : Int), .int .i64 (p.n : Int), .int .i64 (p.g : Int)], .agg #[.int .i64 (p.st : Int), .int .i64 (p.ln : Int)], .int .u32 (p.gen : Int)] W (NoStore 2 W) :=
  op_err (some ⟨o.p, 0, none⟩) _ _ _ _ _ 2 p.gen W (by decide) fun w1 hb => sempty_few (hd.below hb) hp (by
    show (List.replicate 1 _).length < p.a
    have := hp.low
    have := hp.high
    simp
    omega)
end So
end Go.Proofs.YtbmabcddciibfaaGreat
namespace Go.Proofs.YtbmabcddciibfaaGreat
namespace So
set_option linter.unusedVariables false
set_option maxRecDepth 100000
def al : Pa := ⟨60, 20, 2, 40, 8, 3, 5⟩
theorem al_ok : al.Ok := ⟨by decide, by decide, by decide, by decide, by decide, by decide, by decide⟩
theorem al_six : ({ al with gen := 6 } : Pa).Ok := ⟨by decide, by decide, by decide, by decide, by decide, by decide, by decide⟩
def ch (c : UInt8) : List UInt8 := Dm.pad [c] ++ Dm.pad [c]
theorem pad_len (c : UInt8) : (Dm.pad [c]).length = 64 := rfl
def al1 : List (Int × List UInt8) := [(7, ch 97), (2, ch 98)]
def al2 : List (Int × List UInt8) := [(1, ch 99), (4, ch 100)]
def alM0 : Ms := Ms.new al
theorem alE1 : addE false [-1, -1, -1] 2 al1 = 0 := by kernel_rfl
theorem alP1 : putsM [-1, -1, -1] al1 = [7, 2, -1] := by kernel_rfl
theorem alE2 : addE false [7, 2, -1] 2 al2 = 111 := by kernel_rfl
theorem alE3 : remE false [7, 2, -1] [7] = 0 := by kernel_rfl
theorem alP3 : dropsM [7, 2, -1] [7] = [-1, 2, -1] := by kernel_rfl
def alM1 : Ms := addM al alM0 al1
def alM3 : Ms := remM alM1 [7]
theorem alT1 : alM1.T = [7, 2, -1] ∧ alM1.inv = false := by
  have e : alM1 = alM0.adds al1 := by unfold alM1 addM; rw [if_pos]; exact alE1
  rw [e]
  exact ⟨alP1, rfl⟩
theorem alT3 : alM3.T = [-1, 2, -1] ∧ alM3.inv = false := by
  have e : alM3 = alM1.drops [7] := by unfold alM3 remM; rw [if_pos]; rw [alT1.1, alT1.2]; exact alE3
  rw [e]
  refine ⟨?_, alT1.2⟩
  show dropsM alM1.T [7] = _
  rw [alT1.1]
  exact alP3
theorem alD3 : alM3.D.getD 1 [] = ch 98 := by kernel_rfl
theorem alTab3 : alM3.tab = [-1, 2, -1] := by unfold Ms.tab; rw [alT3.2, if_neg (by decide), alT3.1]
theorem alFind : Tb.find [-1, 2, -1] 2 = some 1 := by kernel_rfl
theorem alAll : Tb.all [-1, 2, -1] = [(2, 1)] := by
  have e : Tb.used [-1, 2, -1] = [2] := rfl
  have k : Tb.keys [-1, 2, -1] = [2] := by
    unfold Tb.keys
    rw [e]
    exact List.mergeSort_singleton 2
  unfold Tb.all
  rw [k]
  rfl
theorem alRead : readE al alM3 2 1 1 = 0 ∧ readV al alM3 2 1 1 = Dm.pad [98] := by
  have hf : Tb.find alM3.T 2 = some 1 := by rw [alT3.1]; exact alFind
  have h1 : findE alM3 2 = 0 := by unfold findE; rw [alT3.2, if_neg (by decide), hf]; rfl
  have h2 : readE al alM3 2 1 1 = 0 := by unfold readE; rw [if_pos h1]; rfl
  refine ⟨h2, ?_⟩
  unfold readV
  rw [if_pos h2]
  have hp : findP alM3 2 = 1 := by unfold findP; rw [hf]; rfl
  rw [hp, alD3]
  rfl
def alS0 : Dm.St := (runs (Dm.fresh 60) (creOps al)).1
theorem alL0 : Live al alS0 alM0 ∧ alS0.P = [] := ⟨(live_cre al_ok).2.1, (live_cre al_ok).2.2⟩
def alS1 : Dm.St := (runs alS0 (addOps al [-1, -1, -1] al1 (pagesOf (putsP [-1, -1, -1] al1)))).1
theorem alL1 : (runs alS0 (addOps al [-1, -1, -1] al1 (pagesOf (putsP [-1, -1, -1] al1)))).2 = 0 ∧ Live al alS1 alM1 := by
  have h := next_add al_ok alL0.1 (l := al1) (ops := addOps al [-1, -1, -1] al1 (pagesOf (putsP [-1, -1, -1] al1))) (.inr ⟨alE1, by decide, _, pagesOf_chg _, rfl⟩)
  exact ⟨h.done, h.live⟩
def alS3 : Dm.St := (runs alS1 (remOps al [7, 2, -1] [7] (pagesOf (dropsP [7, 2, -1] [7])))).1
theorem alL3 : (runs alS1 (remOps al [7, 2, -1] [7] (pagesOf (dropsP [7, 2, -1] [7])))).2 = 0 ∧ Live al alS3 alM3 := by
  have h := next_rem al_ok alL1.2 (l := [7]) (ops := remOps al [7, 2, -1] [7] (pagesOf (dropsP [7, 2, -1] [7]))) (.inr ⟨by rw [alT1.1, alT1.2]; exact alE3, by decide, _, by rw [alT1.1]; exact pagesOf_chg _, by rw [alT1.1]⟩)
  exact ⟨h.done, h.live⟩
theorem alP0 : alS0.P.length = 0 := by rw [alL0.2]; rfl
theorem alPe1 : alS1.P = [] := by
  have h := alL1.1
  unfold alS1
  unfold addOps at h ⊢
  rw [← List.append_assoc] at h ⊢
  exact runs_fl h
theorem alPe3 : alS3.P = [] := by
  have h := alL3.1
  unfold alS3
  unfold remOps at h ⊢
  exact runs_fl h
theorem alOpen : openE al (Dm.one alS3) = 0 ∧ openI (Dm.one alS3) al = false ∧ openT al (Dm.one alS3) = [-1, 2, -1] := by
  have h := open_stand al_ok alL3.2.stand alL3.2.fit
  rw [alT3.2, alTab3] at h
  exact h
theorem alOther : openE { al with gen := 6 } (Dm.one alS3) = 165 := open_gen al_ok 6 (by decide) alL3.2.stand.head
theorem alRd : Dm.readS alS3 ((al.data 1 : Int) + 1) 1 = Dm.pad [98] := by
  have h := live_read al_ok alL3.2 alRead.1
  rw [alRead.2] at h
  have e : findP alM3 2 = 1 := by unfold findP; rw [alT3.1, alFind]; rfl
  rw [e] at h
  exact h.2
end So
end Go.Proofs.YtbmabcddciibfaaGreat
