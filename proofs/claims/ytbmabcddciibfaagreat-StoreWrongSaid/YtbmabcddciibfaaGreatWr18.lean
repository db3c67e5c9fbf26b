/- Part 18 of the contracts and of the plain mathematics that the proof of the law rests on: StoAct, StoRd, StoComp, Keep. -/
import Derived.Test.YtbmabcddciibfaaGreatWr03
import Derived.Test.YtbmabcddciibfaaGreatWr09
import Derived.Test.YtbmabcddciibfaaGreatWr17
import Derived.LoopTactic
import Derived.Shelf.Slices.In.CompactI
import Derived.Test.YtbmabcddciibfaaGreatProg
import Derived.WalkKit
import Derived.OwnWalk
import Derived.Below
import Derived.Laws.Rows
import Derived.Laws.OwnMore
import Derived.Laws.NewBlocks
import Derived.Lib.Hide
import Derived.RangeFuncNested
import Derived.RangeFuncBound
import Derived.RangeFuncCalls
import Derived.RangeFuncLeaves
import Derived.Shelf.Abstract
import Derived.Shelf.RegionOpen
import Derived.OwnWalkIn
import Derived.TacticsInMore
import Derived.LoopNIn
import Derived.LoopIn
import Derived.Maps.AppendAt
import Derived.RegionIn
import Derived.BigRegionIn
import Derived.Deep.AppendLies
namespace Go.Proofs.YtbmabcddciibfaaGreat
namespace So
set_option linter.unusedVariables false
def inCh (p : Pa) (f n : Int) : Bool := decide (0 ≤ f) && decide (0 ≤ n) && decide (n ≤ (p.g : Int) - f)
theorem inCh_iff {p : Pa} {f n : Int} : inCh p f n = true ↔ 0 ≤ f ∧ 0 ≤ n ∧ n ≤ (p.g : Int) - f := by simp [inCh, and_assoc]
def findE (M : Ms) (o : Int) : Int := if M.inv = true then 162 else if (Tb.find M.T o).isSome = true then 0 else 161
def findP (M : Ms) (o : Int) : Nat := (Tb.find M.T o).getD 0
def readE (p : Pa) (M : Ms) (o f n : Int) : Int := if findE M o = 0 then if inCh p f n = true then 0 else 2 else findE M o
def readV (p : Pa) (M : Ms) (o f n : Int) : List UInt8 := if readE p M o f n = 0 then ((M.D.getD (findP M o) []).drop (64 * f.toNat)).take (64 * n.toNat) else []
def wriE (p : Pa) (M : Ms) (o f : Int) (d : List UInt8) : Int := if findE M o = 0 then if d.length % 64 = 0 then if inCh p f ((d.length / 64 : Nat) : Int) = true then 0 else 2 else 1 else findE M o
theorem findE_zero {M : Ms} {o : Int} (h : findE M o = 0) : M.inv = false ∧ Tb.find M.T o = some (findP M o) ∧ 0 ≤ o ∧ M.T[findP M o]? = some o := by
  unfold findE at h
  split at h
  · simp at h
  · rename_i hi
    split at h
    · rename_i hs
      obtain ⟨i, e⟩ := Option.isSome_iff_exists.1 hs
      have ep : findP M o = i := by unfold findP; rw [e]; rfl
      rw [ep]
      exact ⟨by simpa using hi, e, (Tb.find_some.1 e).1, (Tb.find_some.1 e).2.1⟩
    · simp at h
theorem readE_zero {p : Pa} {M : Ms} {o f n : Int} (h : readE p M o f n = 0) : findE M o = 0 ∧ inCh p f n = true := by
  unfold readE at h
  split at h
  · rename_i h1
    split at h
    · rename_i h2; exact ⟨h1, h2⟩
    · simp at h
  · rename_i h1; exact absurd h h1
theorem wriE_zero {p : Pa} {M : Ms} {o f : Int} {d : List UInt8} (h : wriE p M o f d = 0) : findE M o = 0 ∧ d.length % 64 = 0 ∧ inCh p f ((d.length / 64 : Nat) : Int) = true := by
  unfold wriE at h
  split at h
  · rename_i h1
    split at h
    · rename_i h2
      split at h
      · rename_i h3; exact ⟨h1, h2, h3⟩
      · simp at h
    · simp at h
  · rename_i h1; exact absurd h h1
theorem span_is {p : Pa} {st : Dm.St} {D : List UInt8} {i : Nat} (hD : D.length = 64 * p.g) (h : ∀ j, j < p.g → Dm.one st (p.data i + j) = piece D j) (f n : Nat) (hn : f + n ≤ p.g) : Dm.span st (p.data i + f) n = (D.drop (64 * f)).take (64 * n) := by
  induction n with
  | zero => simp [Dm.span]
  | succ n ih =>
    rw [Dm.span_succ, ih (by omega), Nat.add_assoc, h (f + n) (by omega)]
    unfold piece
    have e : (D.drop (64 * f)).take (64 * (n + 1)) = (D.drop (64 * f)).take (64 * n) ++ ((D.drop (64 * f)).drop (64 * n)).take 64 := by
      rw [Nat.mul_add, Nat.mul_one, List.take_add]
    rw [e, List.drop_drop]
    congr 3
    omega
theorem live_read {p : Pa} (hp : p.Ok) {st : Dm.St} {M : Ms} (h : Live p st M) {o f n : Int} (h0 : readE p M o f n = 0) :
    Dm.readE st ((p.data (findP M o) : Int) + f) n = 0 ∧ Dm.readS st ((p.data (findP M o) : Int) + f) n = readV p M o f n := by
  obtain ⟨h1, h2⟩ := readE_zero h0
  obtain ⟨hi, hf, ho, hT⟩ := findE_zero h1
  obtain ⟨f0, n0, hn⟩ := inCh_iff.1 h2
  have hlt := h.fit.lt hT
  have he := Pa.data_end hp hlt
  have hh := hp.high
  have hs := h.fit.size _ _ hT ho
  have ht : Dm.thereB st ((p.data (findP M o) : Int) + f) n = true := by rw [Dm.there_iff, h.len]; omega
  constructor
  · unfold Dm.readE; rw [h.awake.dead, if_neg (by decide), if_pos ht]
  · unfold Dm.readS readV
    rw [h.awake.dead, if_neg (by decide), if_pos ht, if_pos h0]
    obtain ⟨f', rfl⟩ : ∃ f' : Nat, f = (f' : Int) := ⟨f.toNat, by omega⟩
    obtain ⟨n', rfl⟩ : ∃ n' : Nat, n = (n' : Int) := ⟨n.toNat, by omega⟩
    rw [show ((p.data (findP M o) : Int) + (f' : Int)).toNat = p.data (findP M o) + f' by omega, Int.toNat_natCast, Int.toNat_natCast]
    exact span_is hs (fun j hj => h.stand.data _ _ hT ho j hj) f' n' (by omega)
def addM (p : Pa) (M : Ms) (l : List (Int × List UInt8)) : Ms := if addE M.inv M.T p.g l = 0 then M.adds l else M
def remM (M : Ms) (l : List Int) : Ms := if remE M.inv M.T l = 0 then M.drops l else M
def wriM (p : Pa) (M : Ms) (o f : Int) (d : List UInt8) : Ms := if wriE p M o f d = 0 then M.wri (findP M o) f.toNat d else M
def AddOps (p : Pa) (M : Ms) (l : List (Int × List UInt8)) (ops : List Op) : Prop :=
  ((addE M.inv M.T p.g l ≠ 0 ∨ l = []) ∧ ops = []) ∨ (addE M.inv M.T p.g l = 0 ∧ l ≠ [] ∧ ∃ cs, Chg (putsP M.T l) cs ∧ ops = addOps p M.T l cs)
def RemOps (p : Pa) (M : Ms) (l : List Int) (ops : List Op) : Prop :=
  ((remE M.inv M.T l ≠ 0 ∨ l = []) ∧ ops = []) ∨ (remE M.inv M.T l = 0 ∧ l ≠ [] ∧ ∃ cs, Chg (dropsP M.T l) cs ∧ ops = remOps p M.T l cs)
def WriOps (p : Pa) (M : Ms) (o f : Int) (d : List UInt8) (ops : List Op) : Prop :=
  (wriE p M o f d ≠ 0 ∧ ops = []) ∨ (wriE p M o f d = 0 ∧ ops = [wriOp p (findP M o) f.toNat d])
theorem remE_zero {inv : Bool} {m l : List Int} (h : remE inv m l = 0) : inv = false ∧ mayRem m l = true := by
  unfold remE at h
  cases inv with
  | true => simp at h
  | false =>
    rw [if_neg (by decide)] at h
    split at h
    · rename_i hm; exact ⟨rfl, hm⟩
    · simp at h
structure Next (p : Pa) (st : Dm.St) (ops : List Op) (M' : Ms) : Prop where
  done : (runs st ops).2 = 0
  live : Live p (runs st ops).1 M'
theorem Next.none {p : Pa} {st : Dm.St} {M : Ms} (h : Live p st M) : Next p st [] M := ⟨rfl, h⟩
theorem next_add {p : Pa} (hp : p.Ok) {st : Dm.St} {M : Ms} (h : Live p st M) {l : List (Int × List UInt8)} {ops : List Op} (ho : AddOps p M l ops) : Next p st ops (addM p M l) := by
  unfold addM
  rcases ho with ⟨h1, rfl⟩ | ⟨h1, _, cs, hc, rfl⟩
  · by_cases h0 : addE M.inv M.T p.g l = 0
    · rw [if_pos h0]
      rcases h1 with h1 | rfl
      · exact absurd h0 h1
      · exact Next.none h
    · rw [if_neg h0]
      exact Next.none h
  · rw [if_pos h1]
    obtain ⟨hi, ha, hl⟩ := addE_zero h.fit.tok h1
    obtain ⟨a, b, _⟩ := live_add hp h ha hl hi hc
    exact ⟨a, b⟩
theorem next_rem {p : Pa} (hp : p.Ok) {st : Dm.St} {M : Ms} (h : Live p st M) {l : List Int} {ops : List Op} (ho : RemOps p M l ops) : Next p st ops (remM M l) := by
  unfold remM
  rcases ho with ⟨h1, rfl⟩ | ⟨h1, _, cs, hc, rfl⟩
  · by_cases h0 : remE M.inv M.T l = 0
    · rw [if_pos h0]
      rcases h1 with h1 | rfl
      · exact absurd h0 h1
      · exact Next.none h
    · rw [if_neg h0]
      exact Next.none h
  · rw [if_pos h1]
    obtain ⟨hi, hm⟩ := remE_zero h1
    obtain ⟨a, b, _⟩ := live_rem hp h hm hi hc
    exact ⟨a, b⟩
theorem next_wri {p : Pa} (hp : p.Ok) {st : Dm.St} {M : Ms} (h : Live p st M) {o f : Int} {d : List UInt8} {ops : List Op} (ho : WriOps p M o f d ops) : Next p st ops (wriM p M o f d) := by
  unfold wriM
  rcases ho with ⟨h1, rfl⟩ | ⟨h1, rfl⟩
  · rw [if_neg h1]; exact Next.none h
  · rw [if_pos h1]
    obtain ⟨a, b, c⟩ := wriE_zero h1
    obtain ⟨hi, hf, h0, hT⟩ := findE_zero a
    obtain ⟨f0, n0, hn⟩ := inCh_iff.1 c
    obtain ⟨x, y⟩ := live_wri hp h (i := findP M o) (k := f.toNat) (d := d) hT h0 b (by omega)
    exact ⟨x, y⟩
theorem next_spo {p : Pa} (hp : p.Ok) {st : Dm.St} {M : Ms} (h : Live p st M) : Next p st (spoOps p) M.spoil := by
  obtain ⟨a, b, _⟩ := live_spo hp h
  exact ⟨a, b⟩
structure Rest (p : Pa) (st : Dm.St) (M : Ms) : Prop where
  ok : Dm.Ok st
  none : st.P = []
  fit : Fit p M
  stand : Stand p (Dm.one st) M
theorem restart_same {st : Dm.St} (hP : st.P = []) (keep : List Bool) (x : Nat) : Dm.one (Dm.restart st keep) x = Dm.one st x := by
  unfold Dm.one Dm.restart
  rw [hP]
  rfl
theorem Rest.same {p : Pa} {st : Dm.St} {M M' : Ms} (h : Rest p st M) (keep : List Bool) (hi : M.inv = true → M'.inv = true) : Outcome p (Dm.one (Dm.restart st keep)) M M' := by
  have e : Dm.one (Dm.restart st keep) = Dm.one st := funext (restart_same h.none keep)
  rw [e]
  exact Outcome.same h.stand h.fit hi
theorem fails_add {p : Pa} (hp : p.Ok) {st : Dm.St} {M : Ms} (h : Rest p st M) {l : List (Int × List UInt8)} {ops : List Op} (ho : AddOps p M l ops) (keep : List Bool) : Outcome p (Dm.one (Dm.restart (runs st ops).1 keep)) M (addM p M l) := by
  rcases ho with ⟨h1, rfl⟩ | ⟨h1, _, cs, hc, rfl⟩
  · exact h.same keep fun hv => by unfold addM; split <;> exact hv
  · unfold addM
    rw [if_pos h1]
    obtain ⟨hi, ha, hl⟩ := addE_zero h.fit.tok h1
    exact crash_add hp h.ok h.none h.fit h.stand ha hl hi hc keep
theorem fails_rem {p : Pa} (hp : p.Ok) {st : Dm.St} {M : Ms} (h : Rest p st M) {l : List Int} {ops : List Op} (ho : RemOps p M l ops) (keep : List Bool) : Outcome p (Dm.one (Dm.restart (runs st ops).1 keep)) M (remM M l) := by
  rcases ho with ⟨h1, rfl⟩ | ⟨h1, _, cs, hc, rfl⟩
  · exact h.same keep fun hv => by unfold remM; split <;> exact hv
  · unfold remM
    rw [if_pos h1]
    obtain ⟨hi, hm⟩ := remE_zero h1
    exact crash_rem hp h.ok h.none h.fit h.stand hm hi hc keep
theorem fails_wri {p : Pa} (hp : p.Ok) {st : Dm.St} {M : Ms} (h : Rest p st M) {o f : Int} {d : List UInt8} {ops : List Op} (ho : WriOps p M o f d ops) (keep : List Bool) : Outcome p (Dm.one (Dm.restart (runs st ops).1 keep)) M (wriM p M o f d) := by
  rcases ho with ⟨h1, rfl⟩ | ⟨h1, rfl⟩
  · exact h.same keep fun hv => by unfold wriM; split <;> exact hv
  · unfold wriM
    rw [if_pos h1]
    obtain ⟨a, b, c⟩ := wriE_zero h1
    obtain ⟨hi, hf, h0, hT⟩ := findE_zero a
    obtain ⟨f0, n0, hn⟩ := inCh_iff.1 c
    exact crash_wri hp h.ok h.none h.fit h.stand hT h0 b (by omega) hi keep
theorem fails_spo {p : Pa} (hp : p.Ok) {st : Dm.St} {M : Ms} (h : Rest p st M) (keep : List Bool) : Outcome p (Dm.one (Dm.restart (runs st (spoOps p)).1 keep)) M M.spoil := crash_spo hp h.ok h.none h.fit h.stand keep
theorem Outcome.opened {p : Pa} (hp : p.Ok) {f : Nat → List UInt8} {M M' : Ms} (h : Outcome p f M M') : openE p f = 0 ∧ ((openI f p = true ∧ openT p f = [] ∧ M'.inv = true) ∨ (openI f p = false ∧ M.inv = false ∧ Mix p f M M' (openT p f))) := by
  rcases h with ⟨h1, h2⟩ | ⟨h1, T, hm⟩
  · obtain ⟨a, b, c⟩ := open_inv hp h2
    exact ⟨a, .inl ⟨b, c, h1⟩⟩
  · obtain ⟨a, b, c⟩ := open_mix hp hm
    exact ⟨a, .inr ⟨b, h1, by rw [c]; exact hm⟩⟩
end So
end Go.Proofs.YtbmabcddciibfaaGreat
namespace Go.Proofs.YtbmabcddciibfaaGreat
namespace So
open Go.RowKit
set_option maxRecDepth 100000
set_option linter.unusedVariables false
theorem sinv_any {w : World} {b : Bk} {p : Pa} {inv : Bool} {st : Dm.St} {m : List Int} (h : Sk w b p inv st m) : Calls Tryz.prog 14 #[.pointer (some ⟨b.q, 0, none⟩)] w fun e w' => e = .returned (.bool inv) ∧ w = w' := by
  obtain ⟨-, -, -, -, -, -, -, -, -, c9, -, cf⟩ := h.reads
  clear h
  go_enter Tryz.func14, Tryz.ntmps14
  go_wp2
  go_ret
  exact ⟨rfl, rfl⟩
theorem shas_any {w : World} {b : Bk} {p : Pa} {inv : Bool} {st : Dm.St} {m : List Int} (h : Sk w b p inv st m) (k : Int) (hk : (Lit.int .i64 k).wf = true) : Calls Tryz.prog 26 #[.pointer (some ⟨b.q, 0, none⟩), .int .i64 k] w fun e w' => e = .returned (.bool (Tb.find m k).isSome) ∧ w = w' := by
  obtain ⟨-, -, -, -, -, -, -, -, -, -, c10, cf⟩ := h.reads
  have FI := Lib.hid (Tb.find_any h.tm k hk)
  clear h
  go_enter Tryz.func26, Tryz.ntmps26
  go_wp2_with fail
  refine FI.out.mono ?_
  rintro e w1 ⟨rfl, rfl⟩
  go_wp2
  go_ret
  exact ⟨rfl, rfl⟩
theorem sleft_any {w : World} {b : Bk} {p : Pa} {inv : Bool} {st : Dm.St} {m : List Int} (h : Sk w b p inv st m) : Calls Tryz.prog 25 #[.pointer (some ⟨b.q, 0, none⟩)] w fun e w' => e = .returned (.int .i64 ((free m : Nat) : Int)) ∧ Below w.heap.size w w' := by
  obtain ⟨-, -, -, -, -, -, -, -, -, -, c10, cf⟩ := h.reads
  have FI := Tb.left_any h.tm
  rw [show m.length - (Tb.used m).length = free m from rfl] at FI
  have FI := Lib.hid FI
  clear h
  go_enter Tryz.func25, Tryz.ntmps25
  go_wp2_with fail
  refine FI.out.mono ?_
  rintro e w1 ⟨rfl, hb⟩
  go_wp2
  go_ret
  exact ⟨rfl, hb⟩
theorem sall_any {w : World} {b : Bk} {p : Pa} {inv : Bool} {st : Dm.St} {m : List Int} (h : Sk w b p inv st m) : Calls Tryz.prog 27 #[.pointer (some ⟨b.q, 0, none⟩)] w (Tb.MadeE (Tb.all m) w) := by
  obtain ⟨-, -, -, -, -, -, -, -, -, -, c10, cf⟩ := h.reads
  have FI := Lib.hid (Tb.all_any h.tm)
  clear h
  go_enter Tryz.func27, Tryz.ntmps27
  go_wp2_with fail
  refine FI.out.mono ?_
  rintro e w1 ⟨v, rfl, hv, hn, hb⟩
  go_wp2
  go_ret
  exact ⟨v, rfl, hv, hn, hb⟩
def FindIs (p : Pa) (inv : Bool) (m : List Int) (o : Int) (w : World) (e : Ending) (w' : World) : Prop :=
  Below w.heap.size w w' ∧ ((inv = true ∧ e = .returned (.tuple #[.agg #[.int .i64 0, .int .i64 0], .int .i64 162])) ∨ (inv = false ∧ Tb.find m o = none ∧ e = .returned (.tuple #[.agg #[.int .i64 0, .int .i64 0], .int .i64 161])) ∨
    (inv = false ∧ ∃ i, Tb.find m o = some i ∧ e = .returned (.tuple #[.agg #[.int .i64 (p.data i : Int), .int .i64 (p.g : Int)], .int .i64 0])))
theorem ext_made (w W0 : World) (h : w.alloc (.cells #[.int .i64 0, .int .i64 0] 25) = W0) : Below w.heap.size w W0 ∧ W0.heap[w.heap.size]? = some (.cells #[.int .i64 0, .int .i64 0] 25 (0, 0)) ∧ W0.heap.size = w.heap.size + 1 := by
  subst h
  exact ⟨(Below.refl _ _).alloc (Nat.le_refl _) _, heap_alloc_new w _, by simp⟩
set_option maxHeartbeats 1000000 in
theorem sfind_any {w : World} {b : Bk} {p : Pa} {inv : Bool} {st : Dm.St} {m : List Int} (h : Sk w b p inv st m) (hp : p.Ok) (hm : inv = false → m.length = p.N) (o : Int) (hk : (Lit.int .i64 o).wf = true) :
    Calls Tryz.prog 52 #[.pointer (some ⟨b.q, 0, none⟩), .int .i64 o] w (FindIs p inv m o w) := by
  obtain ⟨W0, hW0⟩ : ∃ W0, w.alloc (.cells #[.int .i64 0, .int .i64 0] 25) = W0 := ⟨_, rfl⟩
  obtain ⟨hB, hz, hsz⟩ := ext_made w W0 hW0
  have h0 := h.below hB
  have IV := Lib.hid (sinv_any h0)
  have FI := Lib.hid (Tb.find_any h0.tm o hk)
  obtain ⟨c0, c1, c2, -, c4, c5, -, -, -, -, c10, cf⟩ := h0.reads
  obtain ⟨z0, z1, zf⟩ := duo_cells hz
  have Z := Lib.hid hz
  have HB := Lib.hid hB
  have hSK := Lib.hid h0
  cases inv with
  | true =>
    clear h h0 hB hz hsz hm hp hk
    go_enter Tryz.func52, Tryz.ntmps52
    go_wp2_with fail
    clear hW0
    refine IV.out.mono ?_
    rintro e w1 ⟨rfl, rfl⟩
    go_wp2_with fail
    refine bodyPost_ret (results_ext (p := 4) (u := 5) rfl _ _ w.heap.size _ _ _ rfl rfl (duo_set Z.out _ _)) rfl ⟨?_, .inl ⟨rfl, rfl⟩⟩
    exact below_duo HB.out (Nat.le_refl _) _ _
  | false =>
    cases hf : Tb.find m o with
    | none =>
      rw [hf] at FI
      have HF := Lib.hid hf
      clear h h0 hB hz hsz hm hp hk hf
      go_enter Tryz.func52, Tryz.ntmps52
      go_wp2_with fail
      clear hW0
      refine IV.out.mono ?_
      rintro e w1 ⟨rfl, rfl⟩
      go_wp2_with fail
      refine FI.out.mono ?_
      rintro e w2 ⟨rfl, rfl⟩
      go_wp2_with fail
      refine bodyPost_ret (results_ext (p := 4) (u := 5) rfl _ _ w.heap.size _ _ _ rfl rfl (duo_set Z.out _ _)) rfl ⟨?_, .inr (.inl ⟨rfl, HF.out, rfl⟩)⟩
      exact below_duo HB.out (Nat.le_refl _) _ _
    | some i =>
      rw [hf] at FI
      have hi : i < p.N := by have := Tb.find_lt hf; rw [hm rfl] at this; exact this
      have CH := Lib.hid (fun w1 => schunk_ok hp hi w1)
      have HF := Lib.hid hf
      have SZ := Lib.hid hsz
      have NE : Hid (b.q ≠ w.heap.size) := Lib.hid (by have := h.lt b.q (.inl rfl); omega)
      clear h h0 hB hz hsz hm hp hk hf hi
      go_enter Tryz.func52, Tryz.ntmps52
      go_wp2_with fail
      clear hW0
      refine IV.out.mono ?_
      rintro e w1 ⟨rfl, rfl⟩
      go_wp2_with fail
      refine FI.out.mono ?_
      rintro e w2 ⟨rfl, rfl⟩
      go_wp2_with fail
      go_region_held3 (fun w' => w'.cell? ⟨b.q, 0, none⟩ = some (.int .i64 (p.a : Int)) ∧ w'.cell? ⟨b.q, 1, none⟩ = some (.int .i64 (p.n : Int)) ∧ w'.cell? ⟨b.q, 2, none⟩ = some (.int .i64 (p.g : Int)) ∧ w'.cell? ⟨b.q, 4, none⟩ = some (.int .i64 (p.st : Int)) ∧ w'.cell? ⟨b.q, 5, none⟩ = some (.int .i64 (p.ln : Int)))
        (first | (refine ⟨?_, ?_, ?_, ?_, ?_⟩ <;> assumption) | (refine ⟨?_, ?_, ?_, ?_, ?_⟩ <;> (rw [two_other NE.out]; assumption)))
        (first
          | (go_at_call 95; refine (CH.out _).mono ?_; rintro e w3 ⟨rfl, hb⟩; have B3 := Lib.hid (drew_below hb); have k3 := hSK.out.below B3.out; obtain ⟨q0, q1, q2, -, q4, q5, -, -, -, -, q10, qf⟩ := k3.reads; have hz3 := (B3.out.block w.heap.size (by rw [SZ.out]; omega)).trans Z.out; obtain ⟨y0, y1, yf⟩ := duo_cells hz3; have Z3 := Lib.hid hz3; clear k3 hb hz3))
      go_wp2_with fail
      refine bodyPost_ret (results_ext (p := 4) (u := 5) rfl _ _ w.heap.size _ _ _ rfl rfl (duo_set Z3.out _ _)) rfl ⟨?_, .inr (.inr ⟨rfl, i, HF.out, rfl⟩)⟩
      exact below_duo (HB.out.trans (B3.out.mono HB.out.size)) (Nat.le_refl _) _ _
theorem spages_any {w : World} {b : Bk} {p : Pa} {inv : Bool} {st : Dm.St} {m : List Int} (h : Sk w b p inv st m) (hp : p.Ok) : Calls Tryz.prog 90 #[.pointer (some ⟨b.q, 0, none⟩)] w fun e w' => e = .returned (.int .i64 (p.pg : Int)) ∧ Below w.heap.size w w' := by
  have HSK := Lib.hid h
  have HP := Lib.hid hp
  have hpg : p.pg ≤ 1048576 := by have := hp.nums.N1; unfold Pa.pg Tb.pagesN; omega
  obtain ⟨n, hn⟩ : ∃ n, n = p.pg := ⟨_, rfl⟩
  rw [← hn] at hpg ⊢
  have HN := Lib.hid hn
  clear h hp hn
  go_enter Tryz.func90, Tryz.ntmps90
  go_wp2
  go_loopw [3] (fun v wr => ∃ k : Nat, v = .int .i64 (k : Int) ∧ k ≤ n ∧ Hid (Below w.heap.size w wr)) (fun v _ => n + 1 - (Lib.intOf v).toNat)
  case atStart => exact ⟨0, rfl, Nat.zero_le _, Lib.hid (Below.refl _ _)⟩
  case round =>
    obtain ⟨k, rfl, hk, hb⟩ := hrel
    have h1 := HSK.out.below hb.out
    obtain ⟨c0, c1, c2, -, c4, c5, -, -, -, -, -, cf⟩ := h1.reads
    have hw1 : IntKind.i64.wrap ((k : Int) + 1) = ((k + 1 : Nat) : Int) := by rw [IntWalk.i64_in _ (by omega)]; rfl
    clear h1
    by_cases hlt : k < n
    · have PG := Lib.hid (fun w1 => spage_ok HP.out (i := k) (by have := HN.out; omega) w1)
      go_wp2_with fail
      go_region_held3 (fun w' => w'.cell? ⟨b.q, 0, none⟩ = some (.int .i64 (p.a : Int)) ∧ w'.cell? ⟨b.q, 1, none⟩ = some (.int .i64 (p.n : Int)) ∧ w'.cell? ⟨b.q, 2, none⟩ = some (.int .i64 (p.g : Int)) ∧ w'.cell? ⟨b.q, 4, none⟩ = some (.int .i64 (p.st : Int)) ∧ w'.cell? ⟨b.q, 5, none⟩ = some (.int .i64 (p.ln : Int)))
        (first | (refine ⟨?_, ?_, ?_, ?_, ?_⟩ <;> assumption) | go_keep)
        (first
          | (go_at_call 124; refine (PG.out _).mono ?_; rintro e w1 ⟨rfl, hb1⟩; have B1 := Lib.hid (hb.out.trans ((drew_below hb1).mono hb.out.size)); have k1 := HSK.out.below B1.out; obtain ⟨q0, q1, q2, -, q4, q5, -, -, -, -, q10, qf⟩ := k1.reads; clear k1 hb1))
      go_wp2_with fail
      go_roundw
      case rel => exact ⟨k + 1, rfl, by omega, B1⟩
      case measure => simp [Lib.intOf]; omega
    · obtain rfl : k = n := by omega
      have PG := Lib.hid (fun w1 => spage_no HP.out (i := k) (by have := HN.out; omega) w1)
      go_wp2_with fail
      go_region_held3 (fun w' => w'.cell? ⟨b.q, 0, none⟩ = some (.int .i64 (p.a : Int)) ∧ w'.cell? ⟨b.q, 1, none⟩ = some (.int .i64 (p.n : Int)) ∧ w'.cell? ⟨b.q, 2, none⟩ = some (.int .i64 (p.g : Int)) ∧ w'.cell? ⟨b.q, 4, none⟩ = some (.int .i64 (p.st : Int)) ∧ w'.cell? ⟨b.q, 5, none⟩ = some (.int .i64 (p.ln : Int)))
        (first | (refine ⟨?_, ?_, ?_, ?_, ?_⟩ <;> assumption) | go_keep)
        (first
          | (go_at_call 124; refine (PG.out _).mono ?_; rintro e w1 ⟨rfl, hb1⟩; have B1 := Lib.hid (hb.out.trans ((drew_below hb1).mono hb.out.size)); have k1 := HSK.out.below B1.out; obtain ⟨q0, q1, q2, -, q4, q5, -, -, -, -, q10, qf⟩ := k1.reads; clear k1 hb1))
      go_wp2_with fail
      go_ret
      exact ⟨rfl, B1.out⟩
end So
end Go.Proofs.YtbmabcddciibfaaGreat
namespace Go.Proofs.YtbmabcddciibfaaGreat
namespace So
open Go.Shelf Go.RowKit Go.Maps Go.Sort
set_option linter.unusedVariables false
set_option maxRecDepth 100000
def lay_comp_ren : Go.Shelf.Ren := ⟨fun | 20 => 133 | n => n, fun | 0 => 0 | 3 => 3 | 4 => 4 | 22 => 31 | n => n, fun | n => n⟩
theorem lay_comp : Lays2.n20 Tryz.prog lay_comp_ren := {
  mixed := by kernel_rfl
  f20 := Tryz.func133.trans (congrArg some (by kernel_rfl))
  t0 := Tryz.underlying0
  a0 := Tryz.isAgg0
  z0 := Tryz.sizeOf0
  v0 := Tryz.zeroValue0
  t3 := Tryz.underlying3
  a3 := Tryz.isAgg3
  z3 := Tryz.sizeOf3
  v3 := Tryz.zeroValue3
  t4 := Tryz.underlying4
  a4 := Tryz.isAgg4
  z4 := Tryz.sizeOf4
  v4 := Tryz.zeroValue4
  t22 := Tryz.underlying31
  a22 := Tryz.isAgg31
  z22 := Tryz.sizeOf31
  v22 := Tryz.zeroValue31
  i3 := by kernel_rfl }
def sorted (l : List Int) : List Int := l.mergeSort fun x y => decide (x ≤ y)
theorem sorted_length (l : List Int) : (sorted l).length = l.length := (List.mergeSort_perm _ _).length_eq
theorem sorted_mem (l : List Int) (x : Int) : x ∈ sorted l ↔ x ∈ l := (List.mergeSort_perm _ _).mem_iff
theorem sorted_pair (l : List Int) : (sorted l).Pairwise (fun x y => x ≤ y) := by
  have := List.pairwise_mergeSort (le := fun (x y : Int) => decide (x ≤ y)) (by intro a b c; simp; omega) (by intro a b; simp; omega) l
  exact this.imp fun h => by simpa using h
theorem isort_any {w : World} {v : Value} {l : List Int} (h : Tb.Ints w v l) (hl : l.length ≤ 1099511627776) : Calls Tryz.prog 134 #[v] w fun e w' => e = .returned (.tuple #[]) ∧ Tb.Ints w' v (sorted l) ∧ Dsk.Fr (fun k => v.ownBlock = some k) w w' := by
  rcases h.2 with ⟨rfl, hz⟩ | ⟨g, cap, cur, rfl, hg, hh, r1, r2, r3, r4⟩
  · have hl0 : l = [] := List.eq_nil_of_length_eq_zero hz
    subst hl0
    refine (AnyM.slices_Sort_int_none Tb.lay_isort none 0 w).mono ?_
    rintro e w' ⟨he, rfl⟩
    exact ⟨he, by rw [show sorted [] = [] from by simp [sorted]]; exact World.ownsRow_nil _ _ _ _, Dsk.Fr.refl _ _⟩
  · have hH : Holds (Value.int .i64) w g 0 l.toArray := holds_of_block_i hh (by simpa using r4)
    refine (AnyM.slices_Sort_int Tb.lay_isort g 0 cap l w hH (Dsk.lt_of_heap hh) (by omega)).mono ?_
    rintro e w' ⟨he, n, os, rfl⟩
    refine ⟨he, ?_, Dsk.Fr.of_grown (grownBy_sorted_i _) fun k hk => by injection hk with hk; subst hk; rfl⟩
    have := ownsRow_sorted_i (os := os) (n := n) (ss := l) (ts := sorted l) (sorted_length l) (Nat.zero_le g) hh r1 r2 r3
    show World.ownsRow _ _ _ _ _ (sorted l).length _
    rw [sorted_length]
    exact this
theorem upto_length (d : Array Int) (m : Nat) : (Lib.compactUpTo d m).length ≤ m ∧ ((Lib.compactUpTo d m).length = m ↔ ∀ j, j < m → Lib.keeps d j = true) := by
  induction m with
  | zero => simp [Lib.compactUpTo]
  | succ m ih =>
    rw [Lib.compactUpTo_succ, List.length_append]
    cases hk : Lib.keeps d m with
    | true =>
      refine ⟨by simp; exact ih.1, ?_⟩
      constructor
      · intro h j hj
        by_cases e : j = m
        · rw [e]; exact hk
        · exact ih.2.1 (by simpa using h) j (by omega)
      · intro h
        have := ih.2.2 fun j hj => h j (by omega)
        simp [this]
    | false =>
      refine ⟨by simp; omega, ?_⟩
      constructor
      · intro h
        have := ih.1
        simp at h
        omega
      · intro h
        rw [h m (by omega)] at hk
        cases hk
theorem icomp_any {w : World} {a : Option Addr} {c : Nat} {l : List Int} (h : Tb.Ints w (.slice a l.length c) l) (hl : l.length ≤ 1099511627776) : Calls Tryz.prog 133 #[.slice a l.length c] w fun e w' => e = .returned (.slice a (Lib.compact l).length c) ∧ Tb.Rd w' a (Lib.compact l) ∧ Dsk.Fr (fun k => (Value.slice a l.length c).ownBlock = some k) w w' := by
  rcases h.2 with ⟨hv, hz⟩ | ⟨g, cap, cur, hv, hg, hh, r1, r2, r3, r4⟩
  · have hl0 : l = [] := List.eq_nil_of_length_eq_zero hz
    subst hl0
    refine (calls_of_every_depth fun D => AnyS.slices_Compact_int_empty_in lay_comp D a c w).mono ?_
    rintro e w' ⟨he, rfl⟩
    exact ⟨he, fun hn => (hn rfl).elim, Dsk.Fr.refl _ _⟩
  · injection hv with h1 h2 h3
    subst h1; subst h3
    have hH : Holds (Value.int .i64) w g 0 l.toArray := holds_of_block_i hh (by simpa using r4)
    refine (calls_of_every_depth fun D => AnyS.slices_Compact_int_in lay_comp D g 0 c l w hH (by omega) r1).mono ?_
    rintro e w' ⟨he, q, rfl⟩
    have hle := (upto_length l.toArray l.length).1
    have hz : (Lib.compact l ++ List.replicate (l.length - (Lib.compact l).length) 0).toArray.size = l.toArray.size := by
      have : (Lib.compact l).length ≤ l.length := hle
      simp
      omega
    refine ⟨he, fun _ => ⟨g, 0, rfl, ?_, fun i x hx => ?_⟩, ?_⟩
    · have := Dsk.lt_of_heap hh
      simpa using this
    · have hi : i < (Lib.compact l).length := (List.getElem?_eq_some_iff.1 hx).1
      have hj : i < (Lib.compact l ++ List.replicate (l.length - (Lib.compact l).length) 0).toArray.size := by simp; omega
      rw [cell?_putRow (Value.int .i64) (Sort.ahead w q) g 0 l.toArray _ hH hz i hj]
      have e1 : (Lib.compact l ++ List.replicate (l.length - (Lib.compact l).length) 0).toArray[i]! = x := by
        simp [List.getElem?_append_left hi, hx]
      rw [e1]
    · have hG := grownBy_sorted_i (w := w) (g := g) (n := q) (os := #[]) (Lib.compact l ++ List.replicate (l.length - (Lib.compact l).length) 0).toArray
      rw [grow_empty] at hG
      exact Dsk.Fr.of_grown hG fun k hk => by injection hk with hk; subst hk; rfl
theorem compact_mem (l : List Int) (x : Int) : x ∈ Lib.compact l ↔ x ∈ l := by
  have key : ∀ m, m ≤ l.length → (x ∈ Lib.compactUpTo l.toArray m ↔ ∃ j, j < m ∧ l[j]? = some x) := by
    intro m
    induction m with
    | zero => intro _; simp [Lib.compactUpTo]
    | succ m ih =>
      intro hm
      have hget : l.toArray[m]! = l[m] := by simp [show m < l.length by omega]
      rw [Lib.compactUpTo_succ, List.mem_append, ih (by omega), hget]
      constructor
      · rintro (⟨j, hj, hx⟩ | hx)
        · exact ⟨j, by omega, hx⟩
        · split at hx
          · rw [List.mem_singleton] at hx
            exact ⟨m, by omega, by rw [List.getElem?_eq_getElem (by omega), hx]⟩
          · cases hx
      · rintro ⟨j, hj, hx⟩
        by_cases e : j = m
        · subst e
          rw [List.getElem?_eq_getElem (by omega)] at hx
          injection hx with hx
          cases hk : Lib.keeps l.toArray j with
          | true => right; simp [hx]
          | false =>
            left
            simp only [Lib.keeps, decide_eq_false_iff_not, not_or, Decidable.not_not] at hk
            obtain ⟨h0, h1⟩ := hk
            refine ⟨j - 1, by omega, ?_⟩
            rw [hget] at h1
            have : l.toArray[j - 1]! = l[j - 1]'(by omega) := by simp [show j - 1 < l.length by omega]
            rw [this] at h1
            rw [List.getElem?_eq_getElem (by omega), ← h1, hx]
        · exact .inl ⟨j, by omega, hx⟩
  unfold Lib.compact
  rw [key l.length (Nat.le_refl _)]
  constructor
  · rintro ⟨j, _, hx⟩; exact List.mem_of_getElem? hx
  · intro hx
    obtain ⟨j, hj⟩ := List.getElem?_of_mem hx
    exact ⟨j, (List.getElem?_eq_some_iff.1 hj).1, hj⟩
theorem compact_length_le (l : List Int) : (Lib.compact l).length ≤ l.length := (upto_length _ _).1
theorem compact_full {l : List Int} (hs : l.Pairwise (fun x y => x ≤ y)) : (Lib.compact l).length = l.length ↔ l.Nodup := by
  unfold Lib.compact
  rw [(upto_length _ _).2]
  have hget : ∀ j (h : j < l.length), l.toArray[j]! = l[j] := fun j h => by simp [h]
  rw [List.pairwise_iff_getElem] at hs
  constructor
  · intro h
    have step : ∀ j (h2 : j + 1 < l.length), l[j] < l[j + 1] := fun j h2 => by
      have h1 := h (j + 1) h2
      simp only [Lib.keeps, decide_eq_true_eq] at h1
      rcases h1 with h1 | h1
      · omega
      · rw [hget _ h2, show j + 1 - 1 = j by omega, hget j (by omega)] at h1
        have := hs j (j + 1) (by omega) h2 (by omega)
        omega
    have far : ∀ d j (h2 : j + 1 + d < l.length), l[j]'(by omega) < l[j + 1 + d] := by
      intro d
      induction d with
      | zero => intro j h2; exact step j h2
      | succ d ih =>
        intro j h2
        have h3 := ih j (by omega)
        have h4 := step (j + 1 + d) (by omega)
        exact Int.lt_trans h3 h4
    rw [List.nodup_iff_pairwise_ne, List.pairwise_iff_getElem]
    intro i j hi hj hij
    have := far (j - i - 1) i (by omega)
    have e : i + 1 + (j - i - 1) = j := by omega
    simp only [e] at this
    omega
  · intro h j hj
    simp only [Lib.keeps, decide_eq_true_eq]
    by_cases h0 : j = 0
    · exact .inl h0
    · right
      rw [hget _ hj, hget (j - 1) (by omega)]
      rw [List.nodup_iff_pairwise_ne, List.pairwise_iff_getElem] at h
      have := h (j - 1) j (by omega) hj (by omega)
      exact fun e => this e.symm
end So
end Go.Proofs.YtbmabcddciibfaaGreat
namespace Go.Proofs.YtbmabcddciibfaaGreat
namespace Geo
open Go.RowKit Go.Shelf
set_option linter.unusedVariables false
attribute [local go_sem] Oper.semAt_some
def ownAt (p : Nat) (w : World) : Option Nat := (w.cell? ⟨p, 0, none⟩).bind Value.ownBlock
structure Kp (p : Nat) (a b : World) : Prop where
  size : a.heap.size ≤ b.heap.size
  same : ∀ (k : Nat) (o : Obj), a.heap[k]? = some o → o.isCells = true → k ≠ p → ownAt p a ≠ some k → b.heap[k]? = some o
  row : ∀ r, ownAt p b = some r → ownAt p a = some r ∨ a.heap.size ≤ r
  high : (∀ r, ownAt p a = some r → r < a.heap.size) → ∀ r, ownAt p b = some r → r < b.heap.size
theorem Kp.trans {p : Nat} {a b c : World} (h : Kp p a b) (k : Kp p b c) : Kp p a c := by
  refine ⟨Nat.le_trans h.size k.size, fun i o hi hc hp ho => ?_, fun r hr => ?_, fun H r hr => k.high (h.high H) r hr⟩
  · refine k.same i o (h.same i o hi hc hp ho) hc hp fun e => ?_
    rcases h.row i e with e' | e'
    · exact ho e'
    · have := (Array.getElem?_eq_some_iff.1 hi).1; omega
  · rcases k.row r hr with e | e
    · exact h.row r e
    · exact .inr (Nat.le_trans h.size e)
theorem ownAt_same {p : Nat} {a b : World} (h : b.heap[p]? = a.heap[p]?) : ownAt p b = ownAt p a := by unfold ownAt; rw [World.cell?_of_block (a := ⟨p, 0, none⟩) h]
theorem Kp.grown {p : Nat} {a b : World} {row : Option Nat} (h : a.grownBy b row) (hp : p < a.heap.size) (hr : ∀ r, row = some r → r ≠ p ∧ ∀ o, a.heap[r]? = some o → o.isCells = false) : Kp p a b := by
  have hs : ownAt p b = ownAt p a := ownAt_same (h.block p hp fun e => (hr p e.symm).1 rfl)
  refine ⟨h.size, fun k o hk hc hkp ho => ?_, fun r e => .inl (hs ▸ e), fun H r e => Nat.lt_of_lt_of_le (H r (hs ▸ e)) h.size⟩
  refine (h.block k (Array.getElem?_eq_some_iff.1 hk).1 fun e => ?_).trans hk
  rw [(hr k e.symm).2 o hk] at hc
  cases hc
theorem wpListIn_append_home {F : Fence} {n : Nat} {P : Program} (w : World) {ops : Array Oper} {rest : List Oper} {o : Oper} {a : Act} {Q : Exit → Act → World → Prop}
    (hg : o.guard = none) (s x : Operand) (t : TypeId) (hop : o.op = Op.call { callee := Callee.builtin Builtin.append, args := #[s, x], argTypes := #[t, t] })
    (e : TypeId) (i : TypeInfo) (z : Value) (size bytes : Nat) (h1 : P.underlying t = some (.slice e)) (h2 : P.info? e = some i) (h3 : i.zero = some z) (h4 : i.size = size) (h5 : i.bytes = bytes) (h6 : z.cells.size = size) (h7 : 0 < size)
    (v : Value) (k : Nat) (xs : List Value) (hs : a.eval s = v) (hown : w.ownsRow 0 e size v k xs) (ad : Addr) (m c : Nat) (news : List Value) (hx : a.eval x = .slice (some ad) m c) (hn : news.length = m * size)
    (hc : ∀ j u, news[j]? = some u → w.cell? (ad.add j) = some u) (h1c : ∀ u ∈ news, u.oneCell' = true) (b1 : k + m ≤ maxLen) (b2 : (k + m) * bytes ≤ 140737488355328)
    (hK : ∀ v' w', w'.ownsRow 0 e size v' (k + m) (xs ++ news) → w.grownBy w' v.ownBlock → (v'.ownBlock = v.ownBlock ∨ v'.ownBlock = some w.heap.size) → wpListIn F n P ops Q rest (a.put o.dst v') w') :
    wpListIn F n P ops Q (o :: rest) a w := by
  refine wpListIn_plain hg fun K hK' => ?_
  obtain ⟨v', w', hrun, r1, r2, r3⟩ := Dsk.run_append_home (P := P) w t o.type e i z size bytes h1 h2 h3 h4 h5 h6 h7 v k xs hown ad m c news hn hc h1c b1 b2
  unfold Oper.wpIn
  refine ⟨?_, ?_⟩
  · simp [Oper.about, hop, resolve, Target.leads, Sem.run_pure]
  · rw [Oper.semAt_plain F _ _ (by rw [hop]; intro c hc'; cases hc')]
    simp [execOp, hop, resolve, invoke, builtin, hs, hx, hrun, Result.andThen]
    exact hK' _ _ (hK v' w' r1 r2 r3)
theorem own_zero {w : World} {base : Nat} {e : TypeId} {size : Nat} {v : Value} {n : Nat} {xs : List Value} (h : w.ownsRow base e size v n xs) : w.ownsRow 0 e size v n xs := by
  refine ⟨h.1, ?_⟩
  rcases h.2 with h2 | ⟨g, cap, cur, hv, hg, r⟩
  · exact .inl h2
  · exact .inr ⟨g, cap, cur, hv, Nat.zero_le _, r⟩
theorem own_from {w : World} {base : Nat} {e : TypeId} {size : Nat} {v : Value} {n : Nat} {xs : List Value} (h : w.ownsRow 0 e size v n xs) (hb : ∀ r, v.ownBlock = some r → base ≤ r) : w.ownsRow base e size v n xs := by
  refine ⟨h.1, ?_⟩
  rcases h.2 with h2 | ⟨g, cap, cur, hv, hg, r⟩
  · exact .inl h2
  · exact .inr ⟨g, cap, cur, hv, hb g (by rw [hv]; rfl), r⟩
theorem own_ge {w : World} {base : Nat} {e : TypeId} {size : Nat} {v : Value} {n : Nat} {xs : List Value} (h : w.ownsRow base e size v n xs) (r : Nat) (hr : v.ownBlock = some r) : base ≤ r ∧ ∃ cur, w.heap[r]? = some (.cells cur e (0, 0)) := by
  rcases h.2 with ⟨rfl, _⟩ | ⟨g, cap, cur, rfl, hg, hh, _⟩
  · simp [Value.ownBlock] at hr
  · simp [Value.ownBlock] at hr
    subst hr
    exact ⟨hg, cur, hh⟩
theorem appended_all {W w1 : World} {n₀ B : Nat} {t e : TypeId} {size : Nat} {v v' : Value} {k m : Nat} {xs ys : List Value} {tmp : Obj}
    (hv : Boxed W B t v) (hte : t ≠ e) (hrow : W.ownsRow n₀ e size v k xs) (hn₀ : n₀ ≤ W.heap.size) (hB : n₀ ≤ B)
    (hown' : w1.ownsRow 0 e size v' m ys) (hgrow : (W.alloc tmp).grownBy w1 v.ownBlock) (hat : v'.ownBlock = v.ownBlock ∨ v'.ownBlock = some (W.heap.size + 1)) :
    Boxed w1 B t v ∧ Boxed (w1.setCell ⟨B, 0, none⟩ v') B t v' ∧ (w1.setCell ⟨B, 0, none⟩ v').ownsRow n₀ e size v' m ys ∧ KeepsOthers W (w1.setCell ⟨B, 0, none⟩ v') ∧ Below n₀ W (w1.setCell ⟨B, 0, none⟩ v') ∧ Kp B W (w1.setCell ⟨B, 0, none⟩ v') := by
  have ho : w1.ownsRow n₀ e size v' m ys := own_from hown' fun r hr => by
    rcases hat with h | h
    · rw [h] at hr; exact (own_ge hrow r hr).1
    · rw [h] at hr; cases hr; omega
  obtain ⟨a1, a2, a3, a4, a5⟩ := hv.appended hte hrow hn₀ hB ho hgrow
  have o1 : ownAt B W = v.ownBlock := by unfold ownAt; rw [hv.cell]; rfl
  have o2 : ownAt B (w1.setCell ⟨B, 0, none⟩ v') = v'.ownBlock := by unfold ownAt; rw [a2.cell]; rfl
  have hsz := hgrow.size
  have hz : (W.alloc tmp).heap.size = W.heap.size + 1 := by simp
  have hz2 : (w1.setCell ⟨B, 0, none⟩ v').heap.size = w1.heap.size := by simp [World.setCell]
  refine ⟨a1, a2, a3, a4, a5, ⟨by omega, fun k o hk hc hp hr => ?_, fun r hr => ?_, fun _ r hr => ?_⟩⟩
  · rw [o1] at hr
    have hlt := (Array.getElem?_eq_some_iff.1 hk).1
    rw [Below.heap_setCell _ _ _ _ hp, hgrow.block k (by omega) (fun e => hr e.symm), Below.heap_alloc _ _ _ hlt]
    exact hk
  · rw [o2] at hr
    rw [o1]
    rcases hat with h | h
    · exact .inl (h ▸ hr)
    · rw [h] at hr; cases hr; exact .inr (by omega)
  · rw [o2] at hr
    obtain ⟨_, cur, hcur⟩ := own_ge hown' r hr
    rw [hz2]
    exact (Array.getElem?_eq_some_iff.1 hcur).1
end Geo
end Go.Proofs.YtbmabcddciibfaaGreat
