/- The iterator that cuts sectors into pieces: its contract. -/
import Derived.Test.YtkjlcjiegoillaaGeomSpan
import Derived.RangeFuncNested
import Derived.RangeFuncBound
import Derived.RangeFuncCalls
import Derived.RangeFuncLeaves
import Derived.Shelf.Abstract
import Derived.Shelf.RegionOpen
import Derived.OwnWalkIn
import Derived.TacticsInMore
import Derived.LoopNIn
import Derived.LoopIn
import Derived.Maps.AppendAt
import Derived.RegionIn
import Derived.BigRegionIn
import Derived.Deep.AppendLies
namespace Go.Proofs.Ytkjlcjiegoillaa
namespace Geo
open Go.RowKit Go.Shelf
set_option linter.unusedVariables false
attribute [local go_sem] Oper.semAt_some

/-- The row that the variable in block p holds. -/
def ownAt (p : Nat) (w : World) : Option Nat := (w.cell? ⟨p, 0, none⟩).bind Value.ownBlock
/-- What a round keeps: all cells but the variable's and its row's. -/
structure Kp (p : Nat) (a b : World) : Prop where
  size : a.heap.size ≤ b.heap.size
  same : ∀ (k : Nat) (o : Obj), a.heap[k]? = some o → o.isCells = true → k ≠ p → ownAt p a ≠ some k → b.heap[k]? = some o
  row : ∀ r, ownAt p b = some r → ownAt p a = some r ∨ a.heap.size ≤ r
  high : (∀ r, ownAt p a = some r → r < a.heap.size) → ∀ r, ownAt p b = some r → r < b.heap.size
theorem Kp.trans {p : Nat} {a b c : World} (h : Kp p a b) (k : Kp p b c) : Kp p a c := by
  refine ⟨Nat.le_trans h.size k.size, fun i o hi hc hp ho => ?_, fun r hr => ?_, fun H r hr => k.high (h.high H) r hr⟩
  · refine k.same i o (h.same i o hi hc hp ho) hc hp fun e => ?_
    rcases h.row i e with e' | e'
    · exact ho e'
    · have := (Array.getElem?_eq_some_iff.1 hi).1; omega
  · rcases k.row r hr with e | e
    · exact h.row r e
    · exact .inr (Nat.le_trans h.size e)
theorem ownAt_same {p : Nat} {a b : World} (h : b.heap[p]? = a.heap[p]?) : ownAt p b = ownAt p a := by unfold ownAt; rw [World.cell?_of_block (a := ⟨p, 0, none⟩) h]
theorem Kp.grown {p : Nat} {a b : World} {row : Option Nat} (h : a.grownBy b row) (hp : p < a.heap.size) (hr : ∀ r, row = some r → r ≠ p ∧ ∀ o, a.heap[r]? = some o → o.isCells = false) : Kp p a b := by
  have hs : ownAt p b = ownAt p a := ownAt_same (h.block p hp fun e => (hr p e.symm).1 rfl)
  refine ⟨h.size, fun k o hk hc hkp ho => ?_, fun r e => .inl (hs ▸ e), fun H r e => Nat.lt_of_lt_of_le (H r (hs ▸ e)) h.size⟩
  refine (h.block k (Array.getElem?_eq_some_iff.1 hk).1 fun e => ?_).trans hk
  rw [(hr k e.symm).2 o hk] at hc
  cases hc
theorem kp_b {p : Nat} {w : World} (hp : p < w.heap.size) (W : World) (l : Nat) (o o' : Obj) (hl : w.heap.size ≤ l) (h : W.heap[l]? = some o) (hc : o.isCells = false) (_ : o.isWalk = false) : Kp p W (W.putObj l o') :=
  Kp.grown (grownBy_putObj' W l o') (by have := (Array.getElem?_eq_some_iff.1 h).1; omega) fun r e => by
    cases e
    exact ⟨by omega, fun o2 h2 => by rw [h] at h2; cases h2; exact hc⟩

/-- The iterator's value: its three boxes. -/
theorem pieces_any (o c a m : Int) (w : World) : Calls Try.prog 19 #[.agg #[.int .i64 o, .int .i64 c], .int .i64 a, .int .i64 m] w fun e w' =>
    e = .returned (.func (.func 22) #[] #[.pointer (some ⟨w.heap.size + 1, 0, none⟩), .pointer (some ⟨w.heap.size + 1 + 1, 0, none⟩), .pointer (some ⟨w.heap.size, 0, none⟩)]) ∧
    w' = ((w.alloc (.cells #[.int .i64 o, .int .i64 c] 23)).alloc (.cells #[.int .i64 a] 3)).alloc (.cells #[.int .i64 m] 3) := by
  go_enter Try.func19, Try.ntmps19
  go_wp2
  go_ret
  exact ⟨rfl, rfl⟩

/-- A piece's value. -/
def encP (x : Em.Pc) : Array Value := #[.agg #[.int .i64 (x.c : Int), .int .i64 (x.f : Int), .int .i64 (x.n : Int)]]

/-- In the midst of the pieces. -/
structure IMid (J : List Em.Pc → World → Prop) (p n₁ bg : Nat) (o : Int) (c a m : Nat) (pre : List Em.Pc) (next : Nat) (w : World) : Prop where
  lo : a ≤ next
  hi : next ≤ a + m
  all : Em.split c a m = pre ++ Em.cut c (a + m - next) next (a + m)
  j : J pre w
  size : n₁ ≤ w.heap.size
  own : ∀ r, ownAt p w = some r → n₁ ≤ r ∧ r < w.heap.size
  g : w.heap[bg]? = some (.cells #[.int .i64 o, .int .i64 (c : Int)] 23 (0, 0))
theorem drew_grown (w : World) : w.grownBy w.drew none := ⟨rfl, rfl, rfl, Nat.le_refl _, fun _ _ _ => rfl⟩
theorem IMid.drew {J : List Em.Pc → World → Prop} {p n₁ bg : Nat} {o : Int} {c a m : Nat} {pre : List Em.Pc} {next : Nat} {w : World} (h : IMid J p n₁ bg o c a m pre next w) {B0 : Nat} (hJ : AbidesFrom B0 J) : IMid J p n₁ bg o c a m pre next w.drew :=
  ⟨h.lo, h.hi, h.all, hJ _ _ _ none h.j (drew_grown w) (fun r e => by cases e), h.size, h.own, h.g⟩
/-- The world in which a round is asked: one piece more lies there. -/
def laidP (w : World) (x : Em.Pc) : World := (w.alloc (.cells #[.int .i64 (x.c : Int), .int .i64 (x.f : Int), .int .i64 (x.n : Int)] 43)).drew
theorem laidP_grown (w : World) (x : Em.Pc) : w.grownBy (laidP w x) none := ⟨rfl, rfl, rfl, by show _ ≤ (w.alloc _).heap.size; simp, fun k hk _ => Below.heap_alloc _ _ _ hk⟩
theorem laidP_new (w : World) (x : Em.Pc) : (laidP w x).heap[w.heap.size]? = some (.cells #[.int .i64 (x.c : Int), .int .i64 (x.f : Int), .int .i64 (x.n : Int)] 43 (0, 0)) := heap_alloc_new _ _
theorem IMid.head {J : List Em.Pc → World → Prop} {p n₁ bg : Nat} {o : Int} {c a m : Nat} {pre : List Em.Pc} {next : Nat} {w : World} (h : IMid J p n₁ bg o c a m pre next w) (hc : 1 ≤ c) (hlt : next < a + m) :
    Em.split c a m = pre ++ ⟨next / c, next % c, min (c - next % c) (a + m - next)⟩ :: Em.cut c (a + m - (next + min (c - next % c) (a + m - next))) (next + min (c - next % c) (a + m - next)) (a + m) := by
  have hm := Nat.mod_lt next (show 0 < c by omega)
  rw [h.all]
  obtain ⟨k, hk⟩ : ∃ k, a + m - next = k + 1 := ⟨a + m - next - 1, by omega⟩
  rw [hk]
  have e : Em.cut c (k + 1) next (a + m) = ⟨next / c, next % c, min (c - next % c) (a + m - next)⟩ :: Em.cut c k (next + min (c - next % c) (a + m - next)) (a + m) := by
    rw [show Em.cut c (k + 1) next (a + m) = if next < a + m then ⟨next / c, next % c, min (c - next % c) (a + m - next)⟩ :: Em.cut c k (next + min (c - next % c) (a + m - next)) (a + m) else [] from rfl, if_pos hlt]
  rw [e, hk, Em.cut_fuel (show 0 < c by omega) k (a + m - (next + min (c - next % c) (k + 1))) _ _ (by omega) (by omega)]
theorem IMid.ask {J : List Em.Pc → World → Prop} {p n₁ bg : Nat} {o : Int} {c a m : Nat} {pre : List Em.Pc} {next : Nat} {w : World} (h : IMid J p n₁ bg o c a m pre next w) {B0 : Nat} (hJ : AbidesFrom B0 J) (hc : 1 ≤ c) (hlt : next < a + m) (x : Em.Pc) : J pre (laidP w x) ∧ pre.length < (Em.split c a m).length :=
  ⟨hJ _ _ _ none h.j (laidP_grown w x) (fun r e => by cases e), by rw [h.head hc hlt]; simp⟩
theorem IMid.step {J : List Em.Pc → World → Prop} {p n₁ bg : Nat} {o : Int} {c a m : Nat} {pre : List Em.Pc} {next : Nat} {w w3 : World} (h : IMid J p n₁ bg o c a m pre next w) (hc : 1 ≤ c) (hlt : next < a + m) (hpn : p < n₁) (hgn : bg < n₁) (hgp : bg ≠ p) (x : Em.Pc)
    (hxc : x.c = next / c) (hxf : x.f = next % c) (hxn : x.n = min (c - next % c) (a + m - next)) (hj : J (pre ++ [x]) w3) (hk : Kp p (laidP w x) w3) :
    IMid J p n₁ bg o c a m (pre ++ [x]) (next + x.n) w3 ∧ w3.heap[w.heap.size]? = some (.cells #[.int .i64 (x.c : Int), .int .i64 (x.f : Int), .int .i64 (x.n : Int)] 43 (0, 0)) := by
  have hm := Nat.mod_lt next (show 0 < c by omega)
  have hsz : w.heap.size + 1 = (laidP w x).heap.size := by show _ = (w.alloc _).heap.size; simp
  have hown : ownAt p (laidP w x) = ownAt p w := ownAt_same (Below.heap_alloc _ _ _ (by have := h.size; omega))
  refine ⟨⟨by have := h.lo; omega, by omega, ?_, hj, by have := hk.size; have := h.size; omega, ?_, ?_⟩, ?_⟩
  · rw [h.head hc hlt, hxn]
    have : x = ⟨next / c, next % c, min (c - next % c) (a + m - next)⟩ := by cases x; simp_all
    rw [← this]
    simp
  · intro r hr
    refine ⟨?_, hk.high (fun r hr => by rw [hown] at hr; have := (h.own r hr).2; omega) r hr⟩
    rcases hk.row r hr with e | e
    · rw [hown] at e; exact (h.own r e).1
    · have := h.size; omega
  · exact hk.same bg _ ((Below.heap_alloc _ _ _ (by have := h.size; omega)).trans h.g) rfl hgp fun e => by rw [hown] at e; have := (h.own bg e).1; omega
  · exact hk.same w.heap.size _ (laidP_new w x) rfl (by have := h.size; omega) fun e => by rw [hown] at e; have := (h.own _ e).2; omega
theorem IMid.stop {J : List Em.Pc → World → Prop} {p n₁ bg : Nat} {o : Int} {c a m : Nat} {pre : List Em.Pc} {next : Nat} {w : World} (h : IMid J p n₁ bg o c a m pre next w) (hlt : ¬ next < a + m) : pre = Em.split c a m := by
  have e : next = a + m := by have := h.hi; omega
  subst e
  rw [h.all, Em.cut_stop, List.append_nil]
set_option maxRecDepth 100000 in
set_option maxHeartbeats 1000000 in
theorem pieces1_in (n : Nat) (hn : 1 ≤ n) (l p n₁ ba bm bg : Nat) (c a m : Nat) (hc1 : 1 ≤ c) (hc2 : c ≤ 128) (ham : a + m ≤ 1048576) (J Jx : List Em.Pc → World → Prop) (B0 : Nat) (hJ : AbidesFrom B0 J)
    (hY : ∀ pre x W, J pre W → pre.length < (Em.split c a m).length → YieldAt Fence.wide (n - 1) Try.prog l (encP x) W fun e W' =>
      (e = .returned (.bool true) ∧ J (pre ++ [x]) W' ∧ Kp p W W') ∨ (e = .returned (.bool false) ∧ Jx (pre ++ [x]) W'))
    (W : World) (hn1 : n₁ ≤ W.heap.size) (hpn : p < n₁) (hgn : bg < n₁) (hgp : bg ≠ p) (hown : ∀ r, ownAt p W = some r → n₁ ≤ r ∧ r < W.heap.size)
    (ca : W.cell? ⟨ba, 0, none⟩ = some (.int .i64 (a : Int))) (cm : W.cell? ⟨bm, 0, none⟩ = some (.int .i64 (m : Int))) (o : Int) (cg : W.heap[bg]? = some (.cells #[.int .i64 o, .int .i64 (c : Int)] 23 (0, 0))) (h0 : J [] W) :
    CallsIn Fence.wide n Try.prog 22 #[.func (.yield l) #[] #[], .pointer (some ⟨ba, 0, none⟩), .pointer (some ⟨bm, 0, none⟩), .pointer (some ⟨bg, 0, none⟩)] W fun e W' => (∃ v, e = .returned v) ∧
      ((∃ ys, ys = Em.split c a m ∧ J ys W') ∨ (∃ pre, pre <+: Em.split c a m ∧ Jx pre W')) := by
  refine callsIn_of_wp Try.func22 rfl trivial ?_ rfl
  simp only [Try.ntmps22, List.size_toArray, List.length_cons, List.length_nil, Nat.reduceAdd, Nat.reduceSub, Array.replicate_succ, Array.replicate_zero, List.push_toArray, List.append_toArray, List.nil_append, List.cons_append]
  have H0 : Hid (IMid J p n₁ bg o c a m [] a W) := ⟨Nat.le_refl _, by omega, by rw [show a + m - a = m by omega]; rfl, h0, hn1, hown, cg⟩
  have HJ := Lib.hid hJ
  have HY := Lib.hid hY
  clear hJ hY h0 cg hown
  gi_wp2
  gi_big_region
  gi_wp2
  gi_loopw [5] (fun v wr => ∃ (pre : List Em.Pc) (next : Nat), v = .int .i64 next ∧ Hid (IMid J p n₁ bg o c a m pre next wr)) (fun v _ => a + m - (intOf v).toNat)
  case atStart => exact ⟨[], a, rfl, Lib.hid (H0.out.drew HJ.out)⟩
  case round =>
    obtain ⟨pre, next, rfl, hmid⟩ := hrel
    have hlo := hmid.out.lo
    have hhi := hmid.out.hi
    by_cases hlt : next < a + m
    · have hd : decide ((next : Int) < (a : Int) + (m : Int)) = true := by simp; omega
      obtain ⟨q, hq⟩ : ∃ q, q = next / c := ⟨_, rfl⟩
      obtain ⟨f, hf⟩ : ∃ f, f = next % c := ⟨_, rfl⟩
      have hql : q ≤ next := by rw [hq]; exact Nat.div_le_self _ _
      have hfl : f < c := by rw [hf]; exact Nat.mod_lt _ (by omega)
      have hqi : (next : Int) / (c : Int) = (q : Int) := by rw [hq]; simp
      have hfi : (next : Int) % (c : Int) = (f : Int) := by rw [hf]; simp
      have cg1 : wr.cell? ⟨bg, 1, none⟩ = some (.int .i64 (c : Int)) := by rw [cell_of_row _ _ _ _ _ _ hmid.out.g]; rfl
      have hbg : bg < wr.heap.size := Nat.lt_of_lt_of_le hgn hmid.out.size
      have cg2 : ((wr.alloc (.cells #[.int .i64 0, .int .i64 0, .int .i64 0] 43)).drew).cell? ⟨bg, 1, none⟩ = some (.int .i64 (c : Int)) := by
        rw [cell_of_row _ _ _ _ _ _ (show (wr.alloc (.cells #[.int .i64 0, .int .i64 0, .int .i64 0] 43)).drew.heap[bg]? = _ from (Below.heap_alloc _ _ _ hbg).trans hmid.out.g)]; rfl
      by_cases hmin : c - f ≤ a + m - next
      · obtain ⟨k, hk⟩ : ∃ k, k = c - f := ⟨_, rfl⟩
        have hkm : k = min (c - next % c) (a + m - next) := by rw [← hf]; omega
        have hki : (c : Int) - (f : Int) = (k : Int) := by omega
        have hmi : (k : Int) ≤ (a : Int) + (m : Int) - (next : Int) := by omega
        obtain ⟨hj2, hlen⟩ := hmid.out.ask HJ.out hc1 hlt ⟨q, f, k⟩
        have hstep := fun W3 => hmid.out.step (w3 := W3) hc1 hlt hpn hgn hgp ⟨q, f, k⟩ hq hf hkm
        have HS := Lib.hid hstep
        have HP : Hid (pre ++ [⟨q, f, k⟩] ++ Em.cut c (a + m - (next + min (c - next % c) (a + m - next))) (next + min (c - next % c) (a + m - next)) (a + m) = Em.split c a m) := by
          refine Lib.hid ?_
          rw [hmid.out.head hc1 hlt, ← hf, ← hq]
          simp [hkm, hf]
        obtain ⟨fn, tmps, assign, body, hy, hR⟩ := HY.out pre ⟨q, f, k⟩ _ hj2 hlen
        clear hstep hj2 hlen hkm hq hf hk
        unfold laidP encP at hy
        dsimp only at hy
        gi_wp2
        gi_big_region
        gi_wp2
        refine hR.mono ?_
        rintro e W3 (⟨rfl, hJ3, hk3⟩ | ⟨rfl, hJx3⟩)
        · obtain ⟨hm3, hp3⟩ := HS.out W3 hJ3 hk3
          have hn3 : W3.cell? ⟨wr.heap.size, 2, none⟩ = some (.int .i64 (k : Int)) := by rw [cell_of_row _ _ _ _ _ _ hp3]; rfl
          have HM3 := Lib.hid hm3
          clear hm3 hp3 hk3 hJ3
          gi_wp2
          go_roundw
          case rel => exact ⟨pre ++ [⟨q, f, k⟩], next + k, by go_num, HM3⟩
          case measure => simp [intOf]; omega
        · gi_wp2
          refine bodyPost_ret (results_none rfl _ _ _) rfl ?_
          exact ⟨⟨_, rfl⟩, .inr ⟨pre ++ [⟨q, f, k⟩], ⟨_, HP.out⟩, hJx3⟩⟩
      · obtain ⟨k, hk⟩ : ∃ k, k = a + m - next := ⟨_, rfl⟩
        have hkm : k = min (c - next % c) (a + m - next) := by rw [← hf]; omega
        have hki : (a : Int) + (m : Int) - (next : Int) = (k : Int) := by omega
        have hmi : (k : Int) < (c : Int) - (f : Int) := by omega
        obtain ⟨hj2, hlen⟩ := hmid.out.ask HJ.out hc1 hlt ⟨q, f, k⟩
        have hstep := fun W3 => hmid.out.step (w3 := W3) hc1 hlt hpn hgn hgp ⟨q, f, k⟩ hq hf hkm
        have HS := Lib.hid hstep
        have HP : Hid (pre ++ [⟨q, f, k⟩] ++ Em.cut c (a + m - (next + min (c - next % c) (a + m - next))) (next + min (c - next % c) (a + m - next)) (a + m) = Em.split c a m) := by
          refine Lib.hid ?_
          rw [hmid.out.head hc1 hlt, ← hf, ← hq]
          simp [hkm, hf]
        obtain ⟨fn, tmps, assign, body, hy, hR⟩ := HY.out pre ⟨q, f, k⟩ _ hj2 hlen
        clear hstep hj2 hlen hkm hq hf hk
        unfold laidP encP at hy
        dsimp only at hy
        gi_wp2
        gi_big_region
        gi_wp2
        refine hR.mono ?_
        rintro e W3 (⟨rfl, hJ3, hk3⟩ | ⟨rfl, hJx3⟩)
        · obtain ⟨hm3, hp3⟩ := HS.out W3 hJ3 hk3
          have hn3 : W3.cell? ⟨wr.heap.size, 2, none⟩ = some (.int .i64 (k : Int)) := by rw [cell_of_row _ _ _ _ _ _ hp3]; rfl
          have HM3 := Lib.hid hm3
          clear hm3 hp3 hk3 hJ3
          gi_wp2
          go_roundw
          case rel => exact ⟨pre ++ [⟨q, f, k⟩], next + k, by go_num, HM3⟩
          case measure => simp [intOf]; omega
        · gi_wp2
          refine bodyPost_ret (results_none rfl _ _ _) rfl ?_
          exact ⟨⟨_, rfl⟩, .inr ⟨pre ++ [⟨q, f, k⟩], ⟨_, HP.out⟩, hJx3⟩⟩
    · have hd : decide ((next : Int) < (a : Int) + (m : Int)) = false := by simp; omega
      have hst := hmid.out.stop hlt
      have hjd := hmid.out.j
      have HS := Lib.hid hst
      have HD := Lib.hid hjd
      clear hst hjd
      gi_wp2
      go_end0
      exact ⟨⟨_, rfl⟩, .inl ⟨pre, HS.out, HD.out⟩⟩
end Geo
end Go.Proofs.Ytkjlcjiegoillaa
