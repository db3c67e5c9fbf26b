/- Part 19 of the contracts and of the plain mathematics that the proof of the law rests on: StoVals, TabRFind, StoWr. -/
import Derived.Test.YtbmabcddciibfaaGreatWr03
import Derived.Test.YtbmabcddciibfaaGreatWr06
import Derived.Test.YtbmabcddciibfaaGreatWr07
import Derived.Test.YtbmabcddciibfaaGreatWr17
import Derived.Test.YtbmabcddciibfaaGreatWr18
import Derived.Stop.RegionWithIn
import Derived.Lib.Agree
import Derived.LoopTactic
namespace Go.Proofs.YtbmabcddciibfaaGreat
namespace So
open Go.RowKit Go.Shelf Geo
set_option linter.unusedVariables false
attribute [local go_sem] Oper.semAt_some
set_option maxRecDepth 100000 in
set_option maxHeartbeats 2000000 in
theorem vals1_in (d : Nat) (hd : 1 ≤ d) (ly n₀ b off bs : Nat) (l : List Int) (n c : Nat) (hn : n = l.length) (hn2 : n ≤ 1099511627776) (a : Option Addr) (ha : l ≠ [] → a = some ⟨b, off, none⟩) (J Jx : List Int → World → Prop)
    (hY : ∀ pre (x : Int) W, J pre W → pre.length < l.length → YieldAt Fence.wide (d - 1) Tryz.prog ly #[.int .i64 x] W fun e W' =>
      (e = .returned (.bool true) ∧ J (pre ++ [x]) W' ∧ Below n₀ W W') ∨ (e = .returned (.bool false) ∧ Jx (pre ++ [x]) W'))
    (W : World) (cs : W.cell? ⟨bs, 0, none⟩ = some (.slice a n c)) (row : ∀ W', Below n₀ W W' → ∀ i x, l[i]? = some x → W'.cell? ⟨b, off + i, none⟩ = some (.int .i64 x)) (h0 : J [] W) :
    CallsIn Fence.wide d Tryz.prog 155 #[.func (.yield ly) #[] #[], .pointer (some ⟨bs, 0, none⟩)] W fun e W' => (∃ v, e = .returned v) ∧
      ((∃ ys, ys = l ∧ J ys W') ∨ (∃ pre, pre <+: l ∧ Jx pre W')) := by
  refine callsIn_of_wp Tryz.func155 rfl trivial ?_ rfl
  simp only [Tryz.ntmps155, List.size_toArray, List.length_cons, List.length_nil, Nat.reduceAdd, Nat.reduceSub, Array.replicate_succ, Array.replicate_zero, List.push_toArray, List.append_toArray, List.nil_append, List.cons_append]
  have H0 := Lib.hid h0
  have HY := Lib.hid hY
  have HA := Lib.hid ha
  have HN := Lib.hid hn
  have HR := Lib.hid row
  clear hY h0 ha hn row
  gi_wp2
  gi_loopw [7] (fun v wr => ∃ k : Nat, v = .int .i64 (k : Int) ∧ k ≤ n ∧ Hid (J (l.take k) wr ∧ Below n₀ W wr)) (fun v _ => n - (Lib.intOf v).toNat)
  case atStart => exact ⟨0, rfl, Nat.zero_le _, Lib.hid ⟨by rw [List.take_zero]; exact H0.out, Below.refl _ _⟩⟩
  case round =>
    obtain ⟨k, rfl, hk, hmid⟩ := hrel
    by_cases hlt : k < n
    · have d1 : decide ((k : Int) < (n : Int)) = true := by simp; omega
      have d2 : decide (k < n) = true := by simp; omega
      have hw1 : IntKind.i64.wrap ((k : Int) + 1) = ((k + 1 : Nat) : Int) := by rw [IntWalk.i64_in _ (by omega)]; rfl
      have hkl : k < l.length := by have := HN.out; omega
      have hne : l ≠ [] := by intro e; rw [e] at hkl; simp at hkl
      have hab := HA.out hne
      subst hab
      obtain ⟨x, hx⟩ : ∃ x, l[k]? = some x := ⟨l[k], List.getElem?_eq_getElem hkl⟩
      have hc := HR.out wr hmid.out.2 k x hx
      have hlen : (l.take k).length < l.length := by rw [List.length_take]; omega
      obtain ⟨fn, tmps, assign, body, hyl, hRR⟩ := HY.out (l.take k) x wr hmid.out.1 hlen
      have HT : Hid (l.take k ++ [x] = l.take (k + 1)) := Lib.hid (by
        obtain ⟨h1, h2⟩ := List.getElem?_eq_some_iff.1 hx
        rw [List.take_succ_eq_append_getElem h1, h2])
      clear hx hkl hne hlen
      gi_wp2_with fail
      refine hRR.mono ?_
      rintro e W3 (⟨rfl, hJ3, hk3⟩ | ⟨rfl, hJx3⟩)
      · have HM3 : Hid (J (l.take (k + 1)) W3 ∧ Below n₀ W W3) := Lib.hid ⟨by rw [← HT.out]; exact hJ3, hmid.out.2.trans hk3⟩
        clear hk3 hJ3 hmid
        gi_wp2_with fail
        go_roundw
        case rel => exact ⟨k + 1, rfl, by omega, HM3⟩
        case measure => simp [Lib.intOf]; omega
      · have HX : Hid (Jx (l.take (k + 1)) W3) := Lib.hid (by rw [← HT.out]; exact hJx3)
        clear hJx3
        gi_wp2
        refine bodyPost_ret (results_none rfl _ _ _) rfl ?_
        exact ⟨⟨_, rfl⟩, .inr ⟨_, List.take_prefix _ _, HX.out⟩⟩
    · obtain rfl : k = n := by omega
      have d1 : decide ((k : Int) < (k : Int)) = false := by simp
      have d2 : decide (k < k) = false := by simp
      have HM : Hid (J l wr) := Lib.hid (by have := hmid.out.1; rwa [List.take_of_length_le (by rw [← HN.out]; exact Nat.le_refl _)] at this)
      clear hmid
      gi_wp2_with fail
      go_end0
      exact ⟨⟨_, rfl⟩, .inl ⟨l, rfl, HM.out⟩⟩
theorem vals_stops (d : Nat) (hd : 1 ≤ d) (n₀ b off bs : Nat) (l : List Int) (n c : Nat) (hn : n = l.length) (hn2 : n ≤ 1099511627776) (a : Option Addr) (ha : l ≠ [] → a = some ⟨b, off, none⟩) (w : World) (cs : w.cell? ⟨bs, 0, none⟩ = some (.slice a n c))
    (hb : l ≠ [] → b < n₀) (row : ∀ i x, l[i]? = some x → w.cell? ⟨b, off + i, none⟩ = some (.int .i64 x)) :
    SeqStopsK Fence.wide d Tryz.prog 155 #[.pointer (some ⟨bs, 0, none⟩)] (fun x : Int => #[.int .i64 x]) (Below n₀) (fun ys => ys = l) (fun pre => pre <+: l) l.length w := fun ly J Jx W hW hJ _ hY h0 => by
  have k := fun (p : Addr) v (h : w.cell? p = some v) => (hW.cell (p := p) (World.block_lt_of_cell? _ _ h)).trans h
  refine vals1_in d hd ly n₀ b off bs l n c hn hn2 a ha J Jx hY W (k _ _ cs) (fun W' hW' i x hx => ?_) h0
  have hne : l ≠ [] := fun e => by rw [e] at hx; simp at hx
  rw [hW'.cell (p := ⟨b, off + i, none⟩) (hb hne)]
  exact k _ _ (row i x hx)
theorem info_int : (Tryz.prog.info? 3).map (fun i => (i.zero, i.size, i.bytes)) = some (some (.int .i64 0), 1, 8) := by kernel_rfl
set_option maxRecDepth 100000 in
set_option maxHeartbeats 2000000 in
theorem vappend_any (bs : Nat) (l : List Int) (n c : Nat) (hn : n = l.length) (hn2 : n ≤ 1048576) (a : Option Addr) (w : World) (cs : w.cell? ⟨bs, 0, none⟩ = some (.slice a n c)) (hr : Tb.Rd w a l) :
    Calls Tryz.prog 164 #[.slice none 0 0, .func (.func 155) #[] #[.pointer (some ⟨bs, 0, none⟩)]] w fun e w' => ∃ v, e = .returned v ∧ w'.ownsRow w.heap.size 3 1 v l.length (Tb.nums l) ∧ Below w.heap.size w w' := by
  obtain ⟨i0, hi, hz0, hz1, hz2⟩ := info_parts info_int
  obtain ⟨b, off, ha, hb, row⟩ : ∃ b off, (l ≠ [] → a = some ⟨b, off, none⟩) ∧ (l ≠ [] → b < w.heap.size) ∧ ∀ i x, l[i]? = some x → w.cell? ⟨b, off + i, none⟩ = some (.int .i64 x) := by
    by_cases hl : l = []
    · exact ⟨0, 0, fun h => (h hl).elim, fun h => (h hl).elim, fun i x hx => by rw [hl] at hx; simp at hx⟩
    · obtain ⟨b, off, e, hb, hc⟩ := hr hl
      exact ⟨b, off, fun _ => e, fun _ => hb, hc⟩
  refine (callsIn_wide (n := 3)).1 ?_
  refine callsIn_of_wp_marks Tryz.func164 rfl trivial ?_ rfl
  simp only [Tryz.ntmps164, List.size_toArray, List.length_cons, List.length_nil, Nat.reduceAdd, Nat.reduceSub, Array.replicate_succ, Array.replicate_zero, List.push_toArray, List.append_toArray, List.nil_append, List.cons_append]
  gi_wp2_with fail
  obtain ⟨W1, hW1⟩ : ∃ W1, w.alloc (.cells #[.slice none 0 0] 31) = W1 := ⟨_, rfl⟩
  have bP := Boxed.new w 31 (.slice none 0 0)
  have hB0 : Below w.heap.size w W1 := by rw [← hW1]; exact (Below.refl _ _).alloc (Nat.le_refl _) _
  have hs1 : W1.heap.size = w.heap.size + 1 := by rw [← hW1]; simp
  rw [hW1] at bP
  have k := fun (p : Addr) v (h : w.cell? p = some v) => (hB0.cell (p := p) (World.block_lt_of_cell? _ _ h)).trans h
  have ST := vals_stops (3 - 1) (by omega) w.heap.size b off bs l n c hn (by omega) a ha W1 (k _ _ cs) hb (fun i x hx => k _ _ (row i x hx))
  rw [hW1]
  clear hW1 cs hr hb row ha k
  refine wpIn_rangeFunc_ownF rfl (by omega) (gf := 155) (lb := #[.pointer (some ⟨bs, 0, none⟩)]) rfl trivial (enters_of Tryz.func155 (by kernel_rfl) rfl)
    ST (fun h k => h.trans k) (belowK_b (by omega)) (Below.refl _ _) (fun _ => rfl)
    (fun pre W => (∃ v, Boxed W w.heap.size 31 v ∧ W.ownsRow w.heap.size 3 1 v pre.length (Tb.nums pre) ∧ True) ∧ Below w.heap.size w W)
    (fun _ _ _ => False)
    (OwnFrom.and (Own.from (holdsRow_own w.heap.size w.heap.size 31 3 1 (fun pre : List Int => pre.length) Tb.nums (fun _ _ => True)) _) (ownFrom_below (Nat.le_refl _) (by omega)))
    (fun _ _ _ _ _ hs _ _ => hs)
    ⟨⟨_, bP, World.ownsRow_nil _ _ _ _, trivial⟩, hB0⟩
    (fun x => { tmps := #[.slice none 0 0, .func (.func 155) #[] #[.pointer (some ⟨bs, 0, none⟩)], .pointer (some ⟨w.heap.size, 0, none⟩), undef, .slice none 0 0, .int .i64 x, .func (.func 155) #[] #[.pointer (some ⟨bs, 0, none⟩)], .int .i64 x, undef, undef, undef, undef, undef], defers := [] })
    ?assign ?body ?done ?stop
  case assign =>
    rintro ly x W K hK
    gi_wp2
    exact hK
  case body =>
    rintro ly pre x W ⟨⟨v, hv, hrow, _⟩, hB⟩ hlt
    have hc := hv.cell
    obtain ⟨k, hk⟩ : ∃ k, k = pre.length := ⟨_, rfl⟩
    rw [← hk] at hrow hlt
    have HK := Lib.hid hk
    have HR := Lib.hid hrow
    have HR0 := Lib.hid (own_zero hrow)
    have hkn : k ≤ 1048576 := by omega
    obtain ⟨sa, sc, rfl⟩ : ∃ a c, v = .slice a k c := by
      rcases hrow.2 with ⟨h, h0⟩ | ⟨g, cap, cur, h, _⟩
      · exact ⟨none, 0, by rw [h, h0]⟩
      · exact ⟨_, _, h⟩
    clear hk hrow
    gi_wp2_with (gi_at_builtin; refine wpListIn_append_home _ rfl _ _ 31 rfl 3 i0 _ 1 8 Tryz.underlying31 hi hz0 hz1 hz2 rfl (by decide) (.slice sa k sc) k (Tb.nums pre) rfl (HR0.out.alloc _) ⟨W.heap.size, 0, none⟩ 1 1 [.int .i64 x] rfl rfl (World.news_of_block (cs := #[.int .i64 x]) (heap_alloc_new W _)) (by simp [Value.oneCell']) (by unfold maxLen; omega) (by omega) ?_; intro v' w3 hown' hgrow hat; obtain ⟨g', cap', rfl⟩ := ownsRow_succ hown'; obtain ⟨hv1, hv2, hr2, hk2, hb2, kp2⟩ := appended_all hv (by decide) HR.out hB.size (by omega) hown' hgrow (by simpa using hat); have hc1 := hv1.cell; have hf1 := hv1.frozen)
    exact ⟨hk2, hb2, ⟨_, hv2, by rw [Tb.nums, List.map_append, List.length_append, ← HK.out]; exact hr2, trivial⟩, hB.trans hb2⟩
  case done =>
    rintro D ys W hD rfl ⟨⟨v, hv, hrow, _⟩, hB⟩ hK
    have hc := hv.cell
    gi_wp2
    refine ⟨by simp, .inl ⟨_, _, rfl, run_takeDeferred hK, ?_⟩⟩
    exact ⟨_, results_tmp rfl _ _ _, v, rfl, ownsRow_putObj hrow _ hK rfl, hB.trans (belowK_b (w := w) (Nat.le_refl _) W D _ _ (by omega) hK rfl rfl)⟩
  case stop =>
    rintro D c pre W _ _ h _
    exact h.elim
theorem values_any (a : Option Addr) (n c : Nat) (w : World) : Calls Tryz.prog 132 #[.slice a n c] w fun e w' => e = .returned (.func (.func 155) #[] #[.pointer (some ⟨w.heap.size, 0, none⟩)]) ∧ w' = w.alloc (.cells #[.slice a n c] 31) := by
  have hmf : ∀ (fn : Fn) (first cap : Array Value) (w : World), (Instr.makeFunc fn first cap).run Tryz.prog w = .ok (.func fn first cap) w := fun _ _ _ _ => rfl
  go_enter Tryz.func132, Tryz.ntmps132
  go_wp2
  go_ret
  exact ⟨rfl, rfl⟩
theorem vcollect_any (bs : Nat) (l : List Int) (n c : Nat) (hn : n = l.length) (hn2 : n ≤ 1048576) (a : Option Addr) (w : World) (cs : w.cell? ⟨bs, 0, none⟩ = some (.slice a n c)) (hr : Tb.Rd w a l) :
    Calls Tryz.prog 137 #[.func (.func 155) #[] #[.pointer (some ⟨bs, 0, none⟩)]] w fun e w' => ∃ v, e = .returned v ∧ w'.ownsRow w.heap.size 3 1 v l.length (Tb.nums l) ∧ Below w.heap.size w w' := by
  have AP := Lib.hid (vappend_any bs l n c hn hn2 a w cs hr)
  clear hr cs hn hn2
  go_enter Tryz.func137, Tryz.ntmps137
  go_wp2_with fail
  refine AP.out.mono ?_
  rintro e w1 ⟨v, rfl, hv, hb⟩
  go_wp2
  go_ret
  exact ⟨v, rfl, hv, hb⟩
theorem vsorted_any (bs : Nat) (l : List Int) (n c : Nat) (hn : n = l.length) (hn2 : n ≤ 1048576) (a : Option Addr) (w : World) (cs : w.cell? ⟨bs, 0, none⟩ = some (.slice a n c)) (hr : Tb.Rd w a l) :
    Calls Tryz.prog 107 #[.func (.func 155) #[] #[.pointer (some ⟨bs, 0, none⟩)]] w fun e w' => ∃ v, e = .returned v ∧ Tb.Ints w' v (sorted l) ∧ (∀ k, v.ownBlock = some k → w.heap.size ≤ k) ∧ Below w.heap.size w w' := by
  have CO := Lib.hid (vcollect_any bs l n c hn hn2 a w cs hr)
  have HL : Hid (l.length ≤ 1099511627776) := Lib.hid (by omega)
  clear hr cs hn hn2
  go_enter Tryz.func107, Tryz.ntmps107
  go_wp2_with fail
  refine CO.out.mono ?_
  rintro e w1 ⟨v, rfl, hv, hb⟩
  have SO := Lib.hid (isort_any (own_zero hv) HL.out)
  have HV := Lib.hid hv
  have HB := Lib.hid hb
  clear hv hb
  go_wp2_with fail
  refine SO.out.mono ?_
  rintro e w2 ⟨rfl, hs, hf⟩
  have FIN : Hid (Tb.Ints w2 v (sorted l) ∧ (∀ k, v.ownBlock = some k → w.heap.size ≤ k) ∧ Below w.heap.size w w2) := Lib.hid ⟨hs, fun k hk => (own_ge HV.out k hk).1, HB.out.trans (hf.below HB.out.size fun k hk => (own_ge HV.out k hk).1)⟩
  clear hs hf
  go_wp2
  go_ret
  exact ⟨v, rfl, FIN.out⟩
theorem apart_any {w : World} {a : Option Addr} {l : List Int} (n c : Nat) (hn : n = l.length) (hn2 : n ≤ 1048576) (hr : Tb.Rd w a l) : Calls Tryz.prog 99 #[.slice a n c] w fun e w' => e = .returned (.bool (decide l.Nodup)) ∧ Below w.heap.size w w' := by
  obtain ⟨W1, hW1⟩ : ∃ W1, w.alloc (.cells #[.slice a n c] 31) = W1 := ⟨_, rfl⟩
  have hB0 : Below w.heap.size w W1 := by rw [← hW1]; exact (Below.refl _ _).alloc (Nat.le_refl _) _
  have VA := values_any a n c w
  rw [hW1] at VA
  have VA := Lib.hid VA
  have hc : W1.cell? ⟨w.heap.size, 0, none⟩ = some (.slice a n c) := by rw [← hW1]; simp
  have SO := Lib.hid (vsorted_any w.heap.size l n c hn hn2 a W1 hc (hr.below hB0))
  have HB := Lib.hid hB0
  have HN := Lib.hid hn
  clear hr hc hB0 hW1 hn
  go_enter Tryz.func99, Tryz.ntmps99
  go_wp2_with fail
  refine VA.out.mono ?_
  rintro e w1 ⟨rfl, rfl⟩
  go_wp2_with fail
  refine SO.out.mono ?_
  rintro e w2 ⟨v, rfl, hv, hnew, hb⟩
  obtain ⟨va, vc, rfl⟩ := Dsk.own_slice hv
  have CO := Lib.hid (icomp_any hv (by rw [sorted_length, ← HN.out]; omega))
  have NEW : Hid (∀ k, (Value.slice va (sorted l).length vc).ownBlock = some k → w.heap.size ≤ k) := Lib.hid fun k hk => Nat.le_trans HB.out.size (hnew k hk)
  have HB2 := Lib.hid (HB.out.trans (hb.mono HB.out.size))
  clear hv hb hnew SO VA
  go_wp2_with fail
  refine CO.out.mono ?_
  rintro e w3 ⟨rfl, _, hf⟩
  have FIN : Hid (Below w.heap.size w w3) := Lib.hid (HB2.out.trans (hf.below HB2.out.size NEW.out))
  have E : Hid ((((Lib.compact (sorted l)).length : Int) == (n : Int)) = decide l.Nodup) := Lib.hid (by
    have h1 := compact_full (sorted_pair l)
    rw [sorted_length, show (sorted l).Nodup ↔ l.Nodup from (List.mergeSort_perm _ _).nodup_iff] at h1
    rw [HN.out, Bool.eq_iff_iff, beq_iff_eq, decide_eq_true_eq, ← h1]
    omega)
  clear hf
  go_wp2
  go_ret
  exact ⟨by rw [E.out]; rfl, FIN.out⟩
end So
end Go.Proofs.YtbmabcddciibfaaGreat
namespace Go.Proofs.YtbmabcddciibfaaGreat
namespace Tb
open Go.RowKit Dsk Go.Maps
set_option linter.unusedVariables false
set_option maxRecDepth 100000
theorem wpList_addN {w : World} {ops : Array Oper} {rest : List Oper} {o : Oper} {a : Act} {Q : Exit → Act → World → Prop} (hgd : o.guard = none) (s x : Operand) (t : TypeId) (ht : Tryz.prog.underlying t = some (.slice 3))
    (ho : o.op = .call { callee := .builtin .append, args := #[s, x], argTypes := #[t, t] }) (v : Value) (n : Nat) (l : List Int) (hs : a.eval s = v) (hn : n = l.length) (hl : n ≤ 1099511627776) (hown : w.ownsRow 0 3 1 v n (nums l))
    (b : Nat) (y : Int) (hx : a.eval x = .slice (some ⟨b, 0, none⟩) 1 1) (hc : w.cell? ⟨b, 0, none⟩ = some (.int .i64 y))
    (h : ∀ v' w', w'.ownsRow 0 3 1 v' (n + 1) (nums (l ++ [y])) → Fr (fun k => v.ownBlock = some k) w w' → (∀ k, v'.ownBlock = some k → v.ownBlock = some k ∨ w.heap.size ≤ k) → wpList Tryz.prog ops Q rest (a.put o.dst v') w') : wpList Tryz.prog ops Q (o :: rest) a w := by
  obtain ⟨i0, hi, hz0, hz1, hz2⟩ := info_parts info_int
  refine wpList_append_home hgd s x t ho 3 i0 _ 1 8 ht hi hz0 hz1 hz2 rfl (by decide) v n (nums l) hs hown ⟨b, 0, none⟩ 1 1 [.int .i64 y] hx rfl (fun j u hj => ?_) (nums_one y) (by unfold maxLen; omega) (by omega) fun v' w' h1 h2 h3 => ?_
  · cases j with
    | zero => injection hj with hj; subst hj; rw [show (⟨b, 0, none⟩ : Addr).add 0 = ⟨b, 0, none⟩ from by unfold Addr.add; split <;> simp_all]; exact hc
    | succ j => simp at hj
  · refine h v' w' (by rw [nums, List.map_append]; exact h1) (Fr.of_grown (F := fun k => v.ownBlock = some k) h2 fun k e => e) fun k hk => ?_
    rcases h3 with e | e
    · exact .inl (by rw [← e]; exact hk)
    · right
      rw [hk] at e
      injection e with e
      omega
structure Grows (w : World) (l : List Int) (v : Value) (n : Nat) (wr : World) : Prop where
  row : wr.ownsRow 0 3 1 v n (nums l)
  len : n = l.length
  new : ∀ k, v.ownBlock = some k → w.heap.size ≤ k
  below : Below w.heap.size w wr
theorem Grows.nil {w wr : World} (hb : Below w.heap.size w wr) : Grows w [] (.slice none 0 0) 0 wr := ⟨World.ownsRow_nil _ _ _ _, rfl, fun k hk => (by cases hk), hb⟩
theorem Grows.own {w wr : World} {l : List Int} {v : Value} {n : Nat} (h : Grows w l v n wr) (y : Int) : (wr.alloc (.cells #[.int .i64 y] 3)).ownsRow 0 3 1 v n (nums l) :=
  own_same h.row fun j hj => Below.heap_alloc _ _ _ (by obtain ⟨cur, hcc⟩ := own_block h.row j hj; exact lt_of_heap hcc)
theorem Grows.add {w wr w' : World} {l : List Int} {v v' : Value} {n : Nat} {y : Int} (h : Grows w l v n wr) (h1 : w'.ownsRow 0 3 1 v' (n + 1) (nums (l ++ [y]))) (h2 : Fr (fun k => v.ownBlock = some k) (wr.alloc (.cells #[.int .i64 y] 3)) w')
    (h3 : ∀ k, v'.ownBlock = some k → v.ownBlock = some k ∨ (wr.alloc (.cells #[.int .i64 y] 3)).heap.size ≤ k) : Grows w (l ++ [y]) v' (n + 1) w' := by
  have hal : Below wr.heap.size wr (wr.alloc (.cells #[.int .i64 y] 3)) := (Below.refl _ _).alloc (Nat.le_refl _) _
  have hF : Fr (fun j => v.ownBlock = some j) wr w' := (Fr.of_below hal).trans h2 (fun _ _ e => e)
  have hsz : (wr.alloc (.cells #[.int .i64 y] 3)).heap.size = wr.heap.size + 1 := by simp
  have hws := h.below.size
  refine ⟨h1, by rw [h.len]; simp, fun k hk => ?_, h.below.trans (hF.below hws fun j hj => h.new j hj)⟩
  rcases h3 k hk with e | e
  · exact h.new k e
  · omega
def MadeR (l : List Int) (w : World) (e : Ending) (w' : World) : Prop := ∃ v, e = .returned v ∧ Ints w' v l ∧ (∀ k, v.ownBlock = some k → w.heap.size ≤ k) ∧ Below w.heap.size w w'
theorem Grows.made {w wr : World} {l : List Int} {v : Value} {n : Nat} (h : Grows w l v n wr) : MadeR l w (.returned v) wr := ⟨v, rfl, by show World.ownsRow _ _ _ _ _ _ _; rw [← h.len]; exact h.row, h.new, h.below⟩
theorem rnew_any (p : Int) (w : World) (n : Nat) (hn : n = if p > 1048576 then 0 else p.toNat) (hp : -9223372036854775808 ≤ p) : Calls Tryz.prog 74 #[.int .i64 p] w fun e w' => MadeR (List.replicate n (-1)) w e w' := by
  by_cases h : p > 1048576
  · rw [if_pos h] at hn
    subst hn
    have d : decide (1048576 < p) = true := by simpa using h
    clear h
    have G := Lib.hid (Grows.nil (Below.refl w.heap.size w))
    go_enter Tryz.func74, Tryz.ntmps74
    go_wp2
    go_ret
    exact G.out.made
  · rw [if_neg h] at hn
    have d : decide (1048576 < p) = false := by simpa using h
    have HN := Lib.hid hn
    have hnb : n ≤ 1048576 := by omega
    clear hn
    go_enter Tryz.func74, Tryz.ntmps74
    go_wp2
    go_loopw [4, 3] (fun i s wr => ∃ (k : Nat) (v : Value), i = .int .i64 (k : Int) ∧ s = v ∧ k ≤ n ∧ Hid (Grows w (List.replicate k (-1)) v k wr)) (fun i _ _ => n - (Lib.intOf i).toNat)
    case atStart => exact ⟨0, _, rfl, rfl, Nat.zero_le _, Lib.hid (Grows.nil (Below.refl _ _))⟩
    case round =>
      obtain ⟨k, v, rfl, rfl, hk, hg⟩ := hrel
      by_cases hlt : k < n
      · have d1 : decide ((k : Int) < p) = true := by have := HN.out; simp; omega
        obtain ⟨a, c, hv⟩ := own_slice hg.out.row
        subst hv
        have OWN := Lib.hid (hg.out.own (-1))
        have HL := Lib.hid hg.out.len
        have hw1 : IntKind.i64.wrap ((k : Int) + 1) = ((k + 1 : Nat) : Int) := by rw [IntWalk.i64_in _ (by omega)]; rfl
        go_wp2_with (at_builtin; refine wpList_addN rfl (.tmp 13) (.tmp 14) 55 Tryz.underlying55 rfl (.slice a k c) k (List.replicate k (-1)) rfl HL.out (by omega) OWN.out wr.heap.size (-1) rfl (by simp) ?_; intro v' w2 h1 h2 h3; have G2 := Lib.hid (hg.out.add h1 h2 h3); clear h1 h2 h3)
        go_roundw
        case rel => exact ⟨k + 1, _, rfl, rfl, by omega, by rw [List.replicate_succ']; exact G2⟩
        case measure => simp [Lib.intOf]; omega
      · obtain rfl : k = n := by omega
        have d1 : decide ((k : Int) < p) = false := by have := HN.out; simp; omega
        go_wp2
        go_ret
        exact hg.out.made
theorem rpages_any (a : Option Addr) (n c : Nat) (w : World) (h : n ≤ 1048576) : Calls Tryz.prog 115 #[.slice a n c] w fun e w' => e = .returned (.int .i64 (pagesN n : Int)) ∧ w = w' := by
  have k1 : IntKind.i64.wrap ((n : Int) + 12) = (n : Int) + 12 := by rw [IntWalk.i64_in _ (by omega)]
  have HQ : Hid (((n : Int) + 12) / 13 = (pagesN n : Int)) := Lib.hid (by unfold pagesN; omega)
  have HT : Hid (((n : Int) + 12).tdiv 13 = (pagesN n : Int)) := Lib.hid (by rw [Int.tdiv_eq_ediv_of_nonneg (by omega)]; unfold pagesN; omega)
  have hq := HQ.out
  have ht := HT.out
  go_enter Tryz.func115, Tryz.ntmps115
  go_wp2
  go_ret
  exact ⟨by first | rfl | (rw [← HQ.out]; rfl), rfl⟩
def findI (m : List Int) (k : Int) : Int := match find m k with | some i => (i : Int) | none => -1
theorem rfind_any {w : World} {a : Option Addr} {c : Nat} {m : List Int} (h : Ints w (.slice a m.length c) m) (k : Int) (hm : m.length ≤ 1048576) :
    Calls Tryz.prog 49 #[.slice a m.length c, .int .i64 k] w fun e w' => e = .returned (.int .i64 (findI m k)) ∧ w = w' := by
  have H := Lib.hid h
  obtain ⟨n, hn⟩ : ∃ n, n = m.length := ⟨_, rfl⟩
  have HN := Lib.hid hn
  rw [← hn] at hm ⊢
  clear h hn
  go_enter Tryz.func49, Tryz.ntmps49
  go_wp2
  go_loopw [5] (fun i wr => ∃ j : Nat, i = .int .i64 (j : Int) ∧ j ≤ n ∧ Hid (w = wr) ∧ Hid (∀ x, x < j → m[x]? = some k → ¬ 0 ≤ k)) (fun i _ => n - (Lib.intOf i).toNat)
  case atStart => exact ⟨0, rfl, Nat.zero_le _, Lib.hid rfl, Lib.hid fun x hx => absurd hx (by omega)⟩
  case round =>
    obtain ⟨j, rfl, hj, hw, hno⟩ := hrel
    by_cases hlt : j < n
    · have d1 : decide ((j : Int) < (n : Int)) = true := by simp; omega
      have d2 : decide (j < n) = true := by simp; omega
      obtain ⟨b, hb, _, hc, _⟩ := ints_cell H.out j (by have := HN.out; omega)
      subst hb
      rw [hw.out] at hc
      have hget := Hp.at_get m j (by have := HN.out; omega)
      obtain ⟨x, hx⟩ : ∃ x, x = Hp.at_ m j := ⟨_, rfl⟩
      rw [← hx] at hc hget
      have HG := Lib.hid hget
      have hw1 : IntKind.i64.wrap ((j : Int) + 1) = ((j + 1 : Nat) : Int) := by rw [IntWalk.i64_in _ (by omega)]; rfl
      clear hx hget
      by_cases he : x = k
      · subst he
        have d3 : (x == x) = true := by simp
        by_cases h0 : 0 ≤ x
        · have d4 : decide (0 ≤ x) = true := by simpa using h0
          have FIN : Hid (findI m x = (j : Int)) := Lib.hid (by
            unfold findI
            rw [find_some.2 ⟨h0, HG.out, fun i hi hc => hno.out i hi hc h0⟩])
          clear h0
          go_wp2
          go_ret
          exact ⟨by rw [FIN.out]; rfl, hw.out⟩
        · have d4 : decide (0 ≤ x) = false := by simpa using h0
          have N2 : Hid (∀ y, y < j + 1 → m[y]? = some x → ¬ 0 ≤ x) := Lib.hid fun y _ _ => h0
          clear h0
          go_wp2
          go_roundw
          case rel => exact ⟨j + 1, by go_num, by omega, hw, N2⟩
          case measure => simp [Lib.intOf]; omega
      · have d3 : (x == k) = false := by simpa using he
        have N2 : Hid (∀ y, y < j + 1 → m[y]? = some k → ¬ 0 ≤ k) := Lib.hid fun y hy hm => by
          by_cases e : y = j
          · rw [e, HG.out] at hm; injection hm with hm; exact absurd hm he
          · exact hno.out y (by omega) hm
        clear he
        go_wp2
        go_roundw
        case rel => exact ⟨j + 1, by go_num, by omega, hw, N2⟩
        case measure => simp [Lib.intOf]; omega
    · obtain rfl : j = n := by omega
      have d1 : decide ((j : Int) < (j : Int)) = false := by simp
      have d2 : decide (j < j) = false := by simp
      have FIN : Hid (findI m k = -1) := Lib.hid (by
        unfold findI
        rw [find_none.2 fun h0 hmem => by
          obtain ⟨y, hy⟩ := List.getElem?_of_mem hmem
          exact hno.out y (by have := (List.getElem?_eq_some_iff.1 hy).1; have := HN.out; omega) hy h0])
      go_wp2
      go_ret
      exact ⟨by rw [FIN.out]; rfl, hw.out⟩
theorem rlen_any {w : World} {a : Option Addr} {c : Nat} {m : List Int} (h : Ints w (.slice a m.length c) m) (hm : m.length ≤ 1048576) :
    Calls Tryz.prog 118 #[.slice a m.length c] w fun e w' => e = .returned (.int .i64 ((used m).length : Int)) ∧ w = w' := by
  have H := Lib.hid h
  obtain ⟨n, hn⟩ : ∃ n, n = m.length := ⟨_, rfl⟩
  have HN := Lib.hid hn
  rw [← hn] at hm ⊢
  clear h hn
  go_enter Tryz.func118, Tryz.ntmps118
  go_wp2
  go_loopw [4, 3] (fun i s wr => ∃ j q : Nat, i = .int .i64 (j : Int) ∧ s = .int .i64 (q : Int) ∧ j ≤ n ∧ q ≤ j ∧ Hid (w = wr) ∧ Hid (q = (used (m.take j)).length)) (fun i _ _ => n - (Lib.intOf i).toNat)
  case atStart => exact ⟨0, 0, rfl, rfl, Nat.zero_le _, Nat.le_refl _, Lib.hid rfl, Lib.hid (by simp [used])⟩
  case round =>
    obtain ⟨j, q, rfl, rfl, hj, hqj, hw, hq⟩ := hrel
    by_cases hlt : j < n
    · have d1 : decide ((j : Int) < (n : Int)) = true := by simp; omega
      have d2 : decide (j < n) = true := by simp; omega
      obtain ⟨b, hb, _, hc, _⟩ := ints_cell H.out j (by have := HN.out; omega)
      subst hb
      rw [hw.out] at hc
      have hget := Hp.at_get m j (by have := HN.out; omega)
      obtain ⟨x, hx⟩ : ∃ x, x = Hp.at_ m j := ⟨_, rfl⟩
      rw [← hx] at hc hget
      have hw1 : IntKind.i64.wrap ((j : Int) + 1) = ((j + 1 : Nat) : Int) := by rw [IntWalk.i64_in _ (by omega)]; rfl
      have hw2 : IntKind.i64.wrap ((q : Int) + 1) = ((q + 1 : Nat) : Int) := by rw [IntWalk.i64_in _ (by omega)]; rfl
      have hts := take_snoc hget
      by_cases h0 : 0 ≤ x
      · have d3 : decide (0 ≤ x) = true := by simpa using h0
        have N2 : Hid (q + 1 = (used (m.take (j + 1))).length) := Lib.hid (by rw [hts, hq.out]; unfold used; rw [List.filter_append]; simp [h0])
        clear hx hget hts h0
        go_wp2
        go_roundw
        case rel => exact ⟨j + 1, q + 1, by go_num, by go_num, by omega, by omega, hw, N2⟩
        case measure => simp [Lib.intOf]; omega
      · have d3 : decide (0 ≤ x) = false := by simpa using h0
        have N2 : Hid (q = (used (m.take (j + 1))).length) := Lib.hid (by rw [hts, hq.out]; unfold used; rw [List.filter_append]; simp [h0])
        clear hx hget hts h0
        go_wp2
        go_roundw
        case rel => exact ⟨j + 1, q, by go_num, rfl, by omega, by omega, hw, N2⟩
        case measure => simp [Lib.intOf]; omega
    · obtain rfl : j = n := by omega
      have d1 : decide ((j : Int) < (j : Int)) = false := by simp
      have d2 : decide (j < j) = false := by simp
      have FIN : Hid (q = (used m).length) := Lib.hid (by rw [hq.out, List.take_of_length_le (by have := HN.out; omega)])
      go_wp2
      go_ret
      exact ⟨by rw [← FIN.out]; rfl, hw.out⟩
end Tb
end Go.Proofs.YtbmabcddciibfaaGreat
namespace Go.Proofs.YtbmabcddciibfaaGreat
namespace So
open Go.RowKit
set_option maxRecDepth 100000
set_option linter.unusedVariables false
theorem way_out {K L : Act → World → Prop} {S : World → Prop} (hK : Hid (∀ a w, S w → (S w → L a w) → K a w)) (hno : False) (a : Act) (w : World) (h : K a w) : False := hno
theorem Sk.went {w w' : World} {b : Bk} {p : Pa} {inv : Bool} {st st' : Dm.St} {m : List Int} (h : Sk w b p inv st m) (hd : Dsk.Went b.d st' w w') : SWent b p inv st' m w w' := by
  obtain ⟨o', hk, hs⟩ := hd
  obtain ⟨h1, h2⟩ := h.disk hk hs
  exact ⟨_, h1, h2⟩
theorem sflush_ok {w : World} {b : Bk} {p : Pa} {inv : Bool} {st : Dm.St} {m : List Int} (h : Sk w b p inv st m) (hP : st.P.length ≤ 1099511627776) (h0 : (Dm.flush st).2 = 0) :
    Calls Tryz.prog 102 #[.pointer (some ⟨b.q, 0, none⟩)] w fun e w' => e = .returned (.tuple #[]) ∧ SWent b p inv (Dm.flush st).1 m w w' := by
  have NE := Lib.hid (fun w1 => need_ok w1)
  have FL := Dsk.flush_any h.dk hP
  rw [h0] at FL
  have FL := Lib.hid FL
  have FI := Lib.hid (fun w' (k : Dsk.Went b.d (Dm.flush st).1 w w') => h.went k)
  obtain ⟨_, _, _, h3, _, _, _, _, _, _, _, hf⟩ := h.reads
  clear h hP h0
  go_enter Tryz.func102, Tryz.ntmps102
  go_wp2_with fail
  refine FL.out.mono ?_
  rintro e w1 ⟨rfl, hw⟩
  have W := Lib.hid hw
  clear hw
  go_wp2_with fail
  refine (NE.out _).mono ?_
  rintro e w2 ⟨rfl, rfl⟩
  go_wp2
  go_end0
  exact ⟨rfl, FI.out _ W.out⟩
theorem sflush_no {w : World} {b : Bk} {p : Pa} {inv : Bool} {st : Dm.St} {m : List Int} (h : Sk w b p inv st m) (hP : st.P.length ≤ 1099511627776) (h0 : (Dm.flush st).2 ≠ 0) :
    Calls Tryz.prog 102 #[.pointer (some ⟨b.q, 0, none⟩)] w fun e w' => e = faultE (Dm.flush st).2 ∧ SWent b p inv (Dm.flush st).1 m w w' := by
  have NE := Lib.hid (fun w1 => need_no _ h0 w1)
  have FL := Lib.hid (Dsk.flush_any h.dk hP)
  have FI := Lib.hid (fun w' (k : Dsk.Went b.d (Dm.flush st).1 w w') => h.went k)
  obtain ⟨_, _, _, h3, _, _, _, _, _, _, _, hf⟩ := h.reads
  clear h hP h0
  obtain ⟨x, hx⟩ : ∃ x, x = (Dm.flush st).2 := ⟨_, rfl⟩
  rw [← hx] at NE FL ⊢
  clear hx
  unfold faultE at NE ⊢
  go_enter Tryz.func102, Tryz.ntmps102
  go_wp2_with fail
  refine FL.out.mono ?_
  rintro e w1 ⟨rfl, hw⟩
  have W := Lib.hid hw
  clear hw
  go_wp2_with fail
  refine (NE.out _).mono ?_
  rintro e w2 ⟨rfl, rfl⟩
  go_wp2
  exact ⟨rfl, rfl, FI.out _ W.out⟩
theorem sflush_any {w : World} {b : Bk} {p : Pa} {inv : Bool} {st : Dm.St} {m : List Int} (h : Sk w b p inv st m) (hP : st.P.length ≤ 1099511627776) :
    Calls Tryz.prog 102 #[.pointer (some ⟨b.q, 0, none⟩)] w fun e w' => e = endE (step st .fl).2 ∧ SWent b p inv (step st .fl).1 m w w' := by
  show Calls _ _ _ _ fun e w' => e = endE (Dm.flush st).2 ∧ SWent b p inv (Dm.flush st).1 m w w'
  by_cases h0 : (Dm.flush st).2 = 0
  · rw [h0]
    exact sflush_ok h hP h0
  · rw [endE_no h0]
    exact sflush_no h hP h0
theorem swh_ok {w : World} {b : Bk} {p : Pa} {inv : Bool} {st : Dm.St} {m : List Int} (h : Sk w b p inv st m) (hp : p.Ok) (hP : st.P.length ≤ 549755813888) (h0 : (Dm.write st (p.st : Int) (Hm.sector p.gen (p.g : Int) (p.N : Int) inv)).2 = 0) :
    Calls Tryz.prog 106 #[.pointer (some ⟨b.q, 0, none⟩)] w fun e w' => e = .returned (.tuple #[]) ∧ SWent b p inv (Dm.write st (p.st : Int) (Hm.sector p.gen (p.g : Int) (p.N : Int) inv)).1 m w w' := by
  have EN := Lib.hid (fun w1 => shead_any hp inv w1)
  have hlen : (Hm.sector p.gen (p.g : Int) (p.N : Int) inv).length = 64 := Hm.sector_len _ _ _ _
  obtain ⟨d, hd⟩ : ∃ d, d = Hm.sector p.gen (p.g : Int) (p.N : Int) inv := ⟨_, rfl⟩
  rw [← hd] at EN h0 hlen ⊢
  clear hd
  have MU := Lib.hid (fun w1 => mustS_ok (.string (Om.B d)) w1)
  obtain ⟨x, hx⟩ : ∃ x, x = (Dm.write st (p.st : Int) d).2 := ⟨_, rfl⟩
  have WR : Hid (∀ w1, Below w.heap.size w w1 → Calls Tryz.prog 62 #[.pointer (some ⟨b.d.p, 0, none⟩), .int .i64 (p.st : Int), .string (Om.B d)] w1 fun e w' => e = .returned (.int .i64 x) ∧ SWent b p inv (Dm.write st (p.st : Int) d).1 m w w') := Lib.hid fun w1 hb => by
    have hs := hp.small
    have := Dsk.write_any (h.below hb).dk (p.st : Int) d (by omega) (by omega) hP
    rw [← hx] at this
    exact this.mono fun e w' ⟨e1, e2⟩ => ⟨e1, ((h.below hb).went e2).below hb⟩
  have HB : Hid (∀ w1, Below w.heap.size w w1 → Sk w1 b p inv st m) := Lib.hid fun w1 hb => h.below hb
  rw [← hx] at h0
  subst h0
  have NE := Lib.hid (fun w1 => need_ok w1)
  obtain ⟨_, _, _, c3, c4, _, c6, c7, c8, c9, _, cf⟩ := h.reads
  obtain ⟨st', hst'⟩ : ∃ s, s = (Dm.write st (p.st : Int) d).1 := ⟨_, rfl⟩
  rw [← hst'] at WR ⊢
  clear h hP hp hst' hx hlen
  go_enter Tryz.func106, Tryz.ntmps106
  go_region_held3 (fun w' => w'.cell? ⟨b.q, 3, none⟩ = some (.pointer (some ⟨b.d.p, 0, none⟩)) ∧ w'.cell? ⟨b.q, 4, none⟩ = some (.int .i64 (p.st : Int)) ∧ w'.cell? ⟨b.q, 6, none⟩ = some (.int .u32 (p.gen : Int)) ∧ w'.cell? ⟨b.q, 7, none⟩ = some (.int .i64 (p.g : Int)) ∧ w'.cell? ⟨b.q, 8, none⟩ = some (.int .i64 (p.N : Int)) ∧ w'.cell? ⟨b.q, 9, none⟩ = some (.bool inv))
    (first | (refine ⟨?_, ?_, ?_, ?_, ?_, ?_⟩ <;> assumption) | go_keep)
    (first
      | (go_at_call 136; refine (EN.out _).mono ?_; rintro e w1 ⟨rfl, hb⟩; have B1 := Lib.hid (((Below.refl _ w).drew).trans hb); have k1 := HB.out _ B1.out; obtain ⟨_, _, _, q3, q4, _, q6, q7, q8, q9, _, qf⟩ := k1.reads; clear k1 hb)
      | (go_at_call 55; refine (MU.out _).mono ?_; rintro e w2 ⟨rfl, rfl⟩)
      | (go_at_call 62; refine (WR.out _ B1.out).mono ?_; rintro e w3 ⟨rfl, hw⟩; have W3 := Lib.hid hw; obtain ⟨b3, k3, s3⟩ := hw; have r3 := k3.reads; rw [s3.q, s3.dp] at r3; obtain ⟨_, _, _, u3, u4, _, u6, u7, u8, u9, _, uf⟩ := r3; clear k3 s3)
      | (go_at_call 61; refine (NE.out _).mono ?_; rintro e w4 ⟨rfl, rfl⟩))
  go_end0
  exact ⟨rfl, W3.out⟩
theorem swh_no {w : World} {b : Bk} {p : Pa} {inv : Bool} {st : Dm.St} {m : List Int} (h : Sk w b p inv st m) (hp : p.Ok) (hP : st.P.length ≤ 549755813888) (h0 : (Dm.write st (p.st : Int) (Hm.sector p.gen (p.g : Int) (p.N : Int) inv)).2 ≠ 0) :
    Calls Tryz.prog 106 #[.pointer (some ⟨b.q, 0, none⟩)] w fun e w' => e = faultE (Dm.write st (p.st : Int) (Hm.sector p.gen (p.g : Int) (p.N : Int) inv)).2 ∧ SWent b p inv (Dm.write st (p.st : Int) (Hm.sector p.gen (p.g : Int) (p.N : Int) inv)).1 m w w' := by
  have EN := Lib.hid (fun w1 => shead_any hp inv w1)
  have hlen : (Hm.sector p.gen (p.g : Int) (p.N : Int) inv).length = 64 := Hm.sector_len _ _ _ _
  obtain ⟨d, hd⟩ : ∃ d, d = Hm.sector p.gen (p.g : Int) (p.N : Int) inv := ⟨_, rfl⟩
  rw [← hd] at EN h0 hlen ⊢
  clear hd
  have MU := Lib.hid (fun w1 => mustS_ok (.string (Om.B d)) w1)
  obtain ⟨x, hx⟩ : ∃ x, x = (Dm.write st (p.st : Int) d).2 := ⟨_, rfl⟩
  have WR : Hid (∀ w1, Below w.heap.size w w1 → Calls Tryz.prog 62 #[.pointer (some ⟨b.d.p, 0, none⟩), .int .i64 (p.st : Int), .string (Om.B d)] w1 fun e w' => e = .returned (.int .i64 x) ∧ SWent b p inv (Dm.write st (p.st : Int) d).1 m w w') := Lib.hid fun w1 hb => by
    have hs := hp.small
    have := Dsk.write_any (h.below hb).dk (p.st : Int) d (by omega) (by omega) hP
    rw [← hx] at this
    exact this.mono fun e w' ⟨e1, e2⟩ => ⟨e1, ((h.below hb).went e2).below hb⟩
  have HB : Hid (∀ w1, Below w.heap.size w w1 → Sk w1 b p inv st m) := Lib.hid fun w1 hb => h.below hb
  rw [← hx] at h0 ⊢
  have NE := Lib.hid (fun w1 => need_no x h0 w1)
  obtain ⟨_, _, _, c3, c4, _, c6, c7, c8, c9, _, cf⟩ := h.reads
  obtain ⟨st', hst'⟩ : ∃ s, s = (Dm.write st (p.st : Int) d).1 := ⟨_, rfl⟩
  rw [← hst'] at WR ⊢
  clear h hP hp hst' hx hlen h0
  unfold faultE at NE ⊢
  go_enter Tryz.func106, Tryz.ntmps106
  go_region_held (fun w' => w'.cell? ⟨b.q, 3, none⟩ = some (.pointer (some ⟨b.d.p, 0, none⟩)) ∧ w'.cell? ⟨b.q, 4, none⟩ = some (.int .i64 (p.st : Int)) ∧ w'.cell? ⟨b.q, 6, none⟩ = some (.int .u32 (p.gen : Int)) ∧ w'.cell? ⟨b.q, 7, none⟩ = some (.int .i64 (p.g : Int)) ∧ w'.cell? ⟨b.q, 8, none⟩ = some (.int .i64 (p.N : Int)) ∧ w'.cell? ⟨b.q, 9, none⟩ = some (.bool inv))
    (first | (refine ⟨?_, ?_, ?_, ?_, ?_, ?_⟩ <;> assumption) | go_keep)
    (first
      | (go_at_call 136; refine (EN.out _).mono ?_; rintro e w1 ⟨rfl, hb⟩; have B1 := Lib.hid (((Below.refl _ w).drew).trans hb); have k1 := HB.out _ B1.out; obtain ⟨-, -, -, q3, q4, -, q6, q7, q8, q9, -, qf⟩ := k1.reads; clear k1 hb)
      | (go_at_call 55; refine (MU.out _).mono ?_; rintro e w2 ⟨rfl, rfl⟩)
      | (go_at_call 62; refine (WR.out _ B1.out).mono ?_; rintro e w3 ⟨rfl, hw⟩; have W3 := Lib.hid hw; obtain ⟨b3, k3, s3⟩ := hw; have r3 := k3.reads; rw [s3.q, s3.dp] at r3; obtain ⟨-, -, -, u3, u4, -, u6, u7, u8, u9, -, uf⟩ := r3; clear k3 s3)
      | (go_at_call 61; refine (NE.out _).mono ?_; rintro e w4 ⟨rfl, rfl⟩; refine Classical.byContradiction fun hn => ?_; have hno : False := hn ⟨rfl, rfl, W3.out⟩; clear hn; refine way_out (by assumption) hno { tmps := #[], defers := [] } w3 ?_))
  exact hno.elim
theorem swh_any {w : World} {b : Bk} {p : Pa} {inv : Bool} {st : Dm.St} {m : List Int} (h : Sk w b p inv st m) (hp : p.Ok) (hP : st.P.length ≤ 549755813888) :
    Calls Tryz.prog 106 #[.pointer (some ⟨b.q, 0, none⟩)] w fun e w' => e = endE (step st (headOp p inv)).2 ∧ SWent b p inv (step st (headOp p inv)).1 m w w' := by
  show Calls _ _ _ _ fun e w' => e = endE (Dm.write st (p.st : Int) (Hm.sector p.gen (p.g : Int) (p.N : Int) inv)).2 ∧ SWent b p inv (Dm.write st (p.st : Int) (Hm.sector p.gen (p.g : Int) (p.N : Int) inv)).1 m w w'
  by_cases h0 : (Dm.write st (p.st : Int) (Hm.sector p.gen (p.g : Int) (p.N : Int) inv)).2 = 0
  · rw [h0]
    exact swh_ok h hp hP h0
  · rw [endE_no h0]
    exact swh_no h hp hP h0
end So
end Go.Proofs.YtbmabcddciibfaaGreat
