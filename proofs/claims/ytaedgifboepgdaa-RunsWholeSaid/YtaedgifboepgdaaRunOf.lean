/- Contract of Of. -/
import Derived.Test.YtaedgifboepgdaaRunIter
import Derived.Stop.RegionWithIn
namespace Go.Proofs.Ytaedgifboepgdaa
namespace Rn
open Go.RowKit Go.Shelf Tb Dsk
set_option linter.unusedVariables false
attribute [local go_sem] Oper.semAt_some

/-- The iterator's contract, as the loop's law asks it. -/
theorem runs_stops (d : Nat) (hd : 1 ≤ d) (n₀ b off bm bs : Nat) (m : Int) (l : List E) (a : Option Addr) (n c : Nat) (hin : In m l n c) (hr : rightB m l = true) (ha : l ≠ [] → a = some ⟨b, off, none⟩) (w : World) (row : At w n₀ b off l)
    (cs : w.cell? ⟨bs, 0, none⟩ = some (.slice a n c)) (cm : w.cell? ⟨bm, 0, none⟩ = some (.int .i64 m)) :
    SeqStopsK Fence.wide d Try.prog 17 #[.pointer (some ⟨bs, 0, none⟩), .pointer (some ⟨bm, 0, none⟩)] (fun x : Pt l.length => #[Value.slice (some ⟨b, off + x.at_ * 2, none⟩) x.len (c - x.at_)]) (Kr n₀ bm m) (fun ys => ys.map (cut l) = told m l) (fun pre => pre.map (cut l) <+: told m l) (told m l).length w := fun ly J Jx W hW hJ _ hY h0 => by
  have k := fun (p : Addr) v (h : w.cell? p = some v) => (hW.cell (p := p) (World.block_lt_of_cell? _ _ h)).trans h
  exact runs1_in d hd ly n₀ b off bm bs m l a n c hin hr ha J Jx W.heap.size hJ hY W (k _ _ cs) ⟨Nat.zero_le _, rfl, h0, row.below (hW.mono row.size), k _ _ cm⟩
theorem of_no {m : Int} {l : List E} {n c : Nat} (hin : In m l n c) (a : Option Addr) (w : World) (hrow : REnts w a l) (h : rightB m l = false) :
    Calls Try.prog 7 #[.int .i64 m, .slice a n c] w fun e w' => e = .returned (.tuple #[.slice none 0 0, .int .i64 1]) ∧ Below w.heap.size w w' := by
  have R := Lib.hid (right_any hin a w hrow)
  rw [h] at R
  clear hin hrow h
  go_enter Try.func7, Try.ntmps7
  go_wp2_with fail
  refine R.out.mono ?_
  rintro e w1 ⟨rfl, hb⟩
  go_wp2_with fail
  go_ret2
  exact ⟨rfl, hb⟩
/-- Of runs, so far: they lie in rows of the call's own. -/
def Got (w : World) (q : Nat) (L : List (List E)) (W : World) : Prop := ∃ v vs, Boxed W q 24 v ∧ Rows W w.heap.size v vs L
theorem got_own (w : World) (q : Nat) {β : Type} (f : β → List (List E)) : Own (fun (s : β) W => Got w q (f s) W) := by
  rintro s X Y row ⟨v, vs, hv, hr⟩ hg hrow
  refine ⟨v, vs, hv.kept hg fun e => ?_, hr.kept hg hrow⟩
  obtain ⟨o, ho, hc⟩ := hrow q e.symm
  rw [show X.heap[q]? = _ from hv] at ho; cases ho; cases hc
theorem of_start (w1 : World) (m : Int) (a : Option Addr) (n c : Nat) (W1 W2 : World) (h1 : w1.alloc (.cells #[.slice none 0 0] 24) = W1)
    (h2 : (W1.alloc (.cells #[.int .i64 m] 3)).alloc (.cells #[.slice a n c] 22) = W2) :
    Boxed W2 w1.heap.size 24 (.slice none 0 0) ∧ W1.heap.size = w1.heap.size + 1 ∧ W2.heap.size = w1.heap.size + 3 ∧ W2.cell? ⟨W1.heap.size, 0, none⟩ = some (.int .i64 m) ∧ Boxed W2 (w1.heap.size + 1) 3 (.int .i64 m) ∧ W2.cell? ⟨W1.heap.size + 1, 0, none⟩ = some (.slice a n c) ∧ Below w1.heap.size w1 W2 := by
  have e1 : W1.heap.size = w1.heap.size + 1 := by rw [← h1]; simp
  subst h2
  have b0 := Boxed.new w1 24 (.slice none 0 0)
  rw [h1] at b0
  have b1 := Boxed.new W1 3 (.int .i64 m)
  have b2 := Boxed.new (W1.alloc (.cells #[.int .i64 m] 3)) 22 (.slice a n c)
  simp only [World.size_alloc] at b2
  refine ⟨(b0.alloc _).alloc _, e1, by simp; omega, (b1.alloc _).cell, by rw [← e1]; exact b1.alloc _, b2.cell, ?_⟩
  rw [← h1]
  exact ((below_new w1 _).alloc (by simp) _).alloc (by simp; omega) _
/-- Where exceptions lie that came in. -/
theorem at_of {w : World} {a : Option Addr} {l : List E} (h : REnts w a l) : ∃ b off, (l ≠ [] → a = some ⟨b, off, none⟩) ∧ At w w.heap.size b off l := by
  by_cases hl : l = []
  · subst hl
    exact ⟨0, 0, fun h => (h rfl).elim, fun h => (h rfl).elim, Nat.le_refl _, fun i x hx => by simp at hx⟩
  · obtain ⟨b, off, e, hb, hc⟩ := h hl
    exact ⟨b, off, fun _ => e, fun _ => hb, Nat.le_refl _, hc⟩

theorem Rows.out_alloc {w w4 : World} {base : Nat} {v : Value} {vs : List Value} {L : List (List E)} (h : Rows w base v vs L) (h4 : Below w.heap.size w w4) (o : Obj) : (w4.alloc o).ownsRow base 22 1 v L.length vs := (h.next h4).out.alloc o
/-- append onto a row of rows, at the operation, in a fence. -/
theorem wpIn_append_rows {F : Fence} {d : Nat} {w : World} {o : Oper} {a : Act} {K : Act → World → Prop} {Q : Exit → Act → World → Prop} (s x : Operand) (hop : o.op = .call { callee := .builtin .append, args := #[s, x], argTypes := #[24, 24] }) {base : Nat}
    (v : Value) (n : Nat) (vs : List Value) (hs : a.eval s = v) (hown : w.ownsRow base 22 1 v n vs) (b : Nat) (u : Value) (hu : u.oneCell' = true) (hx : a.eval x = .slice (some ⟨b, 0, none⟩) 1 1) (hc : w.heap[b]? = some (.cells #[u] 22 (0, 0))) (h63 : n < 8796093022208) (hbase : base ≤ w.heap.size)
    (h : ∀ v' w', w'.ownsRow base 22 1 v' (n + 1) (vs ++ [u]) → w.grownBy w' v.ownBlock → K (a.put o.dst v') w') : Oper.wpIn F d Try.prog o a w K Q := by
  obtain ⟨v', w', hrun, r1, r2⟩ := run_append_rows w base o.type v n vs hown b u hu hc h63 hbase
  unfold Oper.wpIn
  refine ⟨?_, ?_⟩
  · simp [Oper.about, hop, resolve, Target.leads, Sem.run_pure]
  · rw [Oper.semAt_plain F _ _ (by rw [hop]; intro c hc'; cases hc')]
    simp [execOp, hop, resolve, invoke, builtin, hs, hx, hrun, Result.andThen]
    exact h v' w' r1 r2
/-- Behind the append and the store: all that a round owes. -/
theorem of_round {w W w4 w5 : World} {q : Nat} {m : Int} {va : Option Addr} {vc : Nat} {vs : List Value} {L : List (List E)} {r : List E} {k : Nat} {u v' : Value}
    (hv : Boxed W q 24 (.slice va L.length vc)) (hrows : Rows W w.heap.size (.slice va L.length vc) vs L) (hbm : Boxed W (q + 1) 3 (.int .i64 m)) (hB : Below w.heap.size w W) (hq : w.heap.size ≤ q) (h4 : Below W.heap.size W w4) (hr : r.length = k)
    (hu : w4.ownsRow W.heap.size 36 2 u k (ecells r)) (ho : w5.ownsRow w.heap.size 22 1 v' (L.length + 1) (vs ++ [u])) (hg : (w4.alloc (.cells #[u] 22)).grownBy w5 (Value.slice va L.length vc).ownBlock) :
    Boxed w5 q 24 (.slice va L.length vc) ∧ KeepsOthers W (w5.setCell ⟨q, 0, none⟩ v') ∧ Kr w.heap.size (q + 1) m W (w5.setCell ⟨q, 0, none⟩ v') ∧ (Got w q (L ++ [r]) (w5.setCell ⟨q, 0, none⟩ v') ∧ Boxed (w5.setCell ⟨q, 0, none⟩ v') (q + 1) 3 (.int .i64 m)) ∧ Below w.heap.size w (w5.setCell ⟨q, 0, none⟩ v') := by
  subst hr
  have hal : Below W.heap.size W (w4.alloc (.cells #[u] 22)) := h4.alloc h4.size _
  have row := hrows.next hal
  have hrow : ∀ j, (Value.slice va L.length vc).ownBlock = some j → ∃ cur, (w4.alloc (.cells #[u] 22)).heap[j]? = some (.cells cur 22 (0, 0)) := fun j hj => own_block row.out j hj
  have hlow : ∀ j, (Value.slice va L.length vc).ownBlock = some j → w.heap.size ≤ j := fun j hj => (row.out.lt j hj).1
  have box : ∀ {t : TypeId} {B : Nat} {y : Value}, Boxed W B t y → t ≠ 22 → Boxed w5 B t y := fun {t B y} h hne => by
    have h2 : Boxed (w4.alloc (.cells #[u] 22)) B t y := (hal.block B h.lt).trans h
    exact h2.kept hg (h2.not_row hne row.out)
  have hv5 := box hv (by decide)
  have hm5 := box hbm (by decide)
  have hu4 : (w4.alloc (.cells #[u] 22)).ownsRow w.heap.size 36 2 u r.length (ecells r) := by
    refine World.ownsRow.alloc ?_ _
    exact Geo.own_from (Geo.own_zero hu) fun j hj => by have := (hu.lt j hj).1; have := hB.size; omega
  have r5 : Rows w5 w.heap.size v' (vs ++ [u]) (L ++ [r]) := row.snoc hg hrow ho hu4
  have hws := hB.size
  have hb5 : Below w.heap.size W w5 := (hal.mono hws).grown hg (Nat.le_trans hws hal.size) hlow
  have hb6 : Below w.heap.size W (w5.setCell ⟨q, 0, none⟩ v') := hb5.setCell (p := ⟨q, 0, none⟩) (by show w.heap.size ≤ q; exact hq) _
  have hm6 := hm5.other (B' := q) (by omega) v'
  refine ⟨hv5, ?_, ⟨hb6, fun _ => hm6.cell⟩, ⟨⟨_, _, hv5.set _, r5.set (p := ⟨q, 0, none⟩) hv5 (by decide) (by decide) _⟩, hm6⟩, hB.trans hb6⟩
  refine KeepsOthers.trans ?_ ((KeepsOthers.of_grownBy hg fun j o hj ho => ?_).trans (KeepsOthers.setCell _ _ _))
  · exact KeepsOthers.trans ⟨h4.size, fun j o hj _ => (h4.block j (Array.getElem?_eq_some_iff.1 hj).1).trans hj⟩ (KeepsOthers.alloc _ _)
  · obtain ⟨cur, hcc⟩ := hrow j hj
    rw [hcc] at ho; cases ho; rfl

set_option maxRecDepth 100000 in
set_option maxHeartbeats 2000000 in
theorem of_ok {m : Int} {l : List E} {n c : Nat} (hin : In m l n c) (a : Option Addr) (w : World) (hrow : REnts w a l) (h : rightB m l = true) :
    Calls Try.prog 7 #[.int .i64 m, .slice a n c] w fun e w' => ∃ v vs, e = .returned (.tuple #[v, .int .i64 0]) ∧ Rows w' w.heap.size v vs (told m l) ∧ Below w.heap.size w w' := by
  have R := Lib.hid (right_any hin a w hrow)
  rw [h] at R
  have HI := Lib.hid hin
  have HR := Lib.hid h
  obtain ⟨b, off, ha, hat⟩ := at_of hrow
  have HA := Lib.hid ha
  have HAT := Lib.hid hat
  clear hin hrow h ha hat
  refine (callsIn_wide (n := 3)).1 ?_
  refine callsIn_of_wp_marks Try.func7 rfl trivial ?_ rfl
  simp only [Try.ntmps7, List.size_toArray, List.length_cons, List.length_nil, Nat.reduceAdd, Nat.reduceSub, Array.replicate_succ, Array.replicate_zero, List.push_toArray, List.append_toArray, List.nil_append, List.cons_append]
  gi_wp2_with fail
  refine ⟨trivial, (callsIn_wide.2 R.out).mono ?_⟩
  rintro e w1 ⟨rfl, hb⟩
  have HB1 := Lib.hid hb
  clear hb R
  obtain ⟨W1, hW1⟩ : ∃ W1, w1.alloc (.cells #[.slice none 0 0] 24) = W1 := ⟨_, rfl⟩
  have G := Lib.hid (runs_any m a n c W1)
  gi_wp2_with fail
  refine ⟨trivial, (callsIn_wide.2 G.out).mono ?_⟩
  rintro e w3 ⟨rfl, rfl⟩
  gi_wp2_with fail
  obtain ⟨W2, hW2⟩ : ∃ W2, (W1.alloc (.cells #[.int .i64 m] 3)).alloc (.cells #[.slice a n c] 22) = W2 := ⟨_, rfl⟩
  obtain ⟨bP, s1, s2, cm, bm, cs, hb2⟩ := of_start w1 m a n c W1 W2 hW1 hW2
  have hwB : w.heap.size ≤ w1.heap.size := HB1.out.size
  have hB2 : Below w.heap.size w W2 := HB1.out.trans (hb2.mono hwB)
  have hat2 : At W2 w.heap.size b off l := HAT.out.below hB2
  have ST := Lib.hid (runs_stops (3 - 1) (by omega) w.heap.size b off W1.heap.size (W1.heap.size + 1) m l a n c HI.out HR.out HA.out W2 hat2 cs cm)
  have HTL := Lib.hid (told_len m l)
  obtain ⟨q, hq⟩ : ∃ q, q = w1.heap.size := ⟨_, rfl⟩
  rw [s1] at ST ⊢
  rw [hW2]
  rw [← hq] at bP ST hwB bm ⊢
  have hqW : q + 3 = W2.heap.size := by omega
  clear hW2 hb2 s2 cs cm s1 G HB1 hq hW1 hat2
  refine wpIn_rangeFunc_ownF rfl (by omega) (gf := 17) (lb := #[.pointer (some ⟨q + 1 + 1, 0, none⟩), .pointer (some ⟨q + 1, 0, none⟩)]) rfl trivial (enters_of Try.func17 (by kernel_rfl) rfl)
    ST.out (fun h k => h.trans k) (kr_b (by omega)) (Below.refl _ _) (fun _ => rfl)
    (fun pre W => (Got w q (pre.map (cut l)) W ∧ Boxed W (q + 1) 3 (.int .i64 m)) ∧ Below w.heap.size w W)
    (fun _ _ _ => False)
    (OwnFrom.and (OwnFrom.and (Own.from (got_own w q (fun pre : List (Pt l.length) => pre.map (cut l))) _) (Own.from (boxed_own (q + 1) 3 (fun _ : List (Pt l.length) => Value.int .i64 m)) _)) (ownFrom_below (Nat.le_refl _) (by omega)))
    (fun _ _ _ _ _ hs _ _ => hs)
    ⟨⟨⟨_, _, bP, Rows.nil _ _⟩, bm⟩, hB2⟩
    (fun x => { tmps := #[.int .i64 m, .slice a n c, undef, undef, .slice none 0 0, .int .i64 0, .pointer (some ⟨q, 0, none⟩), .slice (some ⟨b, off + x.at_ * 2, none⟩) x.len (c - x.at_), .int .i64 m, .slice a n c, .bool true, .bool false, .int .i64 m, .slice a n c, .func (.func 17) #[] #[.pointer (some ⟨q + 1 + 1, 0, none⟩), .pointer (some ⟨q + 1, 0, none⟩)], .slice (some ⟨b, off + x.at_ * 2, none⟩) x.len (c - x.at_), undef, undef, undef, undef, undef, undef], defers := [] })
    ?assign ?body ?done ?stop
  case assign =>
    rintro ly x W K hK
    gi_wp2
    exact hK
  case body =>
    rintro ly pre x W ⟨⟨⟨v, vs, hv, hrows⟩, hbm⟩, hB⟩ hlt
    have HE : Hid (pre.map (cut l) ++ [cut l x] = (pre ++ [x]).map (cut l)) := Lib.hid (by simp)
    have HK63 : Hid ((pre.map (cut l)).length < 8796093022208) := Lib.hid (by rw [List.length_map]; have := HTL.out; have := HI.out.bytes; have := HI.out.len; omega)
    obtain ⟨L, hL⟩ : ∃ L, L = pre.map (cut l) := ⟨_, rfl⟩
    rw [← hL] at hrows HE HK63
    clear hL
    obtain ⟨va, vc, hvv⟩ := hrows.value
    subst hvv
    have hc := hv.cell
    have HV := Lib.hid hv
    have HRW := Lib.hid hrows
    have HBM := Lib.hid hbm
    have HB := Lib.hid hB
    have HQ := Lib.hid hv.lt
    have HQ0 : Hid (w.heap.size ≤ q) := hwB
    have HX := Lib.hid (cut_length l x)
    have CL := Lib.hid (fun W' (hW' : Below w.heap.size w W') => clone_any (cut l x) x.len (cut_length l x).symm x.pos (some ⟨b, off + x.at_ * 2, none⟩) (c - x.at_) W' ((HAT.out.below hW').cut x) (by have := x.fits; have := HI.out.bytes; have := HI.out.len; omega))
    clear hv hrows hbm hB
    gi_wp2
    refine wpIn_region_any (by kernel_rfl) ?_
    change wpAnyIn _ _ _ _ _ _ _ _ _ (World.drew _)
    refine wpAnyIn_ready (rs := [0, 1]) (by kernel_rfl) (by simp) ?_
    refine (AllReadyIn.cons rfl (fun K hK => ?_) (AllReadyIn.cons rfl (fun K hK => ?_) AllReadyIn.nil))
    · go_simp
      refine hK _ _ ?_; clear hK K
      refine wpAnyIn_ready (rs := [1]) (by kernel_rfl) (by simp) ?_
      refine (AllReadyIn.cons rfl (fun K hK => ?_) AllReadyIn.nil)
      go_simp
      refine hK _ _ ?_; clear hK K
      refine wpAnyIn_ready (rs := [2]) (by kernel_rfl) (by simp) ?_
      refine (AllReadyIn.cons rfl (fun K hK => ?_) AllReadyIn.nil)
      go_simp
      gi_wp2_with fail
      refine ⟨trivial, ((callsIn_wide.2 (CL.out _ (drew_below HB.out))).inRound ly).mono ?_⟩
      rintro e w4 ⟨u, rfl, hu, hb4⟩
      obtain ⟨ua, uc, hua⟩ := own_slice hu
      subst hua
      have HU : Hid (w4.ownsRow W.heap.size 36 2 (.slice ua x.len uc) x.len (ecells (cut l x))) := hu
      have H4 : Hid (Below W.heap.size W w4) := ⟨hb4.os, hb4.tape, hb4.output, hb4.size, hb4.block⟩
      have hc4 := (H4.out.cell (p := ⟨q, 0, none⟩) HQ.out).trans hc
      have hc4a := ((below_new w4 (.cells #[.slice ua x.len uc] 22)).cell (p := ⟨q, 0, none⟩) (Nat.lt_of_lt_of_le HQ.out H4.out.size)).trans hc4
      clear hu hb4
      refine hK _ _ ?_; clear hK K
      refine wpAnyIn_ready (rs := [3]) (by kernel_rfl) (by simp) ?_
      refine (AllReadyIn.cons rfl (fun K hK => ?_) AllReadyIn.nil)
      go_simp
      refine hK _ _ ?_; clear hK K
      refine wpAnyIn_ready (rs := [4]) (by kernel_rfl) (by simp) ?_
      refine (AllReadyIn.cons rfl (fun K hK => ?_) AllReadyIn.nil)
      rw [if_pos (by rfl)]
      refine wpIn_append_rows (base := w.heap.size) (.tmp 16) (.tmp 19) rfl _ _ vs rfl (HRW.out.out_alloc H4.out _) w4.heap.size (.slice ua x.len uc) rfl rfl (heap_alloc_new _ _) HK63.out (by have := H4.out.size; have := HB.out.size; simp; omega) ?_
      intro v5 w5 ho hg
      have HO := Lib.hid ho
      obtain ⟨g5, c5, rfl⟩ := ownsRow_succ ho
      obtain ⟨hv5, hfin⟩ := of_round HV.out HRW.out HBM.out HB.out HQ0.out H4.out HX.out HU.out HO.out hg
      have hc5 := hv5.cell
      have hf5 := hv5.frozen
      rw [HE.out] at hfin
      have FIN := Lib.hid hfin
      clear ho hg hv5 hfin
      refine hK _ _ ?_; clear hK K
      refine wpAnyIn_ready (rs := [5]) (by kernel_rfl) (by simp) ?_
      refine (AllReadyIn.cons rfl (fun K hK => ?_) AllReadyIn.nil)
      go_simp
      refine hK _ _ ?_; clear hK K
      refine wpAnyIn_done (by kernel_rfl) ?_ _
      exact FIN.out
    · go_simp
      refine hK _ _ ?_; clear hK K
      refine wpAnyIn_ready (rs := [0, 2]) (by kernel_rfl) (by simp) ?_
      refine (AllReadyIn.cons rfl (fun K hK => ?_) (AllReadyIn.cons rfl (fun K hK => ?_) AllReadyIn.nil))
      · go_simp
        refine hK _ _ ?_; clear hK K
        refine wpAnyIn_ready (rs := [2]) (by kernel_rfl) (by simp) ?_
        refine (AllReadyIn.cons rfl (fun K hK => ?_) AllReadyIn.nil)
        go_simp
        gi_wp2_with fail
        refine ⟨trivial, ((callsIn_wide.2 (CL.out _ (drew_below HB.out))).inRound ly).mono ?_⟩
        rintro e w4 ⟨u, rfl, hu, hb4⟩
        obtain ⟨ua, uc, hua⟩ := own_slice hu
        subst hua
        have HU : Hid (w4.ownsRow W.heap.size 36 2 (.slice ua x.len uc) x.len (ecells (cut l x))) := hu
        have H4 : Hid (Below W.heap.size W w4) := ⟨hb4.os, hb4.tape, hb4.output, hb4.size, hb4.block⟩
        have hc4 := (H4.out.cell (p := ⟨q, 0, none⟩) HQ.out).trans hc
        have hc4a := ((below_new w4 (.cells #[.slice ua x.len uc] 22)).cell (p := ⟨q, 0, none⟩) (Nat.lt_of_lt_of_le HQ.out H4.out.size)).trans hc4
        clear hu hb4
        refine hK _ _ ?_; clear hK K
        refine wpAnyIn_ready (rs := [3]) (by kernel_rfl) (by simp) ?_
        refine (AllReadyIn.cons rfl (fun K hK => ?_) AllReadyIn.nil)
        go_simp
        refine hK _ _ ?_; clear hK K
        refine wpAnyIn_ready (rs := [4]) (by kernel_rfl) (by simp) ?_
        refine (AllReadyIn.cons rfl (fun K hK => ?_) AllReadyIn.nil)
        rw [if_pos (by rfl)]
        refine wpIn_append_rows (base := w.heap.size) (.tmp 16) (.tmp 19) rfl _ _ vs rfl (HRW.out.out_alloc H4.out _) w4.heap.size (.slice ua x.len uc) rfl rfl (heap_alloc_new _ _) HK63.out (by have := H4.out.size; have := HB.out.size; simp; omega) ?_
        intro v5 w5 ho hg
        have HO := Lib.hid ho
        obtain ⟨g5, c5, rfl⟩ := ownsRow_succ ho
        obtain ⟨hv5, hfin⟩ := of_round HV.out HRW.out HBM.out HB.out HQ0.out H4.out HX.out HU.out HO.out hg
        have hc5 := hv5.cell
        have hf5 := hv5.frozen
        rw [HE.out] at hfin
        have FIN := Lib.hid hfin
        clear ho hg hv5 hfin
        refine hK _ _ ?_; clear hK K
        refine wpAnyIn_ready (rs := [5]) (by kernel_rfl) (by simp) ?_
        refine (AllReadyIn.cons rfl (fun K hK => ?_) AllReadyIn.nil)
        go_simp
        refine hK _ _ ?_; clear hK K
        refine wpAnyIn_done (by kernel_rfl) ?_ _
        exact FIN.out
      · go_simp
        gi_wp2_with fail
        refine ⟨trivial, ((callsIn_wide.2 (CL.out _ (drew_below HB.out))).inRound ly).mono ?_⟩
        rintro e w4 ⟨u, rfl, hu, hb4⟩
        obtain ⟨ua, uc, hua⟩ := own_slice hu
        subst hua
        have HU : Hid (w4.ownsRow W.heap.size 36 2 (.slice ua x.len uc) x.len (ecells (cut l x))) := hu
        have H4 : Hid (Below W.heap.size W w4) := ⟨hb4.os, hb4.tape, hb4.output, hb4.size, hb4.block⟩
        have hc4 := (H4.out.cell (p := ⟨q, 0, none⟩) HQ.out).trans hc
        have hc4a := ((below_new w4 (.cells #[.slice ua x.len uc] 22)).cell (p := ⟨q, 0, none⟩) (Nat.lt_of_lt_of_le HQ.out H4.out.size)).trans hc4
        clear hu hb4
        refine hK _ _ ?_; clear hK K
        refine wpAnyIn_ready (rs := [0, 3]) (by kernel_rfl) (by simp) ?_
        refine (AllReadyIn.cons rfl (fun K hK => ?_) (AllReadyIn.cons rfl (fun K hK => ?_) AllReadyIn.nil))
        · go_simp
          refine hK _ _ ?_; clear hK K
          refine wpAnyIn_ready (rs := [3]) (by kernel_rfl) (by simp) ?_
          refine (AllReadyIn.cons rfl (fun K hK => ?_) AllReadyIn.nil)
          go_simp
          refine hK _ _ ?_; clear hK K
          refine wpAnyIn_ready (rs := [4]) (by kernel_rfl) (by simp) ?_
          refine (AllReadyIn.cons rfl (fun K hK => ?_) AllReadyIn.nil)
          rw [if_pos (by rfl)]
          refine wpIn_append_rows (base := w.heap.size) (.tmp 16) (.tmp 19) rfl _ _ vs rfl (HRW.out.out_alloc H4.out _) w4.heap.size (.slice ua x.len uc) rfl rfl (heap_alloc_new _ _) HK63.out (by have := H4.out.size; have := HB.out.size; simp; omega) ?_
          intro v5 w5 ho hg
          have HO := Lib.hid ho
          obtain ⟨g5, c5, rfl⟩ := ownsRow_succ ho
          obtain ⟨hv5, hfin⟩ := of_round HV.out HRW.out HBM.out HB.out HQ0.out H4.out HX.out HU.out HO.out hg
          have hc5 := hv5.cell
          have hf5 := hv5.frozen
          rw [HE.out] at hfin
          have FIN := Lib.hid hfin
          clear ho hg hv5 hfin
          refine hK _ _ ?_; clear hK K
          refine wpAnyIn_ready (rs := [5]) (by kernel_rfl) (by simp) ?_
          refine (AllReadyIn.cons rfl (fun K hK => ?_) AllReadyIn.nil)
          go_simp
          refine hK _ _ ?_; clear hK K
          refine wpAnyIn_done (by kernel_rfl) ?_ _
          exact FIN.out
        · go_simp
          refine hK _ _ ?_; clear hK K
          refine wpAnyIn_ready (rs := [0]) (by kernel_rfl) (by simp) ?_
          refine (AllReadyIn.cons rfl (fun K hK => ?_) AllReadyIn.nil)
          go_simp
          refine hK _ _ ?_; clear hK K
          refine wpAnyIn_ready (rs := [4]) (by kernel_rfl) (by simp) ?_
          refine (AllReadyIn.cons rfl (fun K hK => ?_) AllReadyIn.nil)
          rw [if_pos (by rfl)]
          refine wpIn_append_rows (base := w.heap.size) (.tmp 16) (.tmp 19) rfl _ _ vs rfl (HRW.out.out_alloc H4.out _) w4.heap.size (.slice ua x.len uc) rfl rfl (heap_alloc_new _ _) HK63.out (by have := H4.out.size; have := HB.out.size; simp; omega) ?_
          intro v5 w5 ho hg
          have HO := Lib.hid ho
          obtain ⟨g5, c5, rfl⟩ := ownsRow_succ ho
          obtain ⟨hv5, hfin⟩ := of_round HV.out HRW.out HBM.out HB.out HQ0.out H4.out HX.out HU.out HO.out hg
          have hc5 := hv5.cell
          have hf5 := hv5.frozen
          rw [HE.out] at hfin
          have FIN := Lib.hid hfin
          clear ho hg hv5 hfin
          refine hK _ _ ?_; clear hK K
          refine wpAnyIn_ready (rs := [5]) (by kernel_rfl) (by simp) ?_
          refine (AllReadyIn.cons rfl (fun K hK => ?_) AllReadyIn.nil)
          go_simp
          refine hK _ _ ?_; clear hK K
          refine wpAnyIn_done (by kernel_rfl) ?_ _
          exact FIN.out
  case done =>
    rintro D ys W hD hys ⟨⟨⟨v, vs, hv, hrows⟩, _⟩, hB⟩ hK
    rw [hys] at hrows
    obtain ⟨va, vc, rfl⟩ := hrows.value
    have hc := hv.cell
    clear hys
    gi_wp2
    refine ⟨by simp, .inl ⟨_, _, rfl, run_takeDeferred hK, ?_⟩⟩
    exact ⟨_, results_tmp2 rfl _ _ _, _, vs, rfl, hrows.kept (grownBy_putObj' W D _) (fun k e => by cases e; exact ⟨_, hK, rfl⟩), hB.trans (belowK_b (w := w) (Nat.le_refl _) W D _ _ (by omega) hK rfl rfl)⟩
  case stop =>
    rintro D c pre W _ _ h _
    exact h.elim
end Rn
end Go.Proofs.Ytaedgifboepgdaa
