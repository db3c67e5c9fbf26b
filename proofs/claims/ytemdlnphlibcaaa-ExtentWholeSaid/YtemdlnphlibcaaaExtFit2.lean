/- Contract of Fit, where extents may be used. -/
import Derived.Test.YtemdlnphlibcaaaExtFit
namespace Go.Proofs.Ytemdlnphlibcaaa
namespace Xm
open Go.RowKit Go.Shelf Geo
set_option linter.unusedVariables false
attribute [local go_sem] Oper.semAt_some

theorem bx_kept {W W' : World} {row : Option Nat} {g : Nat} {s l : Int} (h : Bx W g s l) (hg : W.grownBy W' row) (hr : ∀ r, row = some r → ∃ o : Obj, W.heap[r]? = some o ∧ o.isCells = false) : Bx W' g s l := by
  refine (hg.block g h.lt fun e => ?_).trans h
  obtain ⟨o, ho, hc⟩ := hr g e.symm
  unfold Bx at h
  rw [h] at ho; cases ho; cases hc
theorem boxed_kept {W W' : World} {row : Option Nat} {g : Nat} {t : TypeId} {v : Value} (h : Boxed W g t v) (hg : W.grownBy W' row) (hr : ∀ r, row = some r → ∃ o : Obj, W.heap[r]? = some o ∧ o.isCells = false) : Boxed W' g t v := by
  refine h.kept hg fun e => ?_
  obtain ⟨o, ho, hc⟩ := hr g e.symm
  rw [show W.heap[g]? = _ from h] at ho; cases ho; cases hc
theorem boxed_fit {W : World} {g b k : Nat} {t : TypeId} {v0 : Value} (h : Boxed W k t v0) (hg : k ≠ g) (hb : k ≠ b) (x y v : Value) : Boxed (((W.setCell ⟨g, 0, none⟩ x).setCell ⟨g, 1, none⟩ y).setCell ⟨b, 0, none⟩ v) k t v0 :=
  (Below.heap_setCell _ _ _ _ hb).trans ((Below.heap_setCell _ _ _ _ hg).trans ((Below.heap_setCell _ _ _ _ hg).trans h))
/-- What stands between two gaps. -/
structure FI (w : World) (m : Int) (x y e : Int) (W : World) : Prop where
  m : Boxed W (w.heap.size + 1) 3 (.int .i64 m)
  g : Bx W (w.heap.size + 2) x y
  e : Boxed W (w.heap.size + 3) 26 (.int .i64 e)
  bel : Below w.heap.size w W
theorem FI.kept {w : World} {m x y e : Int} {W W' : World} {row : Option Nat} (h : FI w m x y e W) (hg : W.grownBy W' row) (hr : ∀ r, row = some r → w.heap.size ≤ r ∧ ∃ o : Obj, W.heap[r]? = some o ∧ o.isCells = false) : FI w m x y e W' :=
  ⟨boxed_kept h.m hg (fun r e => (hr r e).2), bx_kept h.g hg (fun r e => (hr r e).2), boxed_kept h.e hg (fun r e => (hr r e).2), h.bel.grown hg h.bel.size (fun k e => (hr k e).1)⟩
theorem FI.own {β : Type} {w : World} {m : Int} (P : β → Prop) (x y e : Int) {B : Nat} (hB : w.heap.size ≤ B) : OwnFrom B (fun (b : β) W => P b ∧ FI w m x y e W) :=
  fun _ _ _ _ hs hg hr => ⟨hs.1, hs.2.kept hg fun r e => ⟨Nat.le_trans hB (hr r e).1, (hr r e).2⟩⟩
theorem FI.alloc {w : World} {m x y e : Int} {W : World} (h : FI w m x y e W) (o : Obj) : FI w m x y e (W.alloc o) := h.kept (World.grownBy_alloc W o none) (fun r e => by cases e)
theorem FI.put {w : World} {m x y e : Int} {W : World} (h : FI w m x y e W) {D : Nat} {o : Obj} (o' : Obj) (hD : W.heap[D]? = some o) (ho : o.isCells = false) (hw : w.heap.size ≤ D) : FI w m x y e (W.putObj D o') :=
  h.kept (grownBy_putObj' W D o') (fun r e => by cases e; exact ⟨hw, o, hD, ho⟩)

theorem FI.set {w : World} {m x y e : Int} {W : World} (h : FI w m x y e W) (x2 y2 e2 : Int) : FI w m x2 y2 e2 (((W.setCell ⟨w.heap.size + 2, 0, none⟩ (.int .i64 x2)).setCell ⟨w.heap.size + 2, 1, none⟩ (.int .i64 y2)).setCell ⟨w.heap.size + 3, 0, none⟩ (.int .i64 e2)) := by
  obtain ⟨r1, r2⟩ := fit_set h.g h.e (by omega) x2 y2 e2
  exact ⟨boxed_fit h.m (by omega) (by omega) _ _ _, r1, r2, below_fit h.bel (by omega) (by omega) _ _ _⟩
/-- No gap that was told has room; the last one has. -/
def NoRoom (m : Int) (pre : List (Int × Int)) : Prop := ∀ y ∈ pre, ¬ m ≤ y.2
def FitAt (w : World) (m : Int) (c : Code) (pre : List (Int × Int)) (W : World) : Prop := ∃ x : Int × Int, (c = .ret ∧ (∃ pr, pre = pr ++ [x] ∧ NoRoom m pr) ∧ m ≤ x.2) ∧ FI w m x.1 m 0 W
theorem NoRoom.more {m : Int} {pre : List (Int × Int)} {x : Int × Int} (h : NoRoom m pre) (hx : ¬ m ≤ x.2) : NoRoom m (pre ++ [x]) := by
  intro y hy
  rcases List.mem_append.1 hy with c | c
  · exact h y c
  · rw [List.mem_singleton.1 c]; exact hx
theorem hK3 {w W : World} {D : Nat} {o : Obj} {x y v : Value} {N : Nat} (h : W.heap[D]? = some o) (hD : N ≤ D) (hN : w.heap.size + 3 < N) :
    (((W.setCell ⟨w.heap.size + 2, 0, none⟩ x).setCell ⟨w.heap.size + 2, 1, none⟩ y).setCell ⟨w.heap.size + 3, 0, none⟩ v).heap[D]? = some o :=
  (Below.heap_setCell _ _ _ _ (by show D ≠ w.heap.size + 3; omega)).trans ((Below.heap_setCell _ _ _ _ (by show D ≠ w.heap.size + 2; omega)).trans ((Below.heap_setCell _ _ _ _ (by show D ≠ w.heap.size + 2; omega)).trans h))
set_option maxRecDepth 100000 in
set_option maxHeartbeats 2000000 in
theorem pfit_ok (s l m : Int) (u : List (Int × Int)) (n : Nat) (hn : n = u.length) (p : Option Addr) (c : Nat) (w : World) (hu : Exts w p u) (hsm : Small u) (hm : n ≤ maxLen) (hby : n * 16 ≤ 140737488355328) (h : okB s l u = true) (h1 : 1 ≤ m) :
    Calls Try.prog 9 #[.agg #[.int .i64 s, .int .i64 l], .int .i64 m, .slice p n c] w fun e w' => e = .returned (.tuple #[.agg #[.int .i64 (fitS s l m u), .int .i64 (fitL s l m u)], .int .i64 (fitE s l m u)]) ∧ Below w.heap.size w w' := by
  obtain ⟨W0, hW0⟩ : ∃ W0, (((w.alloc (.cells #[.int .i64 s, .int .i64 l] 23)).alloc (.cells #[.int .i64 m] 3)).alloc (.cells #[.int .i64 0, .int .i64 0] 23)).alloc (.cells #[.int .i64 0] 26) = W0 := ⟨_, rfl⟩
  obtain ⟨hB, hx, hmb, hg, hb0, hsz⟩ := fit_made w s l m W0 hW0
  have HX := Lib.hid hx
  have HF : Hid (FI w m 0 0 0 W0) := ⟨hmb, hg, hb0, hB⟩
  have c0 := hx.c0
  have c1 := hx.c1
  have R := Lib.hid (rising_any s l u n hn p c W0 (hu.keep (B := 0) (by omega) fun q hq => hB.cell hq) hsm hm hby)
  have HO := Lib.hid h
  have HM := Lib.hid hby
  have HN := Lib.hid hn
  have H1 := Lib.hid h1
  have SZ := Lib.hid hsz
  have d1 : decide (m < 1) = false := by simp; omega
  clear hB hx hmb hg hb0 hsz hm hby hu hn h hsm h1
  refine (callsIn_wide (n := 3)).1 ?_
  refine callsIn_of_wp_marks Try.func9 rfl trivial ?_ rfl
  simp only [Try.ntmps9, List.size_toArray, List.length_cons, List.length_nil, Nat.reduceAdd, Nat.reduceSub, Array.replicate_succ, Array.replicate_zero, List.push_toArray, List.append_toArray, List.nil_append, List.cons_append]
  gi_wp2_with fail
  clear hW0
  refine ⟨trivial, (callsIn_wide.2 R.out).mono ?_⟩
  rintro e w1 ⟨hb, ⟨h, _⟩ | ⟨_, q, d, z, rfl, hp, hz, hrow⟩⟩
  · rw [HO.out] at h; cases h
  have HX1 := Lib.hid (HX.out.next hb)
  have HF1 : Hid (FI w m 0 0 0 w1) := ⟨(hb.block _ HF.out.m.lt).trans HF.out.m, HF.out.g.next hb, (hb.block _ HF.out.e.lt).trans HF.out.e, HF.out.bel.trans (hb.mono HF.out.bel.size)⟩
  have S1 : Hid (w.heap.size + 4 ≤ w1.heap.size) := by have := SZ.out; have := hb.size; exact (by omega : w.heap.size + 4 ≤ w1.heap.size)
  have HR := Lib.hid hrow
  have HP := Lib.hid hp
  have HZ := Lib.hid hz
  clear hb c0 c1 hrow hp hz R
  have c0 := HX1.out.c0
  have c1 := HX1.out.c1
  have m0 := HF1.out.m.cell
  have G := Lib.hid (gaps_any s l q n d w1)
  gi_wp2_with fail
  refine ⟨trivial, (callsIn_wide.2 G.out).mono ?_⟩
  rintro e w3 ⟨rfl, rfl⟩
  gi_wp2_with fail
  obtain ⟨W2, hW2⟩ : ∃ W2, (w1.alloc (.cells #[.int .i64 s, .int .i64 l] 23)).alloc (.cells #[.slice q n d] 24) = W2 := ⟨_, rfl⟩
  obtain ⟨hb2, s2, bG, bS⟩ := boxes_made w1 s l q n d W2 hW2
  have hok := ok_iff.1 HO.out
  have hs1 := S1.out
  have hgs := along_gaps hok HP.out HZ.out
  have hnz : n = z.length := by rw [HN.out]; exact HP.out.length_eq
  have hF2 : FI w m 0 0 0 W2 := ⟨(hb2.block _ HF1.out.m.lt).trans HF1.out.m, HF1.out.g.next hb2, (hb2.block _ HF1.out.e.lt).trans HF1.out.e, HF1.out.bel.trans (hb2.mono HF1.out.bel.size)⟩
  have hin : ∀ x ∈ z, inB s l x = true := fun x hx => (hok.perm HP.out).2.1 x hx
  have hrow : RowKept (w.heap.size + 2) W2.heap.size W2 q z := by
    have h2 : Exts W2 q z := HR.out.next hb2
    refine ⟨h2, fun hne => ?_⟩
    obtain ⟨b, off, e, hb, hc⟩ := HR.out hne
    refine ⟨b, off, e, by omega, fun hbe => ?_⟩
    subst hbe
    have hz0 : 0 < z.length := by cases z with | nil => exact (hne rfl).elim | cons => simp
    have h1 := (in_iff.1 (hin _ (List.getElem_mem hz0))).1
    have h3 := (hc 0 hz0).2
    have h4 : w1.heap[w.heap.size + 2]? = some (.cells #[.int .i64 0, .int .i64 0] 23 (0, 0)) := HF1.out.g
    rw [cell_of_row _ _ _ _ _ _ h4] at h3
    obtain ⟨j, hj⟩ : ∃ j, j = off + 0 * 2 + 1 := ⟨_, rfl⟩
    rw [← hj] at h3
    match j, h3 with
    | 0, h3 => simp at h3; omega
    | 1, h3 => simp at h3; omega
    | j + 2, h3 => simp at h3
  have GS := Lib.hid (gaps_stops (3 - 1) (by omega) (w.heap.size + 2) w1.heap.size (w1.heap.size + 1) s l q d n z hnz (by have := HM.out; omega) hok.1 hin HZ.out W2 (by omega) (by omega) bG (by omega) bS hrow (by unfold ownAt; rw [hF2.g.c0]; rfl))
  rw [hgs] at GS
  obtain ⟨B, hB⟩ : ∃ B, B = w1.heap.size := ⟨_, rfl⟩
  have hwB : w.heap.size ≤ W2.heap.size := by omega
  have hpW : w.heap.size + 3 < W2.heap.size := by omega
  have hBW : B + 2 = W2.heap.size := by omega
  rw [hW2]
  rw [← hB] at GS ⊢
  clear hW2 hb2 s2 bG bS hok hgs hnz hrow hin c0 c1 m0 G HX HX1 HR HP HZ hB HF HF1 SZ hs1
  refine wpIn_rangeFunc_ownH rfl (by omega) (gf := 28) (lb := #[.pointer (some ⟨B, 0, none⟩), .pointer (some ⟨B + 1, 0, none⟩)]) rfl trivial (enters_of Try.func28 (by kernel_rfl) rfl)
    GS.out (fun h k => h.trans k) (kp_b (by omega)) (Below.refl _ _) (fun _ => rfl)
    (fun pre W => NoRoom m pre ∧ FI w m 0 0 0 W)
    (FitAt w m)
    (FI.own (fun pre : List (Int × Int) => NoRoom m pre) 0 0 0 hwB)
    (fun c pre W W' row hs hg hr => by
      obtain ⟨x, h1, h2⟩ := hs
      exact ⟨x, h1, h2.kept hg fun r e => ⟨Nat.le_trans hwB (hr r e).1, (hr r e).2⟩⟩)
    ⟨fun y hy => (by cases hy), hF2⟩
    (fun x a' W => ∃ b, w.heap.size + 4 ≤ b ∧ Bx W b x.1 x.2 ∧ a' = { tmps := #[.agg #[.int .i64 s, .int .i64 l], .int .i64 m, .slice p n c, .pointer (some ⟨w.heap.size, 0, none⟩), .pointer (some ⟨w.heap.size + 1, 0, none⟩), undef, .pointer (some ⟨w.heap.size + 2, 0, none⟩), .pointer (some ⟨w.heap.size + 3, 0, none⟩), .slice q n d, .bool true, .pointer (some ⟨b, 0, none⟩), .tuple #[.slice q n d, .bool true], .agg #[.int .i64 s, .int .i64 l], .slice p n c, .tuple #[.slice q n d, .bool true], .slice q n d, .bool true, .bool true, .bool false, .bool false, .int .i64 m, .bool false, .bool false, undef, .agg #[.int .i64 s, .int .i64 l], .slice q n d, .func (.func 28) #[] #[.pointer (some ⟨B, 0, none⟩), .pointer (some ⟨B + 1, 0, none⟩)], .agg #[.int .i64 x.1, .int .i64 x.2], undef, undef, undef, undef, undef, undef, undef, undef, undef], defers := [] })
    (fun x a' _ X Y row hs hg hr => by
      obtain ⟨b, k1, k2, k3⟩ := hs
      exact ⟨b, k1, bx_kept k2 hg fun r e => (hr r e).2, k3⟩)
    ?assign ?body ?done ?stop
  case assign =>
    rintro ly pre x W K ⟨hp, hF⟩ hK
    have hlt := hF.e.lt
    have HP := Lib.hid hp
    clear hp
    unfold encG
    gi_wp2
    exact hK _ _ ((KeepsOthers.alloc _ _).from _) (Kp.grown (World.grownBy_alloc W _ none) hF.g.lt (fun r e => by cases e)) ⟨HP.out, hF.alloc _⟩ ⟨W.heap.size, hlt, heap_alloc_new W _, rfl⟩
  case body =>
    rintro ly pre x a' W hl ⟨r, hr⟩ ⟨hp, hF⟩ ⟨b, hBx, bX, rfl⟩ hlt
    have x0 := bX.c0
    have x1 := bX.c1
    have m0 := hF.m.cell
    have g0 := hF.g.c0
    have g1 := hF.g.c1
    obtain ⟨f0, f1⟩ := hF.g.frozen
    have e0 := hF.e.cell
    have e1 := hF.e.frozen
    have HP := Lib.hid hp
    have HF := Lib.hid hF
    clear hp hF
    by_cases hge : m ≤ x.2
    · have d2 : decide (x.2 ≥ m) = true := by simpa using hge
      have HE := Lib.hid hge
      clear hge
      gi_wp2
      exact ⟨(((KeepsOthers.setCell _ _ _).trans (KeepsOthers.setCell _ _ _)).trans (KeepsOthers.setCell _ _ _)).from _, x, ⟨rfl, ⟨pre, rfl, HP.out⟩, HE.out⟩, HF.out.set _ _ _⟩
    · have d2 : decide (x.2 ≥ m) = false := by simpa using hge
      have HE := Lib.hid hge
      clear hge
      gi_wp2
      refine ⟨KeepsFrom.refl _ _, ?_, ?_, HF.out⟩
      · exact Kp.grown (row := none) ⟨rfl, rfl, rfl, Nat.le_refl _, fun _ _ _ => rfl⟩ HF.out.g.lt (fun r e => by cases e)
      · exact HP.out.more (by have := HE.out; omega)
  case done =>
    rintro D ys W hD rfl ⟨hp, hF⟩ hK
    have g0 := hF.g.c0
    have g1 := hF.g.c1
    obtain ⟨f0, f1⟩ := hF.g.frozen
    have e0 := hF.e.cell
    have e1 := hF.e.frozen
    have HQ := Lib.hid (fit_none ⟨HO.out, H1.out⟩ (room_none hp))
    have HF := Lib.hid (hF.set 0 0 111)
    clear hp hF
    gi_wp2
    refine ⟨by simp, .inl ⟨_, _, rfl, run_takeDeferred (w := ((W.setCell ⟨w.heap.size + 2, 0, none⟩ (.int .i64 0)).setCell ⟨w.heap.size + 2, 1, none⟩ (.int .i64 0)).setCell ⟨w.heap.size + 3, 0, none⟩ (.int .i64 111)) (hK3 hK hD hpW), ?_⟩⟩
    have hF3 := HF.out.put (.deferred none) (hK3 hK hD hpW) rfl (by omega)
    obtain ⟨q1, q2, q3⟩ := HQ.out
    exact ⟨_, results_fit (p := 6) (u := 7) rfl _ _ (w.heap.size + 2) (w.heap.size + 3) _ _ _ rfl rfl hF3.g hF3.e, by rw [q1, q2, q3], hF3.bel⟩
  case stop =>
    rintro D c pre W hD hpre ⟨x, ⟨rfl, ⟨pr, rfl, hpr⟩, hge⟩, hF⟩ hK
    have HQ := Lib.hid (fit_some ⟨HO.out, H1.out⟩ (room_first hpre hpr hge))
    have HF := Lib.hid hF
    clear hpre hpr hge hF
    gi_wp2
    refine ⟨by simp, .inl ⟨_, _, rfl, run_takeDeferred hK, ?_⟩⟩
    have hF3 := HF.out.put (.deferred none) hK rfl (by omega)
    obtain ⟨q1, q2, q3⟩ := HQ.out
    exact ⟨_, results_fit (p := 6) (u := 7) rfl _ _ (w.heap.size + 2) (w.heap.size + 3) _ _ _ rfl rfl hF3.g hF3.e, by rw [q1, q2, q3], hF3.bel⟩
end Xm
end Go.Proofs.Ytemdlnphlibcaaa
