/- Contract of Fit. -/
import Derived.Test.YtemdlnphlibcaaaExtFree
import Derived.Test.YtemdlnphlibcaaaDuo
import Derived.Laws.ResultCell
namespace Go.Proofs.Ytemdlnphlibcaaa
namespace Xm
open Go.RowKit Go.Shelf Geo
set_option linter.unusedVariables false
set_option maxRecDepth 100000
attribute [local go_sem] Oper.semAt_some

/-- Where any number of sectors fits: the first gap with room. -/
def room (m : Int) (gs : List (Int × Int)) : Option (Int × Int) := gs.find? fun x => decide (m ≤ x.2)
def fitS (s l m : Int) (u : List (Int × Int)) : Int :=
  if okB s l u = true ∧ 1 ≤ m then match room m (gaps s l u) with | some x => x.1 | none => 0 else 0
def fitL (s l m : Int) (u : List (Int × Int)) : Int :=
  if okB s l u = true ∧ 1 ≤ m then match room m (gaps s l u) with | some _ => m | none => 0 else 0
def fitE (s l m : Int) (u : List (Int × Int)) : Int :=
  if okB s l u = true ∧ 1 ≤ m then match room m (gaps s l u) with | some _ => 0 | none => 111 else 1
theorem fit_no {s l m : Int} {u : List (Int × Int)} (h : ¬ (okB s l u = true ∧ 1 ≤ m)) : fitS s l m u = 0 ∧ fitL s l m u = 0 ∧ fitE s l m u = 1 := by
  unfold fitS fitL fitE; rw [if_neg h, if_neg h, if_neg h]; exact ⟨rfl, rfl, rfl⟩
theorem fit_none {s l m : Int} {u : List (Int × Int)} (h : okB s l u = true ∧ 1 ≤ m) (hr : room m (gaps s l u) = none) : fitS s l m u = 0 ∧ fitL s l m u = 0 ∧ fitE s l m u = 111 := by
  unfold fitS fitL fitE; rw [if_pos h, if_pos h, if_pos h, hr]; exact ⟨rfl, rfl, rfl⟩
theorem fit_some {s l m : Int} {u : List (Int × Int)} (h : okB s l u = true ∧ 1 ≤ m) {x : Int × Int} (hr : room m (gaps s l u) = some x) : fitS s l m u = x.1 ∧ fitL s l m u = m ∧ fitE s l m u = 0 := by
  unfold fitS fitL fitE; rw [if_pos h, if_pos h, if_pos h, hr]; exact ⟨rfl, rfl, rfl⟩
theorem room_none {m : Int} {gs : List (Int × Int)} (h : ∀ x ∈ gs, ¬ m ≤ x.2) : room m gs = none := by
  unfold room; rw [List.find?_eq_none]; intro x hx; simpa using h x hx
theorem room_first {m : Int} {pre gs : List (Int × Int)} {x : Int × Int} (hp : pre ++ [x] <+: gs) (h : ∀ y ∈ pre, ¬ m ≤ y.2) (hx : m ≤ x.2) : room m gs = some x := by
  obtain ⟨r, rfl⟩ := hp
  unfold room
  rw [List.append_assoc, List.find?_append, show List.find? (fun x : Int × Int => decide (m ≤ x.2)) pre = none from room_none h]
  simp [hx]

theorem results_cell_cell {fn : Func} {p u : Tmp} {ty t2 : TypeId} (h : fn.results = #[.cell p ty, .cell u t2]) (tmps : Array Value) (P : Program) (w : World) :
    (results fn tmps).run P w =
      ((asAddr (tmps.getD p undef)).run P w).andThen fun a w₁ => ((loadVar ty a).run P w₁).andThen fun v w₂ => ((asAddr (tmps.getD u undef)).run P w₂).andThen fun a w₃ => ((loadVar t2 a).run P w₃).andThen fun v2 w₄ => .ok (.tuple #[v, v2]) w₄ := by
  simp only [results, h]
  simp [Sem.run_bind, Result.andThen]
theorem results_fit {fn : Func} {p u : Tmp} (h : fn.results = #[.cell p 23, .cell u 26]) (tmps : Array Value) (w : World) (g b : Nat) (x y v : Value)
    (hp : tmps.getD p undef = .pointer (some ⟨g, 0, none⟩)) (hu : tmps.getD u undef = .pointer (some ⟨b, 0, none⟩)) (hg : w.heap[g]? = some (.cells #[x, y] 23 (0, 0))) (hb : w.heap[b]? = some (.cells #[v] 26 (0, 0))) :
    (results fn tmps).run Try.prog w = .ok (.tuple #[.agg #[x, y], v]) w := by
  have hi : (Try.prog.info? 23).map (·.size) = some (#[x, y] : Array Value).size := by show _ = some 2; kernel_rfl
  have hc : w.cell? ⟨b, 0, none⟩ = some v := by rw [cell_of_row _ _ _ _ _ _ hb]; rfl
  rw [results_cell_cell h, hp, hu]
  simp [asAddr, run_loadVar_row w g 23 23 #[x, y] (0, 0) _ hg Try.underlying23 rfl hi, Result.andThen]
  simp [loadVar, go_sem, hc, Result.andThen]
theorem fit_made (w : World) (s l m : Int) (W0 : World) (h : (((w.alloc (.cells #[.int .i64 s, .int .i64 l] 23)).alloc (.cells #[.int .i64 m] 3)).alloc (.cells #[.int .i64 0, .int .i64 0] 23)).alloc (.cells #[.int .i64 0] 26) = W0) :
    Below w.heap.size w W0 ∧ Bx W0 w.heap.size s l ∧ Boxed W0 (w.heap.size + 1) 3 (.int .i64 m) ∧ Bx W0 (w.heap.size + 2) 0 0 ∧ Boxed W0 (w.heap.size + 3) 26 (.int .i64 0) ∧ W0.heap.size = w.heap.size + 4 := by
  subst h
  obtain ⟨A, hA⟩ : ∃ A, w.alloc (.cells #[.int .i64 s, .int .i64 l] 23) = A := ⟨_, rfl⟩
  have a1 : Bx A w.heap.size s l := by rw [← hA]; exact Bx.new _ _ _
  have a2 : A.heap.size = w.heap.size + 1 := by rw [← hA]; simp
  have a3 : Below w.heap.size w A := by rw [← hA]; exact below_new _ _
  rw [hA]
  obtain ⟨C, hC⟩ : ∃ C, A.alloc (.cells #[.int .i64 m] 3) = C := ⟨_, rfl⟩
  have c1 : Boxed C (w.heap.size + 1) 3 (.int .i64 m) := by rw [← hC, ← a2]; exact Boxed.new _ _ _
  have c2 : C.heap.size = w.heap.size + 2 := by rw [← hC]; simp [a2]
  have c3 : Below A.heap.size A C := by rw [← hC]; exact below_new _ _
  rw [hC]
  obtain ⟨D, hD⟩ : ∃ D, C.alloc (.cells #[.int .i64 0, .int .i64 0] 23) = D := ⟨_, rfl⟩
  have d1 : Bx D (w.heap.size + 2) 0 0 := by rw [← hD, ← c2]; exact Bx.new _ _ _
  have d2 : D.heap.size = w.heap.size + 3 := by rw [← hD]; simp [c2]
  have d3 : Below C.heap.size C D := by rw [← hD]; exact below_new _ _
  rw [hD]
  have e1 := Boxed.new D 26 (.int .i64 0)
  rw [d2] at e1
  have e3 := below_new D (.cells #[.int .i64 0] 26)
  refine ⟨((a3.trans (c3.mono (by omega))).trans (d3.mono (by omega))).trans (e3.mono (by omega)), ((a1.next c3).next d3).next e3, ?_, d1.next e3, e1, by simp [d2]⟩
  have : Boxed D (w.heap.size + 1) 3 (.int .i64 m) := (d3.block _ c1.lt).trans c1
  exact this.alloc _
theorem fit_set {W : World} {g b : Nat} {x0 y0 : Int} {v0 : Value} (hg : Bx W g x0 y0) (hb : Boxed W b 26 v0) (hne : g ≠ b) (x y v : Int) :
    Bx (((W.setCell ⟨g, 0, none⟩ (.int .i64 x)).setCell ⟨g, 1, none⟩ (.int .i64 y)).setCell ⟨b, 0, none⟩ (.int .i64 v)) g x y ∧ Boxed (((W.setCell ⟨g, 0, none⟩ (.int .i64 x)).setCell ⟨g, 1, none⟩ (.int .i64 y)).setCell ⟨b, 0, none⟩ (.int .i64 v)) b 26 (.int .i64 v) := by
  have h1 := duo_set hg (.int .i64 x) (.int .i64 y)
  have h2 : Boxed ((W.setCell ⟨g, 0, none⟩ (.int .i64 x)).setCell ⟨g, 1, none⟩ (.int .i64 y)) b 26 v0 := (Below.heap_setCell _ _ _ _ (Ne.symm hne)).trans ((Below.heap_setCell _ _ _ _ (Ne.symm hne)).trans hb)
  exact ⟨(Below.heap_setCell _ _ _ _ hne).trans h1, h2.set _⟩
theorem below_fit {B : Nat} {a W : World} {g b : Nat} (h : Below B a W) (hg : B ≤ g) (hb : B ≤ b) (x y v : Value) : Below B a (((W.setCell ⟨g, 0, none⟩ x).setCell ⟨g, 1, none⟩ y).setCell ⟨b, 0, none⟩ v) := (below_duo h hg x y).setCell (p := ⟨b, 0, none⟩) hb v
theorem Bx.frozen {w : World} {b : Nat} {s l : Int} (h : Bx w b s l) : w.frozen? ⟨b, 0, none⟩ = false ∧ w.frozen? ⟨b, 1, none⟩ = false := ⟨frozen_of_row (j := 0) _ _ _ _ h, frozen_of_row (j := 1) _ _ _ _ h⟩

theorem pfit_no (s l m : Int) (u : List (Int × Int)) (n : Nat) (hn : n = u.length) (p : Option Addr) (c : Nat) (w : World) (hu : Exts w p u) (hsm : Small u) (hm : n ≤ maxLen) (hby : n * 16 ≤ 140737488355328) (h : ¬ (okB s l u = true ∧ 1 ≤ m)) :
    Calls Try.prog 9 #[.agg #[.int .i64 s, .int .i64 l], .int .i64 m, .slice p n c] w fun e w' => e = .returned (.tuple #[.agg #[.int .i64 0, .int .i64 0], .int .i64 1]) ∧ Below w.heap.size w w' := by
  obtain ⟨W0, hW0⟩ : ∃ W0, (((w.alloc (.cells #[.int .i64 s, .int .i64 l] 23)).alloc (.cells #[.int .i64 m] 3)).alloc (.cells #[.int .i64 0, .int .i64 0] 23)).alloc (.cells #[.int .i64 0] 26) = W0 := ⟨_, rfl⟩
  obtain ⟨hB, hx, hmb, hg, hb0, hsz⟩ := fit_made w s l m W0 hW0
  have HB := Lib.hid hB
  have HM := Lib.hid hmb
  have HG := Lib.hid hg
  have HE := Lib.hid hb0
  have c0 := hx.c0
  have c1 := hx.c1
  have R := Lib.hid (rising_any s l u n hn p c W0 (hu.keep (B := 0) (by omega) fun q hq => hB.cell hq) hsm hm hby)
  have HH := Lib.hid h
  clear hB hx hmb hg hb0 hsm hm hby hu hn h
  go_enter Try.func9, Try.ntmps9
  go_wp2_with fail
  clear hW0
  refine R.out.mono ?_
  rintro e w1 ⟨hb, ⟨_, rfl⟩ | ⟨h, q, d, z, rfl, _⟩⟩
  · have HB1 := Lib.hid (HB.out.trans (hb.mono HB.out.size))
    have HG1 := Lib.hid (HG.out.next hb)
    have HE1 : Hid (Boxed w1 (w.heap.size + 3) 26 (.int .i64 0)) := (hb.block _ HE.out.lt).trans HE.out
    have g0 := HG1.out.c0
    have g1 := HG1.out.c1
    obtain ⟨f0, f1⟩ := HG1.out.frozen
    have e0 := HE1.out.cell
    have e1 := HE1.out.frozen
    clear hb c0 c1
    go_wp2_with fail
    obtain ⟨r1, r2⟩ := fit_set HG1.out HE1.out (by omega) 0 0 1
    refine bodyPost_ret (results_fit (p := 6) (u := 7) rfl _ _ (w.heap.size + 2) (w.heap.size + 3) _ _ _ rfl rfl r1 r2) rfl ⟨rfl, ?_⟩
    exact below_fit HB1.out (by omega) (by omega) _ _ _
  · have hm1 : decide (m < 1) = true := by
      have := HH.out; simp; by_cases c : 1 ≤ m
      · exact absurd ⟨h, c⟩ this
      · omega
    have HB1 := Lib.hid (HB.out.trans (hb.mono HB.out.size))
    have HG1 := Lib.hid (HG.out.next hb)
    have HE1 : Hid (Boxed w1 (w.heap.size + 3) 26 (.int .i64 0)) := (hb.block _ HE.out.lt).trans HE.out
    have HM1 : Boxed w1 (w.heap.size + 1) 3 (.int .i64 m) := (hb.block _ HM.out.lt).trans HM.out
    have m0 := HM1.cell
    have g0 := HG1.out.c0
    have g1 := HG1.out.c1
    obtain ⟨f0, f1⟩ := HG1.out.frozen
    have e0 := HE1.out.cell
    have e1 := HE1.out.frozen
    clear hb c0 c1 h HM1
    go_wp2_with fail
    obtain ⟨r1, r2⟩ := fit_set HG1.out HE1.out (by omega) 0 0 1
    refine bodyPost_ret (results_fit (p := 6) (u := 7) rfl _ _ (w.heap.size + 2) (w.heap.size + 3) _ _ _ rfl rfl r1 r2) rfl ⟨rfl, ?_⟩
    exact below_fit HB1.out (by omega) (by omega) _ _ _
end Xm
end Go.Proofs.Ytemdlnphlibcaaa
