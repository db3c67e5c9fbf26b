/- Contract of First; both calls together. -/
import Derived.Test.YtaedgifboepgdaaRunOf
namespace Go.Proofs.Ytaedgifboepgdaa
namespace Rn
open Go.RowKit Go.Shelf Tb Dsk
set_option linter.unusedVariables false
attribute [local go_sem] Oper.semAt_some

theorem results_cells {fn : Func} {p u : Tmp} {ty t2 : TypeId} (h : fn.results = #[.cell p ty, .cell u t2]) (tmps : Array Value) (P : Program) (w : World) :
    (results fn tmps).run P w =
      ((asAddr (tmps.getD p undef)).run P w).andThen fun a w₁ => ((loadVar ty a).run P w₁).andThen fun v w₂ => ((asAddr (tmps.getD u undef)).run P w₂).andThen fun a w₃ => ((loadVar t2 a).run P w₃).andThen fun v2 w₄ => .ok (.tuple #[v, v2]) w₄ := by
  simp only [results, h]
  simp [Sem.run_bind, Result.andThen]
theorem results_first {fn : Func} {p u : Tmp} (h : fn.results = #[.cell p 22, .cell u 25]) (tmps : Array Value) (w : World) (g b : Nat) (x v : Value)
    (hp : tmps.getD p undef = .pointer (some ⟨g, 0, none⟩)) (hu : tmps.getD u undef = .pointer (some ⟨b, 0, none⟩)) (hg : Boxed w g 22 x) (hb : Boxed w b 25 v) :
    (results fn tmps).run Try.prog w = .ok (.tuple #[x, v]) w := by
  have hc := hg.cell
  have hc2 := hb.cell
  rw [results_cells h, hp, hu]
  simp [asAddr, loadVar, go_sem, hc, hc2, Result.andThen]
/-- First's two results, in their boxes. -/
structure Fs (w W : World) (u : Value) (e : Int) : Prop where
  bel : Below w.heap.size w W
  s : Boxed W w.heap.size 22 u
  e : Boxed W (w.heap.size + 1) 25 (.int .i64 e)
theorem Fs.next {w W W' : World} {u : Value} {e : Int} (h : Fs w W u e) (hb : Below W.heap.size W W') : Fs w W' u e :=
  ⟨h.bel.trans (hb.mono h.bel.size), (hb.block _ h.s.lt).trans h.s, (hb.block _ h.e.lt).trans h.e⟩
theorem Fs.set {w W : World} {u : Value} {e : Int} (h : Fs w W u e) (v : Value) (d : Int) : Fs w ((W.setCell ⟨w.heap.size, 0, none⟩ v).setCell ⟨w.heap.size + 1, 0, none⟩ (.int .i64 d)) v d := by
  have h1 := h.s.set v
  have h2 : Boxed (W.setCell ⟨w.heap.size, 0, none⟩ v) (w.heap.size + 1) 25 (.int .i64 e) := h.e.other (by omega) v
  exact ⟨(h.bel.setCell (p := ⟨w.heap.size, 0, none⟩) (Nat.le_refl _) _).setCell (p := ⟨w.heap.size + 1, 0, none⟩) (by show w.heap.size ≤ w.heap.size + 1; omega) _, h1.other (by omega) _, h2.set _⟩
theorem Fs.put {w W : World} {u : Value} {e : Int} (h : Fs w W u e) {l : Nat} {o : Obj} (o' : Obj) (hl : W.heap[l]? = some o) (ho : o.isCells = false) (hlt : w.heap.size ≤ l) : Fs w (W.putObj l o') u e := by
  have g := grownBy_putObj' W l o'
  have key : ∀ {B : Nat} {t : TypeId} {y : Value}, Boxed W B t y → Boxed (W.putObj l o') B t y := fun {B t y} h => h.kept g fun e => by
    cases e
    rw [show W.heap[l]? = _ from h] at hl; cases hl; cases ho
  exact ⟨h.bel.grown g h.bel.size (fun k e => by cases e; omega), key h.s, key h.e⟩
theorem fs_own (w : World) {β : Type} (f : β → Value) (e : Int) (B : Nat) (hB : w.heap.size ≤ B) : OwnFrom B (fun (s : β) W => Fs w W (f s) e) := by
  rintro s X Y row h hg hr
  have key : ∀ {B : Nat} {t : TypeId} {y : Value}, Boxed X B t y → Boxed Y B t y := fun {B t y} h => h.kept hg fun e => by
    obtain ⟨_, o, ho, hc⟩ := hr B e.symm
    rw [show X.heap[B]? = _ from h] at ho; cases ho; cases hc
  exact ⟨h.bel.grown hg h.bel.size (fun k e => by have := (hr k e).1; omega), key h.s, key h.e⟩
theorem fs_made (w : World) (W : World) (h : (w.alloc (.cells #[.slice none 0 0] 22)).alloc (.cells #[.int .i64 0] 25) = W) : Fs w W (.slice none 0 0) 0 ∧ W.heap.size = w.heap.size + 2 := by
  have b0 := Boxed.new w 22 (.slice none 0 0)
  have b1 := Boxed.new (w.alloc (.cells #[.slice none 0 0] 22)) 25 (.int .i64 0)
  have b2 := b0.alloc (.cells #[.int .i64 0] 25)
  simp only [World.size_alloc] at b1
  rw [h] at b1 b2
  exact ⟨⟨by rw [← h]; exact (below_new _ _).alloc (by simp) _, b2, b1⟩, by rw [← h]; simp⟩
theorem put2 {w W : World} {D : Nat} {o : Obj} {x v : Value} {N : Nat} (h : W.heap[D]? = some o) (hD : N ≤ D) (hN : w.heap.size + 1 < N) :
    ((W.setCell ⟨w.heap.size, 0, none⟩ x).setCell ⟨w.heap.size + 1, 0, none⟩ v).heap[D]? = some o :=
  (Below.heap_setCell _ _ _ _ (by show D ≠ w.heap.size + 1; omega)).trans ((Below.heap_setCell _ _ _ _ (by show D ≠ w.heap.size; omega)).trans h)
theorem first_no {m : Int} {l : List E} {n c : Nat} (hin : In m l n c) (a : Option Addr) (w : World) (hrow : REnts w a l) (h : rightB m l = false) :
    Calls Try.prog 9 #[.int .i64 m, .slice a n c] w fun e w' => e = .returned (.tuple #[.slice none 0 0, .int .i64 1]) ∧ Below w.heap.size w w' := by
  obtain ⟨W, hW⟩ : ∃ W, (w.alloc (.cells #[.slice none 0 0] 22)).alloc (.cells #[.int .i64 0] 25) = W := ⟨_, rfl⟩
  obtain ⟨hf, hs⟩ := fs_made w W hW
  have HF := Lib.hid hf
  have R := Lib.hid (right_any hin a W (hrow.below hf.bel))
  rw [h] at R
  clear hin hrow h hf
  refine (callsIn_wide (n := 3)).1 ?_
  refine callsIn_of_wp_marks Try.func9 rfl trivial ?_ rfl
  simp only [Try.ntmps9, List.size_toArray, List.length_cons, List.length_nil, Nat.reduceAdd, Nat.reduceSub, Array.replicate_succ, Array.replicate_zero, List.push_toArray, List.append_toArray, List.nil_append, List.cons_append]
  gi_wp2_with fail
  refine ⟨trivial, (callsIn_wide.2 R.out).mono ?_⟩
  rintro e w1 ⟨rfl, hb⟩
  have hf1 := HF.out.next hb
  have HF1 := Lib.hid (hf1.set (.slice none 0 0) 1)
  have s0 := hf1.s.cell
  have s1 := hf1.s.frozen
  have e0 := hf1.e.cell
  have e1 := hf1.e.frozen
  clear hf1 hb HF R
  gi_wp2_with fail
  exact ⟨_, results_first (p := 4) (u := 5) rfl _ _ w.heap.size (w.heap.size + 1) _ _ rfl rfl HF1.out.s HF1.out.e, rfl, HF1.out.bel⟩
theorem first_told {m : Int} {l : List E} {x : Pt l.length} (h : [x].map (cut l) <+: told m l) : (told m l).headD [] = cut l x := by
  obtain ⟨t, ht⟩ := h
  rw [← ht]; rfl
theorem first_none {m : Int} {l : List E} (h : ([] : List (Pt l.length)).map (cut l) = told m l) : (told m l).headD [] = [] := by
  rw [← h]; rfl

set_option maxRecDepth 100000 in
set_option maxHeartbeats 2000000 in
theorem first_ok {m : Int} {l : List E} {n c : Nat} (hin : In m l n c) (a : Option Addr) (w : World) (hrow : REnts w a l) (h : rightB m l = true) :
    Calls Try.prog 9 #[.int .i64 m, .slice a n c] w fun e w' => ∃ v k, e = .returned (.tuple #[v, .int .i64 0]) ∧ w'.ownsRow w.heap.size 36 2 v k (ecells ((told m l).headD [])) ∧ Below w.heap.size w w' := by
  obtain ⟨W, hW⟩ : ∃ W, (w.alloc (.cells #[.slice none 0 0] 22)).alloc (.cells #[.int .i64 0] 25) = W := ⟨_, rfl⟩
  obtain ⟨hf, hs⟩ := fs_made w W hW
  have HF := Lib.hid hf
  have R := Lib.hid (right_any hin a W (hrow.below hf.bel))
  rw [h] at R
  have HI := Lib.hid hin
  have HR := Lib.hid h
  obtain ⟨b, off, ha, hat⟩ := at_of hrow
  have HA := Lib.hid ha
  have HAT := Lib.hid hat
  clear hin hrow h ha hat hf
  refine (callsIn_wide (n := 3)).1 ?_
  refine callsIn_of_wp_marks Try.func9 rfl trivial ?_ rfl
  simp only [Try.ntmps9, List.size_toArray, List.length_cons, List.length_nil, Nat.reduceAdd, Nat.reduceSub, Array.replicate_succ, Array.replicate_zero, List.push_toArray, List.append_toArray, List.nil_append, List.cons_append]
  gi_wp2_with fail
  refine ⟨trivial, (callsIn_wide.2 R.out).mono ?_⟩
  rintro e w1 ⟨rfl, hb⟩
  have HF1 := Lib.hid (HF.out.next hb)
  clear hb R
  have G := Lib.hid (runs_any m a n c w1)
  gi_wp2_with fail
  refine ⟨trivial, (callsIn_wide.2 G.out).mono ?_⟩
  rintro e w3 ⟨rfl, rfl⟩
  gi_wp2_with fail
  obtain ⟨W2, hW2⟩ : ∃ W2, (w1.alloc (.cells #[.int .i64 m] 3)).alloc (.cells #[.slice a n c] 22) = W2 := ⟨_, rfl⟩
  have s2 : W2.heap.size = w1.heap.size + 2 := by rw [← hW2]; simp
  have hb2 : Below w1.heap.size w1 W2 := by rw [← hW2]; exact (below_new _ _).alloc (by simp) _
  have cm : W2.cell? ⟨w1.heap.size, 0, none⟩ = some (.int .i64 m) := by rw [← hW2]; exact ((Boxed.new w1 3 (.int .i64 m)).alloc _).cell
  have cs : W2.cell? ⟨w1.heap.size + 1, 0, none⟩ = some (.slice a n c) := by
    have := Boxed.new (w1.alloc (.cells #[.int .i64 m] 3)) 22 (.slice a n c)
    simp only [World.size_alloc] at this
    rw [← hW2]; exact this.cell
  have hF2 := HF1.out.next hb2
  have hs1 : w.heap.size + 2 ≤ w1.heap.size := by have := HF1.out.e.lt; omega
  have ST := Lib.hid (runs_stops (3 - 1) (by omega) w.heap.size b off w1.heap.size (w1.heap.size + 1) m l a n c HI.out HR.out HA.out W2 (HAT.out.below hF2.bel) cs cm)
  obtain ⟨q, hq⟩ : ∃ q, q = w1.heap.size := ⟨_, rfl⟩
  rw [hW2]
  rw [← hq] at ST s2 hs1 ⊢
  clear hW2 hb2 cs cm G hq
  refine wpIn_rangeFunc_ownF rfl (by omega) (gf := 17) (lb := #[.pointer (some ⟨q + 1, 0, none⟩), .pointer (some ⟨q, 0, none⟩)]) rfl trivial (enters_of Try.func17 (by kernel_rfl) rfl)
    ST.out (fun h k => h.trans k) (kr_b (by omega)) (Below.refl _ _) (fun _ => rfl)
    (fun pre W => pre = [] ∧ Fs w W (.slice none 0 0) 0)
    (fun c pre W => (c = Code.ret ∧ ∃ x, pre = [x]) ∧ ∃ u, Fs w W u 0 ∧ W.ownsRow w.heap.size 36 2 u ((pre.map (cut l)).headD []).length (ecells ((pre.map (cut l)).headD [])))
    (OwnFrom.and (ownFrom_pure _ _) (fs_own w _ 0 _ (by omega)))
    (fun c => OwnFrom.and (ownFrom_pure _ _) (fun s X Y row ⟨u, h1, h2⟩ hg hr => ⟨u, fs_own w (fun _ : Unit => u) 0 W2.heap.size (by omega) () X Y row h1 hg hr, own_same h2 fun j hj => by
      obtain ⟨cur, hcc⟩ := own_block h2 j hj
      refine hg.block j (lt_of_heap hcc) fun e => ?_
      obtain ⟨_, o, ho, hc⟩ := hr j e.symm
      rw [hcc] at ho; cases ho; cases hc⟩))
    ⟨rfl, hF2⟩
    (fun x => { tmps := #[.int .i64 m, .slice a n c, undef, undef, .pointer (some ⟨w.heap.size, 0, none⟩), .pointer (some ⟨w.heap.size + 1, 0, none⟩), .slice (some ⟨b, off + x.at_ * 2, none⟩) x.len (c - x.at_), .int .i64 m, .slice a n c, .bool true, .bool false, .int .i64 m, .slice a n c, .func (.func 17) #[] #[.pointer (some ⟨q + 1, 0, none⟩), .pointer (some ⟨q, 0, none⟩)], .slice (some ⟨b, off + x.at_ * 2, none⟩) x.len (c - x.at_), undef, undef], defers := [] })
    ?assign ?body ?done ?stop
  case assign =>
    rintro ly x W K hK
    gi_wp2
    exact hK
  case body =>
    rintro ly pre x W ⟨rfl, hF⟩ hlt
    have CL := Lib.hid (clone_any (cut l x) x.len (cut_length l x).symm x.pos (some ⟨b, off + x.at_ * 2, none⟩) (c - x.at_) W ((HAT.out.below hF.bel).cut x) (by have := x.fits; have := HI.out.bytes; have := HI.out.len; omega))
    have HX := Lib.hid (cut_length l x)
    have HFF := Lib.hid hF
    clear hF
    gi_wp2_with fail
    refine ⟨trivial, ((callsIn_wide.2 CL.out).inRound ly).mono ?_⟩
    rintro e w4 ⟨u, rfl, hu, hb4⟩
    obtain ⟨ua, uc, hua⟩ := own_slice hu
    subst hua
    have hf4 := HFF.out.next hb4
    have s0 := hf4.s.cell
    have s1 := hf4.s.frozen
    have e0 := hf4.e.cell
    have e1 := hf4.e.frozen
    have FIN := Lib.hid (hf4.set (.slice ua x.len uc) 0)
    have ROW : Hid (((w4.setCell ⟨w.heap.size, 0, none⟩ (.slice ua x.len uc)).setCell ⟨w.heap.size + 1, 0, none⟩ (.int .i64 0)).ownsRow w.heap.size 36 2 (.slice ua x.len uc) (cut l x).length (ecells (cut l x))) := by
      refine Lib.hid ?_
      rw [HX.out]
      refine own_set (p := ⟨w.heap.size + 1, 0, none⟩) (own_set (p := ⟨w.heap.size, 0, none⟩) (Geo.own_from (Geo.own_zero hu) fun j hj => by have := (hu.lt j hj).1; have := HFF.out.bel.size; omega) (by decide) hf4.s _) (by decide) (hf4.e.other (by omega) _) _
    have KO : Hid (KeepsOthers W ((w4.setCell ⟨w.heap.size, 0, none⟩ (.slice ua x.len uc)).setCell ⟨w.heap.size + 1, 0, none⟩ (.int .i64 0))) := Lib.hid (KeepsOthers.trans (KeepsOthers.trans ⟨hb4.size, fun j o hj _ => (hb4.block j (Array.getElem?_eq_some_iff.1 hj).1).trans hj⟩ (KeepsOthers.setCell _ _ _)) (KeepsOthers.setCell _ _ _))
    clear hf4 hu hb4
    gi_wp2
    exact ⟨KO.out, ⟨rfl, x, rfl⟩, _, FIN.out, ROW.out⟩
  case done =>
    rintro D ys W hD hys ⟨rfl, hF⟩ hK
    have HT := Lib.hid (first_none hys)
    have HFF := Lib.hid (hF.set (.slice none 0 0) 0)
    have s0 := hF.s.cell
    have s1 := hF.s.frozen
    have e0 := hF.e.cell
    have e1 := hF.e.frozen
    clear hys hF
    gi_wp2
    refine ⟨by simp, .inl ⟨_, _, rfl, run_takeDeferred (w := (W.setCell ⟨w.heap.size, 0, none⟩ (.slice none 0 0)).setCell ⟨w.heap.size + 1, 0, none⟩ (.int .i64 0)) (put2 hK hD (by omega)), ?_⟩⟩
    have hF3 := HFF.out.put (.deferred none) (put2 hK hD (by omega)) rfl (by omega)
    exact ⟨_, results_first (p := 4) (u := 5) rfl _ _ w.heap.size (w.heap.size + 1) _ _ rfl rfl hF3.s hF3.e, _, 0, rfl, by rw [HT.out]; exact World.ownsRow_nil _ _ _ _, hF3.bel⟩
  case stop =>
    rintro D c pre W hD hpre ⟨⟨rfl, x, rfl⟩, u, hF, hrow⟩ hK
    have HT := Lib.hid (first_told hpre)
    have HFF := Lib.hid hF
    have HRR := Lib.hid hrow
    clear hpre hF hrow
    gi_wp2
    refine ⟨by simp, .inl ⟨_, _, rfl, run_takeDeferred hK, ?_⟩⟩
    have hF3 := HFF.out.put (.deferred none) hK rfl (by omega)
    exact ⟨_, results_first (p := 4) (u := 5) rfl _ _ w.heap.size (w.heap.size + 1) _ _ rfl rfl hF3.s hF3.e, _, _, rfl, by rw [HT.out]; exact own_putObj HRR.out hK rfl, hF3.bel⟩
end Rn
end Go.Proofs.Ytaedgifboepgdaa
