/- A region that draws its order, by what each operation leaves in its slot, whatever order is drawn: an invariant over the operations that are done. No program is named. -/
import Derived.WalkKit
import Derived.Orders
import Derived.Below
import Derived.OwnWalk
namespace Go.Proofs.Ytammfhhinbhfgaa
namespace Flow
open Go.RowKit
variable {P : Program} {ops : Array Oper} {Q : Exit → Act → World → Prop}

/-- Each edge binds and goes back; each operation writes a slot of its own, within the frame. -/
def shape (ops : Array Oper) (n : Nat) : Bool :=
  (List.range ops.size).all fun i => match ops[i]? with
    | none => false
    | some o => (o.after.all fun e => decide (e.on < i)) && (match o.dst with
      | none => false
      | some d => decide (d < n) && (List.range i).all fun j => match ops[j]? with
        | none => false
        | some p => p.dst != some d)
theorem shape_edge {n i : Nat} {o : Oper} (h : shape ops n = true) (ho : ops[i]? = some o) (e : Edge) (he : e ∈ o.after) : e.on < i := by
  have hi : i < ops.size := (Array.getElem?_eq_some_iff.1 ho).1
  have h1 := List.all_eq_true.1 h i (List.mem_range.2 hi)
  rw [ho] at h1
  simp only [Bool.and_eq_true] at h1
  have h2 := Array.all_eq_true_iff_forall_mem.1 h1.1 e he
  exact of_decide_eq_true h2
theorem shape_dst {n i : Nat} {o : Oper} (h : shape ops n = true) (ho : ops[i]? = some o) : ∃ d, o.dst = some d ∧ d < n ∧ ∀ j p, j < i → ops[j]? = some p → p.dst ≠ some d := by
  have hi : i < ops.size := (Array.getElem?_eq_some_iff.1 ho).1
  have h1 := List.all_eq_true.1 h i (List.mem_range.2 hi)
  rw [ho] at h1
  simp only [Bool.and_eq_true] at h1
  obtain ⟨_, h2⟩ := h1
  cases hd : o.dst with
  | none => rw [hd] at h2; cases h2
  | some d =>
    rw [hd] at h2
    simp only [Bool.and_eq_true, decide_eq_true_eq] at h2
    refine ⟨d, rfl, h2.1, fun j p hj hp => ?_⟩
    have h3 := List.all_eq_true.1 h2.2 j (List.mem_range.2 hj)
    rw [hp] at h3
    simpa using h3
theorem shape_apart {n i j : Nat} {o p : Oper} {d : Tmp} (h : shape ops n = true) (ho : ops[i]? = some o) (hp : ops[j]? = some p) (hd : o.dst = some d) (hq : p.dst = some d) : i = j := by
  rcases Nat.lt_trichotomy i j with hlt | e | hlt
  · obtain ⟨d', h1, _, h2⟩ := shape_dst h hp
    rw [hq] at h1
    injection h1 with h1
    subst h1
    exact absurd hd (h2 i o hlt ho)
  · exact e
  · obtain ⟨d', h1, _, h2⟩ := shape_dst h ho
    rw [hd] at h1
    injection h1 with h1
    subst h1
    exact absurd hq (h2 j p hlt hp)

/-- Slots that no operation of the region writes. -/
def outside (ops : Array Oper) (t : Tmp) : Bool := ops.all fun o => o.dst != some t
/-- The frame but for the region's own slots. -/
structure Env (ops : Array Oper) (a0 a : Act) : Prop where
  defers : a.defers = a0.defers
  size : a.tmps.size = a0.tmps.size
  same : ∀ t, outside ops t = true → a.tmps.getD t undef = a0.tmps.getD t undef
theorem Env.refl (ops : Array Oper) (a : Act) : Env ops a a := ⟨rfl, rfl, fun _ _ => rfl⟩
theorem Env.put {a0 a : Act} (h : Env ops a0 a) {i : Nat} {o : Oper} (ho : ops[i]? = some o) (v : Value) : Env ops a0 (a.put o.dst v) := by
  cases hd : o.dst with
  | none => exact h
  | some d =>
    refine ⟨h.defers, by simp [Act.put, h.size], fun t ht => ?_⟩
    have hne : d ≠ t := by
      have := Array.all_eq_true_iff_forall_mem.1 ht o (Array.mem_of_getElem? ho)
      rw [hd] at this
      simpa using this
    have e := h.same t ht
    simp only [Array.getD_eq_getD_getElem?] at e ⊢
    simp only [Act.put, Array.getElem?_setIfInBounds_ne hne, e]

/-- What is known while the region runs: of the worlds, of the frame, and of the slot of each operation that is done. -/
structure Inv (ops : Array Oper) (G : Nat → Value → World → Prop) (C : World → Prop) (a0 : Act) (listed : Array Bool) (a : Act) (w : World) : Prop where
  world : C w
  env : Env ops a0 a
  slots : ∀ i o d, ops[i]? = some o → o.dst = some d → listed.getD i false = true → G i (a.tmps.getD d undef) w

theorem all_of_ready {n : Nat} (hs : shape ops n = true) {listed : Array Bool} (hsz : listed.size = ops.size) (hr : Region.ready .any ops listed = []) : ∀ i, i < ops.size → listed.getD i false = true := by
  intro i
  induction i using Nat.strongRecOn with
  | ind i ih =>
    intro hi
    by_cases hl : listed.getD i false = true
    · exact hl
    · exfalso
      have ho : ops[i]? = some ops[i] := Array.getElem?_eq_getElem hi
      have hmem : i ∈ Region.ready .any ops listed := by
        unfold Region.ready
        rw [List.mem_filter]
        refine ⟨List.mem_range.2 hi, ?_⟩
        have hli : i < listed.size := by omega
        have h1 : listed.getD i true = false := by
          simp only [Array.getD_eq_getD_getElem?, Array.getElem?_eq_getElem hli, Option.getD_some, Bool.not_eq_true] at hl ⊢
          exact hl
        rw [h1, ho]
        simp only [Bool.not_false, Bool.true_and, Option.map_some, Option.getD_some]
        rw [Array.all_eq_true_iff_forall_mem]
        intro e he
        have hlt := shape_edge hs ho e he
        rw [ih e.on hlt (by omega)]
        simp
      rw [hr] at hmem
      cases hmem
theorem all_of_count {listed : Array Bool} (h : listed.countP (fun b => !b) = 0) : ∀ i, i < listed.size → listed.getD i false = true := by
  intro i hi
  rw [Array.countP_eq_zero] at h
  have := h listed[i] (Array.getElem_mem hi)
  simpa [Array.getD_eq_getD_getElem?, Array.getElem?_eq_getElem hi] using this
theorem count_set {listed : Array Bool} {i : Nat} (hi : i < listed.size) (h : listed.getD i true = false) : (listed.setIfInBounds i true).countP (fun b => !b) + 1 = listed.countP (fun b => !b) := by
  have hv : listed[i] = false := by simpa [Array.getD_eq_getD_getElem?, Array.getElem?_eq_getElem hi] using h
  have hpos : 0 < listed.countP (fun b => !b) := by
    rw [Array.countP_pos_iff]
    exact ⟨listed[i], Array.getElem_mem hi, by rw [hv]; rfl⟩
  rw [show listed.setIfInBounds i true = listed.set i true hi from by simp [Array.setIfInBounds, hi], Array.countP_set, hv]
  simp
  omega

theorem any_flow {n : Nat} {G : Nat → Value → World → Prop} {C : World → Prop} {a0 : Act} (hs : shape ops n = true) (hn : a0.tmps.size = n)
    (hstab : ∀ i v w w', Below w.heap.size w w' → G i v w → G i v w')
    (hstep : ∀ i o, ops[i]? = some o → ∀ a w, C w → Env ops a0 a → (∀ e ∈ o.after, ∀ p d, ops[e.on]? = some p → p.dst = some d → G e.on (a.tmps.getD d undef) w) →
      wpOp P ops Q i (fun a' w' => ∃ v, a' = a.put o.dst v ∧ G i v w' ∧ Below w.heap.size w w' ∧ C w') a w)
    (hdone : ∀ a w, C w → Env ops a0 a → (∀ i o d, ops[i]? = some o → o.dst = some d → G i (a.tmps.getD d undef) w) → Q .normal a w)
    (hbind : ∀ (i : Nat) (o : Oper), ops[i]? = some o → ∀ e ∈ o.after, Region.binds .any e = true) :
    ∀ (fuel : Nat) (listed : Array Bool) (a : Act) (w : World), listed.size = ops.size → listed.countP (fun b => !b) ≤ fuel → Inv ops G C a0 listed a w → wpAny P .any ops Q fuel listed a w := by
  have fin : ∀ (listed : Array Bool) a w, (∀ i, i < ops.size → listed.getD i false = true) → Inv ops G C a0 listed a w → Q .normal a w := fun listed a w hall hI =>
    hdone a w hI.world hI.env fun i o d ho hd => hI.slots i o d ho hd (hall i (Array.getElem?_eq_some_iff.1 ho).1)
  intro fuel
  induction fuel with
  | zero =>
    intro listed a w hsz hc hI
    have hall := all_of_count (listed := listed) (by omega)
    refine ⟨?_, fin listed a w (fun i hi => hall i (by omega)) hI⟩
    unfold Region.ready
    rw [List.filter_eq_nil_iff]
    intro i hi
    have hi' := List.mem_range.1 hi
    have h1 := hall i (by omega)
    have hli : i < listed.size := by omega
    simp only [Array.getD_eq_getD_getElem?, Array.getElem?_eq_getElem hli, Option.getD_some] at h1 ⊢
    rw [h1]
    simp
  | succ fuel ih =>
    intro listed a w hsz hc hI
    refine ⟨fun hr => fin listed a w (all_of_ready hs hsz hr) hI, fun i hi => ?_⟩
    unfold Region.ready at hi
    rw [List.mem_filter] at hi
    obtain ⟨hir, hi2⟩ := hi
    have hio : i < ops.size := List.mem_range.1 hir
    have ho : ops[i]? = some ops[i] := Array.getElem?_eq_getElem hio
    rw [ho] at hi2
    simp only [Option.map_some, Option.getD_some, Bool.and_eq_true, Bool.not_eq_true'] at hi2
    obtain ⟨hun, hed⟩ := hi2
    have hdeps : ∀ e ∈ ops[i].after, ∀ p d, ops[e.on]? = some p → p.dst = some d → G e.on (a.tmps.getD d undef) w := by
      intro e he p d hp hd
      have h1 := Array.all_eq_true_iff_forall_mem.1 hed e he
      rw [hbind i _ ho e he] at h1
      exact hI.slots e.on p d hp hd (by simpa using h1)
    refine wpOp_mono ?_ (hstep i ops[i] ho a w hI.world hI.env hdeps)
    rintro a' w' ⟨v, rfl, hv, hb, hC⟩
    apply ih
    · rw [Array.size_setIfInBounds]; exact hsz
    · have := count_set (listed := listed) (i := i) (by omega) hun
      omega
    · refine ⟨hC, hI.env.put ho v, fun j p d hp hd hl => ?_⟩
      obtain ⟨d0, hd0, hlt, _⟩ := shape_dst hs ho
      by_cases e : i = j
      · subst e
        obtain rfl : ops[i] = p := by rw [ho] at hp; exact Option.some.inj hp
        rw [hd] at hd0
        injection hd0 with hd0
        subst hd0
        have hin : d < a.tmps.size := by rw [hI.env.size, hn]; exact hlt
        have : (a.put ops[i].dst v).tmps.getD d undef = v := by
          rw [hd]
          simp [Act.put, Array.getD_eq_getD_getElem?, hin]
        rw [this]
        exact hv
      · have hne : d0 ≠ d := fun c => e (shape_apart hs ho hp hd0 (by rw [c]; exact hd))
        have hold : (a.put ops[i].dst v).tmps.getD d undef = a.tmps.getD d undef := by
          rw [hd0]
          simp only [Act.put, Array.getD_eq_getD_getElem?, Array.getElem?_setIfInBounds_ne hne]
        rw [hold]
        refine hstab j _ _ _ hb (hI.slots j p d hp hd ?_)
        rw [Array.getD_eq_getD_getElem?, Array.getElem?_setIfInBounds_ne e] at hl
        rw [Array.getD_eq_getD_getElem?]
        exact hl

/-- The region, whatever order is drawn. -/
theorem region {id n : Nat} {G : Nat → Value → World → Prop} {C : World → Prop} {a0 : Act} {w : World} (hm : P.follows .mixedOrders = true) (hs : shape ops n = true) (hn : a0.tmps.size = n)
    (hbind : (ops.all fun o => o.after.all fun e => Region.binds .any e) = true)
    (hstab : ∀ i v w w', Below w.heap.size w w' → G i v w → G i v w') (hC : C w.drew)
    (hstep : ∀ i o, ops[i]? = some o → ∀ a w, C w → Env ops a0 a → (∀ e ∈ o.after, ∀ p d, ops[e.on]? = some p → p.dst = some d → G e.on (a.tmps.getD d undef) w) →
      wpOp P ops Q i (fun a' w' => ∃ v, a' = a.put o.dst v ∧ G i v w' ∧ Below w.heap.size w w' ∧ C w') a w)
    (hdone : ∀ a w, C w → Env ops a0 a → (∀ i o d, ops[i]? = some o → o.dst = some d → G i (a.tmps.getD d undef) w) → Q .normal a w) :
    (Code.region id ops true).wp P Q a0 w := by
  refine wp_region_any hm (any_flow hs hn hstab hstep hdone (fun i o ho e he => ?_) ops.size (Array.replicate ops.size false) a0 _ (by simp) (Nat.le_trans Array.countP_le_size (by simp)) ⟨hC, Env.refl _ _, fun i o d ho hd hl => ?_⟩)
  · exact Array.all_eq_true_iff_forall_mem.1 (Array.all_eq_true_iff_forall_mem.1 hbind o (Array.mem_of_getElem? ho)) e he
  · have hi := (Array.getElem?_eq_some_iff.1 ho).1
    simp [Array.getD_eq_getD_getElem?, hi] at hl

/-- An operation that yields a value. -/
theorem value {i : Nat} {o : Oper} {K : Act → World → Prop} {a : Act} {w w' : World} {v : Value} (ho : ops[i]? = some o) (hw : Region.wanted o (yielded ops a.tmps) = true)
    (hr : (execOp a.eval o).run P w = .ok (.value v) w') (h : K (a.put o.dst v) w') : wpOp P ops Q i K a w := by
  unfold wpOp
  rw [ho]
  simp only [hw, if_true]
  left
  unfold Oper.wp
  rw [hr]
  exact h
/-- A call. -/
theorem call {i : Nat} {o : Oper} {K : Act → World → Prop} {a : Act} {w w' : World} {f : FuncId} {args : Array Value} {R : Ending → World → Prop} (ho : ops[i]? = some o) (hw : Region.wanted o (yielded ops a.tmps) = true)
    (hr : (execOp a.eval o).run P w = .ok (.enter f args) w') (hc : Calls P f args w' R) (h : ∀ e w'', R e w'' → ∃ v, e = .returned v ∧ K (a.put o.dst v) w'') : wpOp P ops Q i K a w := by
  unfold wpOp
  rw [ho]
  simp only [hw, if_true]
  left
  unfold Oper.wp
  rw [hr, Oper.upon_enter]
  refine hc.mono fun e w'' he => ?_
  obtain ⟨v, rfl, hK⟩ := h e w'' he
  exact hK
theorem wanted_none {o : Oper} {a : Act} (h : o.guard = none) : Region.wanted o (yielded ops a.tmps) = true := by
  unfold Region.wanted; rw [h]
theorem wanted_some {o p : Oper} {a : Act} {g : Nat} {b : Bool} {d : Tmp} (h : o.guard = some (g, b)) (hp : ops[g]? = some p) (hd : p.dst = some d) (hv : a.tmps.getD d undef = .bool b) : Region.wanted o (yielded ops a.tmps) = true := by
  unfold Region.wanted
  rw [h]
  have : a.tmps[d]? = some (.bool b) := by
    rw [Array.getD_eq_getD_getElem?] at hv
    cases hq : a.tmps[d]? with
    | none => rw [hq] at hv; cases hv
    | some x => rw [hq] at hv; exact congrArg some hv
  simp [yielded, hp, hd, this]
end Flow
end Go.Proofs.Ytammfhhinbhfgaa
