/- A copy of extents, in the order in which they stand. -/
import Derived.Test.YtemdlnphlibcaaaExtCode
import Derived.Test.YtemdlnphlibcaaaExtSort
namespace Go.Proofs.Ytemdlnphlibcaaa
namespace Xm
open Go.RowKit Go.Shelf Go.Sort
set_option maxRecDepth 100000
set_option linter.unusedVariables false

/-- slices.Clone of extents: a row of the call's own. -/
theorem clone_any (u : List (Int × Int)) (n : Nat) (hn : n = u.length) (p : Option Addr) (c : Nat) (w : World) (h : Exts w p u) (h1 : n ≤ maxLen) (h2 : n * 16 ≤ 140737488355328) :
    Calls Try.prog 23 #[.slice p n c] w fun e w' => ∃ v, e = .returned v ∧ w'.ownsRow w.heap.size 23 2 v n (cells u) ∧ Below w.heap.size w w' := by
  have q22 : ∀ (w : World) (a : Option Addr) (n c n' c' : Nat), (binOp .eql 24 (.slice a n c) (.slice none n' c')).run Try.prog w = .ok (.bool a.isNone) w := fun w a n c n' c' => Lib.run_eql_slice_nil w _ _ a n c n' c' Try.underlying24
  cases p with
  | none =>
    have hu : u = [] := by
      by_cases hu : u = []
      · exact hu
      · obtain ⟨_, _, e, _⟩ := h hu; cases e
    subst hu
    obtain rfl : n = 0 := by simpa using hn
    clear hn h h1 h2
    go_enter Try.func23, Try.ntmps23
    go_wp2_with fail
    go_ret
    exact ⟨_, rfl, World.ownsRow_nil _ _ _ _, Below.refl _ _⟩
  | some a =>
    have ha : ∃ b off, (a = ⟨b, off, none⟩ ∨ n = 0) ∧ ∀ j v, (cells u)[j]? = some v → w.cell? (a.add j) = some v := by
      by_cases hu : u = []
      · subst hu; exact ⟨0, 0, .inr (by simpa using hn), fun j v hj => by simp [cells] at hj⟩
      · obtain ⟨b, off, e, _, hc⟩ := h.news hu
        injection e with e
        subst e
        exact ⟨b, off, .inl rfl, fun j v hj => by rw [Addr.add_lit]; exact hc j v hj⟩
    obtain ⟨_, _, _, hc⟩ := ha
    have A := Lib.hid hc
    have hl := cells_length u
    rw [← hn] at hl
    obtain ⟨i0, hi, hz0, hz1, hz2⟩ := info_parts info_ext
    have H1 := Lib.hid h1
    have H2 := Lib.hid h2
    clear hc h h1 h2
    go_enter Try.func23, Try.ntmps23
    go_wp2_with (at_builtin; refine wpList_append_own _ rfl _ _ 24 rfl w.heap.size 23 i0 _ 2 16 Try.underlying24 hi hz0 hz1 hz2 rfl (by decide) _ _ _ rfl (World.ownsRow_made w #[] 0 (Nat.le_refl _) (Nat.zero_le _) (by simp)) a n c (cells u) rfl ?qc1 ?qc2 ?qc3 ?qc4 ?qc5 ?qc6 ?_)
    case qc1 => exact hl
    case qc2 =>
      intro j v hj
      have := A.out j v hj
      exact Lib.cell?_alloc_some _ this
    case qc3 => exact cells_one' u
    case qc4 => rw [Nat.zero_add]; exact H1.out
    case qc5 => rw [Nat.zero_add]; exact H2.out
    case qc6 => simp
    intro v' w1 hown hgrow hnil
    go_wp2_with fail
    go_ret
    refine ⟨v', rfl, by rw [hn]; exact hown, ?_⟩
    exact ((Below.refl _ w).alloc (Nat.le_refl _) _).grown hgrow (by simp) (by intro k hk; simp [Value.ownBlock] at hk; omega)

/-- An extent's cells. -/
def enc2 (x : Int × Int) : List Value := [.int .i64 x.1, .int .i64 x.2]
theorem closure_any (x y : Int × Int) (W : World) : Calls Try.prog 25 #[.agg #[.int .i64 x.1, .int .i64 x.2], .agg #[.int .i64 y.1, .int .i64 y.2]] W fun e w' => e = .returned (.int .i64 (cmpI x.1 y.1)) ∧ ∃ q os', w' = grow (W.drewN q) os' := by
  have hcon := Lib.hid (fun W' => compare_any x.1 y.1 W')
  generalize cmpI x.1 y.1 = r at hcon ⊢
  go_enter Try.func25, Try.ntmps25
  go_wp2_with (go_at_call 26; refine (hcon.out _).mono ?_; rintro e w' ⟨rfl, rfl⟩)
  go_ret
  exact ⟨rfl, 0, _, by rw [alloc_eq_grow, alloc_eq_grow, grow_grow]; rfl⟩
theorem lt_cmp (x y : Int × Int) : ltOf (fun x y : Int × Int => cmpI x.1 y.1) x y = decide (x.1 < y.1) := by
  unfold ltOf cmpI
  by_cases h1 : x.1 < y.1
  · simp [h1]
  · by_cases h2 : y.1 < x.1 <;> simp [h1, h2]
theorem swo_cmp : SWO (ltOf fun x y : Int × Int => cmpI x.1 y.1) where
  irrefl x := by rw [lt_cmp]; simp
  trans x y z h1 h2 := by rw [lt_cmp] at *; simp at *; omega
  ntrans x y z h1 h2 := by rw [lt_cmp] at *; simp at *; omega
theorem below_sorted {W : World} {g base m : Nat} {dk : Array (Int × Int)} {os : Array Obj} (hg : base ≤ g) (hb : base ≤ W.heap.size) : Below base W (sortWorldK enc2 2 W g 0 m dk os) := by
  refine ⟨rfl, rfl, rfl, size_sortWorldK_c enc2 2 W g 0 m dk os, fun k hk => ?_⟩
  unfold sortWorldK putRowK putRow mapBlock
  by_cases hs : k < W.heap.size
  · rw [heap_grow_old _ _ (by simpa using hs)]
    show (W.heap.modify g _)[k]? = _
    rw [Array.getElem?_modify, if_neg (by omega)]
  · rw [Array.getElem?_eq_none (by omega : W.heap.size ≤ k)]
    exact absurd hk (by omega)
theorem sort_any (u : List (Int × Int)) (n : Nat) (hn : n = u.length) (base : Nat) (v : Value) (W : World) (h : W.ownsRow base 23 2 v n (cells u)) (hb : base ≤ W.heap.size) (hsz : n < 4611686018427387904) :
    Calls Try.prog 24 #[v, .func (.func 25) #[] #[]] W fun e w' => e = .returned (.tuple #[]) ∧ ∃ p c z, v = .slice p n c ∧ List.Perm u z ∧
      (∀ i j (hj : j < z.length) (hij : i < j), (z[i]'(by omega)).1 ≤ z[j].1) ∧ Exts w' p z ∧ Below base W w' := by
  have hL : SlLaysF0.n6 Try.prog lay_sort_ren := lay_sort
  rcases h.2 with ⟨rfl, h0⟩ | ⟨g, cap, cur, rfl, hg, hh, h1, h2, h3, h4⟩
  · subst h0
    have hu : u = [] := List.length_eq_zero_iff.1 hn.symm
    subst hu
    have C := AnyF.slices_SortFunc_none hL none 0 (.func (.func 25) #[] #[]) W
    change Calls Try.prog 24 _ _ _ at C
    refine C.mono ?_
    rintro e w' ⟨rfl, rfl⟩
    exact ⟨rfl, none, 0, [], rfl, List.Perm.refl _, fun i j hj => (by simp at hj), Exts.nil _ _, Below.refl _ _⟩
  · have hd : u.toArray.size = n := by rw [hn]; rfl
    have hgl : g < W.heap.size := (Array.getElem?_eq_some_iff.1 hh).1
    have hl := cells_length u
    have hH : HoldsK enc2 2 W g 0 u.toArray := by
      intro j hj
      rw [size_flatK] at hj
      refine ⟨?_, frozen_of_row (j := 0 + j) _ _ _ _ hh⟩
      rw [get_flatK _ _ _ _ hj, Nat.zero_add, cell_of_row _ _ _ _ _ _ hh]
      have hju : j / 2 < u.length := by have : u.toArray.size = u.length := rfl; omega
      have hx : u.toArray[j / 2]! = u[j / 2] := by rw [getElem!_pos u.toArray (j / 2) (by simpa using hju)]; simp
      rw [hx]
      obtain ⟨a, b⟩ := cells_get u (j / 2) hju
      have get : ∀ q x, (cells u)[q]? = some x → cur[q]? = some x := fun q x hq => by
        have hql := (List.getElem?_eq_some_iff.1 hq).1
        rw [← h4, List.getElem?_take, if_pos (by omega)] at hq
        simpa using hq
      rcases Nat.mod_two_eq_zero_or_one j with e | e
      · rw [e]
        have e' : j / 2 * 2 = j := by omega
        rw [e'] at a
        rw [get _ _ a]; rfl
      · rw [e]
        have e' : j / 2 * 2 + 1 = j := by omega
        rw [e'] at b
        rw [get _ _ b]; rfl
    have C := AnyQ.slices_SortFunc hL 2 Try.isAgg23 Try.sizeOf23 enc2 (fun _ => rfl) (fun x v hv => by simp [enc2] at hv; rcases hv with rfl | rfl <;> rfl) (fun x y => cmpI x.1 y.1) swo_cmp 25 #[] g 0 cap u.toArray W
      (enters_of Try.func25 (by kernel_rfl) rfl) (fun _ _ _ _ x y => closure_any x y _) hH hgl (by rw [hd]; exact hsz)
    change Calls Try.prog 24 _ _ _ at C
    rw [hd] at C
    refine C.mono ?_
    rintro e w' ⟨rfl, d', m, os, hp, hs, rfl⟩
    obtain ⟨p1, _, p3⟩ := hp
    have p1 : d'.size = u.toArray.size := p1
    have hz : d'.toList.length = n := by rw [Array.length_toList, p1, hd]
    have e1 : d'.extract 0 n = d' := by rw [← hd, ← p1]; exact Array.extract_size
    have e2 : u.toArray.extract 0 n = u.toArray := by rw [← hd]; exact Array.extract_size
    rw [e1, e2] at p3
    refine ⟨rfl, _, cap, d'.toList, rfl, by simpa using p3.symm, fun i j hj hij => ?_, fun hne => ⟨g, 0, rfl, ?_, fun i hi => ?_⟩, below_sorted hg hb⟩
    · have := hs i j (Nat.zero_le _) hij (by omega)
      rw [lt_cmp] at this
      simp only [decide_eq_false_iff_not] at this
      rw [getElem!_pos d' j (by simpa using hj), getElem!_pos d' i (by rw [Array.length_toList] at hj; omega)] at this
      simpa using this
    · have := size_sortWorldK_c enc2 2 W g 0 m d' os; omega
    · have hi' : i < d'.size := by simpa using hi
      have hc := holdsK_sortWorldK_c enc2 2 W g 0 u.toArray d' m os hH hgl p1
      have c0 := (hc.cell hi' (c := 0) (by omega)).1
      have c1 := (hc.cell hi' (c := 1) (by omega)).1
      rw [getElem!_pos d' i hi'] at c0 c1
      exact ⟨by simpa [enc2] using c0, by simpa [enc2] using c1⟩
end Xm
end Go.Proofs.Ytemdlnphlibcaaa
