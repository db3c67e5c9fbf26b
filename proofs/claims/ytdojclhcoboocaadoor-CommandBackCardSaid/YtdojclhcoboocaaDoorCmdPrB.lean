/- What command's Print keeps between two letters. -/
import Derived.Test.YtdojclhcoboocaaDoorCmdTak
import Derived.Test.YtdojclhcoboocaaDoorCmdParW
import Derived.Laws.StructEq
namespace Go.Proofs.YtdojclhcoboocaaDoor
namespace Co
open Go.Shelf Go.RowKit Go.Lib Pd Dsk
set_option maxRecDepth 100000
set_option linter.unusedVariables false

/-- What Print tells. -/
def PrIs (c : Cd) (w : World) (e : Ending) (w' : World) : Prop := e = .returned (.tuple #[.string (Om.B (printCV c)), .int .i64 (printCE c)]) ∧ Below w.heap.size w w'
theorem pr_no {c : Cd} {w W : World} (h : printC c = none) (hb : Below w.heap.size w W) : PrIs c w (.returned (.tuple #[.string ⟨#[]⟩, .int .i64 1])) W := ⟨by unfold printCV printCE; rw [h]; rfl, hb⟩
theorem pr_yes {c : Cd} {w W : World} {l : List UInt8} (h : printC c = some l) (hb : Below w.heap.size w W) : PrIs c w (.returned (.tuple #[.string (Om.B l), .int .i64 0])) W := ⟨by unfold printCV printCE; rw [h]; rfl, hb⟩
theorem look_all (op : List UInt8) (hl : op.length ≤ 4294967295) (W : World) (b : Nat) (h : W.heap[b]? = some (.map esC 6)) : (Instr.lookup 36 (.map (some b)) (.string (Om.B op)) true).run Tryd.prog W = .ok (.tuple #[.agg #[.string (Om.B ((formC op).getD []))], .bool (formC op).isSome]) W := by
  cases hf : formC op with
  | none => exact look_no hf b W h (by omega)
  | some L => exact look_yes hf b W h (by omega)
/-- '[]byte(s)'. -/
theorem conv_own (w : World) (l : List UInt8) (hl : l.length ≤ 4294967295) : ∃ v w', (convert 9 39 (.string (Om.B l))).run Tryd.prog w = .ok v w' ∧ OwnM w' w.heap.size v l.length (Lib.byteCells l) ∧ Below w.heap.size w w' := by
  have h := run_bytes_of_string (P := Tryd.prog) w 9 39 5 (Om.B l) Tryd.underlying9 Tryd.underlying39 Tryd.underlying5
  have hge := grownCap_ge w (Om.B l).size 0 5
  have hcm := grownCap_le_maxLen w (Om.B l).size 0 5 (by rw [Om.B_size]; unfold maxLen; omega)
  have hs : (bytesRow (Om.B l) (grownCap w (Om.B l).size 0 5)).size = grownCap w (Om.B l).size 0 5 := by
    rw [Om.B_size] at hge
    simp only [bytesRow, Array.size_append, Array.size_map, Array.size_replicate, Om.B_size]
    show l.length + _ = _
    omega
  refine ⟨_, _, h, ⟨?_, w.heap.size, _, _, _, rfl, Nat.le_refl _, heap_alloc_new w.drew _, .inr ?_, hge, hcm, hs, ?_⟩, ((Below.refl _ w).drew).alloc (Nat.le_refl _) _⟩
  · rw [Lib.byteCells_length]
  · rw [hs]; exact Nat.le_refl _
  · simp only [bytesRow, Array.toList_append, Array.toList_map]
    rw [List.take_append_of_le_length (by rw [List.length_map]; exact Nat.le_refl _), List.take_of_length_le (by rw [List.length_map]; exact Nat.le_refl _)]
    rfl
theorem OwnM.iterAt {w : World} {B n k pos : Nat} {v : Value} {xs : List Value} {s : ByteArray} (h : OwnM w B v n xs) (hk : w.heap[k]? = some (.stringIter s pos)) (p : Nat) : OwnM (w.iterAt k s p) B v n xs := by
  obtain ⟨h1, g, cap, cur, fz, h2, h3, h4, r⟩ := h
  refine ⟨h1, g, cap, cur, fz, h2, h3, ?_, r⟩
  rw [Lib.iterAt_other _ _ _ _ _ (fun e => by subst e; rw [hk] at h4; cases h4)]
  exact h4
/-- What is so between two letters: what is written is X. -/
structure Pi (w : World) (B q K : Nat) (fl : ByteArray) (pos : Nat) (c : Cd) (tv : Value) (X : List UInt8) (W : World) : Prop where
  below : Below w.heap.size w W
  own : OwnM W B tv X.length (Lib.byteCells X)
  cb : Cb W q c
  it : W.heap[K]? = some (.stringIter fl pos)
  hq : w.heap.size ≤ q
  qb : q < B
  ne : K ≠ q
  hw : w.heap.size ≤ K
  hB : B ≤ W.heap.size
theorem Pi.next {w W : World} {B q K pos : Nat} {fl : ByteArray} {c : Cd} {tv : Value} {X : List UInt8} (h : Pi w B q K fl pos c tv X W) (p : Nat) : Pi w B q K fl p c tv X (W.iterAt K fl p) :=
  ⟨Lib.below_iterAt h.below h.hw _ _, h.own.iterAt h.it p, (Lib.iterAt_other _ _ _ _ _ (fun e => h.ne e.symm)).trans h.cb, Lib.iterAt_heap _ _ _ _ _ h.it, h.hq, h.qb, h.ne, h.hw, by rw [Lib.iterAt_size]; exact h.hB⟩
theorem Pi.app {w W W' : World} {B q K pos : Nat} {fl : ByteArray} {c : Cd} {tv v' : Value} {X Y : List UInt8} (h : Pi w B q K fl pos c tv X W) (ht : Tw B W W') (ho : OwnM W' B v' (X.length + Y.length) (Lib.byteCells X ++ Lib.byteCells Y)) : Pi w B q K fl pos c v' (X ++ Y) W' :=
  ⟨h.below.trans ((ht.fr (fun i => B ≤ i) (fun _ h => h)).below h.below.size (fun k hk => Nat.le_trans (Nat.le_of_lt (Nat.lt_of_le_of_lt h.hq h.qb)) hk)), by rw [List.length_append, byteCells_app]; exact ho, (ht.1.block q h.qb).trans h.cb, ht.its _ _ _ h.it, h.hq, h.qb, h.ne, h.hw, Nat.le_trans h.hB ht.1.size⟩
theorem Pi.take {w W W' : World} {B q K pos : Nat} {fl : ByteArray} {c d : Cd} {tv v' : Value} {X Y : List UInt8} (h : Pi w B q K fl pos c tv X W) (hd : Cb W' q d) (hf : Fr (fun i => i = q ∨ B ≤ i) W W') (hi : ItKept W W') (ho : OwnM W' B v' (X.length + Y.length) (Lib.byteCells X ++ Lib.byteCells Y)) : Pi w B q K fl pos d v' (X ++ Y) W' :=
  ⟨h.below.trans (hf.below h.below.size (fun k hk => by have := h.hq; have := h.qb; rcases hk with rfl | hk <;> omega)), by rw [List.length_append, byteCells_app]; exact ho, hd, hi _ _ _ h.it, h.hq, h.qb, h.ne, h.hw, Nat.le_trans h.hB hf.size⟩
theorem OwnM.back {w : World} {B : Nat} {v : Value} {X : List UInt8} (h : OwnM w B v X.length (Lib.byteCells X)) : (convert 39 9 v).run Tryd.prog w = .ok (.string (Om.B X)) w := by
  have h0 := h
  obtain ⟨h1, g, cap, cur, fz, rfl, r⟩ := h
  exact run_convert_bytes_back (P := Tryd.prog) w 39 9 5 ⟨g, 0, none⟩ cap X Tryd.underlying39 Tryd.underlying5 Tryd.underlying9 (fun j hj => h0.cells j _ (by simp [Lib.byteCells, hj]))
theorem okC_zero : okC 0 = true := by decide
theorem okI_clr (x : UInt8) (c : Cd) (h : okI c = true) : okI (clrC x c) = true := by
  unfold okI at h ⊢
  rw [Bool.and_eq_true, Bool.and_eq_true] at h ⊢
  unfold clrC
  split
  · exact ⟨⟨okC_zero, h.1.2⟩, h.2⟩
  · split
    · exact ⟨⟨h.1.1, okC_zero⟩, h.2⟩
    · split
      · exact ⟨h.1, okC_zero⟩
      · split
        · exact h
        · exact h
theorem data_clr (x : UInt8) (c : Cd) : (clrC x c).data.length ≤ c.data.length := by
  unfold clrC
  repeat' split
  all_goals first | exact Nat.le_refl _ | exact Nat.zero_le _
theorem wd_len (x : UInt8) (c : Cd) (h : okI c = true) : (wdC x c).length ≤ 2 * c.data.length + 20 := by
  have hf : ∀ z : Int, okC z = true → (fig z).length ≤ 20 := fun z hz => by
    obtain ⟨m, rfl, hm⟩ := okC_nat hz
    show (Lib.decDigits m).length ≤ 20
    rw [Lib.decDigits_length]
    rcases Nat.eq_zero_or_pos m with rfl | h1
    · rw [Lib.nDigits_small (by omega)]; omega
    · have := Lib.numDigits_eq m h1 (by omega)
      split at this <;> omega
  unfold okI at h
  rw [Bool.and_eq_true, Bool.and_eq_true] at h
  unfold wdC
  split
  · have := hf _ h.1.1; omega
  · split
    · have := hf _ h.1.2; omega
    · split
      · have := hf _ h.2; omega
      · split
        · unfold hexC
          split
          · simp
          · rw [hexL_len]; omega
        · simp
theorem prC_step {L : List UInt8} {pos : Nat} {x : UInt8} (hx : L[pos]? = some x) (c : Cd) : prC (L.drop pos) c = (32 :: wdC x c ++ (prC (L.drop (pos + 1)) (clrC x c)).1, (prC (L.drop (pos + 1)) (clrC x c)).2) := by
  rw [drop_at' hx]
  rfl
theorem strB_eq (a b : List UInt8) : ((Om.B a).toList == (Om.B b).toList) = decide (a = b) := by rw [b_toList, b_toList]; by_cases h : a = b <;> simp [h]
theorem cmd_neq (c : Cd) (p : List UInt8) (w : World) : (binOp .neq 23 (.agg #[.string (Om.B c.op), .int .i64 c.id, .int .i64 c.at_, .int .i64 c.n, .string (Om.B c.data)]) (.agg #[.string (Om.B p), .int .i64 0, .int .i64 0, .int .i64 0, .string ⟨#[]⟩])).run Tryd.prog w = .ok (.bool (!decide (c = ⟨p, 0, 0, 0, []⟩))) w := by
  obtain ⟨a, b, d, e, f⟩ := c
  go_simp
  rw [b_toList, b_toList, b_toList]
  by_cases h1 : a = p
  · by_cases h2 : b = 0
    · by_cases h3 : d = 0
      · by_cases h4 : e = 0
        · by_cases h5 : f = [] <;> simp [h1, h2, h3, h4, h5]
        · simp [h1, h2, h3, h4]
      · simp [h1, h2, h3]
    · simp [h1, h2]
  · simp [h1]
theorem op_clr (x : UInt8) (c : Cd) : (clrC x c).op = c.op := by
  unfold clrC
  repeat' split
  all_goals rfl
end Co
end Go.Proofs.YtdojclhcoboocaaDoor
