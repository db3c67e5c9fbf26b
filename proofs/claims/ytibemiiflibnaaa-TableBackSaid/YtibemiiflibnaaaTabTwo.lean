/- A table and the document's side by side: act, pages. -/
import Derived.Test.YtibemiiflibnaaaTabDrop
import Derived.Test.YtibemiiflibnaaaTabRAll
namespace Go.Proofs.Ytibemiiflibnaaa
namespace Tb
open Go.RowKit Dsk Go.Maps
set_option linter.unusedVariables false
set_option maxRecDepth 100000

/-- A table and the document's, of the same places, with no block in common. -/
structure Two (w : World) (o : Ob) (v : Value) (m : List Int) : Prop where
  tm : Tm w o m
  row : Ints w v m
  apart : ∀ k, o.fp k → v.ownBlock ≠ some k
theorem Two.blk {w : World} {o : Ob} {v : Value} {m : List Int} (h : Two w o v m) (k : Nat) (hk : o.fp k ∨ v.ownBlock = some k) : k < w.heap.size := by
  rcases hk with hk | hk
  · exact h.tm.lt k hk
  · obtain ⟨cur, hc⟩ := own_block h.row k hk; exact lt_of_heap hc
theorem Two.same {w w' : World} {o : Ob} {v : Value} {m : List Int} (h : Two w o v m) (hb : ∀ k, o.fp k ∨ v.ownBlock = some k → w'.heap[k]? = w.heap[k]?) : Two w' o v m :=
  ⟨h.tm.same fun k hk => hb k (.inl hk), own_same h.row fun k hk => hb k (.inr hk), h.apart⟩
theorem Two.below {w w' : World} {o : Ob} {v : Value} {m : List Int} (h : Two w o v m) (hb : Below w.heap.size w w') : Two w' o v m := h.same fun k hk => hb.block k (h.blk k hk)
/-- One step of both: their own blocks alone may turn. -/
structure TStep (o : Ob) (v : Value) (o' : Ob) (w w' : World) : Prop where
  fr : Fr (fun k => o.fp k ∨ v.ownBlock = some k) w w'
  fp : ∀ k, o'.fp k → o.fp k ∨ w.heap.size ≤ k
  p : o'.p = o.p
theorem TStep.refl (o : Ob) (v : Value) (w : World) : TStep o v o w w := ⟨Fr.refl _ _, fun _ h => .inl h, rfl⟩
theorem TStep.of_below {o : Ob} {v : Value} {w w' : World} (h : Below w.heap.size w w') : TStep o v o w w' := ⟨Fr.of_below h, fun _ h => .inl h, rfl⟩
theorem TStep.trans {a b c : Ob} {v : Value} {u w x : World} (h : TStep a v b u w) (k : TStep b v c w x) : TStep a v c u x := by
  refine ⟨h.fr.trans k.fr fun i hi hb => ?_, fun i hi => ?_, k.p.trans h.p⟩
  · rcases hb with e | e
    · rcases h.fp i e with h1 | h1
      · exact .inl h1
      · omega
    · exact .inr e
  · rcases k.fp i hi with h1 | h1
    · exact h.fp i h1
    · exact .inr (Nat.le_trans h.fr.size h1)
theorem TStep.below {o o' : Ob} {v : Value} {w w' : World} (h : TStep o v o' w w') {B : Nat} (hB : B ≤ w.heap.size) (ho : ∀ k, o.fp k → B ≤ k) (hv : ∀ k, v.ownBlock = some k → B ≤ k) : Below B w w' ∧ ∀ k, o'.fp k → B ≤ k :=
  ⟨h.fr.below hB fun k e => e.elim (ho k) (hv k), fun k hk => (h.fp k hk).elim (ho k) (Nat.le_trans hB)⟩
/-- The table's step, then the document's. -/
theorem Two.both {w w1 w2 : World} {o o1 : Ob} {v : Value} {m m' : List Int} (h : Two w o v m) (ht : Tm w1 o1 m') (hs : Step o o1 w w1) (hr : RWent v m' w1 w2) : Two w2 o1 v m' ∧ TStep o v o1 w w2 := by
  have ha : ∀ k, o1.fp k → v.ownBlock ≠ some k := fun k hk hv => by
    rcases hs.fp k hk with e | e
    · exact h.apart k e hv
    · have := h.blk k (.inr hv); omega
  exact ⟨⟨ht.keep hr.2 fun k hk e => ha k hk e, hr.1, ha⟩, ⟨(hs.fr.mono fun k _ e => .inl e).trans hr.2 (fun k _ e => .inr e), hs.fp, hs.p⟩⟩
theorem Two.row_at {w w1 : World} {o o1 : Ob} {v : Value} {m : List Int} (h : Two w o v m) (hs : Step o o1 w w1) : Ints w1 v m := own_same h.row fun k hk => hs.fr.block k (h.blk k (.inr hk)) (fun e => h.apart k e hk)

/-- What an act does. -/
def actS (m : List Int) (d : Bool) (k : Int) : List Int := if d then (drop m k).1 else (put m k).1
theorem actS_ok {m : List Int} (h : Ok m) (d : Bool) (k : Int) : Ok (actS m d k) := by unfold actS; split; exact drop_ok h k; exact put_ok h k
theorem actS_length (m : List Int) (d : Bool) (k : Int) : (actS m d k).length = m.length := by unfold actS; split; exact drop_length m k; exact put_length m k

set_option maxHeartbeats 1000000 in
theorem act_any {w : World} {o : Ob} {v : Value} {m : List Int} (h : Two w o v m) (d : Bool) (k : Int) (hk : (Lit.int .i64 k).wf = true) :
    Calls Try.prog 9 #[.pointer (some ⟨o.p, 0, none⟩), v, .agg #[.bool d, .int .i64 k]] w fun e w' => e = .returned (.bool true) ∧ ∃ o', Two w' o' v (actS m d k) ∧ TStep o v o' w w' := by
  have hfew := h.tm.ok.few
  obtain ⟨a, c, rfl⟩ := ints_slice h.row
  have hal : Below w.heap.size w (w.alloc (.cells #[.bool d, .int .i64 k] 31)) := (Below.refl _ _).alloc (Nat.le_refl _) _
  have H1 := h.below hal
  obtain ⟨L, hL⟩ : ∃ L, L = m.length := ⟨_, rfl⟩
  have hbox : (w.alloc (.cells #[.bool d, .int .i64 k] 31)).heap[w.heap.size]? = some (.cells #[.bool d, .int .i64 k] 31 (0, 0)) := heap_alloc_new _ _
  have hX : ∀ k, o.fp k → k ≠ w.heap.size := fun k hk => by have := h.tm.lt k hk; omega
  cases d with
  | true =>
    have D1 := Lib.hid (drop_any H1.tm k hk)
    obtain ⟨R, hR⟩ : ∃ R, R = drop m k := ⟨_, rfl⟩
    have RD : Hid (∀ w1, WentM o R.1 (w.alloc (.cells #[.bool true, .int .i64 k] 31)) w1 → w1.cell? ⟨w.heap.size, 1, none⟩ = some (.int .i64 k) ∧
        Calls Try.prog 24 #[.slice a L c, .int .i64 k] w1 fun e w' => e = .returned (.tuple #[.int .i64 R.2.1, .int .i64 R.2.2]) ∧ ∃ o', Two w' o' (.slice a L c) R.1 ∧ TStep o (.slice a L c) o' w w') := Lib.hid fun w1 hw => by
      obtain ⟨o1, t1, s1⟩ := hw
      have hb1 := (s1.fr.block w.heap.size (by simp) (fun e => hX _ e rfl)).trans hbox
      refine ⟨by rw [cell_of_row _ _ _ _ _ _ hb1]; rfl, ?_⟩
      have hr := H1.row_at s1
      have := rdrop_any hr k hfew
      rw [← hL, ← hR] at this
      refine this.mono ?_
      rintro e w' ⟨rfl, hrw⟩
      have t1' : Tm w1 o1 R.1 := t1
      have H1' : Two (w.alloc (.cells #[.bool true, .int .i64 k] 31)) o (.slice a L c) m := by rw [hL]; exact H1
      obtain ⟨b1, b2⟩ := H1'.both t1' s1 hrw
      exact ⟨rfl, o1, b1, (TStep.of_below hal).trans b2⟩
    rw [← hR] at D1
    have hS : actS m true k = R.1 := by rw [hR]; rfl
    rw [hS]
    rw [← hL]
    have u1 : (R.2.1 == R.2.1) = true := by simp
    have u2 : (R.2.2 == R.2.2) = true := by simp
    obtain ⟨r1, hr1⟩ : ∃ r, r = R.2.1 := ⟨_, rfl⟩
    obtain ⟨r2, hr2⟩ : ∃ r, r = R.2.2 := ⟨_, rfl⟩
    rw [← hr1, ← hr2] at D1 RD
    rw [← hr1] at u1
    rw [← hr2] at u2
    clear h H1 hal hbox hX hL hR hS hr1 hr2 hfew hk
    go_enter Try.func9, Try.ntmps9
    go_wp2_with (first
      | (go_at_call 18; refine D1.out.mono ?_; rintro e w1 ⟨rfl, hw1⟩; obtain ⟨cx, hrd⟩ := RD.out w1 hw1; have R1 := Lib.hid hrd; clear hrd hw1)
      | (go_at_call 24; refine R1.out.mono ?_; rintro e w2 ⟨rfl, hw2⟩; have W2 := Lib.hid hw2; clear hw2))
    go_ret
    exact ⟨rfl, W2.out⟩
  | false =>
    have D1 := Lib.hid (put_any H1.tm k hk)
    obtain ⟨R, hR⟩ : ∃ R, R = put m k := ⟨_, rfl⟩
    have RD : Hid (∀ w1, WentM o R.1 (w.alloc (.cells #[.bool false, .int .i64 k] 31)) w1 → w1.cell? ⟨w.heap.size, 1, none⟩ = some (.int .i64 k) ∧
        Calls Try.prog 25 #[.slice a L c, .int .i64 k] w1 fun e w' => e = .returned (.tuple #[.int .i64 R.2.1, .int .i64 R.2.2]) ∧ ∃ o', Two w' o' (.slice a L c) R.1 ∧ TStep o (.slice a L c) o' w w') := Lib.hid fun w1 hw => by
      obtain ⟨o1, t1, s1⟩ := hw
      have hb1 := (s1.fr.block w.heap.size (by simp) (fun e => hX _ e rfl)).trans hbox
      refine ⟨by rw [cell_of_row _ _ _ _ _ _ hb1]; rfl, ?_⟩
      have hr := H1.row_at s1
      have := rput_any hr k hfew
      rw [← hL, ← hR] at this
      refine this.mono ?_
      rintro e w' ⟨rfl, hrw⟩
      have t1' : Tm w1 o1 R.1 := t1
      have H1' : Two (w.alloc (.cells #[.bool false, .int .i64 k] 31)) o (.slice a L c) m := by rw [hL]; exact H1
      obtain ⟨b1, b2⟩ := H1'.both t1' s1 hrw
      exact ⟨rfl, o1, b1, (TStep.of_below hal).trans b2⟩
    rw [← hR] at D1
    have hS : actS m false k = R.1 := by rw [hR]; rfl
    rw [hS]
    rw [← hL]
    have u1 : (R.2.1 == R.2.1) = true := by simp
    have u2 : (R.2.2 == R.2.2) = true := by simp
    obtain ⟨r1, hr1⟩ : ∃ r, r = R.2.1 := ⟨_, rfl⟩
    obtain ⟨r2, hr2⟩ : ∃ r, r = R.2.2 := ⟨_, rfl⟩
    rw [← hr1, ← hr2] at D1 RD
    rw [← hr1] at u1
    rw [← hr2] at u2
    clear h H1 hal hbox hX hL hR hS hr1 hr2 hfew hk
    go_enter Try.func9, Try.ntmps9
    go_wp2_with (first
      | (go_at_call 16; refine D1.out.mono ?_; rintro e w1 ⟨rfl, hw1⟩; obtain ⟨cx, hrd⟩ := RD.out w1 hw1; have R1 := Lib.hid hrd; clear hrd hw1)
      | (go_at_call 25; refine R1.out.mono ?_; rintro e w2 ⟨rfl, hw2⟩; have W2 := Lib.hid hw2; clear hw2))
    go_ret
    exact ⟨rfl, W2.out⟩
end Tb
end Go.Proofs.Ytibemiiflibnaaa
