/- A table and the document's side by side, all acts through. -/
import Derived.Test.YtibemiiflibnaaaTabAlive
import Derived.Test.YtibemiiflibnaaaTabRLoad
import Derived.Test.YtibemiiflibnaaaTabArgs
namespace Go.Proofs.Ytibemiiflibnaaa
namespace Tb
open Go.RowKit Dsk Go.Maps
set_option linter.unusedVariables false
set_option maxRecDepth 100000

/-- A table at P and the document's v, of the same places, in blocks new since w. -/
def Run (w : World) (P : Nat) (v : Value) (n : Nat) (wr : World) : Prop := ∃ o m, o.p = P ∧ Two wr o v m ∧ m.length = n ∧ (∀ k, o.fp k → w.heap.size ≤ k) ∧ (∀ k, v.ownBlock = some k → w.heap.size ≤ k) ∧ Below w.heap.size w wr
theorem Run.below {w wr : World} {P n : Nat} {v : Value} (h : Run w P v n wr) : Below w.heap.size w wr := by obtain ⟨_, _, _, _, _, _, _, hb⟩ := h; exact hb
theorem Run.next {w wr w2 : World} {P n : Nat} {v : Value} (h : Run w P v n wr) (hb : Below wr.heap.size wr w2) : Run w P v n w2 := by
  obtain ⟨o, m, h1, h2, h3, h4, h5, h6⟩ := h
  exact ⟨o, m, h1, h2.below hb, h3, h4, h5, h6.trans (hb.mono h6.size)⟩
theorem Run.slice {w wr : World} {P n : Nat} {v : Value} (h : Run w P v n wr) : ∃ a c, v = .slice a n c := by
  obtain ⟨o, m, h1, h2, h3, _⟩ := h
  obtain ⟨a, c, e⟩ := ints_slice h2.row
  exact ⟨a, c, by rw [e, h3]⟩
theorem Run.act {w wr : World} {P n : Nat} {v : Value} (h : Run w P v n wr) (d : Bool) (k : Int) (hk : (Lit.int .i64 k).wf = true) :
    Calls Try.prog 9 #[.pointer (some ⟨P, 0, none⟩), v, .agg #[.bool d, .int .i64 k]] wr fun e w' => e = .returned (.bool true) ∧ Run w P v n w' := by
  obtain ⟨o, m, rfl, h2, h3, h4, h5, h6⟩ := h
  refine (act_any h2 d k hk).mono ?_
  rintro e w' ⟨rfl, o', t', s'⟩
  obtain ⟨b1, b2⟩ := s'.below h6.size h4 h5
  exact ⟨rfl, o', _, s'.p, t', by rw [actS_length]; exact h3, b2, h5, h6.trans b1⟩
theorem Run.same {w wr : World} {P n : Nat} {v : Value} (h : Run w P v n wr) (k : Int) (hk : (Lit.int .i64 k).wf = true) :
    Calls Try.prog 10 #[.pointer (some ⟨P, 0, none⟩), v, .int .i64 k] wr fun e w' => e = .returned (.bool true) ∧ Run w P v n w' := by
  have h0 := h
  obtain ⟨o, m, rfl, h2, h3, h4, h5, h6⟩ := h
  refine (same_yes h2.tm h2.row k hk).mono ?_
  rintro e w' ⟨rfl, hb⟩
  exact ⟨rfl, h0.next hb⟩
theorem newN_ref (p : Int) : newN p = if p > 1048576 then 0 else p.toNat := by
  unfold newN
  by_cases h1 : p > 1048576
  · rw [if_pos h1, if_neg (by omega)]
  · rw [if_neg h1]
    by_cases h2 : 0 ≤ p
    · rw [if_pos ⟨h2, by omega⟩]
    · rw [if_neg (by omega)]; omega
/-- The document's table, made beside the other. -/
theorem run_new {w w1 : World} {o : Ob} (p : Int) (wp : (Lit.int .i64 p).wf = true) (ht : Tm w1 o (List.replicate (newN p) (-1))) (hn : ∀ k, o.fp k → w.heap.size ≤ k) (hb : Below w.heap.size w w1) :
    Calls Try.prog 8 #[.int .i64 p] w1 fun e w' => ∃ a c, e = .returned (.slice a (newN p) c) ∧ Run w o.p (.slice a (newN p) c) (newN p) w' := by
  refine (rnew_any p w1 (newN p) (newN_ref p) (i64_wf wp).1).mono ?_
  rintro e w' ⟨v, rfl, h1, h2, h3⟩
  obtain ⟨a, c, rfl⟩ := ints_slice h1
  rw [List.length_replicate] at *
  refine ⟨a, c, rfl, o, _, rfl, ⟨ht.below h3, h1, fun k hk hv => ?_⟩, List.length_replicate, hn, fun k hk => Nat.le_trans hb.size (h2 k hk), hb.trans (h3.mono hb.size)⟩
  have e1 := ht.lt k hk
  have e2 := h2 k hv
  omega
end Tb
end Go.Proofs.Ytibemiiflibnaaa
