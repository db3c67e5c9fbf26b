/- Contracts of command's forms and mayBe. -/
import Derived.Test.YtdojclhcoboocaaDoorCmdMath
import Derived.Test.YtdojclhcoboocaaDoorCmdLay
import Derived.Test.YtdojclhcoboocaaDoorDmpCut
import Derived.Carry
import Derived.StringKeys
import Derived.Laws.IdiomMaps
import Derived.Laws.RangeString
namespace Go.Proofs.YtdojclhcoboocaaDoor
namespace Co
open Go.RowKit Go.Lib Pd
set_option maxRecDepth 100000
set_option linter.unusedVariables false

theorem run_upd {P : Program} {t k e : TypeId} (ht : P.underlying t = some (.map k e)) (hk : P.underlying k = some .string) (es : Array MapEntry) (clock : Nat) (s : ByteArray) (hs : s.size ≤ maxLen) (v : Value) (w : World)
    (hf : Instr.findNow .string (.string s) es.toList 0 = some none) :
    (Instr.mapUpdate t (.map (some w.heap.size)) (.string s) v).run P (w.alloc (.map es clock)) = .ok () (w.alloc (.map (es.push { key := .string s, val := v, born := clock }) (clock + 1))) := by
  have hb : (w.alloc (.map es clock)).heap[w.heap.size]? = some (.map es clock) := heap_alloc_new _ _
  have hset : (w.alloc (.map es clock)).heap.set! w.heap.size (.map (es.push { key := .string s, val := v, born := clock }) (clock + 1)) = (w.alloc (.map (es.push { key := .string s, val := v, born := clock }) (clock + 1))).heap := by
    show (w.heap.push _).set! _ _ = w.heap.push _
    apply Array.ext'
    simp [Array.set!, Array.setIfInBounds, Array.toList_push]
  simp only [Array.set!_eq_setIfInBounds] at hset
  simp [Instr.mapUpdate, run_underlying ht, run_underlying hk, MapKept.run_getObj_map hb, MapKept.run_setObj_map _ hb, (Go.WideMaps.string_law hk).check (w.alloc (.map es clock)) _ (Go.WideMaps.keyOf_string_mk hk hs), Instr.findKey, hf, Result.andThen]
  simp only [World.alloc] at hset ⊢
  rw [hset]
theorem run_look {P : Program} {t k e : TypeId} (ht : P.underlying t = some (.map k e)) (hk : P.underlying k = some .string) (es : Array MapEntry) (clock b : Nat) (s : ByteArray) (hs : s.size ≤ maxLen) (w : World)
    (hb : w.heap[b]? = some (.map es clock)) (i : Nat) (v : Value) (hf : Instr.findNow .string (.string s) es.toList 0 = some (some (i, v))) :
    (Instr.lookup t (.map (some b)) (.string s) true).run P w = .ok (.tuple #[v, .bool true]) w := by
  simp [Instr.lookup, run_underlying ht, run_underlying hk, MapKept.run_getObj_map hb, (Go.WideMaps.string_law hk).check w _ (Go.WideMaps.keyOf_string_mk hk hs), Instr.findKey, hf, Result.andThen]
theorem run_look_no {P : Program} {t k e : TypeId} (ht : P.underlying t = some (.map k e)) (hk : P.underlying k = some .string) (es : Array MapEntry) (clock b : Nat) (s : ByteArray) (hs : s.size ≤ maxLen) (w : World)
    (hb : w.heap[b]? = some (.map es clock)) (z : Value) (hz : (zeroValue e).run P w = .ok z w) (hf : Instr.findNow .string (.string s) es.toList 0 = some none) :
    (Instr.lookup t (.map (some b)) (.string s) true).run P w = .ok (.tuple #[z, .bool false]) w := by
  simp [Instr.lookup, run_underlying ht, run_underlying hk, MapKept.run_getObj_map hb, (Go.WideMaps.string_law hk).check w _ (Go.WideMaps.keyOf_string_mk hk hs), Instr.findKey, hf, hz, Result.andThen]

theorem beq_B (p q : List UInt8) : (Om.B p == Om.B q) = decide (p = q) := by
  have e : (Om.B p == Om.B q) = (p.toArray == q.toArray) := rfl
  rw [e]
  by_cases h : p = q
  · subst h; simp
  · rw [decide_eq_false h, beq_eq_false_iff_ne]
    intro e
    exact h (by simpa using congrArg Array.toList e)
/-- The map of forms. -/
def esC : Array MapEntry := #[{ key := .string ⟨#[114, 101, 97, 100]⟩, val := .agg #[.string ⟨#[105, 97, 110]⟩], born := 0 }, { key := .string ⟨#[119, 114, 105, 116, 101]⟩, val := .agg #[.string ⟨#[105, 97, 100]⟩], born := 1 }, { key := .string ⟨#[99, 114, 101, 97, 116, 101]⟩, val := .agg #[.string ⟨#[110]⟩], born := 2 }, { key := .string ⟨#[100, 101, 108, 101, 116, 101]⟩, val := .agg #[.string ⟨#[105]⟩], born := 3 }, { key := .string ⟨#[109, 101, 114, 103, 101]⟩, val := .agg #[.string ⟨#[105]⟩], born := 4 }, { key := .string ⟨#[115, 116, 101, 112]⟩, val := .agg #[.string ⟨#[]⟩], born := 5 }]
theorem forms_any (w : World) : Calls Tryd.prog 11 #[] w fun e w' => e = .returned (.map (some w.heap.size)) ∧ w' = w.alloc (.map esC 6) := by
  have hmm := @run_makeMap Tryd.prog
  have h0 : (Instr.mapUpdate 36 (.map (some w.heap.size)) (.string ⟨#[114, 101, 97, 100]⟩) (.agg #[.string ⟨#[105, 97, 110]⟩])).run Tryd.prog (w.alloc (.map #[] 0)) = .ok () (w.alloc (.map #[{ key := .string ⟨#[114, 101, 97, 100]⟩, val := .agg #[.string ⟨#[105, 97, 110]⟩], born := 0 }] 1)) := run_upd Tryd.underlying36 Tryd.underlying9 #[] 0 ⟨#[114, 101, 97, 100]⟩ (by decide) _ w (by rfl)
  have h1 : (Instr.mapUpdate 36 (.map (some w.heap.size)) (.string ⟨#[119, 114, 105, 116, 101]⟩) (.agg #[.string ⟨#[105, 97, 100]⟩])).run Tryd.prog (w.alloc (.map #[{ key := .string ⟨#[114, 101, 97, 100]⟩, val := .agg #[.string ⟨#[105, 97, 110]⟩], born := 0 }] 1)) = .ok () (w.alloc (.map #[{ key := .string ⟨#[114, 101, 97, 100]⟩, val := .agg #[.string ⟨#[105, 97, 110]⟩], born := 0 }, { key := .string ⟨#[119, 114, 105, 116, 101]⟩, val := .agg #[.string ⟨#[105, 97, 100]⟩], born := 1 }] 2)) := run_upd Tryd.underlying36 Tryd.underlying9 #[{ key := .string ⟨#[114, 101, 97, 100]⟩, val := .agg #[.string ⟨#[105, 97, 110]⟩], born := 0 }] 1 ⟨#[119, 114, 105, 116, 101]⟩ (by decide) _ w (by rfl)
  have h2 : (Instr.mapUpdate 36 (.map (some w.heap.size)) (.string ⟨#[99, 114, 101, 97, 116, 101]⟩) (.agg #[.string ⟨#[110]⟩])).run Tryd.prog (w.alloc (.map #[{ key := .string ⟨#[114, 101, 97, 100]⟩, val := .agg #[.string ⟨#[105, 97, 110]⟩], born := 0 }, { key := .string ⟨#[119, 114, 105, 116, 101]⟩, val := .agg #[.string ⟨#[105, 97, 100]⟩], born := 1 }] 2)) = .ok () (w.alloc (.map #[{ key := .string ⟨#[114, 101, 97, 100]⟩, val := .agg #[.string ⟨#[105, 97, 110]⟩], born := 0 }, { key := .string ⟨#[119, 114, 105, 116, 101]⟩, val := .agg #[.string ⟨#[105, 97, 100]⟩], born := 1 }, { key := .string ⟨#[99, 114, 101, 97, 116, 101]⟩, val := .agg #[.string ⟨#[110]⟩], born := 2 }] 3)) := run_upd Tryd.underlying36 Tryd.underlying9 #[{ key := .string ⟨#[114, 101, 97, 100]⟩, val := .agg #[.string ⟨#[105, 97, 110]⟩], born := 0 }, { key := .string ⟨#[119, 114, 105, 116, 101]⟩, val := .agg #[.string ⟨#[105, 97, 100]⟩], born := 1 }] 2 ⟨#[99, 114, 101, 97, 116, 101]⟩ (by decide) _ w (by rfl)
  have h3 : (Instr.mapUpdate 36 (.map (some w.heap.size)) (.string ⟨#[100, 101, 108, 101, 116, 101]⟩) (.agg #[.string ⟨#[105]⟩])).run Tryd.prog (w.alloc (.map #[{ key := .string ⟨#[114, 101, 97, 100]⟩, val := .agg #[.string ⟨#[105, 97, 110]⟩], born := 0 }, { key := .string ⟨#[119, 114, 105, 116, 101]⟩, val := .agg #[.string ⟨#[105, 97, 100]⟩], born := 1 }, { key := .string ⟨#[99, 114, 101, 97, 116, 101]⟩, val := .agg #[.string ⟨#[110]⟩], born := 2 }] 3)) = .ok () (w.alloc (.map #[{ key := .string ⟨#[114, 101, 97, 100]⟩, val := .agg #[.string ⟨#[105, 97, 110]⟩], born := 0 }, { key := .string ⟨#[119, 114, 105, 116, 101]⟩, val := .agg #[.string ⟨#[105, 97, 100]⟩], born := 1 }, { key := .string ⟨#[99, 114, 101, 97, 116, 101]⟩, val := .agg #[.string ⟨#[110]⟩], born := 2 }, { key := .string ⟨#[100, 101, 108, 101, 116, 101]⟩, val := .agg #[.string ⟨#[105]⟩], born := 3 }] 4)) := run_upd Tryd.underlying36 Tryd.underlying9 #[{ key := .string ⟨#[114, 101, 97, 100]⟩, val := .agg #[.string ⟨#[105, 97, 110]⟩], born := 0 }, { key := .string ⟨#[119, 114, 105, 116, 101]⟩, val := .agg #[.string ⟨#[105, 97, 100]⟩], born := 1 }, { key := .string ⟨#[99, 114, 101, 97, 116, 101]⟩, val := .agg #[.string ⟨#[110]⟩], born := 2 }] 3 ⟨#[100, 101, 108, 101, 116, 101]⟩ (by decide) _ w (by rfl)
  have h4 : (Instr.mapUpdate 36 (.map (some w.heap.size)) (.string ⟨#[109, 101, 114, 103, 101]⟩) (.agg #[.string ⟨#[105]⟩])).run Tryd.prog (w.alloc (.map #[{ key := .string ⟨#[114, 101, 97, 100]⟩, val := .agg #[.string ⟨#[105, 97, 110]⟩], born := 0 }, { key := .string ⟨#[119, 114, 105, 116, 101]⟩, val := .agg #[.string ⟨#[105, 97, 100]⟩], born := 1 }, { key := .string ⟨#[99, 114, 101, 97, 116, 101]⟩, val := .agg #[.string ⟨#[110]⟩], born := 2 }, { key := .string ⟨#[100, 101, 108, 101, 116, 101]⟩, val := .agg #[.string ⟨#[105]⟩], born := 3 }] 4)) = .ok () (w.alloc (.map #[{ key := .string ⟨#[114, 101, 97, 100]⟩, val := .agg #[.string ⟨#[105, 97, 110]⟩], born := 0 }, { key := .string ⟨#[119, 114, 105, 116, 101]⟩, val := .agg #[.string ⟨#[105, 97, 100]⟩], born := 1 }, { key := .string ⟨#[99, 114, 101, 97, 116, 101]⟩, val := .agg #[.string ⟨#[110]⟩], born := 2 }, { key := .string ⟨#[100, 101, 108, 101, 116, 101]⟩, val := .agg #[.string ⟨#[105]⟩], born := 3 }, { key := .string ⟨#[109, 101, 114, 103, 101]⟩, val := .agg #[.string ⟨#[105]⟩], born := 4 }] 5)) := run_upd Tryd.underlying36 Tryd.underlying9 #[{ key := .string ⟨#[114, 101, 97, 100]⟩, val := .agg #[.string ⟨#[105, 97, 110]⟩], born := 0 }, { key := .string ⟨#[119, 114, 105, 116, 101]⟩, val := .agg #[.string ⟨#[105, 97, 100]⟩], born := 1 }, { key := .string ⟨#[99, 114, 101, 97, 116, 101]⟩, val := .agg #[.string ⟨#[110]⟩], born := 2 }, { key := .string ⟨#[100, 101, 108, 101, 116, 101]⟩, val := .agg #[.string ⟨#[105]⟩], born := 3 }] 4 ⟨#[109, 101, 114, 103, 101]⟩ (by decide) _ w (by rfl)
  have h5 : (Instr.mapUpdate 36 (.map (some w.heap.size)) (.string ⟨#[115, 116, 101, 112]⟩) (.agg #[.string ⟨#[]⟩])).run Tryd.prog (w.alloc (.map #[{ key := .string ⟨#[114, 101, 97, 100]⟩, val := .agg #[.string ⟨#[105, 97, 110]⟩], born := 0 }, { key := .string ⟨#[119, 114, 105, 116, 101]⟩, val := .agg #[.string ⟨#[105, 97, 100]⟩], born := 1 }, { key := .string ⟨#[99, 114, 101, 97, 116, 101]⟩, val := .agg #[.string ⟨#[110]⟩], born := 2 }, { key := .string ⟨#[100, 101, 108, 101, 116, 101]⟩, val := .agg #[.string ⟨#[105]⟩], born := 3 }, { key := .string ⟨#[109, 101, 114, 103, 101]⟩, val := .agg #[.string ⟨#[105]⟩], born := 4 }] 5)) = .ok () (w.alloc (.map #[{ key := .string ⟨#[114, 101, 97, 100]⟩, val := .agg #[.string ⟨#[105, 97, 110]⟩], born := 0 }, { key := .string ⟨#[119, 114, 105, 116, 101]⟩, val := .agg #[.string ⟨#[105, 97, 100]⟩], born := 1 }, { key := .string ⟨#[99, 114, 101, 97, 116, 101]⟩, val := .agg #[.string ⟨#[110]⟩], born := 2 }, { key := .string ⟨#[100, 101, 108, 101, 116, 101]⟩, val := .agg #[.string ⟨#[105]⟩], born := 3 }, { key := .string ⟨#[109, 101, 114, 103, 101]⟩, val := .agg #[.string ⟨#[105]⟩], born := 4 }, { key := .string ⟨#[115, 116, 101, 112]⟩, val := .agg #[.string ⟨#[]⟩], born := 5 }] 6)) := run_upd Tryd.underlying36 Tryd.underlying9 #[{ key := .string ⟨#[114, 101, 97, 100]⟩, val := .agg #[.string ⟨#[105, 97, 110]⟩], born := 0 }, { key := .string ⟨#[119, 114, 105, 116, 101]⟩, val := .agg #[.string ⟨#[105, 97, 100]⟩], born := 1 }, { key := .string ⟨#[99, 114, 101, 97, 116, 101]⟩, val := .agg #[.string ⟨#[110]⟩], born := 2 }, { key := .string ⟨#[100, 101, 108, 101, 116, 101]⟩, val := .agg #[.string ⟨#[105]⟩], born := 3 }, { key := .string ⟨#[109, 101, 114, 103, 101]⟩, val := .agg #[.string ⟨#[105]⟩], born := 4 }] 5 ⟨#[115, 116, 101, 112]⟩ (by decide) _ w (by rfl)
  go_enter Tryd.func11, Tryd.ntmps11
  go_wp2_with fail
  go_ret
  exact ⟨rfl, rfl⟩
theorem find_no {op : List UInt8} (h : formC op = none) : Instr.findNow .string (.string (Om.B op)) esC.toList 0 = some none := by
  unfold formC at h
  repeat' split at h
  all_goals first | (cases h; done) | skip
  rename_i h0 h1 h2 h3 h4 h5
  have e0 : (Om.B op == ⟨#[114, 101, 97, 100]⟩) = false := by rw [show (⟨#[114, 101, 97, 100]⟩ : ByteArray) = Om.B wRead from rfl, beq_B, decide_eq_false h0]
  have e1 : (Om.B op == ⟨#[119, 114, 105, 116, 101]⟩) = false := by rw [show (⟨#[119, 114, 105, 116, 101]⟩ : ByteArray) = Om.B wWrite from rfl, beq_B, decide_eq_false h1]
  have e2 : (Om.B op == ⟨#[99, 114, 101, 97, 116, 101]⟩) = false := by rw [show (⟨#[99, 114, 101, 97, 116, 101]⟩ : ByteArray) = Om.B wCreate from rfl, beq_B, decide_eq_false h2]
  have e3 : (Om.B op == ⟨#[100, 101, 108, 101, 116, 101]⟩) = false := by rw [show (⟨#[100, 101, 108, 101, 116, 101]⟩ : ByteArray) = Om.B wDelete from rfl, beq_B, decide_eq_false h3]
  have e4 : (Om.B op == ⟨#[109, 101, 114, 103, 101]⟩) = false := by rw [show (⟨#[109, 101, 114, 103, 101]⟩ : ByteArray) = Om.B wMerge from rfl, beq_B, decide_eq_false h4]
  have e5 : (Om.B op == ⟨#[115, 116, 101, 112]⟩) = false := by rw [show (⟨#[115, 116, 101, 112]⟩ : ByteArray) = Om.B wStep from rfl, beq_B, decide_eq_false h5]
  simp only [esC, Instr.findNow, Instr.sameNow, e0, e1, e2, e3, e4, e5]
theorem find_yes {op L : List UInt8} (h : formC op = some L) : ∃ i, Instr.findNow .string (.string (Om.B op)) esC.toList 0 = some (some (i, .agg #[.string (Om.B L)])) := by
  unfold formC at h
  repeat' split at h
  all_goals first
    | (cases h; done)
    | (rename_i hh; cases h; subst hh; first | exact ⟨0, by rfl⟩ | exact ⟨1, by rfl⟩ | exact ⟨2, by rfl⟩ | exact ⟨3, by rfl⟩ | exact ⟨4, by rfl⟩ | exact ⟨5, by rfl⟩)
theorem formC_low {op L : List UInt8} (h : formC op = some L) : L.length ≤ 3 ∧ (∀ x ∈ L, x = 105 ∨ x = 97 ∨ x = 110 ∨ x = 100) ∧ op.length ≤ 6 ∧ op ≠ [] ∧ noB op := by
  unfold formC at h
  repeat' split at h
  all_goals first
    | (cases h; done)
    | (rename_i hh; cases h; subst hh; exact ⟨by decide, by decide, by decide, by decide, noB_lit (by decide)⟩)
/-- Looked up. -/
theorem look_yes {op L : List UInt8} (h : formC op = some L) (b : Nat) (w : World) (hb : w.heap[b]? = some (.map esC 6)) (ho : op.length ≤ 9223372036854775807) : (Instr.lookup 36 (.map (some b)) (.string (Om.B op)) true).run Tryd.prog w = .ok (.tuple #[.agg #[.string (Om.B L)], .bool true]) w := by
  obtain ⟨i, hi⟩ := find_yes h
  exact run_look Tryd.underlying36 Tryd.underlying9 esC 6 b (Om.B op) (by rw [Om.B_size]; exact ho) w hb i _ hi
theorem look_no {op : List UInt8} (h : formC op = none) (b : Nat) (w : World) (hb : w.heap[b]? = some (.map esC 6)) (ho : op.length ≤ 9223372036854775807) : (Instr.lookup 36 (.map (some b)) (.string (Om.B op)) true).run Tryd.prog w = .ok (.tuple #[.agg #[.string ⟨#[]⟩], .bool false]) w :=
  run_look_no Tryd.underlying36 Tryd.underlying9 esC 6 b (Om.B op) (by rw [Om.B_size]; exact ho) w hb _ (by kernel_rfl) (find_no h)
theorem maybe_any (z : Int) (w : World) : Calls Tryd.prog 12 #[.int .i64 z] w fun e w' => e = .returned (.bool (okC z)) ∧ w = w' := by
  by_cases h1 : 0 ≤ z
  · by_cases h2 : z ≤ 2147483647
    · have e : okC z = true := by simp [okC, h1, h2]
      have d1 : decide (0 ≤ z) = true := by simp [h1]
      have d2 : decide (z ≤ 2147483647) = true := by simp [h2]
      have E := Lib.hid e
      go_enter Tryd.func12, Tryd.ntmps12
      go_wp2
      go_ret
      exact ⟨by rw [E.out]; rfl, rfl⟩
    · have e : okC z = false := by simp [okC]; omega
      have d1 : decide (0 ≤ z) = true := by simp [h1]
      have d2 : decide (z ≤ 2147483647) = false := by simp; omega
      have E := Lib.hid e
      go_enter Tryd.func12, Tryd.ntmps12
      go_wp2
      go_ret
      exact ⟨rfl, rfl⟩
  · have e : okC z = false := by simp [okC]; omega
    have d1 : decide (0 ≤ z) = false := by simp; omega
    have E := Lib.hid e
    go_enter Tryd.func12, Tryd.ntmps12
    go_wp2
    go_ret
    exact ⟨rfl, rfl⟩
end Co
end Go.Proofs.YtdojclhcoboocaaDoor
