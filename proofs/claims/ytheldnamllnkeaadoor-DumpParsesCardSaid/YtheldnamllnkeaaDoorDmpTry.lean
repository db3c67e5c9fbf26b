/- The contract of dump's Lines: what ends all is recovered, and told. -/
import Derived.Test.YtheldnamllnkeaaDoorDmpOf
import Derived.Defers
import Derived.Recover
import Derived.Laws.Pointers
namespace Go.Proofs.YtheldnamllnkeaaDoor
namespace Pd
open Go.RowKit Dsk
set_option maxRecDepth 100000
set_option linter.unusedVariables false

/-- The panic that is recovered. -/
abbrev noV : Value := .iface 74 (.agg #[])
theorem tw_yes (w : World) : (Instr.typeAssert (.iface 74 (.agg #[])) 20 74 true).run Tryd.prog w = .ok (.tuple #[.agg #[], .bool true]) w := by kernel_rfl
theorem tn_no (w : World) : (binOp .eql 20 (.iface 74 (.agg #[])) .nilIface).run Tryd.prog w = .ok (.bool false) w := by kernel_rfl
theorem tn_yes (w : World) : (binOp .eql 20 .nilIface .nilIface).run Tryd.prog w = .ok (.bool true) w := by kernel_rfl
theorem caughtS_no (q p : Addr) (y z : Int) (older : List PanicEntry) (w : World) (hq : w.cell? q = some (.int .i64 z)) (hc : w.cell? p = some (.int .i64 y)) (hz : w.frozen? p = false) :
    CallsD Tryd.prog 28 #[.pointer (some q), .pointer (some p)] (.panicking ({ v := .iface 74 (.agg #[]), recovered := false } :: older)) w fun e u' w' =>
      e = .returned (.tuple #[]) ∧ u' = (.panicking ({ v := .iface 74 (.agg #[]), recovered := true } :: older)) ∧ w' = (w.alloc (.cells #[] 74)).setCell p (.int .i64 z) := by
  have h1 := tw_yes
  have h2 := tn_no
  have hp := lt_of_cell hc
  have hqq := lt_of_cell hq
  have hq1 : (w.alloc (.cells #[] 74)).cell? q = some (.int .i64 z) := ((((Below.refl _ w).alloc (Nat.le_refl _) _).cell hqq)).trans hq
  have hc1 : (w.alloc (.cells #[] 74)).cell? p = some (.int .i64 y) := ((((Below.refl _ w).alloc (Nat.le_refl _) _).cell hp)).trans hc
  have hz1 : (w.alloc (.cells #[] 74)).frozen? p = false := ((((Below.refl _ w).alloc (Nat.le_refl _) _).frozen hp)).trans hz
  refine callsD_of_wpS Tryd.func28 rfl fun c₀ cs hu => ?_
  apply wpS_seq
  apply wpS_region
  simp [wpOpsS, go_sem, recoverD, hu, Tryd.ntmps28, Exit.thenS]
  rw [show (#[Value.pointer (some q), Value.pointer (some p)] ++ (Array.replicate 10 undef).setIfInBounds 3 (.iface 74 (.agg #[]))) = #[.pointer (some q), .pointer (some p), undef, undef, undef, (.iface 74 (.agg #[])), undef, undef, undef, undef, undef, undef] from rfl]
  refine wpS_of_wp ?_
  go_wp2
  simp [bodyPostS, results, Tryd.results28]
theorem caughtS_none (q p : Addr) (w : World) :
    CallsD Tryd.prog 28 #[.pointer (some q), .pointer (some p)] .returning w fun e u' w' =>
      e = .returned (.tuple #[]) ∧ u' = .returning ∧ w' = w := by
  have h2 := tn_yes
  refine callsD_of_wpS Tryd.func28 rfl fun c₀ cs hu => ?_
  apply wpS_seq
  apply wpS_region
  simp [wpOpsS, go_sem, recoverD, hu, Tryd.ntmps28, Exit.thenS]
  rw [show (#[Value.pointer (some q), Value.pointer (some p)] ++ (Array.replicate 10 undef).setIfInBounds 3 .nilIface) = #[.pointer (some q), .pointer (some p), undef, undef, undef, .nilIface, undef, undef, undef, undef, undef, undef] from rfl]
  refine wpS_of_wp ?_
  go_wp2
  cases c₀
  simp_all [bodyPostS, results, Tryd.results28]
/-- What Lines tells. -/
def LIs (r : Rp) (w : World) (e : Ending) (w' : World) : Prop := ∃ v, e = .returned (.tuple #[v, .int .i64 (dumpE r)]) ∧ GrowsS w (dumpV r) v w'
theorem GrowsS.nil {w w' : World} (hb : Below w.heap.size w w') : GrowsS w [] (.slice none 0 0) w' := ⟨World.ownsRow_nil _ _ _ _, fun k hk => (by cases hk), hb⟩
theorem GrowsS.from {w w0 w' : World} {l : List (List UInt8)} {v : Value} (h : GrowsS w0 l v w') (hb : Below w.heap.size w w0) : GrowsS w l v w' := ⟨h.row, fun k hk => Nat.le_trans hb.size (h.new k hk), bgo hb (Nat.le_refl _) h.below⟩
theorem Strs.below {B : Nat} {w w' : World} {v : Value} {l : List (List UInt8)} (h : Strs w v l) (hb : Below B w w') (hB : ∀ k, v.ownBlock = some k → k < B) : Strs w' v l := own_same h fun j hj => hb.block j (hB j hj)
end Pd
end Go.Proofs.YtheldnamllnkeaaDoor
