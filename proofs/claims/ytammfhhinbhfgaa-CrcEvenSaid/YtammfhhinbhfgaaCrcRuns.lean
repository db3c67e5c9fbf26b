/- How single operations run, in whatever frame: for regions that draw their order. -/
import Derived.Test.YtammfhhinbhfgaaCrcOpen
import Derived.Test.YtammfhhinbhfgaaFlow
namespace Go.Proofs.Ytammfhhinbhfgaa
open Go.RowKit
set_option linter.unusedVariables false

theorem r_move {o : Oper} {A : Act} {W : World} {x : Operand} (ho : o.op = .move x) : (execOp A.eval o).run Try.prog W = .ok (.value (A.eval x)) W := by
  unfold execOp; rw [ho]; rfl
theorem r_assign {o : Oper} {A : Act} {W : World} {x : Operand} (ho : o.op = .assign x) : (execOp A.eval o).run Try.prog W = .ok (.value (A.eval x)) W := by
  unfold execOp; rw [ho]; rfl
theorem r_pick {o : Oper} {A : Act} {W : World} {c x y : Operand} {b : Bool} {u v : Value} (ho : o.op = .pick c x y) (hc : A.eval c = .bool b) (hx : A.eval x = u) (hy : A.eval y = v) : (execOp A.eval o).run Try.prog W = .ok (.value (if b then u else v)) W := by
  unfold execOp; simp only [ho, hc, hx, hy]; go_simp
theorem r_build {o : Oper} {A : Act} {W : World} {x : Operand} {s : ByteArray} (ho : o.op = .buildSlice 34 1 #[(0, x)]) (hx : A.eval x = .string s) : (execOp A.eval o).run Try.prog W = .ok (.value (.slice (some ⟨W.heap.size, 0, none⟩) 1 1)) (W.alloc (.cells #[.string s] 9)) := by
  unfold execOp; simp only [ho, hx, List.map_toArray, List.map_cons, List.map_nil]; go_simp
theorem r_front {o : Oper} {A : Act} {W : World} {x y : Operand} {s : ByteArray} {n : Nat} (ho : o.op = .slice 9 x none (some y) none) (hx : A.eval x = .string s) (hy : A.eval y = .int .i64 (n : Int)) (hn : n ≤ s.size) : (execOp A.eval o).run Try.prog W = .ok (.value (.string (s.extract 0 n))) W := by
  have h0 : (0 : Int) ≤ (n : Int) := by omega
  have h1 : (n : Int) ≤ (s.size : Int) := by omega
  unfold execOp; simp only [ho, hx, hy, Option.map_some, Option.map_none]; go_simp
theorem r_xor {o : Oper} {A : Act} {W : World} {x y : Operand} {m n : Nat} {r : TypeId} (ho : o.op = .binOp .xor 30 x y r) (hx : A.eval x = .int .u32 (m : Int)) (hy : A.eval y = .int .u32 (n : Int)) (hm : m < 4294967296) (hn : n < 4294967296) : (execOp A.eval o).run Try.prog W = .ok (.value (.int .u32 ((m ^^^ n : Nat) : Int))) W := by
  rw [← u32_xor_nat m n hm hn]
  unfold execOp; simp only [ho, hx, hy]; go_simp
theorem r_eql {o : Oper} {A : Act} {W : World} {x y : Operand} {m n : Nat} {r : TypeId} (ho : o.op = .binOp .eql 30 x y r) (hx : A.eval x = .int .u32 (m : Int)) (hy : A.eval y = .int .u32 (n : Int)) : (execOp A.eval o).run Try.prog W = .ok (.value (.bool ((m : Int) == (n : Int)))) W := by
  unfold execOp; simp only [ho, hx, hy]; go_simp
theorem r_alive {o : Oper} {A : Act} {W : World} (ho : o.op = .call { callee := .value (.func 5), args := #[], argTypes := #[] }) : (execOp A.eval o).run Try.prog W = .ok (.enter 5 #[]) W := by
  have hf := Try.func5
  unfold execOp; simp only [ho, List.map_toArray, List.map_nil, resolve]; go_simp
theorem r_sum {o : Oper} {A : Act} {W : World} {x : Operand} {v : Value} (ho : o.op = .call { callee := .value (.func 8), args := #[x], argTypes := #[34] }) (hx : A.eval x = v) : (execOp A.eval o).run Try.prog W = .ok (.enter 8 #[v]) W := by
  have hf := Try.func8
  unfold execOp; simp only [ho, hx, List.map_toArray, List.map_cons, List.map_nil, resolve]; go_simp
theorem r_text {o : Oper} {A : Act} {W : World} {x : Operand} {v : Value} {base n : Nat} {X : List UInt8} (ho : o.op = .convert 28 9 x) (hx : A.eval x = v) (hl : X.length = n) (hown : W.ownsRow base 5 1 v n (Lib.byteCells X)) : (execOp A.eval o).run Try.prog W = .ok (.value (.string (Om.B X))) W := by
  have hcv : (convert 28 9 v).run Try.prog W = .ok (.string (Om.B X)) W := by
    rcases hown.2 with ⟨hv, h0⟩ | ⟨g, cap, cur, hv, _⟩
    · subst hv h0
      have : X = [] := List.length_eq_zero_iff.1 hl
      subst this
      go_simp
      rfl
    · subst hv
      have h := run_convert_bytes_back (P := Try.prog) W 28 9 5 ⟨g, 0, none⟩ cap X Try.underlying28 Try.underlying5 Try.underlying9 (fun i hi => by
        rw [show (⟨g, 0, none⟩ : Addr).add i = ⟨g, i, none⟩ from by unfold Addr.add; split <;> simp_all, hown.cellAt i (by omega)]
        simp [Lib.byteCells, hi])
      rw [hl] at h
      exact h
  unfold execOp; simp only [ho, hx]; go_simp
end Go.Proofs.Ytammfhhinbhfgaa
