/- What the body-less functions of package math answer here: the bits of a float, the float of bits, the floor. Conditions: the floor is asked of no NaN. -/
import Derived.Test.YtleajpcoklmgkaaRows
import Derived.WalkKit
import Derived.ProofKit
import Derived.OpenShut
import Derived.WalkLawsBesides
import Derived.Laws.Externs
namespace Go.Proofs.Ytleajpcoklmgkaa
open Go.ChangeShapes Go.WideShapes Go.ChangeAt Go.RowKit

theorem run_frombits (n : Nat) (w : World) :
    (callFunc 24 #[.int .u64 (n : Int)]).run Try.prog w = .ok (.value (.float .f64 n)) w := by
  rw [run_callFunc_extern (e := Extern.MathFloatBits.float64frombits) Try.func24 (by kernel_rfl) (by kernel_rfl) (by kernel_rfl) (by kernel_rfl)]
  rfl

theorem run_bits (n : Nat) (w : World) :
    (callFunc 25 #[.float .f64 n]).run Try.prog w = .ok (.value (.int .u64 (n : Int))) w := by
  rw [run_callFunc_extern (e := Extern.MathFloatBits.float64bits) Try.func25 (by kernel_rfl) (by kernel_rfl) (by kernel_rfl) (by kernel_rfl)]
  rfl

theorem run_archFloor (n : Nat) (s : Bool) (m : Nat) (p : Int) (h : FloatKind.f64.decode n = .number s m p) (w : World) :
    (callFunc 41 #[.float .f64 n]).run Try.prog w = .ok (.value (.float .f64 (FloatKind.f64.encode ((Ieee.Datum.number s m p).integral .down)))) w := by
  rw [run_callFunc_extern (e := Extern.MathFloor.toIntegral "math.archFloor" .down) Try.func41 (by kernel_rfl) (by kernel_rfl) (by kernel_rfl) (by kernel_rfl)]
  have key : ∀ d : Ieee.Datum, FloatKind.f64.decode n = d → d = .number s m p → Sem.run Try.prog (Extern.MathFloor.toIntegral "math.archFloor" .down #[.float .f64 n]) w = .ok (.float .f64 (FloatKind.f64.encode ((Ieee.Datum.number s m p).integral .down))) w := by
    intro d hd hd'
    change Sem.run Try.prog (match FloatKind.f64.decode n with | .nan _ _ => _ | x => (pure (Value.float .f64 (FloatKind.f64.encode (x.integral .down))) : Sem Value)) w = _
    rw [hd, hd']
    rfl
  rw [key _ h rfl]
  rfl
end Go.Proofs.Ytleajpcoklmgkaa
