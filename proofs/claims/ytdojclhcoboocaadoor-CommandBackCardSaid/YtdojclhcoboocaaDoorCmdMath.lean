/- Plain mathematics of commands' texts. No program is named. -/
import Derived.Test.YtdojclhcoboocaaDoorDmpBack
namespace Go.Proofs.YtdojclhcoboocaaDoor
namespace Co
open Pd
set_option linter.unusedVariables false

/-- A command. -/
structure Cd where
  op : List UInt8
  id : Int
  at_ : Int
  n : Int
  data : List UInt8
deriving DecidableEq
-- the words
def wRead : List UInt8 := [114, 101, 97, 100]
def wWrite : List UInt8 := [119, 114, 105, 116, 101]
def wCreate : List UInt8 := [99, 114, 101, 97, 116, 101]
def wDelete : List UInt8 := [100, 101, 108, 101, 116, 101]
def wMerge : List UInt8 := [109, 101, 114, 103, 101]
def wStep : List UInt8 := [115, 116, 101, 112]
/-- What stands behind a word: i ID, a At, n N, d Data. -/
def formC (op : List UInt8) : Option (List UInt8) :=
  if op = wRead then some [105, 97, 110] else if op = wWrite then some [105, 97, 100] else if op = wCreate then some [110]
  else if op = wDelete then some [105] else if op = wMerge then some [105] else if op = wStep then some [] else none
/-- The number that a word is. -/
def numC (l : List UInt8) : Option Nat := match Lib.parseUintM 2147483647 0 l with | .ok n => if Lib.decDigits n = l then some n else none | _ => none
/-- A figure of bytes. -/
def nib (c : UInt8) : Option Nat := if 48 ≤ c.toNat ∧ c.toNat ≤ 57 then some (c.toNat - 48) else if 97 ≤ c.toNat ∧ c.toNat ≤ 102 then some (c.toNat - 87) else none
def hexP : List UInt8 → Option (List UInt8)
  | [] => some []
  | [_] => none
  | a :: b :: r => (nib a).bind fun x => (nib b).bind fun y => (hexP r).map (UInt8.ofNat (16 * x + y) :: ·)
/-- The bytes that a word is. -/
def bytesC (l : List UInt8) : Option (List UInt8) := if l = [45] then some [] else if l = [] then none else hexP l
/-- A word, put where a letter tells. -/
def putC (x : UInt8) (w : List UInt8) (c : Cd) : Option Cd :=
  if x = 105 then (numC w).map fun (n : Nat) => { c with id := (n : Int) } else if x = 97 then (numC w).map fun (n : Nat) => { c with at_ := (n : Int) }
  else if x = 110 then (numC w).map fun (n : Nat) => { c with n := (n : Int) } else if x = 100 then (bytesC w).map fun d => { c with data := d } else none
def paC : List UInt8 → List (List UInt8) → Cd → Option (Cd × List (List UInt8))
  | [], ws, c => some (c, ws)
  | x :: r, ws, c => (putC x (ws.headD []) c).bind fun d => paC r ws.tail d
/-- The command that a text is. -/
def parseC (s : List UInt8) : Option Cd :=
  (formC ((words s).headD [])).bind fun L => (paC L (words s).tail ⟨(words s).headD [], 0, 0, 0, []⟩).bind fun p => if p.2 = [] then some p.1 else none
def c0 : Cd := ⟨[], 0, 0, 0, []⟩
def parseCV (s : List UInt8) : Cd := (parseC s).getD c0
def parseCE (s : List UInt8) : Int := if (parseC s).isSome then 0 else 32
/-- A figure's sign. -/
def fg (v : Nat) : UInt8 := if v < 10 then UInt8.ofNat (48 + v) else UInt8.ofNat (87 + v)
def hexL (d : List UInt8) : List UInt8 := d.flatMap fun b => [fg (b.toNat / 16), fg (b.toNat % 16)]
def hexC (d : List UInt8) : List UInt8 := if d = [] then [45] else hexL d
/-- The word of what a letter tells; and the command without it. -/
def wdC (x : UInt8) (c : Cd) : List UInt8 := if x = 105 then fig c.id else if x = 97 then fig c.at_ else if x = 110 then fig c.n else if x = 100 then hexC c.data else []
def clrC (x : UInt8) (c : Cd) : Cd := if x = 105 then { c with id := 0 } else if x = 97 then { c with at_ := 0 } else if x = 110 then { c with n := 0 } else if x = 100 then { c with data := [] } else c
def prC : List UInt8 → Cd → List UInt8 × Cd
  | [], c => ([], c)
  | x :: r, c => (32 :: wdC x c ++ (prC r (clrC x c)).1, (prC r (clrC x c)).2)
def okC (z : Int) : Bool := decide (0 ≤ z ∧ z ≤ 2147483647)
def okI (c : Cd) : Bool := okC c.id && okC c.at_ && okC c.n
/-- A command's text. -/
def printC (c : Cd) : Option (List UInt8) :=
  (formC c.op).bind fun L => if okI c = true ∧ (prC L c).2 = ⟨c.op, 0, 0, 0, []⟩ then some (c.op ++ (prC L c).1) else none
def printCV (c : Cd) : List UInt8 := (printC c).getD []
def printCE (c : Cd) : Int := if (printC c).isSome then 0 else 1
end Co
end Go.Proofs.YtdojclhcoboocaaDoor
