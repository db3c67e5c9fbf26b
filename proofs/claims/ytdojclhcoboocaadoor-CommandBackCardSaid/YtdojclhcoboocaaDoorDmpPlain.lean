/- Plain mathematics of what lines are parsed to. No program is named. -/
import Derived.Test.YtdojclhcoboocaaDoorDmpMath
namespace Go.Proofs.YtdojclhcoboocaaDoor
namespace Pd
theorem rest_next (o : Option (List UInt8)) : (rest o).headD [] = (cut (o.getD [])).1 ∧ (rest o).tail = rest (cut (o.getD [])).2 := by
  cases o with
  | none => exact ⟨rfl, rfl⟩
  | some l =>
    have e : rest (some l) = (cut l).1 :: rest (cut l).2 := words_cut l
    rw [e]
    exact ⟨rfl, rfl⟩
theorem rest_more (o : Option (List UInt8)) : o.isSome = true ↔ rest o ≠ [] := by
  cases o with
  | none => simp [rest]
  | some l => simp [rest, words_ne]
/-- The number that a word is; none, if it is none's figures. -/
def numW (l : List UInt8) : Option Nat := match Lib.parseUintB 32 l with | .ok n => if Lib.decDigits n = l then some n else none | _ => none
theorem numW_le {l : List UInt8} {n : Nat} (h : numW l = some n) : Lib.parseUintB 32 l = .ok n ∧ Lib.decDigits n = l := by
  unfold numW at h
  split at h
  · split at h
    · cases h; rename_i h1 h2; exact ⟨h1, h2⟩
    · cases h
  · cases h
/-- The state that a word is. -/
def stW (l : List UInt8) : Option Int := if l = wUsed then some 1 else if l = wMerging then some 2 else none
/-- The number behind a word, which must come next. -/
def afterP (ws : List (List UInt8)) (wd : List UInt8) : Option Nat := if ws.headD [] = wd then numW (ws.tail.headD []) else none
theorem afterP_some {ws : List (List UInt8)} {wd : List UInt8} {n : Nat} (h : afterP ws wd = some n) : ws.headD [] = wd ∧ numW (ws.tail.headD []) = some n := by
  unfold afterP at h
  split at h
  · rename_i c; exact ⟨c, h⟩
  · cases h
theorem afterP_none {ws : List (List UInt8)} {wd : List UInt8} (h : afterP ws wd = none) : ws.headD [] ≠ wd ∨ numW (ws.tail.headD []) = none := by
  unfold afterP at h
  split at h
  · exact .inr h
  · rename_i c; exact .inl c
/-- The superblock's numbers of words. -/
def supP (ws : List (List UInt8)) : Option (Nat × Nat × Nat) :=
  (afterP ws wDisk).bind fun a => (afterP ws.tail.tail wOrigin).bind fun b => (afterP ws.tail.tail.tail.tail wChunk).bind fun c =>
  if ws.tail.tail.tail.tail.tail.tail = [] then some (a, b, c) else none
/-- The slot's line of the words behind the first one. -/
def slotP (ws : List (List UInt8)) : Option (Ln × List (List UInt8)) :=
  (numW (ws.headD [])).bind fun id =>
  (stW (ws.tail.headD [])).bind fun st =>
  (numW (ws.tail.tail.headD [])).bind fun a =>
  (numW (ws.tail.tail.tail.headD [])).bind fun n =>
  (afterP ws.tail.tail.tail.tail wGen).bind fun g =>
  (afterP ws.tail.tail.tail.tail.tail.tail wRoom).bind fun room =>
  if ws.tail.tail.tail.tail.tail.tail.tail.tail = [] then some (⟨id, st, a, n, g, room, false, []⟩, [])
  else if ws.tail.tail.tail.tail.tail.tail.tail.tail.headD [] = wInvalid then some (⟨id, st, a, n, g, room, true, []⟩, ws.tail.tail.tail.tail.tail.tail.tail.tail.tail) else none
/-- The exception of the words behind the first one. -/
def entP (ws : List (List UInt8)) : Option ((Int × Int) × List (List UInt8)) :=
  (numW (ws.headD [])).bind fun a => (numW (ws.tail.headD [])).bind fun b => some (((a : Int), (b : Int)), ws.tail.tail)
/-- One more exception of the last line. -/
def addE : List Ln → Int × Int → Option (List Ln)
  | [], _ => none
  | [x], e => some [{ x with es := x.es ++ [e] }]
  | x :: y :: r, e => (addE (y :: r) e).map (x :: ·)
/-- One line more. -/
def addP (ls : List Ln) (s : List UInt8) : Option (List Ln) :=
  let ws := words s
  if ws.headD [] = wSlot then (slotP ws.tail).bind fun p => if p.2 = [] then some (ls ++ [p.1]) else none
  else if ws.headD [] = wEntry then (entP ws.tail).bind fun p => if p.2 = [] then addE ls p.1 else none
  else none
def addAll : List Ln → List (List UInt8) → Option (List Ln)
  | ls, [] => some ls
  | ls, s :: r => (addP ls s).bind fun l2 => addAll l2 r
/-- The report that lines are; none, if they are none's. -/
def parse : List (List UInt8) → Option Rp
  | [] => none
  | s :: r => (supP (words s)).bind fun p => (addAll [] r).bind fun ls => some ⟨p.1, p.2.1, p.2.2, ls⟩
def none0 : Rp := ⟨0, 0, 0, []⟩
def parseV (l : List (List UInt8)) : Rp := (parse l).getD none0
def parseE (l : List (List UInt8)) : Int := if (parse l).isSome then 0 else 32
end Pd
end Go.Proofs.YtdojclhcoboocaaDoor
