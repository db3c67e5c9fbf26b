/- Plain mathematics of dumps: words, numbers in figures, lines. No program is named. -/
import Derived.Lib.ItoaNum
import Derived.Lib.Join
import Derived.Lib.ParseIntB
import Derived.Lib.Bytealg
import Derived.Test.YtdojclhcoboocaaDoorOctetMath
namespace Go.Proofs.YtdojclhcoboocaaDoor
namespace Pd
/-- The first word, and what is left behind the blank, if there is one. -/
def cut : List UInt8 → List UInt8 × Option (List UInt8)
  | [] => ([], none)
  | c :: l => if c = 32 then ([], some l) else (c :: (cut l).1, (cut l).2)
/-- The words of a text, with one blank between. -/
def words : List UInt8 → List (List UInt8)
  | [] => [[]]
  | c :: l => if c = 32 then [] :: words l else match words l with | [] => [[c]] | w :: r => (c :: w) :: r
theorem words_ne (l : List UInt8) : words l ≠ [] := by
  cases l with
  | nil => simp [words]
  | cons c l =>
    unfold words
    split
    · simp
    · split <;> simp
/-- What is left, as words: none, if nothing is. -/
def rest : Option (List UInt8) → List (List UInt8)
  | none => []
  | some l => words l
theorem words_cut (l : List UInt8) : words l = (cut l).1 :: rest (cut l).2 := by
  induction l with
  | nil => rfl
  | cons c l ih =>
    unfold words cut
    split
    · rfl
    · rw [ih]
theorem cut_none : ∀ {l : List UInt8}, Lib.indexByte l 32 = -1 → cut l = (l, none)
  | [], _ => rfl
  | c :: l, h => by
    unfold Lib.indexByte at h
    split at h
    · omega
    · rename_i hc
      split at h
      · rename_i h2
        have := cut_none (l := l) (by simpa using h2)
        have hc' : c ≠ 32 := by simpa using hc
        unfold cut
        rw [if_neg hc', this]
      · have := Lib.indexByte_ge l 32
        omega
theorem cut_some : ∀ {l : List UInt8} {i : Nat}, Lib.indexByte l 32 = (i : Int) → cut l = (l.take i, some (l.drop (i + 1))) ∧ i < l.length
  | [], i, h => by unfold Lib.indexByte at h; omega
  | c :: l, i, h => by
    unfold Lib.indexByte at h
    split at h
    · rename_i hc
      have hc' : c = 32 := by simpa using hc
      obtain rfl : i = 0 := by omega
      unfold cut
      rw [if_pos hc']
      simp
    · rename_i hc
      have hc' : c ≠ 32 := by simpa using hc
      split at h
      · omega
      · have := Lib.indexByte_ge l 32
        rename_i h2
        have h2' : Lib.indexByte l 32 ≠ -1 := by simpa using h2
        obtain ⟨k, rfl⟩ : ∃ k, i = k + 1 := ⟨i - 1, by omega⟩
        obtain ⟨e, hl⟩ := cut_some (l := l) (i := k) (by omega)
        unfold cut
        rw [if_neg hc', e]
        simp
        exact hl
theorem cut_length (l : List UInt8) : (cut l).1.length ≤ l.length ∧ ∀ r, (cut l).2 = some r → r.length < l.length := by
  induction l with
  | nil => simp [cut]
  | cons c l ih =>
    unfold cut
    split
    · simp
    · refine ⟨by simpa using ih.1, fun r hr => ?_⟩
      have := ih.2 r hr
      simp
      omega
end Pd
end Go.Proofs.YtdojclhcoboocaaDoor
namespace Go.Proofs.YtdojclhcoboocaaDoor
namespace Pd
/-- May a dump have this number? -/
def okN (z : Int) : Bool := decide (0 ≤ z ∧ z ≤ 4294967295)
theorem okN_iff (z : Int) : okN z = true ↔ 0 ≤ z ∧ z ≤ 4294967295 := by simp [okN]
/-- A number's figures. -/
def fig (z : Int) : List UInt8 := Lib.decDigits z.toNat
/-- A line of a report: state 1 is Used, 2 Merging. -/
structure Ln where
  id : Int
  st : Int
  a : Int
  n : Int
  g : Nat
  room : Int
  inv : Bool
  es : List (Int × Int)
/-- A report: the superblock's numbers, and lines. -/
structure Rp where
  s : Int
  o : Int
  c : Int
  ls : List Ln
def okE (e : Int × Int) : Bool := okN e.1 && okN e.2
/-- Whether a line's slot may be dumped; with its exceptions. -/
def okH (x : Ln) : Bool := okN x.id && (decide (x.st = 1 ∨ x.st = 2)) && okN x.a && okN x.n && okN x.room
def okL (x : Ln) : Bool := okH x && x.es.all okE
def okS (r : Rp) : Bool := okN r.s && okN r.o && okN r.c
def okR (r : Rp) : Bool := okS r && r.ls.all okL
-- the words
def wDisk : List UInt8 := [100, 105, 115, 107]
def wOrigin : List UInt8 := [111, 114, 105, 103, 105, 110]
def wChunk : List UInt8 := [99, 104, 117, 110, 107]
def wSlot : List UInt8 := [115, 108, 111, 116]
def wUsed : List UInt8 := [117, 115, 101, 100]
def wMerging : List UInt8 := [109, 101, 114, 103, 105, 110, 103]
def wGen : List UInt8 := [103, 101, 110]
def wRoom : List UInt8 := [114, 111, 111, 109]
def wInvalid : List UInt8 := [105, 110, 118, 97, 108, 105, 100]
def wEntry : List UInt8 := [101, 110, 116, 114, 121]
def wState (z : Int) : List UInt8 := if z = 1 then wUsed else wMerging
/-- Words, as a line. -/
def line (ws : List (List UInt8)) : List UInt8 := Lib.join ws [32]
def supW (r : Rp) : List (List UInt8) := [wDisk, fig r.s, wOrigin, fig r.o, wChunk, fig r.c]
def headW (x : Ln) : List (List UInt8) := [wSlot, fig x.id, wState x.st, fig x.a, fig x.n, wGen, fig x.g, wRoom, fig x.room]
def slotW (x : Ln) : List (List UInt8) := if x.inv then headW x ++ [wInvalid] else headW x
def entW (e : Int × Int) : List (List UInt8) := [wEntry, fig e.1, fig e.2]
/-- The lines of a report's line. -/
def linesL (x : Ln) : List (List UInt8) := line (slotW x) :: x.es.map fun e => line (entW e)
def dump (r : Rp) : List (List UInt8) := line (supW r) :: r.ls.flatMap linesL
/-- What is told of any report. -/
def dumpV (r : Rp) : List (List UInt8) := if okR r then dump r else []
def dumpE (r : Rp) : Int := if okR r then 0 else 1
theorem digits_length (n : Nat) (h : n ≤ 4294967295) : (Lib.decDigits n).length ≤ 20 := by
  rw [Lib.decDigits_length]
  rcases Nat.eq_zero_or_pos n with rfl | hp
  · rw [Lib.nDigits_small (by omega)]; omega
  · have := Lib.numDigits_eq n hp (by omega)
    split at this <;> omega
theorem fig_length (z : Int) (h : okN z = true) : (fig z).length ≤ 20 := by
  rw [okN_iff] at h
  exact digits_length _ (by omega)
theorem join_length_le (sep : List UInt8) : ∀ (ws : List (List UInt8)) (k : Nat), (∀ x ∈ ws, x.length ≤ k) → (Lib.join ws sep).length ≤ ws.length * (k + sep.length)
  | [], k, _ => by simp [Lib.join]
  | [x], k, h => by
    rw [Lib.join_one]
    have := h x (by simp)
    simp only [List.length_cons, List.length_nil]
    omega
  | x :: y :: r, k, h => by
    have h1 := join_length_le sep (y :: r) k (fun z hz => h z (List.mem_cons_of_mem _ hz))
    have h2 := h x (List.mem_cons_self ..)
    have e : (Lib.join (x :: y :: r) sep).length = x.length + sep.length + (Lib.join (y :: r) sep).length := by
      simp [Lib.join]
      omega
    rw [e]
    simp only [List.length_cons] at h1 ⊢
    rw [Nat.add_mul (r.length + 1) 1, Nat.one_mul]
    omega
end Pd
end Go.Proofs.YtdojclhcoboocaaDoor
