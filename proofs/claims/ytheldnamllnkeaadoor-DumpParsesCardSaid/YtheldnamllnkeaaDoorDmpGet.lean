/- The document's parse, plain, is the program's. -/
import Derived.Test.YtheldnamllnkeaaDoorDmpNumR
import Derived.Test.YtheldnamllnkeaaDoorDmpRefP
namespace Go.Proofs.YtheldnamllnkeaaDoor
namespace Pd
set_option linter.unusedVariables false
set_option maxRecDepth 100000

/-- The numbers of words that have a form's. -/
def getR : List (List UInt8) → List (List UInt8) → Option (List Nat)
  | [], [] => some []
  | x :: xs, y :: ys => if y = [35] then (numR x).bind fun n => (getR xs ys).map (n :: ·) else if x = y then getR xs ys else none
  | _, _ => none
theorem getR_len : ∀ (a b : List (List UInt8)), a.length ≠ b.length → getR a b = none
  | [], [], h => absurd rfl h
  | [], _ :: _, _ => rfl
  | _ :: _, [], _ => rfl
  | x :: xs, y :: ys, h => by
    have := getR_len xs ys (by simpa using h)
    unfold getR
    rw [this]
    split
    · cases numR x <;> rfl
    · split <;> rfl
theorem getR_le : ∀ (a b : List (List UInt8)) (l : List Nat), getR a b = some l → ∀ n ∈ l, n ≤ 4294967295
  | [], [], l, h => by cases h; simp
  | [], _ :: _, l, h => by cases h
  | _ :: _, [], l, h => by cases h
  | x :: xs, y :: ys, l, h => by
    unfold getR at h
    split at h
    · obtain ⟨n, h1, h2⟩ := Option.bind_eq_some_iff.1 h
      obtain ⟨m, h3, rfl⟩ := Option.map_eq_some_iff.1 h2
      rw [numR_eq] at h1
      intro k hk
      rcases List.mem_cons.1 hk with rfl | hk
      · exact (numW_fig' h1).2.1
      · exact getR_le xs ys m h3 k hk
    · split at h
      · exact getR_le xs ys l h
      · cases h
theorem get_hash {ws ys : List (List UInt8)} {l : List Nat} (h : getR ws ([35] :: ys) = some l) : ∃ n t m, ws = fig ((n : Nat) : Int) :: t ∧ n ≤ 4294967295 ∧ l = n :: m ∧ getR t ys = some m := by
  cases ws with
  | nil => cases h
  | cons x t =>
    unfold getR at h
    rw [if_pos rfl] at h
    obtain ⟨n, h1, h2⟩ := Option.bind_eq_some_iff.1 h
    obtain ⟨m, h3, rfl⟩ := Option.map_eq_some_iff.1 h2
    rw [numR_eq] at h1
    obtain ⟨k1, k2, _⟩ := numW_fig' h1
    exact ⟨n, t, m, by rw [← k1], k2, rfl, h3⟩
theorem get_word {ws ys : List (List UInt8)} {y : List UInt8} {l : List Nat} (hy : y ≠ [35]) (h : getR ws (y :: ys) = some l) : ∃ t, ws = y :: t ∧ getR t ys = some l := by
  cases ws with
  | nil => cases h
  | cons x t =>
    unfold getR at h
    rw [if_neg hy] at h
    split at h
    · rename_i e
      exact ⟨t, by rw [e], h⟩
    · cases h
theorem get_nil {ws : List (List UInt8)} {l : List Nat} (h : getR ws [] = some l) : ws = [] ∧ l = [] := by
  cases ws with
  | nil => cases h; exact ⟨rfl, rfl⟩
  | cons x t => cases h
theorem get_fig {z : Int} {t ys : List (List UInt8)} (hz : okN z = true) : getR (fig z :: t) ([35] :: ys) = (getR t ys).map (z.toNat :: ·) := by
  show (if _ then _ else _) = _
  rw [if_pos rfl, numR_eq, numW_fig z hz]
  rfl
theorem get_same {y : List UInt8} {t ys : List (List UInt8)} (hy : y ≠ [35]) : getR (y :: t) (y :: ys) = getR t ys := by
  show (if _ then _ else _) = _
  rw [if_neg hy, if_pos rfl]
theorem get_other {x y : List UInt8} {t ys : List (List UInt8)} (hy : y ≠ [35]) (hx : x ≠ y) : getR (x :: t) (y :: ys) = none := by
  show (if _ then _ else _) = _
  rw [if_neg hy, if_neg hx]
/-- A form's words. -/
def wordsD : List (List UInt8) := [wDisk, [35], wOrigin, [35], wChunk, [35]]
def wordsE : List (List UInt8) := [wEntry, [35], [35]]
def wordsS (mg iv : Bool) : List (List UInt8) := [wSlot, [35], wState (if mg then 2 else 1), [35], [35], wGen, [35], wRoom, [35]] ++ (if iv then [wInvalid] else [])
theorem words_D : words formD = wordsD := by decide
theorem words_E : words formE = wordsE := by decide
theorem words_S (mg iv : Bool) : words (formS mg iv) = wordsS mg iv := by cases mg <;> cases iv <;> decide
/-- The superblock's line. -/
theorem get_D (ws : List (List UInt8)) : getR ws wordsD = (supP ws).map fun p => [p.1, p.2.1, p.2.2] := by
  cases hs : supP ws with
  | some p =>
    obtain ⟨a, b, c⟩ := p
    obtain ⟨k1, k2⟩ := supP_back hs []
    have ⟨⟨h1, h2⟩, h3⟩ : (okN (a : Int) = true ∧ okN (b : Int) = true) ∧ okN (c : Int) = true := by simpa [okS] using k2
    rw [k1]
    unfold supW wordsD
    rw [get_same (by decide), get_fig h1, get_same (by decide), get_fig h2, get_same (by decide), get_fig h3]
    rfl
  | none =>
    cases hg : getR ws wordsD with
    | none => rfl
    | some l =>
      unfold wordsD at hg
      obtain ⟨t, rfl, hg1⟩ := get_word (by decide) hg
      obtain ⟨a, t, l, rfl, la, rfl, hg2⟩ := get_hash hg1
      obtain ⟨t, rfl, hg3⟩ := get_word (by decide) hg2
      obtain ⟨b, t, l, rfl, lb, rfl, hg4⟩ := get_hash hg3
      obtain ⟨t, rfl, hg5⟩ := get_word (by decide) hg4
      obtain ⟨c, t, l, rfl, lc, rfl, hg6⟩ := get_hash hg5
      obtain ⟨rfl, rfl⟩ := get_nil hg6
      have h := supP_sup (r := ⟨a, b, c, []⟩) (by unfold okS; rw [okN_nat la, okN_nat lb, okN_nat lc]; rfl)
      have h : supP [wDisk, fig (a : Int), wOrigin, fig (b : Int), wChunk, fig (c : Int)] = _ := h
      rw [h] at hs
      cases hs
/-- The exception of words. -/
def entX (ws : List (List UInt8)) : Option (Int × Int) := if ws.headD [] = wEntry then (entP ws.tail).bind fun p => if p.2 = [] then some p.1 else none else none
theorem entX_back {ws : List (List UInt8)} {e : Int × Int} (h : entX ws = some e) : ws = entW e ∧ okE e = true := by
  unfold entX at h
  split at h
  · rename_i hw
    obtain ⟨⟨p, q⟩, h1, h2⟩ := Option.bind_eq_some_iff.1 h
    split at h2
    · rename_i hq
      cases h2
      obtain ⟨k1, k2⟩ := entP_back h1 hq
      exact ⟨(cons_of hw (by decide)).trans k1, k2⟩
    · cases h2
  · cases h
theorem entX_ent {e : Int × Int} (h : okE e = true) : entX (entW e) = some e := by
  unfold entX
  rw [if_pos (by rfl), entP_ent h]
  rfl
theorem get_E (ws : List (List UInt8)) : getR ws wordsE = (entX ws).map fun p => [p.1.toNat, p.2.toNat] := by
  cases hs : entX ws with
  | some e =>
    obtain ⟨k1, k2⟩ := entX_back hs
    have ⟨h1, h2⟩ : okN e.1 = true ∧ okN e.2 = true := by simpa [okE] using k2
    rw [k1]
    unfold entW wordsE
    rw [get_same (by decide), get_fig h1, get_fig h2]
    rfl
  | none =>
    cases hg : getR ws wordsE with
    | none => rfl
    | some l =>
      unfold wordsE at hg
      obtain ⟨t, rfl, hg1⟩ := get_word (by decide) hg
      obtain ⟨a, t, l, rfl, la, rfl, hg2⟩ := get_hash hg1
      obtain ⟨b, t, l, rfl, lb, rfl, hg3⟩ := get_hash hg2
      obtain ⟨rfl, rfl⟩ := get_nil hg3
      have h := entX_ent (e := ((a : Int), (b : Int))) (by unfold okE; rw [okN_nat la, okN_nat lb]; rfl)
      have h : entX [wEntry, fig (a : Int), fig (b : Int)] = _ := h
      rw [h] at hs
      cases hs
theorem entX_nn {ws : List (List UInt8)} {e : Int × Int} (h : entX ws = some e) : ((e.1.toNat : Nat) : Int) = e.1 ∧ ((e.2.toNat : Nat) : Int) = e.2 := by
  have ⟨h1, h2⟩ : okN e.1 = true ∧ okN e.2 = true := by simpa [okE] using (entX_back h).2
  exact ⟨toNat_of h1, toNat_of h2⟩
/-- The slot's line of words. -/
def slotX (ws : List (List UInt8)) : Option Ln := if ws.headD [] = wSlot then (slotP ws.tail).bind fun p => if p.2 = [] then some p.1 else none else none
theorem slotX_back {ws : List (List UInt8)} {x : Ln} (h : slotX ws = some x) : ws = slotW x ∧ okH x = true ∧ x.g ≤ 4294967295 ∧ x.es = [] := by
  unfold slotX at h
  split at h
  · rename_i hw
    obtain ⟨⟨p, q⟩, h1, h2⟩ := Option.bind_eq_some_iff.1 h
    split at h2
    · rename_i hq
      cases h2
      obtain ⟨k1, k2⟩ := slotP_back h1 hq
      exact ⟨(cons_of hw (by decide)).trans k1, k2⟩
    · cases h2
  · cases h
theorem slotX_slot {x : Ln} (h : okH x = true) (hg : x.g ≤ 4294967295) (hes : x.es = []) : slotX (slotW x) = some x := by
  unfold slotX
  rw [if_pos (by unfold slotW; split <;> rfl), slotP_slot h hg hes]
  rfl
/-- A line of numbers. -/
def mkL (mg iv : Bool) (l : List Nat) : Ln := ⟨(l[0]?.getD 0 : Nat), if mg then 2 else 1, (l[1]?.getD 0 : Nat), (l[2]?.getD 0 : Nat), l[3]?.getD 0, (l[4]?.getD 0 : Nat), iv, []⟩
theorem wState_ne (z : Int) : wState z ≠ [35] := by unfold wState; split <;> decide
theorem get_S {mg iv : Bool} {ws : List (List UInt8)} {l : List Nat} (h : getR ws (wordsS mg iv) = some l) : ws = slotW (mkL mg iv l) ∧ okH (mkL mg iv l) = true ∧ (mkL mg iv l).g ≤ 4294967295 ∧ l.length = 5 := by
  unfold wordsS at h
  simp only [List.cons_append, List.nil_append] at h
  obtain ⟨t, rfl, h1⟩ := get_word (by decide) h
  obtain ⟨a, t, l, rfl, la, rfl, h2⟩ := get_hash h1
  obtain ⟨t, rfl, h3⟩ := get_word (wState_ne _) h2
  obtain ⟨b, t, l, rfl, lb, rfl, h4⟩ := get_hash h3
  obtain ⟨c, t, l, rfl, lc, rfl, h5⟩ := get_hash h4
  obtain ⟨t, rfl, h6⟩ := get_word (by decide) h5
  obtain ⟨g, t, l, rfl, lg, rfl, h7⟩ := get_hash h6
  obtain ⟨t, rfl, h8⟩ := get_word (by decide) h7
  obtain ⟨d, t, l, rfl, ld, rfl, h9⟩ := get_hash h8
  have ok : okH (mkL mg iv [a, b, c, g, d]) = true := by
    unfold okH mkL
    simp only [List.getElem?_cons_zero, List.getElem?_cons_succ, Option.getD_some]
    rw [okN_nat la, okN_nat lb, okN_nat lc, okN_nat ld]
    cases mg <;> rfl
  cases iv with
  | true =>
    rw [if_pos rfl] at h9
    obtain ⟨t, rfl, h10⟩ := get_word (by decide) h9
    obtain ⟨rfl, rfl⟩ := get_nil h10
    exact ⟨rfl, ok, lg, rfl⟩
  | false =>
    rw [if_neg (by decide)] at h9
    obtain ⟨rfl, rfl⟩ := get_nil h9
    exact ⟨rfl, ok, lg, rfl⟩
theorem get_inv (b iv : Bool) : getR (if b then [wInvalid] else []) (if iv then [wInvalid] else []) = if b = iv then some [] else none := by cases b <;> cases iv <;> rfl
theorem get_S_back {x : Ln} (h : okH x = true) (hg : x.g ≤ 4294967295) (hes : x.es = []) (mg iv : Bool) : getR (slotW x) (wordsS mg iv) = if x.st = (if mg then 2 else 1) ∧ x.inv = iv then some [x.id.toNat, x.a.toNat, x.n.toNat, x.g, x.room.toNat] else none := by
  obtain ⟨h1, h2, h3, h4, h5⟩ : okN x.id = true ∧ (x.st = 1 ∨ x.st = 2) ∧ okN x.a = true ∧ okN x.n = true ∧ okN x.room = true := by
    unfold okH at h
    simp only [Bool.and_eq_true, decide_eq_true_eq] at h
    obtain ⟨⟨⟨⟨h1, h2⟩, h3⟩, h4⟩, h5⟩ := h
    exact ⟨h1, h2, h3, h4, h5⟩
  have hgg : okN (x.g : Int) = true := okN_nat hg
  have e : ∀ (p q : List (List UInt8)) (y : List UInt8), y ≠ [35] → getR ([wSlot, fig x.id, wState x.st, fig x.a, fig x.n, wGen, fig x.g, wRoom, fig x.room] ++ p) ([wSlot, [35], y, [35], [35], wGen, [35], wRoom, [35]] ++ q) = if wState x.st = y then (getR p q).map fun l => [x.id.toNat, x.a.toNat, x.n.toNat, x.g, x.room.toNat] ++ l else none := fun p q y hy => by
    simp only [List.cons_append, List.nil_append]
    rw [get_same (by decide), get_fig h1]
    by_cases hs : wState x.st = y
    · rw [if_pos hs, ← hs, get_same (wState_ne _), get_fig h3, get_fig h4, get_same (by decide), get_fig hgg, get_same (by decide), get_fig h5]
      cases getR p q <;> rfl
    · rw [if_neg hs, get_other hy hs]
      rfl
  have e2 : slotW x = [wSlot, fig x.id, wState x.st, fig x.a, fig x.n, wGen, fig x.g, wRoom, fig x.room] ++ (if x.inv then [wInvalid] else []) := by
    unfold slotW headW
    split <;> simp
  rw [e2, wordsS, e _ _ _ (wState_ne _)]
  have hsi : (wState x.st = wState (if mg then 2 else 1)) ↔ x.st = (if mg then 2 else 1) := by
    rcases h2 with h2 | h2 <;> rw [h2] <;> cases mg <;> decide
  by_cases hst : x.st = (if mg then 2 else 1)
  · rw [if_pos (hsi.2 hst), get_inv]
    by_cases hi : x.inv = iv
    · rw [if_pos hi, if_pos ⟨hst, hi⟩]; rfl
    · rw [if_neg hi, if_neg (fun c => hi c.2)]; rfl
  · rw [if_neg (fun c => hst (hsi.1 c)), if_neg (fun c => hst c.1)]
/-- The four forms, one behind the other. -/
def four : List (Bool × Bool) := [(false, false), (true, false), (false, true), (true, true)]
def slotR (ws : List (List UInt8)) (ps : List (Bool × Bool)) : Option Ln := ps.findSome? fun p => (getR ws (wordsS p.1 p.2)).map (mkL p.1 p.2)
theorem mkL_back {x : Ln} (h : okH x = true) (hes : x.es = []) {mg : Bool} (hm : x.st = (if mg then 2 else 1)) : mkL mg x.inv [x.id.toNat, x.a.toNat, x.n.toNat, x.g, x.room.toNat] = x := by
  obtain ⟨h1, h3, h4, h5⟩ : okN x.id = true ∧ okN x.a = true ∧ okN x.n = true ∧ okN x.room = true := by
    unfold okH at h
    simp only [Bool.and_eq_true, decide_eq_true_eq] at h
    obtain ⟨⟨⟨⟨h1, h2⟩, h3⟩, h4⟩, h5⟩ := h
    exact ⟨h1, h3, h4, h5⟩
  obtain ⟨id, st, a, n, g, room, inv, es⟩ := x
  dsimp only at *
  subst hes
  subst hm
  unfold mkL
  simp only [List.getElem?_cons_zero, List.getElem?_cons_succ, Option.getD_some]
  rw [toNat_of h1, toNat_of h3, toNat_of h4, toNat_of h5]
theorem slotR_eq (ws : List (List UInt8)) : slotR ws four = slotX ws := by
  cases hx : slotX ws with
  | some x =>
    obtain ⟨rfl, h1, h2, h3⟩ := slotX_back hx
    have hst : x.st = 1 ∨ x.st = 2 := by
      unfold okH at h1
      simp only [Bool.and_eq_true, decide_eq_true_eq] at h1
      exact h1.1.1.1.2
    unfold slotR four
    simp only [List.findSome?_cons, List.findSome?_nil, get_S_back h1 h2 h3]
    rcases hst with hs | hs
    · have e := mkL_back h1 h3 (mg := false) (by simpa using hs)
      cases hi : x.inv
      · rw [hi] at e; simp [hs, e]
      · rw [hi] at e; simp [hs, e]
    · have e := mkL_back h1 h3 (mg := true) (by simpa using hs)
      cases hi : x.inv
      · rw [hi] at e; simp [hs, e]
      · rw [hi] at e; simp [hs, e]
  | none =>
    cases hr : slotR ws four with
    | none => rfl
    | some y =>
      obtain ⟨p, _, hp⟩ := List.exists_of_findSome?_eq_some hr
      obtain ⟨l, hl, rfl⟩ := Option.map_eq_some_iff.1 hp
      obtain ⟨k1, k2, k3, _⟩ := get_S hl
      rw [k1, slotX_slot k2 k3 rfl] at hx
      cases hx
/-- One line more, as the document goes. -/
theorem addP_eq (ls : List Ln) (s : List UInt8) : addP ls s = match slotX (words s) with | some x => some (ls ++ [x]) | none => (entX (words s)).bind fun e => addE ls e := by
  unfold addP
  dsimp only
  by_cases h1 : (words s).headD [] = wSlot
  · rw [if_pos h1]
    have h2 : entX (words s) = none := by unfold entX; rw [if_neg (by rw [h1]; decide)]
    rw [h2]
    unfold slotX
    rw [if_pos h1]
    cases slotP (words s).tail with
    | none => rfl
    | some p =>
      simp only [Option.bind_some]
      split
      · rfl
      · rfl
  · rw [if_neg h1]
    have h2 : slotX (words s) = none := by unfold slotX; rw [if_neg h1]
    rw [h2]
    unfold entX
    split
    · cases entP (words s).tail with
      | none => rfl
      | some p =>
        simp only [Option.bind_some]
        split
        · rfl
        · rfl
    · rfl
end Pd
end Go.Proofs.YtheldnamllnkeaaDoor
