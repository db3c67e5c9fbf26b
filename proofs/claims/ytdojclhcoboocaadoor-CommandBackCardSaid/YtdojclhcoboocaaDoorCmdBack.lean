/- There and back, in plain words: commands' texts. No program is named. -/
import Derived.Test.YtdojclhcoboocaaDoorCmdApB
import Derived.Test.YtdojclhcoboocaaDoorCmdPut
import Derived.Test.YtdojclhcoboocaaDoorCmdTak
namespace Go.Proofs.YtdojclhcoboocaaDoor
namespace Co
open Pd
set_option linter.unusedVariables false
set_option linter.unusedSimpArgs false

theorem numC_digits (n : Nat) (h : n ≤ 2147483647) : numC (Lib.decDigits n) = some n := by
  unfold numC
  rw [parseM_digits _ (by decide) n h]
  simp
theorem numC_fig {z : Int} (h : okC z = true) : numC (fig z) = some z.toNat := by
  obtain ⟨m, rfl, hm⟩ := okC_nat h
  exact numC_digits m hm
theorem numC_of {l : List UInt8} {n : Nat} (h : numC l = some n) : l = fig (n : Int) ∧ l ≠ [] := by
  unfold numC at h
  split at h
  · rename_i m hm
    split at h
    · rename_i he
      cases h
      refine ⟨he.symm, fun c => ?_⟩
      have h4 := Lib.decDigits_length n
      rw [he, c] at h4
      have h5 := Lib.nDigits_pos n
      rw [← h4] at h5
      simp at h5
    · cases h
  · cases h
theorem numC_le {l : List UInt8} {n : Nat} (h : numC l = some n) : n ≤ 2147483647 := by
  unfold numC at h
  split at h
  · rename_i m hm
    split at h
    · cases h
      have h2 := Lib.parseUintM_le 2147483647 l 0 n (by omega) hm
      exact h2
    · cases h
  · cases h
theorem fg_ok : ∀ v : Fin 16, nib (fg v.1) = some v.1 ∧ fg v.1 ≠ 32 ∧ fg v.1 ≠ 45 := by decide +kernel
theorem nib_fg' : ∀ a : Fin 256, ∀ x, nib (UInt8.ofNat a.1) = some x → fg x = UInt8.ofNat a.1 := by
  intro a x h
  have h2 := (by decide +kernel : ∀ a : Fin 256, (match nib (UInt8.ofNat a.1) with | some x => decide (fg x = UInt8.ofNat a.1 ∧ x < 16) | none => true) = true) a
  rw [h] at h2
  exact (of_decide_eq_true h2).1
theorem nib_fg {a : UInt8} {x : Nat} (h : nib a = some x) : fg x = a := by
  have h2 := nib_fg' ⟨a.toNat, a.toNat_lt⟩ x
  simp only [UInt8.ofNat_toNat] at h2
  exact h2 h
theorem byte_two (b : UInt8) : UInt8.ofNat (16 * (b.toNat / 16) + b.toNat % 16) = b := by
  rw [show 16 * (b.toNat / 16) + b.toNat % 16 = b.toNat from by omega, UInt8.ofNat_toNat]
theorem hexP_hexL : ∀ d : List UInt8, hexP (hexL d) = some d
  | [] => rfl
  | b :: r => by
    have h1 := (fg_ok ⟨b.toNat / 16, by have := b.toNat_lt; omega⟩).1
    have h2 := (fg_ok ⟨b.toNat % 16, by omega⟩).1
    simp only at h1 h2
    show hexP (fg (b.toNat / 16) :: fg (b.toNat % 16) :: hexL r) = _
    unfold hexP
    rw [h1, h2, Option.bind_some, Option.bind_some, hexP_hexL r, Option.map_some, byte_two]
theorem hexL_hexP : ∀ (w d : List UInt8), hexP w = some d → hexL d = w
  | [], d, h => by cases h; rfl
  | [_], d, h => by cases h
  | a :: b :: r, d, h => by
    unfold hexP at h
    cases ha : nib a with
    | none => rw [ha] at h; cases h
    | some x =>
      cases hb : nib b with
      | none => rw [ha, hb] at h; cases h
      | some y =>
        rw [ha, hb, Option.bind_some, Option.bind_some] at h
        obtain ⟨e, he, rfl⟩ := Option.map_eq_some_iff.1 h
        have hx := nib_lt ha
        have hy := nib_lt hb
        have hn : (UInt8.ofNat (16 * x + y)).toNat = 16 * x + y := by rw [UInt8.toNat_ofNat']; omega
        show fg ((UInt8.ofNat (16 * x + y)).toNat / 16) :: fg ((UInt8.ofNat (16 * x + y)).toNat % 16) :: hexL e = _
        rw [hn, show (16 * x + y) / 16 = x from by omega, show (16 * x + y) % 16 = y from by omega, nib_fg ha, nib_fg hb, hexL_hexP r e he]
theorem bytesC_hexC (d : List UInt8) : bytesC (hexC d) = some d := by
  unfold hexC
  split
  · rename_i h; rw [h]; rfl
  · rename_i h
    cases d with
    | nil => exact absurd rfl h
    | cons b r =>
      unfold bytesC
      have h45 := (fg_ok ⟨b.toNat / 16, by have := b.toNat_lt; omega⟩).2.2
      rw [if_neg, if_neg, hexP_hexL]
      · intro e; cases e
      · intro e
        have e2 : fg (b.toNat / 16) = 45 := (List.cons.inj e).1
        exact h45 e2
theorem bytesC_of {l d : List UInt8} (h : bytesC l = some d) : l = hexC d ∧ l ≠ [] := by
  unfold bytesC at h
  split at h
  · rename_i e; cases h; rw [e]; exact ⟨rfl, by simp⟩
  · split at h
    · cases h
    · rename_i h1 h2
      have h3 := hexL_hexP l d h
      refine ⟨?_, h2⟩
      unfold hexC
      rw [if_neg, h3]
      rintro rfl
      exact h2 (h3 ▸ rfl)
theorem noB_hex (d : List UInt8) : noB (hexC d) := by
  unfold hexC
  split
  · exact noB_lit (by decide)
  · intro c hc
    unfold hexL at hc
    rw [List.mem_flatMap] at hc
    obtain ⟨b, _, hb⟩ := hc
    rcases List.mem_cons.1 hb with rfl | hb
    · exact (fg_ok ⟨b.toNat / 16, by have := b.toNat_lt; omega⟩).2.1
    · rw [List.mem_singleton.1 hb]; exact (fg_ok ⟨b.toNat % 16, by omega⟩).2.1
theorem noB_wd (x : UInt8) (c : Cd) : noB (wdC x c) := by
  unfold wdC
  split
  · exact noB_fig _
  · split
    · exact noB_fig _
    · split
      · exact noB_fig _
      · split
        · exact noB_hex _
        · intro c hc; cases hc
/-- The words of what is printed. -/
def prW : List UInt8 → Cd → List (List UInt8)
  | [], _ => []
  | x :: r, c => wdC x c :: prW r (clrC x c)
theorem noB_prW : ∀ (L : List UInt8) (c : Cd), ∀ w ∈ prW L c, noB w
  | [], _, w, h => by cases h
  | x :: r, c, w, h => by
    rcases List.mem_cons.1 h with rfl | h
    · exact noB_wd _ _
    · exact noB_prW r _ w h
theorem line_flat : ∀ (ws : List (List UInt8)) (w : List UInt8), line (w :: ws) = w ++ ws.flatMap (fun x => 32 :: x)
  | [], w => by simp [line, Lib.join]
  | v :: r, w => by
    have h := line_flat r v
    have e : line (w :: v :: r) = w ++ 32 :: line (v :: r) := by simp [line, Lib.join, List.intercalate]
    rw [e, h]
    simp
theorem prC_flat : ∀ (L : List UInt8) (c : Cd), (prC L c).1 = (prW L c).flatMap (fun x => 32 :: x)
  | [], _ => rfl
  | x :: r, c => by
    show 32 :: wdC x c ++ (prC r (clrC x c)).1 = (32 :: wdC x c) ++ (prW r (clrC x c)).flatMap _
    rw [prC_flat r]
theorem formC_cases {op L : List UInt8} (h : formC op = some L) : L = [105, 97, 110] ∨ L = [105, 97, 100] ∨ L = [110] ∨ L = [105] ∨ L = [] := by
  unfold formC at h
  repeat' split at h
  all_goals first
    | (cases h; done)
    | (cases h; simp)
theorem parse_words {op : List UInt8} {ws : List (List UInt8)} {L : List UInt8} (hf : formC op = some L) (hn : ∀ w ∈ ws, noB w) : parseC (line (op :: ws)) = (paC L ws ⟨op, 0, 0, 0, []⟩).bind fun p => if p.2 = [] then some p.1 else none := by
  unfold parseC
  rw [words_line _ (by simp) (fun w hw => by
    rcases List.mem_cons.1 hw with rfl | hw
    · exact (formC_low hf).2.2.2.2
    · exact hn w hw)]
  show (formC op).bind _ = _
  rw [hf]
  rfl
theorem ok_toNat {z : Int} (h : okC z = true) : ((z.toNat : Nat) : Int) = z := by
  obtain ⟨m, rfl, hm⟩ := okC_nat h
  rfl
theorem parse_print {c : Cd} {l : List UInt8} (h : printC c = some l) : parseC l = some c := by
  unfold printC at h
  cases hf : formC c.op with
  | none => rw [hf] at h; cases h
  | some L =>
    rw [hf, Option.bind_some] at h
    split at h
    · rename_i hh
      obtain ⟨hok, hend⟩ := hh
      cases h
      rw [prC_flat, ← line_flat, parse_words hf (noB_prW L c)]
      obtain ⟨op, id, at_, n, data⟩ := c
      unfold okI at hok
      rw [Bool.and_eq_true, Bool.and_eq_true] at hok
      obtain ⟨⟨k1, k2⟩, k3⟩ := hok
      simp only at k1 k2 k3
      have n1 := numC_fig k1
      have n2 := numC_fig k2
      have n3 := numC_fig k3
      have e1 := ok_toNat k1
      have e2 := ok_toNat k2
      have e3 := ok_toNat k3
      have b := bytesC_hexC data
      rcases formC_cases hf with rfl | rfl | rfl | rfl | rfl
      all_goals
        simp only [prC, clrC_105, clrC_97, clrC_110, clrC_100, Cd.mk.injEq, true_and, and_true] at hend
        simp only [prW, paC, List.headD_cons, List.tail_cons, wdC_105, wdC_97, wdC_110, wdC_100, clrC_105, clrC_97, clrC_110, clrC_100, putC_105, putC_97, putC_110, putC_100, n1, n2, n3, b, Option.map_some, Option.bind_some, if_true, e1, e2, e3]
        simp_all
    · cases h
theorem head_num {ws : List (List UInt8)} {n : Nat} (h : numC (ws.headD []) = some n) : ∃ r, ws = fig (n : Int) :: r ∧ okC (n : Int) = true := by
  obtain ⟨h1, h2⟩ := numC_of h
  have h3 := numC_le h
  refine ⟨ws.tail, cons_of h1 (fun e => h2 (h1.trans e)), ?_⟩
  unfold okC
  exact decide_eq_true (by omega)
theorem head_bytes {ws : List (List UInt8)} {d : List UInt8} (h : bytesC (ws.headD []) = some d) : ∃ r, ws = hexC d :: r := by
  obtain ⟨h1, h2⟩ := bytesC_of h
  exact ⟨ws.tail, cons_of h1 (fun e => h2 (h1.trans e))⟩
theorem parse_split {s : List UInt8} {z : Cd} (h : parseC s = some z) : ∃ op ws L, s = line (op :: ws) ∧ words s = op :: ws ∧ formC op = some L ∧ paC L ws ⟨op, 0, 0, 0, []⟩ = some (z, []) := by
  unfold parseC at h
  have hl := line_words s
  cases hw : words s with
  | nil => exact absurd hw (words_ne s)
  | cons op ws =>
    rw [hw] at h hl
    simp only [List.headD_cons, List.tail_cons] at h
    cases hf : formC op with
    | none => rw [hf] at h; cases h
    | some L =>
      rw [hf, Option.bind_some] at h
      cases hp : paC L ws ⟨op, 0, 0, 0, []⟩ with
      | none => rw [hp] at h; cases h
      | some p =>
        rw [hp, Option.bind_some] at h
        split at h
        · rename_i h2
          cases h
          exact ⟨op, ws, L, hl.symm, rfl, hf, by rw [hp, ← h2]⟩
        · cases h
theorem print_parse {s : List UInt8} {z : Cd} (h : parseC s = some z) : printC z = some s := by
  obtain ⟨op, ws, L, hs, _, hf, hp⟩ := parse_split h
  have k0 : okC 0 = true := by decide
  have fin : ∀ z : Cd, z.op = op → okI z = true → (prC L z).2 = ⟨z.op, 0, 0, 0, []⟩ → ws = prW L z → printC z = some s := fun z h1 h2 h3 h4 => by
    unfold printC
    rw [h1, hf, Option.bind_some, if_pos ⟨h2, by rw [← h1]; exact h3⟩, hs, line_flat, prC_flat, ← h4]
  rcases formC_cases hf with rfl | rfl | rfl | rfl | rfl
  · simp only [paC, putC_105, putC_97, putC_110] at hp
    cases a1 : numC (ws.headD []) with
    | none => rw [a1] at hp; cases hp
    | some n1 =>
      obtain ⟨r1, rfl, q1⟩ := head_num a1
      rw [a1, Option.map_some, Option.bind_some, List.tail_cons] at hp
      cases a2 : numC (r1.headD []) with
      | none => rw [a2] at hp; cases hp
      | some n2 =>
        obtain ⟨r2, rfl, q2⟩ := head_num a2
        rw [a2, Option.map_some, Option.bind_some, List.tail_cons] at hp
        cases a3 : numC (r2.headD []) with
        | none => rw [a3] at hp; cases hp
        | some n3 =>
          obtain ⟨r3, rfl, q3⟩ := head_num a3
          rw [a3, Option.map_some, Option.bind_some, List.tail_cons] at hp
          cases hp
          exact fin _ rfl (by unfold okI; rw [q1, q2, q3]; rfl) (by simp [prC, clrC_105, clrC_97, clrC_110]) (by simp [prW, clrC_105, clrC_97, clrC_110, wdC_105, wdC_97, wdC_110])
  · simp only [paC, putC_105, putC_97, putC_100] at hp
    cases a1 : numC (ws.headD []) with
    | none => rw [a1] at hp; cases hp
    | some n1 =>
      obtain ⟨r1, rfl, q1⟩ := head_num a1
      rw [a1, Option.map_some, Option.bind_some, List.tail_cons] at hp
      cases a2 : numC (r1.headD []) with
      | none => rw [a2] at hp; cases hp
      | some n2 =>
        obtain ⟨r2, rfl, q2⟩ := head_num a2
        rw [a2, Option.map_some, Option.bind_some, List.tail_cons] at hp
        cases a3 : bytesC (r2.headD []) with
        | none => rw [a3] at hp; cases hp
        | some d =>
          obtain ⟨r3, rfl⟩ := head_bytes a3
          rw [a3, Option.map_some, Option.bind_some, List.tail_cons] at hp
          cases hp
          exact fin _ rfl (by unfold okI; rw [q1, q2, k0]; rfl) (by simp [prC, clrC_105, clrC_97, clrC_100]) (by simp [prW, clrC_105, clrC_97, clrC_100, wdC_105, wdC_97, wdC_100])
  · simp only [paC, putC_110] at hp
    cases a1 : numC (ws.headD []) with
    | none => rw [a1] at hp; cases hp
    | some n1 =>
      obtain ⟨r1, rfl, q1⟩ := head_num a1
      rw [a1, Option.map_some, Option.bind_some, List.tail_cons] at hp
      cases hp
      exact fin _ rfl (by unfold okI; rw [q1, k0]; rfl) (by simp [prC, clrC_110]) (by simp [prW, clrC_110, wdC_110])
  · simp only [paC, putC_105] at hp
    cases a1 : numC (ws.headD []) with
    | none => rw [a1] at hp; cases hp
    | some n1 =>
      obtain ⟨r1, rfl, q1⟩ := head_num a1
      rw [a1, Option.map_some, Option.bind_some, List.tail_cons] at hp
      cases hp
      exact fin _ rfl (by unfold okI; rw [q1, k0]; rfl) (by simp [prC, clrC_105]) (by simp [prW, clrC_105, wdC_105])
  · simp only [paC] at hp
    cases hp
    exact fin _ rfl (by unfold okI; rw [k0]; rfl) rfl rfl
theorem words_end (s : List UInt8) : words (s ++ [32]) = words s ++ [[]] := by
  induction s with
  | nil => rfl
  | cons c r ih =>
    rw [List.cons_append]
    unfold words
    split
    · rw [ih]; rfl
    · rw [ih]
      cases hw : words r with
      | nil => exact absurd hw (words_ne r)
      | cons w t => rfl
theorem putC_nil (x : UInt8) (c : Cd) : putC x [] c = none := by
  have h1 : numC [] = none := by
    cases h : numC [] with
    | none => rfl
    | some n => exact absurd rfl (numC_of h).2
  have h2 : bytesC [] = none := rfl
  unfold putC
  rw [h1, h2]
  repeat' split
  all_goals rfl
theorem paC_more : ∀ (L : List UInt8) (ws : List (List UInt8)) (c d : Cd) (r : List (List UInt8)), paC L ws c = some (d, r) → ∀ t, paC L (ws ++ t) c = some (d, r ++ t)
  | [], ws, c, d, r, h, t => by cases h; rfl
  | x :: l, [], c, d, r, h, t => by
    have h2 : (putC x [] c).bind (fun d => paC l [] d) = some (d, r) := h
    rw [putC_nil] at h2
    cases h2
  | x :: l, w :: ws, c, d, r, h, t => by
    have h2 : (putC x w c).bind (fun d => paC l ws d) = some (d, r) := h
    show (putC x w c).bind (fun d => paC l (ws ++ t) d) = some (d, r ++ t)
    cases hp : putC x w c with
    | none => rw [hp] at h2; cases h2
    | some e =>
      rw [hp] at h2
      exact paC_more l ws e d r h2 t
theorem parse_end {s : List UInt8} {z : Cd} (h : parseC s = some z) : parseC (s ++ [32]) = none := by
  obtain ⟨op, ws, L, _, hw, hf, hp⟩ := parse_split h
  unfold parseC
  rw [words_end, hw]
  show (formC op).bind (fun L => (paC L (ws ++ [[]]) ⟨op, 0, 0, 0, []⟩).bind _) = none
  rw [hf, Option.bind_some, paC_more L ws _ _ _ hp, Option.bind_some]
  rfl
theorem parse_front (s : List UInt8) : parseC (32 :: s) = none := by
  unfold parseC
  rw [show words (32 :: s) = [] :: words s from by rw [words]; rfl]
  rfl
end Co
end Go.Proofs.YtdojclhcoboocaaDoor
