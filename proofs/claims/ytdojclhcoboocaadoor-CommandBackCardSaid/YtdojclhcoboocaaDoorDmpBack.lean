/- Plain mathematics: there and back. No program is named. -/
import Derived.Test.YtdojclhcoboocaaDoorDmpPlain
import Derived.Lib.ParseIntBCases
namespace Go.Proofs.YtdojclhcoboocaaDoor
namespace Pd
theorem dig_nat (d : Nat) (h : d < 10) : (UInt8.ofNat (48 + d)).toNat = 48 + d := by
  rw [UInt8.toNat_ofNat']
  exact Nat.mod_eq_of_lt (by omega)
theorem digits_range (n : Nat) : ∀ c ∈ Lib.decDigits n, 48 ≤ c.toNat ∧ c.toNat ≤ 57 := by
  rw [Lib.decDigits_eq]
  intro c hc
  obtain ⟨t, _, rfl⟩ := List.mem_map.1 hc
  unfold Lib.dg
  have : n / 10 ^ (Lib.nDigits n - 1 - t) % 10 < 10 := Nat.mod_lt _ (by decide)
  rw [dig_nat _ this]
  omega
theorem parseM_append (M : Nat) : ∀ (p q : List UInt8) (acc : Nat), Lib.parseUintM M acc (p ++ q) = match Lib.parseUintM M acc p with | .ok a => Lib.parseUintM M a q | e => e
  | [], q, acc => rfl
  | c :: p, q, acc => by
    rw [List.cons_append, Lib.parseUintM, Lib.parseUintM]
    split
    · split
      · rfl
      · split
        · rfl
        · exact parseM_append M p q _
    · rfl
theorem parseM_digits (M : Nat) (hM : M ≤ 4294967295) (n : Nat) (h : n ≤ M) : Lib.parseUintM M 0 (Lib.decDigits n) = .ok n := by
  induction n using Nat.strongRecOn with
  | ind n ih =>
    by_cases h10 : n < 10
    · rw [Lib.decDigits_one h10]
      unfold Lib.parseUintM
      rw [dig_nat n h10, if_pos (by omega), if_neg (by omega), if_neg (by omega)]
      unfold Lib.parseUintM
      congr 1
      omega
    · have e : Lib.decDigits n = Lib.decDigits (n / 10) ++ [UInt8.ofNat (48 + n % 10)] := by rw [Lib.decDigits, dif_neg h10]
      have hm : n % 10 < 10 := Nat.mod_lt _ (by decide)
      rw [e, parseM_append, ih (n / 10) (by omega) (by omega)]
      show Lib.parseUintM M (n / 10) _ = _
      unfold Lib.parseUintM
      rw [dig_nat _ hm, if_pos (by omega), if_neg (by omega), if_neg (by omega)]
      unfold Lib.parseUintM
      congr 1
      omega
theorem numW_digits (n : Nat) (h : n ≤ 4294967295) : numW (Lib.decDigits n) = some n := by
  have hne : Lib.decDigits n ≠ [] := fun c => by
    have := Lib.decDigits_length n
    rw [c] at this
    have := Lib.nDigits_pos n
    simp at *
    omega
  unfold numW Lib.parseUintB
  rw [if_neg hne, parseM_digits _ (by decide) n (by simpa using h)]
  simp
theorem numW_fig (z : Int) (h : okN z = true) : numW (fig z) = some z.toNat := by
  rw [okN_iff] at h
  exact numW_digits _ (by omega)
/-- No blank in a word. -/
def noB (w : List UInt8) : Prop := ∀ c ∈ w, c ≠ 32
theorem noB_digits (n : Nat) : noB (Lib.decDigits n) := fun c hc e => by
  have := digits_range n c hc
  rw [e] at this
  have : (32 : UInt8).toNat = 32 := rfl
  omega
theorem words_noB : ∀ (w : List UInt8), noB w → words w = [w]
  | [], _ => rfl
  | c :: w, h => by
    have hc : c ≠ 32 := h c (List.mem_cons_self ..)
    rw [words, if_neg hc, words_noB w fun d hd => h d (List.mem_cons_of_mem _ hd)]
theorem words_cons : ∀ (w : List UInt8) (s : List UInt8), noB w → words (w ++ 32 :: s) = w :: words s
  | [], s, _ => by simp [words]
  | c :: w, s, h => by
    have hc : c ≠ 32 := h c (List.mem_cons_self ..)
    rw [List.cons_append, words, if_neg hc, words_cons w s fun d hd => h d (List.mem_cons_of_mem _ hd)]
theorem words_line : ∀ (ws : List (List UInt8)), ws ≠ [] → (∀ w ∈ ws, noB w) → words (line ws) = ws
  | [], h, _ => absurd rfl h
  | [w], _, h => by
    rw [line, Lib.join_one]
    exact words_noB w (h w (by simp))
  | w :: x :: r, _, h => by
    have e : line (w :: x :: r) = w ++ 32 :: line (x :: r) := by simp [line, Lib.join]
    rw [e, words_cons w _ (h w (by simp)), words_line (x :: r) (by simp) fun y hy => h y (List.mem_cons_of_mem _ hy)]
theorem line_words : ∀ (s : List UInt8), line (words s) = s
  | [] => rfl
  | c :: s => by
    have ih := line_words s
    unfold words
    split
    · rename_i hc
      cases hw : words s with
      | nil => exact absurd hw (words_ne s)
      | cons w r =>
        rw [hw] at ih
        have e : line ([] :: w :: r) = 32 :: line (w :: r) := by simp [line, Lib.join]
        rw [e, ih, hc]
    · cases hw : words s with
      | nil => exact absurd hw (words_ne s)
      | cons w r =>
        rw [hw] at ih
        dsimp only
        rw [← ih]
        cases r with
        | nil => simp [line, Lib.join_one]
        | cons x r => simp [line, Lib.join]
theorem noB_lit {w : List UInt8} (h : w.all (fun c => c != 32) = true) : noB w := fun c hc e => by
  have := List.all_eq_true.1 h c hc
  rw [e] at this
  cases this
theorem noB_fig (z : Int) : noB (fig z) := noB_digits _
theorem noB_state (z : Int) : noB (wState z) := by unfold wState; split <;> exact noB_lit (by decide)
theorem figc (n : Nat) : fig (n : Int) = Lib.decDigits n := rfl
theorem words_sup (r : Rp) : words (line (supW r)) = supW r := by
  refine words_line _ (by simp [supW]) fun w hw => ?_
  simp only [supW, List.mem_cons, List.not_mem_nil, or_false] at hw
  rcases hw with rfl | rfl | rfl | rfl | rfl | rfl <;> first | exact noB_fig _ | exact noB_lit (by decide)
theorem words_slot (x : Ln) : words (line (slotW x)) = slotW x := by
  have h : ∀ w ∈ headW x, noB w := fun w hw => by
    simp only [headW, List.mem_cons, List.not_mem_nil, or_false] at hw
    rcases hw with rfl | rfl | rfl | rfl | rfl | rfl | rfl | rfl | rfl <;> first | exact noB_fig _ | exact noB_state _ | exact noB_lit (by decide)
  unfold slotW
  split
  · refine words_line _ (by simp [headW]) fun w hw => ?_
    rcases List.mem_append.1 hw with hw | hw
    · exact h w hw
    · rw [List.mem_singleton.1 hw]; exact noB_lit (by decide)
  · exact words_line _ (by simp [headW]) h
theorem words_ent (e : Int × Int) : words (line (entW e)) = entW e := by
  refine words_line _ (by simp [entW]) fun w hw => ?_
  simp only [entW, List.mem_cons, List.not_mem_nil, or_false] at hw
  rcases hw with rfl | rfl | rfl <;> first | exact noB_fig _ | exact noB_lit (by decide)
theorem toNat_of {z : Int} (h : okN z = true) : ((z.toNat : Nat) : Int) = z := by
  rw [okN_iff] at h
  omega
theorem supP_sup {r : Rp} (h : okS r = true) : supP (supW r) = some (r.s.toNat, r.o.toNat, r.c.toNat) := by
  have ⟨⟨h1, h2⟩, h3⟩ : (okN r.s = true ∧ okN r.o = true) ∧ okN r.c = true := by simpa [okS] using h
  simp [supP, supW, afterP, numW_fig _ h1, numW_fig _ h2, numW_fig _ h3]
theorem stW_state {z : Int} (h : z = 1 ∨ z = 2) : stW (wState z) = some z := by
  rcases h with rfl | rfl <;> rfl
theorem slotP_slot {x : Ln} (h : okH x = true) (hg : x.g ≤ 4294967295) (hes : x.es = []) : slotP (slotW x).tail = some (x, []) := by
  obtain ⟨h1, h2, h3, h4, h5⟩ : okN x.id = true ∧ (x.st = 1 ∨ x.st = 2) ∧ okN x.a = true ∧ okN x.n = true ∧ okN x.room = true := by
    unfold okH at h
    simp only [Bool.and_eq_true, decide_eq_true_eq] at h
    obtain ⟨⟨⟨⟨h1, h2⟩, h3⟩, h4⟩, h5⟩ := h
    exact ⟨h1, h2, h3, h4, h5⟩
  have hgg : numW (fig (x.g : Int)) = some x.g := numW_digits _ hg
  obtain ⟨id, st, a, n, g, room, inv, es⟩ := x
  dsimp only at *
  subst hes
  cases inv
  · simp [slotP, slotW, headW, afterP, numW_fig _ h1, stW_state h2, numW_fig _ h3, numW_fig _ h4, hgg, numW_fig _ h5, toNat_of h1, toNat_of h3, toNat_of h4, toNat_of h5]
  · simp [slotP, slotW, headW, afterP, numW_fig _ h1, stW_state h2, numW_fig _ h3, numW_fig _ h4, hgg, numW_fig _ h5, toNat_of h1, toNat_of h3, toNat_of h4, toNat_of h5]
theorem entP_ent {e : Int × Int} (h : okE e = true) : entP (entW e).tail = some (e, []) := by
  have ⟨h1, h2⟩ : okN e.1 = true ∧ okN e.2 = true := by simpa [okE] using h
  simp [entP, entW, numW_fig _ h1, numW_fig _ h2, toNat_of h1, toNat_of h2]
theorem addP_ofSlot {ls : List Ln} {x : Ln} (h : okH x = true) (hg : x.g ≤ 4294967295) : addP ls (line (slotW x)) = some (ls ++ [{ x with es := [] }]) := by
  unfold addP
  rw [words_slot]
  have e : slotW x = slotW { x with es := [] } := rfl
  dsimp only
  rw [if_pos (by unfold slotW; split <;> rfl), e, slotP_slot (x := { x with es := [] }) h hg rfl]
  rfl
theorem addE_snoc1 : ∀ (init : List Ln) (x : Ln) (e : Int × Int), addE (init ++ [x]) e = some (init ++ [{ x with es := x.es ++ [e] }])
  | [], x, e => rfl
  | [y], x, e => rfl
  | y :: z :: r, x, e => by
    show (addE (z :: r ++ [x]) e).map (y :: ·) = _
    rw [addE_snoc1 (z :: r) x e]
    rfl
theorem addP_ofEnt {init : List Ln} {x : Ln} {e : Int × Int} (h : okE e = true) : addP (init ++ [x]) (line (entW e)) = some (init ++ [{ x with es := x.es ++ [e] }]) := by
  unfold addP
  rw [words_ent]
  dsimp only
  rw [if_neg (by simp [entW, wEntry, wSlot]), if_pos (by rfl), entP_ent h, Option.bind_some, if_pos rfl, addE_snoc1]
theorem addAll_ents : ∀ (es : List (Int × Int)) (init : List Ln) (x : Ln) (q : List (List UInt8)), (∀ e ∈ es, okE e = true) → addAll (init ++ [x]) (es.map (fun e => line (entW e)) ++ q) = addAll (init ++ [{ x with es := x.es ++ es }]) q
  | [], init, x, q, _ => by simp
  | e :: es, init, x, q, h => by
    rw [List.map_cons, List.cons_append]
    show (addP _ _).bind _ = _
    rw [addP_ofEnt (h e (List.mem_cons_self ..)), Option.bind_some, addAll_ents es init _ q fun y hy => h y (List.mem_cons_of_mem _ hy)]
    simp
theorem addAll_lines : ∀ (ls : List Ln) (a : List Ln), (∀ x ∈ ls, okL x = true ∧ x.g ≤ 4294967295) → addAll a (ls.flatMap linesL) = some (a ++ ls)
  | [], a, _ => by simp [addAll]
  | x :: ls, a, h => by
    obtain ⟨h1, h2⟩ := h x (List.mem_cons_self ..)
    have ⟨h3, h4⟩ : okH x = true ∧ x.es.all okE = true := by simpa [okL] using h1
    rw [List.flatMap_cons, linesL, List.cons_append]
    show (addP _ _).bind _ = _
    rw [addP_ofSlot h3 h2, Option.bind_some, addAll_ents x.es a _ _ (List.all_eq_true.1 h4), addAll_lines ls _ fun y hy => h y (List.mem_cons_of_mem _ hy)]
    simp
/-- A report is parsed from its dump. -/
theorem parse_dump {r : Rp} (h : okR r = true) (hg : ∀ x ∈ r.ls, x.g ≤ 4294967295) : parse (dump r) = some r := by
  have ⟨h1, h2⟩ : okS r = true ∧ r.ls.all okL = true := by simpa [okR] using h
  have ⟨⟨k1, k2⟩, k3⟩ : (okN r.s = true ∧ okN r.o = true) ∧ okN r.c = true := by simpa [okS] using h1
  unfold dump
  show (supP (words _)).bind _ = _
  rw [words_sup, supP_sup h1, Option.bind_some, addAll_lines r.ls [] fun x hx => ⟨List.all_eq_true.1 h2 x hx, hg x hx⟩]
  obtain ⟨s, o, c, ls⟩ := r
  dsimp only at *
  simp [toNat_of k1, toNat_of k2, toNat_of k3]
/-- Without its first line a dump is none's. -/
theorem parse_tail (r : Rp) : parse (dump r).tail = none := by
  unfold dump
  rw [List.tail_cons]
  cases r.ls with
  | nil => rfl
  | cons x ls =>
    rw [List.flatMap_cons, linesL, List.cons_append]
    show (supP (words _)).bind _ = _
    have e : supP (words (line (slotW x))) = none := by
      rw [words_slot]
      unfold supP afterP
      rw [if_neg (by unfold slotW; split <;> simp [headW, wSlot, wDisk])]
      rfl
    rw [e]
    rfl
theorem numW_fig' {l : List UInt8} {n : Nat} (h : numW l = some n) : l = fig (n : Int) ∧ n ≤ 4294967295 ∧ l ≠ [] := by
  obtain ⟨h1, h2⟩ := numW_le h
  have h3 := Lib.parseUintB_le h1
  refine ⟨h2.symm, by omega, fun c => ?_⟩
  have h4 := Lib.decDigits_length n
  rw [h2, c] at h4
  have h5 := Lib.nDigits_pos n
  rw [← h4] at h5
  simp at h5
theorem okN_nat {n : Nat} (h : n ≤ 4294967295) : okN (n : Int) = true := (okN_iff _).2 (by omega)
theorem cons_of {ws : List (List UInt8)} {w : List UInt8} (h : ws.headD [] = w) (hw : w ≠ []) : ws = w :: ws.tail := by
  cases ws with
  | nil => exact absurd h.symm hw
  | cons x r =>
    have h' : x = w := h
    rw [h']
    rfl
theorem supP_back {ws : List (List UInt8)} {a b c : Nat} (h : supP ws = some (a, b, c)) (ls : List Ln) : ws = supW ⟨a, b, c, ls⟩ ∧ okS ⟨a, b, c, ls⟩ = true := by
  unfold supP at h
  simp only [Option.bind_eq_some_iff] at h
  obtain ⟨a', ha, b', hb, c', hc, h⟩ := h
  split at h
  · rename_i he
    cases h
    obtain ⟨d1, n1⟩ := afterP_some ha
    obtain ⟨d2, n2⟩ := afterP_some hb
    obtain ⟨d3, n3⟩ := afterP_some hc
    obtain ⟨f1, l1, z1⟩ := numW_fig' n1
    obtain ⟨f2, l2, z2⟩ := numW_fig' n2
    obtain ⟨f3, l3, z3⟩ := numW_fig' n3
    have e1 := cons_of d1 (by decide)
    have e2 := cons_of f1 (by rw [← f1]; exact z1)
    have e3 := cons_of d2 (by decide)
    have e4 := cons_of f2 (by rw [← f2]; exact z2)
    have e5 := cons_of d3 (by decide)
    have e6 := cons_of f3 (by rw [← f3]; exact z3)
    refine ⟨?_, ?_⟩
    · rw [e1, e2, e3, e4, e5, e6, he]
      rfl
    · unfold okS
      rw [okN_nat l1, okN_nat l2, okN_nat l3]
      rfl
  · cases h
theorem stW_back {l : List UInt8} {z : Int} (h : stW l = some z) : l = wState z ∧ (z = 1 ∨ z = 2) ∧ l ≠ [] := by
  unfold stW at h
  split at h
  · rename_i e; cases h; rw [e]; exact ⟨rfl, .inl rfl, by decide⟩
  · split at h
    · rename_i e; cases h; rw [e]; exact ⟨rfl, .inr rfl, by decide⟩
    · cases h
theorem slotP_back {ws ws2 : List (List UInt8)} {x : Ln} (h : slotP ws = some (x, ws2)) (h2 : ws2 = []) : wSlot :: ws = slotW x ∧ okH x = true ∧ x.g ≤ 4294967295 ∧ x.es = [] := by
  subst h2
  unfold slotP at h
  simp only [Option.bind_eq_some_iff] at h
  obtain ⟨id, n1, st, n2, a, n3, n, n4, g, n5, room, n6, h⟩ := h
  obtain ⟨f1, l1, z1⟩ := numW_fig' n1
  obtain ⟨f2, l2, z2⟩ := stW_back n2
  obtain ⟨f3, l3, z3⟩ := numW_fig' n3
  obtain ⟨f4, l4, z4⟩ := numW_fig' n4
  obtain ⟨d5, m5⟩ := afterP_some n5
  obtain ⟨d6, m6⟩ := afterP_some n6
  obtain ⟨f5, l5, z5⟩ := numW_fig' m5
  obtain ⟨f6, l6, z6⟩ := numW_fig' m6
  have e1 := cons_of f1 (by rw [← f1]; exact z1)
  have e2 := cons_of f2 (by rw [← f2]; exact z2)
  have e3 := cons_of f3 (by rw [← f3]; exact z3)
  have e4 := cons_of f4 (by rw [← f4]; exact z4)
  have e5 := cons_of d5 (by decide)
  have e6 := cons_of f5 (by rw [← f5]; exact z5)
  have e7 := cons_of d6 (by decide)
  have e8 := cons_of f6 (by rw [← f6]; exact z6)
  have ok : ∀ inv, okH ⟨id, st, a, n, g, room, inv, []⟩ = true := fun inv => by
    unfold okH
    dsimp only
    rw [okN_nat l1, okN_nat l3, okN_nat l4, okN_nat l6, decide_eq_true l2]
    rfl
  split at h
  · rename_i he
    cases h
    refine ⟨?_, ok false, l5, rfl⟩
    rw [e1, e2, e3, e4, e5, e6, e7, e8, he]
    rfl
  · split at h
    · rename_i hi
      injection h with h
      injection h with h3 h4
      subst h3
      have e9 := cons_of hi (by decide)
      refine ⟨?_, ok true, l5, rfl⟩
      rw [e1, e2, e3, e4, e5, e6, e7, e8, e9, h4]
      rfl
    · cases h
theorem entP_back {ws ws2 : List (List UInt8)} {e : Int × Int} (h : entP ws = some (e, ws2)) (h2 : ws2 = []) : wEntry :: ws = entW e ∧ okE e = true := by
  subst h2
  unfold entP at h
  simp only [Option.bind_eq_some_iff] at h
  obtain ⟨a, n1, b, n2, h⟩ := h
  obtain ⟨f1, l1, z1⟩ := numW_fig' n1
  obtain ⟨f2, l2, z2⟩ := numW_fig' n2
  have e1 := cons_of f1 (by rw [← f1]; exact z1)
  have e2 := cons_of f2 (by rw [← f2]; exact z2)
  injection h with h
  injection h with h3 h4
  subst h3
  refine ⟨?_, ?_⟩
  · rw [e1, e2, h4]
    rfl
  · unfold okE
    dsimp only
    rw [okN_nat l1, okN_nat l2]
    rfl
theorem addP_back {ls ls2 : List Ln} {l : List UInt8} (h : addP ls l = some ls2) (ho : ∀ x ∈ ls, okL x = true ∧ x.g ≤ 4294967295) : ls2.flatMap linesL = ls.flatMap linesL ++ [l] ∧ ∀ x ∈ ls2, okL x = true ∧ x.g ≤ 4294967295 := by
  unfold addP at h
  dsimp only at h
  have lw := line_words l
  split at h
  · rename_i hs
    obtain ⟨⟨x, ws2⟩, hp, h⟩ := Option.bind_eq_some_iff.1 h
    split at h
    · rename_i he
      cases h
      obtain ⟨k1, k2, k3, k4⟩ := slotP_back hp he
      have ew := cons_of hs (by decide)
      rw [ew, k1] at lw
      refine ⟨?_, fun y hy => ?_⟩
      · rw [List.flatMap_append, List.flatMap_singleton, linesL, k4, lw]
        rfl
      · rcases List.mem_append.1 hy with hy | hy
        · exact ho y hy
        · rw [List.mem_singleton.1 hy]
          refine ⟨?_, k3⟩
          unfold okL
          rw [k2, k4]
          rfl
    · cases h
  · split at h
    · rename_i _ hs
      obtain ⟨⟨e, ws2⟩, hp, h⟩ := Option.bind_eq_some_iff.1 h
      split at h
      · rename_i he
        obtain ⟨k1, k2⟩ := entP_back hp he
        have ew := cons_of hs (by decide)
        rw [ew, k1] at lw
        rcases List.eq_nil_or_concat ls with rfl | ⟨init, x, rfl⟩
        · cases h
        · rw [List.concat_eq_append] at ho
          rw [List.concat_eq_append] at h ⊢
          dsimp only at h
          rw [addE_snoc1] at h
          cases h
          refine ⟨?_, fun y hy => ?_⟩
          · rw [List.flatMap_append, List.flatMap_singleton, List.flatMap_append, List.flatMap_singleton, List.append_assoc]
            congr 1
            unfold linesL
            rw [List.map_append, List.map_singleton, lw]
            rfl
          · rcases List.mem_append.1 hy with hy | hy
            · exact ho y (List.mem_append_left _ hy)
            · rw [List.mem_singleton.1 hy]
              obtain ⟨o1, o2⟩ := ho x (by simp)
              refine ⟨?_, o2⟩
              have ⟨o3, o4⟩ : okH x = true ∧ x.es.all okE = true := by simpa [okL] using o1
              unfold okL
              have e3 : okH { x with es := x.es ++ [e] } = okH x := rfl
              rw [e3, o3, List.all_append, o4]
              simp [k2]
      · cases h
    · cases h
theorem addAll_back : ∀ (p : List (List UInt8)) (a ls : List Ln), addAll a p = some ls → (∀ x ∈ a, okL x = true ∧ x.g ≤ 4294967295) → ls.flatMap linesL = a.flatMap linesL ++ p ∧ ∀ x ∈ ls, okL x = true ∧ x.g ≤ 4294967295
  | [], a, ls, h, ho => by cases h; exact ⟨by simp, ho⟩
  | l :: p, a, ls, h, ho => by
    obtain ⟨b, h1, h2⟩ := Option.bind_eq_some_iff.1 (show (addP a l).bind _ = some ls from h)
    obtain ⟨k1, k2⟩ := addP_back h1 ho
    obtain ⟨k3, k4⟩ := addAll_back p b ls h2 k2
    exact ⟨by rw [k3, k1]; simp, k4⟩
/-- What lines are parsed to has them. -/
theorem dump_parse {l : List (List UInt8)} {r : Rp} (h : parse l = some r) : dump r = l ∧ okR r = true ∧ ∀ x ∈ r.ls, okL x = true ∧ x.g ≤ 4294967295 := by
  cases l with
  | nil => cases h
  | cons s q =>
    obtain ⟨⟨a, b, c⟩, h1, h2⟩ := Option.bind_eq_some_iff.1 (show (supP (words s)).bind _ = some r from h)
    obtain ⟨ls, h3, h4⟩ := Option.bind_eq_some_iff.1 h2
    cases h4
    obtain ⟨k1, k2⟩ := supP_back h1 ls
    obtain ⟨k3, k4⟩ := addAll_back q [] ls h3 (by simp)
    refine ⟨?_, ?_, k4⟩
    · unfold dump
      dsimp only
      rw [← k1, line_words, k3]
      simp
    · unfold okR
      rw [k2, Bool.true_and, List.all_eq_true]
      exact fun x hx => (k4 x hx).1
end Pd
end Go.Proofs.YtdojclhcoboocaaDoor
