/- Contracts of dump's words: wordsOf, next, end, number, after, state. -/
import Derived.Test.YtheldnamllnkeaaDoorDmpPlain
import Derived.Test.YtheldnamllnkeaaDoorDmpCut
import Derived.Test.YtheldnamllnkeaaDoorDmpNum
import Derived.Test.YtheldnamllnkeaaDoorFr
import Derived.Laws.Pointers
namespace Go.Proofs.YtheldnamllnkeaaDoor
namespace Pd
open Go.RowKit Dsk
set_option maxRecDepth 100000
set_option linter.unusedVariables false

/-- Block k is what is left of a line: the words ws. -/
structure Wd (w : World) (k : Nat) (ws : List (List UInt8)) : Prop where
  lies : ∃ o, rest o = ws ∧ (o.getD []).length ≤ 4294967295 ∧ w.heap[k]? = some (.cells #[.string (Om.B (o.getD [])), .bool o.isSome] 96 (0, 0))
  far : 0 < k ∧ 2 < k ∧ 3 < k
theorem Wd.lt {w : World} {k : Nat} {ws : List (List UInt8)} (h : Wd w k ws) : k < w.heap.size := by
  obtain ⟨o, _, _, hk⟩ := h.lies
  exact (Array.getElem?_eq_some_iff.1 hk).1
theorem Wd.fr {w w' : World} {k : Nat} {ws : List (List UInt8)} {F : Nat → Prop} (h : Wd w k ws) (hf : Fr F w w') (hk : ¬ F k) : Wd w' k ws := by
  obtain ⟨⟨o, h1, h2, h3⟩, hg⟩ := h
  exact ⟨⟨o, h1, h2, (hf.block k (Array.getElem?_eq_some_iff.1 h3).1 hk).trans h3⟩, hg⟩
theorem Wd.below {w w' : World} {k : Nat} {ws : List (List UInt8)} (h : Wd w k ws) (hb : Below w.heap.size w w') : Wd w' k ws := h.fr (F := fun _ => False) ⟨hb.os, hb.tape, hb.output, hb.size, fun i hi _ => hb.block i hi⟩ id
theorem vs_fr {w w' : World} {k : Nat} (h : Vs w) (hf : Fr (fun i => i = k) w w') (hk : 0 < k ∧ 2 < k ∧ 3 < k) : Vs w' := by
  have hs := h.syn
  obtain ⟨t, p, hs⟩ := hs
  obtain ⟨u, q, hr⟩ := h.rng
  have ls := lt_of_cell hs
  have lr := lt_of_cell hr
  have key : ∀ i, i < w.heap.size → i ≠ k → w'.heap[i]? = w.heap[i]? := fun i hi hne => hf.block i hi hne
  refine ⟨?_, ⟨t, p, ?_⟩, ⟨u, q, ?_⟩⟩
  · have htab := h.tab
    have hg : Tryd.prog.globalNamed "internal/strconv.uint64pow10" = some 0 := by kernel_rfl
    unfold Lib.TabIs World.var? at htab ⊢
    rw [hg] at htab ⊢
    simp only [Option.bind_some] at htab ⊢
    have hlt : 0 < w.heap.size := by
      rcases Nat.lt_or_ge 0 w.heap.size with h' | h'
      · exact h'
      · rw [Array.getElem?_eq_none h'] at htab; cases htab
    rw [key _ hlt (by omega)]
    exact htab
  · have e := key _ ls (show 2 ≠ k by omega)
    unfold World.cell? at hs ⊢
    rw [e]
    exact hs
  · have e := key _ lr (show 3 ≠ k by omega)
    unfold World.cell? at hr ⊢
    rw [e]
    exact hr
theorem wordsof_any (l : List UInt8) (hl : l.length ≤ 4294967295) (w : World) (hv : Vs w) (hg : 0 < w.heap.size) :
    Calls Tryd.prog 36 #[.string (Om.B l)] w fun e w' => e = .returned (.pointer (some ⟨w.heap.size, 0, none⟩)) ∧ Wd w' w.heap.size (words l) ∧ Below w.heap.size w w' := by
  obtain ⟨t, p, hs⟩ := hv.syn
  obtain ⟨u, q, hr⟩ := hv.rng
  have ls := lt_of_cell hs
  have lr := lt_of_cell hr
  have HG : Hid (0 < w.heap.size ∧ 2 < w.heap.size ∧ 3 < w.heap.size) := Lib.hid ⟨hg, ls, lr⟩
  clear hs hr ls lr hv hg
  go_enter Tryd.func36, Tryd.ntmps36
  go_wp2
  go_ret
  exact ⟨rfl, ⟨⟨some l, rfl, hl, heap_alloc_new _ _⟩, HG.out⟩, (Below.refl _ _).alloc (Nat.le_refl _) _⟩
/-- What next tells. -/
def NextIs (k : Nat) (ws : List (List UInt8)) (w : World) (e : Ending) (w' : World) : Prop := e = .returned (.string (Om.B (ws.headD []))) ∧ Wd w' k ws.tail ∧ Fr (fun i => i = k) w w'
theorem next_any {w : World} {k : Nat} {ws : List (List UInt8)} (h : Wd w k ws) :
    Calls Tryd.prog 37 #[.pointer (some ⟨k, 0, none⟩)] w (NextIs k ws w) := by
  obtain ⟨⟨o, h1, h2, h3⟩, hg⟩ := h
  obtain ⟨e1, e2⟩ := rest_next o
  rw [h1] at e1 e2
  have hlen := cut_length (o.getD [])
  have HE1 := Lib.hid e1
  have HE2 := Lib.hid e2
  have HR := Lib.hid h3
  have HLN := Lib.hid hlen
  have HL := Lib.hid h2
  obtain ⟨l, hl⟩ : ∃ l, l = o.getD [] := ⟨_, rfl⟩
  rw [← hl] at h2 h3 HE1 HE2 HLN HL
  have lt := (Array.getElem?_eq_some_iff.1 h3).1
  have c0 : w.cell? ⟨k, 0, none⟩ = some (.string (Om.B l)) := by rw [cell_of_row _ _ _ _ _ _ h3]; rfl
  have c1 : w.cell? ⟨k, 1, none⟩ = some (.bool o.isSome) := by rw [cell_of_row _ _ _ _ _ _ h3]; rfl
  have f0 : w.frozen? ⟨k, 0, none⟩ = false := frozen_of_row (j := 0) _ _ _ _ h3
  have f1 : w.frozen? ⟨k, 1, none⟩ = false := frozen_of_row (j := 1) _ _ _ _ h3
  have CU := Lib.hid (cut_any l h2 w)
  have R3 := Lib.hid h3
  have LT := Lib.hid lt
  clear h1 e1 e2 hlen hl h2 h3 HR lt
  go_enter Tryd.func37, Tryd.ntmps37
  go_wp2_with fail
  refine CU.out.mono ?_
  rintro e w1 ⟨rfl, hb⟩
  have R4 := (hb.block k LT.out).trans R3.out
  have c0 : w1.cell? ⟨k, 0, none⟩ = some (.string (Om.B l)) := by rw [cell_of_row _ _ _ _ _ _ R4]; rfl
  have c1 : w1.cell? ⟨k, 1, none⟩ = some (.bool o.isSome) := by rw [cell_of_row _ _ _ _ _ _ R4]; rfl
  have f0 : w1.frozen? ⟨k, 0, none⟩ = false := frozen_of_row (j := 0) _ _ _ _ R4
  have f1 : w1.frozen? ⟨k, 1, none⟩ = false := frozen_of_row (j := 1) _ _ _ _ R4
  have HB := Lib.hid hb
  have HR4 := Lib.hid R4
  clear hb R4
  go_wp2
  go_ret
  have t0 := heap_setCell_same _ k 0 _ _ (.string (Om.B ((cut l).2.getD []))) HR4.out
  have t1 := heap_setCell_same _ k 1 _ _ (.bool (cut l).2.isSome) t0
  have F2 : Fr (fun i => i = k) w ((w1.setCell ⟨k, 0, none⟩ (.string (Om.B ((cut l).2.getD [])))).setCell ⟨k, 1, none⟩ (.bool (cut l).2.isSome)) := ((Fr.of_below (F := fun i => i = k) HB.out).setCell ⟨k, 0, none⟩ rfl _).setCell ⟨k, 1, none⟩ rfl _
  refine ⟨by rw [HE1.out]; rfl, ⟨⟨(cut l).2, HE2.out.symm, ?_, t1⟩, hg⟩, F2⟩
  have h5 := HLN.out.2
  have h6 := HL.out
  cases hc : (cut l).2 with
  | none => show 0 ≤ _; omega
  | some q => have := h5 q hc; show q.length ≤ _; omega
theorem Wd.head_le {w : World} {k : Nat} {ws : List (List UInt8)} (h : Wd w k ws) : (ws.headD []).length ≤ 4294967295 := by
  obtain ⟨⟨o, h1, h2, h3⟩, hg⟩ := h
  rw [← h1, (rest_next o).1]
  have := (cut_length (o.getD [])).1
  omega
theorem end_yes {w : World} {k : Nat} (h : Wd w k []) : Calls Tryd.prog 40 #[.pointer (some ⟨k, 0, none⟩)] w fun e w' => e = .returned (.tuple #[]) ∧ w = w' := by
  obtain ⟨⟨o, h1, h2, h3⟩, hg⟩ := h
  have hs : o.isSome = false := by
    cases hc : o.isSome
    · rfl
    · exact absurd h1 ((rest_more o).1 hc)
  rw [hs] at h3
  have c1 : w.cell? ⟨k, 1, none⟩ = some (.bool false) := by rw [cell_of_row _ _ _ _ _ _ h3]; rfl
  have NY := Lib.hid (fun w1 => need_yes w1)
  clear h1 h2 h3 hs
  go_enter Tryd.func40, Tryd.ntmps40
  go_wp2_with fail
  refine (NY.out _).mono ?_
  rintro e w1 ⟨rfl, rfl⟩
  go_wp2
  go_end0
  exact ⟨rfl, rfl⟩
theorem end_no {w : World} {k : Nat} {ws : List (List UInt8)} (h : Wd w k ws) (hn : ws ≠ []) : Calls Tryd.prog 40 #[.pointer (some ⟨k, 0, none⟩)] w fun e w' => e = noE ∧ w = w' := by
  obtain ⟨⟨o, h1, h2, h3⟩, hg⟩ := h
  have hs : o.isSome = true := (rest_more o).2 (by rw [h1]; exact hn)
  rw [hs] at h3
  have c1 : w.cell? ⟨k, 1, none⟩ = some (.bool true) := by rw [cell_of_row _ _ _ _ _ _ h3]; rfl
  have NO := Lib.hid (fun w1 => need_no w1)
  unfold noE at NO ⊢
  clear h1 h2 h3 hs hn
  go_enter Tryd.func40, Tryd.ntmps40
  go_wp2_with fail
  refine (NO.out _).mono ?_
  rintro e w1 ⟨rfl, rfl⟩
  go_wp2
  exact ⟨rfl, rfl, rfl⟩
theorem more_cell {w : World} {k : Nat} {ws : List (List UInt8)} (h : Wd w k ws) : w.cell? ⟨k, 1, none⟩ = some (.bool (!ws.isEmpty)) := by
  obtain ⟨⟨o, h1, h2, h3⟩, hg⟩ := h
  have hs : o.isSome = !ws.isEmpty := by
    rw [← h1]
    cases o with
    | none => rfl
    | some l =>
      have := words_ne l
      show true = !(words l).isEmpty
      cases hw : words l with
      | nil => exact absurd hw this
      | cons _ _ => rfl
  rw [← hs, cell_of_row _ _ _ _ _ _ h3]
  rfl
theorem uint_le {l : List UInt8} {n : Nat} (h : numW l = some n) : n ≤ 4294967295 := by
  have := Lib.parseUintB_le (numW_le h).1
  omega
theorem b_ne {p q : List UInt8} (h : p ≠ q) : ((Om.B p).toList == (Om.B q).toList) = false := by
  rw [beq_eq_false_iff_ne, b_toList, b_toList]
  exact h
theorem b_eq (p : List UInt8) : ((Om.B p).toList == (Om.B p).toList) = true := by simp
theorem b_is {p q : List UInt8} (h : p = q) : ((Om.B p).toList == q) = true := by rw [b_toList, h]; simp
theorem b_isnt {p q : List UInt8} (h : p ≠ q) : ((Om.B p).toList == q) = false := by rw [beq_eq_false_iff_ne, b_toList]; exact h
theorem fr_trans {k : Nat} {a b c : World} (h : Fr (fun i => i = k) a b) (h2 : Fr (fun i => i = k) b c) : Fr (fun i => i = k) a c := h.trans h2 fun i _ e => e
theorem fr_below {k : Nat} {a b c : World} (h : Fr (fun i => i = k) a b) (h2 : Below b.heap.size b c) : Fr (fun i => i = k) a c := h.trans (Fr.of_below (F := fun i => i = k) h2) fun i _ e => e
/-- What number tells: n, and one word less. -/
def NumIs (k : Nat) (ws : List (List UInt8)) (n : Nat) (w : World) (e : Ending) (w' : World) : Prop := e = .returned (.int .i64 (n : Int)) ∧ Wd w' k ws.tail ∧ Fr (fun i => i = k) w w'
theorem num_ok {w : World} {k : Nat} {ws : List (List UInt8)} (h : Wd w k ws) (hv : Vs w) {n : Nat} (hn : numW (ws.headD []) = some n) :
    Calls Tryd.prog 39 #[.pointer (some ⟨k, 0, none⟩)] w (NumIs k ws n w) := by
  have NX := Lib.hid (next_any h)
  unfold NextIs at NX
  have hle := h.head_le
  have hun := uint_le hn
  obtain ⟨p1, p2⟩ := numW_le hn
  have HF := Lib.hid h.far
  have HV := Lib.hid hv
  obtain ⟨wd, hwd⟩ : ∃ wd, wd = ws.headD [] := ⟨_, rfl⟩
  rw [← hwd] at NX hle p1 p2
  have PU := Lib.hid (fun w1 => uint_ok wd n hle p1 w1)
  have FU := Lib.hid (fun w1 hv => fuint_any n (by omega) w1 hv)
  rw [p2] at FU
  have be := b_eq wd
  have NY := Lib.hid (fun w1 => need_yes w1)
  have cw : IntKind.i64.wrap (n : Int) = (n : Int) := IntWalk.i64_in _ (by omega)
  clear h hv hn hle p1 p2 hwd
  go_enter Tryd.func39, Tryd.ntmps39
  go_wp2_with fail
  refine NX.out.mono ?_
  rintro e w1 ⟨rfl, hw1, hf1⟩
  have HW1 := Lib.hid hw1
  have HF1 := Lib.hid hf1
  have HV1 := Lib.hid (vs_fr HV.out hf1 HF.out)
  clear hw1 hf1
  go_wp2_with fail
  refine (PU.out _).mono ?_
  rintro e w2 ⟨rfl, hb2⟩
  have HW2 := Lib.hid (HW1.out.below hb2)
  have HF2 := Lib.hid (fr_below HF1.out hb2)
  have HV2 := Lib.hid (HV1.out.below hb2)
  clear hb2
  go_wp2_with fail
  refine (FU.out _ HV2.out).mono ?_
  rintro e w3 ⟨rfl, hb3⟩
  have HW3 := Lib.hid (HW2.out.below hb3)
  have HF3 := Lib.hid (fr_below HF2.out hb3)
  clear hb3
  go_wp2_with fail
  refine (NY.out _).mono ?_
  rintro e w4 ⟨rfl, rfl⟩
  go_wp2
  go_ret
  exact ⟨rfl, HW3.out, HF3.out⟩
/-- A call that meets no word. -/
def NoIs (k : Nat) (w : World) (e : Ending) (w' : World) : Prop := e = noE ∧ Fr (fun i => i = k) w w'
theorem num_no {w : World} {k : Nat} {ws : List (List UInt8)} (h : Wd w k ws) (hv : Vs w) (hn : numW (ws.headD []) = none) :
    Calls Tryd.prog 39 #[.pointer (some ⟨k, 0, none⟩)] w (NoIs k w) := by
  have NX := Lib.hid (next_any h)
  unfold NextIs at NX
  have hle := h.head_le
  have HF := Lib.hid h.far
  have HV := Lib.hid hv
  obtain ⟨wd, hwd⟩ : ∃ wd, wd = ws.headD [] := ⟨_, rfl⟩
  rw [← hwd] at NX hle hn
  have NO := Lib.hid (fun w1 => need_no w1)
  unfold noE at NO
  by_cases hp : ∃ u, Lib.parseUintB 32 wd = .ok u
  · obtain ⟨n, p1⟩ := hp
    have hun : n ≤ 4294967295 := by have := Lib.parseUintB_le p1; omega
    have p2 : Lib.decDigits n ≠ wd := fun c => by unfold numW at hn; rw [p1] at hn; simp [c] at hn
    have PU := Lib.hid (fun w1 => uint_ok wd n hle p1 w1)
    have FU := Lib.hid (fun w1 hv => fuint_any n (by omega) w1 hv)
    obtain ⟨dg, hdg⟩ : ∃ dg, dg = Lib.decDigits n := ⟨_, rfl⟩
    rw [← hdg] at FU p2
    have be := b_ne p2
    clear h hv hn hle p1 p2 hwd hdg hun
    go_enter Tryd.func39, Tryd.ntmps39
    go_wp2_with fail
    refine NX.out.mono ?_
    rintro e w1 ⟨rfl, hw1, hf1⟩
    have HF1 := Lib.hid hf1
    have HV1 := Lib.hid (vs_fr HV.out hf1 HF.out)
    clear hw1 hf1
    go_wp2_with fail
    refine (PU.out _).mono ?_
    rintro e w2 ⟨rfl, hb2⟩
    have HF2 := Lib.hid (fr_below HF1.out hb2)
    have HV2 := Lib.hid (HV1.out.below hb2)
    clear hb2
    go_wp2_with fail
    refine (FU.out _ HV2.out).mono ?_
    rintro e w3 ⟨rfl, hb3⟩
    have HF3 := Lib.hid (fr_below HF2.out hb3)
    clear hb3
    go_wp2_with fail
    refine (NO.out _).mono ?_
    rintro e w4 ⟨rfl, rfl⟩
    go_wp2
    exact ⟨rfl, rfl, HF3.out⟩
  · have PU := Lib.hid (fun w1 hv => uint_no wd hle (fun u c => hp ⟨u, c⟩) w1 hv)
    unfold UintNo at PU
    clear h hv hn hle hwd hp
    go_enter Tryd.func39, Tryd.ntmps39
    go_wp2_with fail
    refine NX.out.mono ?_
    rintro e w1 ⟨rfl, hw1, hf1⟩
    have HF1 := Lib.hid hf1
    have HV1 := Lib.hid (vs_fr HV.out hf1 HF.out)
    clear hw1 hf1
    go_wp2_with fail
    refine (PU.out _ HV1.out).mono ?_
    rintro e w2 ⟨n, t, p, rfl, hb2⟩
    have HF2 := Lib.hid (fr_below HF1.out hb2)
    clear hb2
    go_wp2_with fail
    refine (NO.out _).mono ?_
    rintro e w4 ⟨rfl, rfl⟩
    go_wp2
    exact ⟨rfl, rfl, HF2.out⟩
theorem after_ok {w : World} {k : Nat} {ws : List (List UInt8)} (wd : List UInt8) (h : Wd w k ws) (hv : Vs w) (hw : ws.headD [] = wd) {n : Nat} (hn : numW (ws.tail.headD []) = some n) :
    Calls Tryd.prog 47 #[.pointer (some ⟨k, 0, none⟩), .string (Om.B wd)] w (NumIs k ws.tail n w) := by
  have NX := Lib.hid (next_any h)
  unfold NextIs at NX
  rw [hw] at NX
  have HF := Lib.hid h.far
  have HV := Lib.hid hv
  have NU := Lib.hid (fun w1 hw1 hv1 => num_ok (w := w1) (k := k) (ws := ws.tail) hw1 hv1 hn)
  unfold NumIs at NU
  have be := b_eq wd
  have NY := Lib.hid (fun w1 => need_yes w1)
  clear h hv hn hw
  go_enter Tryd.func47, Tryd.ntmps47
  go_wp2_with fail
  refine NX.out.mono ?_
  rintro e w1 ⟨rfl, hw1, hf1⟩
  have HW1 := Lib.hid hw1
  have HF1 := Lib.hid hf1
  have HV1 := Lib.hid (vs_fr HV.out hf1 HF.out)
  clear hw1 hf1
  go_wp2_with fail
  refine (NY.out _).mono ?_
  rintro e w4 ⟨rfl, rfl⟩
  go_wp2_with fail
  refine (NU.out _ HW1.out HV1.out).mono ?_
  rintro e w5 ⟨rfl, hw5, hf5⟩
  have HW5 := Lib.hid hw5
  have HF5 := Lib.hid (fr_trans HF1.out hf5)
  clear hw5 hf5
  go_wp2
  go_ret
  exact ⟨rfl, HW5.out, HF5.out⟩
theorem after_no {w : World} {k : Nat} {ws : List (List UInt8)} (wd : List UInt8) (h : Wd w k ws) (hv : Vs w) (hno : ws.headD [] ≠ wd ∨ numW (ws.tail.headD []) = none) :
    Calls Tryd.prog 47 #[.pointer (some ⟨k, 0, none⟩), .string (Om.B wd)] w (NoIs k w) := by
  have NX := Lib.hid (next_any h)
  unfold NextIs at NX
  have HF := Lib.hid h.far
  have HV := Lib.hid hv
  by_cases hw : ws.headD [] = wd
  · have hn : numW (ws.tail.headD []) = none := by rcases hno with c | c; exact absurd hw c; exact c
    rw [hw] at NX
    have NU := Lib.hid (fun w1 hw1 hv1 => num_no (w := w1) (k := k) (ws := ws.tail) hw1 hv1 hn)
    unfold NoIs noE at NU
    have be := b_eq wd
    have NY := Lib.hid (fun w1 => need_yes w1)
    clear h hv hn hw hno
    go_enter Tryd.func47, Tryd.ntmps47
    go_wp2_with fail
    refine NX.out.mono ?_
    rintro e w1 ⟨rfl, hw1, hf1⟩
    have HW1 := Lib.hid hw1
    have HF1 := Lib.hid hf1
    have HV1 := Lib.hid (vs_fr HV.out hf1 HF.out)
    clear hw1 hf1
    go_wp2_with fail
    refine (NY.out _).mono ?_
    rintro e w4 ⟨rfl, rfl⟩
    go_wp2_with fail
    refine (NU.out _ HW1.out HV1.out).mono ?_
    rintro e w5 ⟨rfl, hf5⟩
    have HF5 := Lib.hid (fr_trans HF1.out hf5)
    clear hf5
    go_wp2
    exact ⟨rfl, rfl, HF5.out⟩
  · have be := b_ne hw
    have NO := Lib.hid (fun w1 => need_no w1)
    unfold noE at NO
    obtain ⟨hd, hhd⟩ : ∃ hd, hd = ws.headD [] := ⟨_, rfl⟩
    rw [← hhd] at NX be
    clear h hv hw hno hhd
    go_enter Tryd.func47, Tryd.ntmps47
    go_wp2_with fail
    refine NX.out.mono ?_
    rintro e w1 ⟨rfl, hw1, hf1⟩
    have HF1 := Lib.hid hf1
    clear hw1 hf1
    go_wp2_with fail
    refine (NO.out _).mono ?_
    rintro e w4 ⟨rfl, rfl⟩
    go_wp2
    exact ⟨rfl, rfl, HF1.out⟩
/-- What state tells. -/
def StIs (k : Nat) (ws : List (List UInt8)) (n : Int) (w : World) (e : Ending) (w' : World) : Prop := e = .returned (.int .i64 n) ∧ Wd w' k ws.tail ∧ Fr (fun i => i = k) w w'
theorem st_ok {w : World} {k : Nat} {ws : List (List UInt8)} (h : Wd w k ws) {n : Int} (hn : stW (ws.headD []) = some n) :
    Calls Tryd.prog 49 #[.pointer (some ⟨k, 0, none⟩)] w (StIs k ws n w) := by
  have NX := Lib.hid (next_any h)
  unfold NextIs at NX
  obtain ⟨wd, hwd⟩ : ∃ wd, wd = ws.headD [] := ⟨_, rfl⟩
  rw [← hwd] at NX hn
  unfold stW at hn
  by_cases h1 : wd = wUsed
  · subst h1
    rw [if_pos rfl] at hn
    cases hn
    have be : ((Om.B wUsed).toList == ([117, 115, 101, 100] : List UInt8)) = true := b_is rfl
    clear h hwd
    go_enter Tryd.func49, Tryd.ntmps49
    go_wp2_with fail
    refine NX.out.mono ?_
    rintro e w1 ⟨rfl, hw1, hf1⟩
    have HW1 := Lib.hid hw1
    have HF1 := Lib.hid hf1
    clear hw1 hf1
    go_wp2
    go_ret
    exact ⟨rfl, HW1.out, HF1.out⟩
  · rw [if_neg h1] at hn
    by_cases h2 : wd = wMerging
    · subst h2
      rw [if_pos rfl] at hn
      cases hn
      have b1 : ((Om.B wMerging).toList == ([117, 115, 101, 100] : List UInt8)) = false := b_isnt (q := wUsed) h1
      have be : ((Om.B wMerging).toList == ([109, 101, 114, 103, 105, 110, 103] : List UInt8)) = true := b_is rfl
      clear h hwd h1
      go_enter Tryd.func49, Tryd.ntmps49
      go_wp2_with fail
      refine NX.out.mono ?_
      rintro e w1 ⟨rfl, hw1, hf1⟩
      have HW1 := Lib.hid hw1
      have HF1 := Lib.hid hf1
      clear hw1 hf1
      go_wp2
      go_ret
      exact ⟨rfl, HW1.out, HF1.out⟩
    · rw [if_neg h2] at hn
      cases hn
theorem st_no {w : World} {k : Nat} {ws : List (List UInt8)} (h : Wd w k ws) (hn : stW (ws.headD []) = none) :
    Calls Tryd.prog 49 #[.pointer (some ⟨k, 0, none⟩)] w (NoIs k w) := by
  have NX := Lib.hid (next_any h)
  unfold NextIs at NX
  obtain ⟨wd, hwd⟩ : ∃ wd, wd = ws.headD [] := ⟨_, rfl⟩
  rw [← hwd] at NX hn
  unfold stW at hn
  have h1 : wd ≠ wUsed := fun c => by rw [if_pos c] at hn; cases hn
  rw [if_neg h1] at hn
  have h2 : wd ≠ wMerging := fun c => by rw [if_pos c] at hn; cases hn
  have b1 : ((Om.B wd).toList == ([117, 115, 101, 100] : List UInt8)) = false := b_isnt (q := wUsed) h1
  have b2 : ((Om.B wd).toList == ([109, 101, 114, 103, 105, 110, 103] : List UInt8)) = false := b_isnt (q := wMerging) h2
  clear h hwd h1 h2 hn
  go_enter Tryd.func49, Tryd.ntmps49
  go_wp2_with fail
  refine NX.out.mono ?_
  rintro e w1 ⟨rfl, hw1, hf1⟩
  have HF1 := Lib.hid hf1
  clear hw1 hf1
  go_wp2
  exact ⟨rfl, rfl, HF1.out⟩
end Pd
end Go.Proofs.YtheldnamllnkeaaDoor
