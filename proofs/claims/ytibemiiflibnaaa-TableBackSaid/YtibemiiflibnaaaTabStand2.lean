/- The walks of stand, firstFree and skip. -/
import Derived.Test.YtibemiiflibnaaaTabStand
namespace Go.Proofs.Ytibemiiflibnaaa
namespace Tb
open Go.RowKit Dsk Go.Maps
set_option linter.unusedVariables false
set_option maxRecDepth 100000

theorem elem_int (a : Int) (h : (Lit.int .i64 a).wf = true) : plainElem (H := Unit) Try.prog 3 (.int .i64 a) = some (.lit (.int .i64 a), []) := plainElem_int Try.underlying3 h
theorem wf_nat (i : Nat) (h : i ≤ 4611686018427387904) : (Lit.int .i64 (i : Int)).wf = true := by
  simp [Lit.wf, IntKind.min, IntKind.max, IntKind.signed, IntKind.bits]
  omega

set_option maxHeartbeats 1000000 in
/-- A chunk at a free place that is told already. -/
theorem stand_in {w : World} {o : Ob} {n : Nat} {c g : List Int} (h : Raw w o n c g) (i : Nat) (k : Int) (hi : c[i]? = some (-1)) (h0 : 0 ≤ k) (hk : k ∉ c) (hwf : (Lit.int .i64 k).wf = true) (hnd : (used c).Nodup) (hfew : c.length ≤ 1048576) :
    Calls Try.prog 33 #[.pointer (some ⟨o.p, 0, none⟩), .int .i64 (i : Int), .int .i64 k] w fun e w' => e = .returned (.tuple #[]) ∧ Raw w' o n (c.set i k) g ∧ Step o o w w' := by
  have hil := (List.getElem?_eq_some_iff.1 hi).1
  obtain ⟨a, cap, hv⟩ := ints_slice h.chunks
  obtain ⟨b, rfl⟩ := ints_some (a := a) (c := cap) (l := c) (by rw [← hv]; exact h.chunks) (by omega)
  obtain ⟨hc, hf, hm, D, hD, hle, hfin⟩ := h.placed hv hi h0 hk hnd
  obtain ⟨_, h1, h2, _, _⟩ := h.reads
  rw [hv] at h2
  have HD := Lib.hid hD
  have HF := Lib.hid hfin
  have hKEY : Hid (keyOf Try.prog 3 (.int .i64 k) = some (.int .i64 k)) := Lib.hid (int_key k hwf)
  have hEL := Lib.hid (elem_int (i : Int) (wf_nat i (by omega)))
  obtain ⟨L, hL⟩ : ∃ L, L = c.length := ⟨_, rfl⟩
  rw [← hL] at h2 hil hfew hle
  have d1 : ((i : Int) == (L : Int)) = false := by simp; omega
  have d2 : (i == L) = false := by simp; omega
  clear h hv hi hk hwf hnd hD hfin hL
  go_enter Try.func33, Try.ntmps33
  go_wp2_with (at_mapUpdate; refine wpList_mapUpdate_in _ rfl _ _ _ 57 rfl 3 3 int_law Try.underlying57 _ o.mb (Maps.size D) D rfl HD.out (by unfold maxLen; omega) _ _ (.int .i64 k) rfl rfl hKEY.out _ _ hEL.out ?_; intro w3 ho3 ht3; have FIN := Lib.hid (HF.out w3 ho3 ht3); clear ho3 ht3)
  go_end0
  exact ⟨rfl, FIN.out⟩
set_option maxHeartbeats 1000000 in
/-- A chunk just behind those that are told. -/
theorem stand_end {w : World} {o : Ob} {n : Nat} {c g : List Int} (h : Raw w o n c g) (k : Int) (h0 : 0 ≤ k) (hk : k ∉ c) (hwf : (Lit.int .i64 k).wf = true) (hnd : (used c).Nodup) (hfew : c.length ≤ 1048576) :
    Calls Try.prog 33 #[.pointer (some ⟨o.p, 0, none⟩), .int .i64 (c.length : Int), .int .i64 k] w fun e w' => e = .returned (.tuple #[]) ∧ ∃ o', Raw w' o' n (c ++ [k]) g ∧ Step o o' w w' := by
  obtain ⟨a, cap, hv⟩ := ints_slice h.chunks
  obtain ⟨_, h1, h2, _, hf2⟩ := h.reads
  rw [hv] at h2
  have hKEY : Hid (keyOf Try.prog 3 (.int .i64 k) = some (.int .i64 k)) := Lib.hid (int_key k hwf)
  have hEL := Lib.hid (elem_int (c.length : Int) (wf_nat c.length (by omega)))
  obtain ⟨L, hL⟩ : ∃ L, L = c.length := ⟨_, rfl⟩
  have H := Lib.hid h
  have HV := Lib.hid hv
  have hs2 : ∀ j, w.frozen? ⟨o.p, j, none⟩ = false := hf2
  have hal : Below w.heap.size w (w.alloc (.cells #[.int .i64 (-1)] 3)) := (Below.refl _ _).alloc (Nat.le_refl _) _
  have OWN : Hid ((w.alloc (.cells #[.int .i64 (-1)] 3)).ownsRow 0 3 1 (.slice a L cap) L (nums c)) := Lib.hid (by
    have := (h.below hal).chunks
    rw [hv, ← hL] at this
    show World.ownsRow _ _ _ _ _ _ _
    rw [hL] at this ⊢
    exact this)
  have RA := Lib.hid (h.below hal)
  have HAL := Lib.hid hal
  have fin : ∀ b' cap' w2, GApp (w.alloc (.cells #[.int .i64 (-1)] 3)) (.slice a L cap) c (-1) b' cap' w2 →
      let V := Value.slice (some ⟨b', 0, none⟩) (L + 1) cap'
      let W1 := w2.setCell ⟨o.p, 2, none⟩ V
      w2.cell? ⟨o.p, 2, none⟩ = some (.slice a L cap) ∧ w2.frozen? ⟨o.p, 2, none⟩ = false ∧ W1.cell? ⟨o.p, 2, none⟩ = some V ∧ W1.cell? ⟨b', L, none⟩ = some (.int .i64 (-1)) ∧ W1.frozen? ⟨b', L, none⟩ = false ∧ (W1.setCell ⟨b', L, none⟩ (.int .i64 k)).cell? ⟨o.p, 1, none⟩ = some (.map (some o.mb)) ∧
      ∃ D, (W1.setCell ⟨b', L, none⟩ (.int .i64 k)).ownsMap Try.prog 3 (plainElem (H := Unit) Try.prog 3) o.mb (Maps.size D) D ∧ Maps.size D < maxLen ∧
        Hid (∀ w3, w3.ownsMap Try.prog 3 (plainElem (H := Unit) Try.prog 3) o.mb (Maps.size D + 1) (D.put (.int .i64 k) (.lit (.int .i64 (L : Int)))) → (W1.setCell ⟨b', L, none⟩ (.int .i64 k)).mapTurned w3 o.mb → ∃ o', Raw w3 o' n (c ++ [k]) g ∧ Step o o' w w3) := by
    intro b' cap' w2 ha V W1
    rw [hL] at ha
    have ha' : GApp (w.alloc (.cells #[.int .i64 (-1)] 3)) o.cv c (-1) b' cap' w2 := by rw [hv]; exact ha
    obtain ⟨R1, S1⟩ := RA.out.more ha'
    have hh := (ha'.fr.block o.p (RA.out.lt _ (.inl rfl)) RA.out.p_ne.2.1).trans RA.out.head
    have hu : used (c ++ [-1]) = used c := by simp [used]
    obtain ⟨hc, hf, hm, D, hD, hle, hfin⟩ := R1.placed (i := c.length) (b := b') (cap := cap') (by simp) (by simp) h0 (by simp [hk]; omega) (by rw [hu]; exact hnd)
    have hr := R1.reads.2.2.1
    have hVe : V = .slice (some ⟨b', 0, none⟩) (c.length + 1) cap' := by show Value.slice _ (L + 1) _ = _; rw [hL]
    have hWe : W1 = w2.setCell ⟨o.p, 2, none⟩ (.slice (some ⟨b', 0, none⟩) (c.length + 1) cap') := by show w2.setCell _ V = _; rw [hVe]
    rw [hWe, hVe, hL]
    refine ⟨by rw [cell_of_row _ _ _ _ _ _ hh, hv]; rfl, frozen_of_row _ _ _ _ _ hh, hr, hc, hf, hm, D, hD, by unfold maxLen; simp at hle; omega, Lib.hid fun w3 ho3 ht3 => ?_⟩
    obtain ⟨R3, S3⟩ := hfin w3 ho3 ht3
    have eset : (c ++ [-1]).set c.length k = c ++ [k] := by rw [List.set_append_right _ _ (Nat.le_refl _)]; simp
    rw [eset] at R3
    exact ⟨_, R3, (Step.of_below HAL.out).trans (S1.trans S3)⟩
  have FIN := Lib.hid fin
  have HL := Lib.hid hL
  have hcl : w.alloc (.cells #[.int .i64 (-1)] 3) = w.alloc (.cells #[.int .i64 (-1)] 3) := rfl
  rw [← hL] at hfew ⊢
  rw [← hL] at h2
  rw [← hL] at hEL
  have d1 : ((L : Int) == (L : Int)) = true := by simp
  have d2 : (L == L) = true := by simp
  have l1 : L < L + 1 := by omega
  clear h hv hk hwf hnd hL fin hal hcl hf2
  go_enter Try.func33, Try.ntmps33
  go_wp2_with (first
    | (at_builtin; refine wpList_add rfl (.tmp 17) (.tmp 18) 26 Try.underlying26 rfl (.slice a L cap) L c rfl HL.out (by omega) OWN.out w.heap.size (-1) rfl (by simp) ?_; intro b' cap' w2 ha; obtain ⟨q1, q2, q3, q4, q5, q6, D, hD, hle, hfin⟩ := FIN.out b' cap' w2 ha; have HD := Lib.hid hD; clear hD ha FIN OWN)
    | (at_mapUpdate; refine wpList_mapUpdate_in _ rfl _ _ _ 57 rfl 3 3 int_law Try.underlying57 _ o.mb (Maps.size D) D rfl HD.out hle _ _ (.int .i64 k) rfl rfl hKEY.out _ _ hEL.out ?_; intro w3 ho3 ht3; have F3 := Lib.hid (hfin.out w3 ho3 ht3); clear ho3 ht3))
  go_end0
  exact ⟨rfl, F3.out⟩
end Tb
end Go.Proofs.Ytibemiiflibnaaa
