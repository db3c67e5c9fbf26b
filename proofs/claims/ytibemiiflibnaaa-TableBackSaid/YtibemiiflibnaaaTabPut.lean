/- The contracts of firstFree, skip and Put. -/
import Derived.Test.YtibemiiflibnaaaTabStand2
namespace Go.Proofs.Ytibemiiflibnaaa
namespace Tb
open Go.RowKit Dsk Go.Maps
set_option linter.unusedVariables false
set_option maxRecDepth 100000

theorem first_end {w : World} {o : Ob} {n : Nat} {c : List Int} (h : Raw w o n c []) :
    Calls Try.prog 40 #[.pointer (some ⟨o.p, 0, none⟩)] w fun e w' => e = .returned (.int .i64 (c.length : Int)) ∧ w = w' := by
  obtain ⟨_, _, h2, h3, _⟩ := h.reads
  obtain ⟨a, cap, hv⟩ := ints_slice h.chunks
  obtain ⟨ga, gc, hg⟩ := ints_slice h.gaps
  rw [hv] at h2
  rw [hg] at h3
  have h3 : w.cell? ⟨o.p, 3, none⟩ = some (.slice ga 0 gc) := h3
  obtain ⟨L, hL⟩ : ∃ L, L = c.length := ⟨_, rfl⟩
  rw [← hL] at h2 ⊢
  clear hv hg hL h
  go_enter Try.func40, Try.ntmps40
  go_wp2
  go_ret
  exact ⟨rfl, rfl⟩
theorem first_gap {w : World} {o : Ob} {n : Nat} {c g : List Int} (h : Raw w o n c g) (hg : g ≠ []) (hh : Hp.Heap g) (hl : g.length ≤ 1048576) :
    Calls Try.prog 40 #[.pointer (some ⟨o.p, 0, none⟩)] w fun e w' => e = .returned (.int .i64 (Hp.at_ g 0)) ∧ ∃ o' g', Raw w' o' n c g' ∧ Step o o' w w' ∧ (Hp.at_ g 0 :: g').Perm g ∧ Hp.Heap g' := by
  obtain ⟨q, hq⟩ : ∃ q, g.length = q + 1 := ⟨g.length - 1, by have := List.length_pos_iff.2 hg; omega⟩
  have PO := Lib.hid (hpop_any h.gh q hq hh (by omega))
  obtain ⟨_, _, _, h3, _⟩ := h.reads
  obtain ⟨ga, gc, hgv⟩ := ints_slice h.gaps
  rw [hgv, hq] at h3
  have H := Lib.hid h
  have d1 : ((q : Int) + 1 == 0) = false := by simp; omega
  have d2 : (((q + 1 : Nat) : Int) == 0) = false := by simp; omega
  obtain ⟨x, hx⟩ : ∃ x, x = Hp.at_ g 0 := ⟨_, rfl⟩
  rw [← hx] at PO ⊢
  have hta := assert_int x
  clear h hg hh hl hq hgv hx
  go_enter Try.func40, Try.ntmps40
  go_wp2_with (go_at_call 46; refine PO.out.mono ?_; rintro e w1 ⟨rfl, g1, gv1, h1, hp1, hh1, hs1⟩; have H1 := Lib.hid h1; have HP1 := Lib.hid hp1; have HH1 := Lib.hid hh1; have HS1 := Lib.hid hs1; clear h1 hp1 hh1 hs1)
  go_ret
  obtain ⟨r1, s1⟩ := H.out.gs H1.out HS1.out
  exact ⟨rfl, _, g1, r1, s1, HP1.out, HH1.out⟩

/-- One more free place: the facts for the walk, behind the append. -/
theorem Raw.grow {w : World} {o : Ob} {n : Nat} {c g : List Int} (h : Raw w o n c g) {a : Option Addr} {L cap : Nat} (hv : o.cv = .slice a L cap) (hL : L = c.length) {b' cap' : Nat} {w2 : World} (ha : GApp (w.alloc (.cells #[.int .i64 (-1)] 3)) (.slice a L cap) c (-1) b' cap' w2) :
    w2.cell? ⟨o.p, 2, none⟩ = some (.slice a L cap) ∧ w2.frozen? ⟨o.p, 2, none⟩ = false ∧
    Raw (w2.setCell ⟨o.p, 2, none⟩ (.slice (some ⟨b', 0, none⟩) (L + 1) cap')) { o with cv := .slice (some ⟨b', 0, none⟩) (L + 1) cap' } n (c ++ [-1]) g ∧
    Step o { o with cv := .slice (some ⟨b', 0, none⟩) (L + 1) cap' } w (w2.setCell ⟨o.p, 2, none⟩ (.slice (some ⟨b', 0, none⟩) (L + 1) cap')) := by
  have hal : Below w.heap.size w (w.alloc (.cells #[.int .i64 (-1)] 3)) := (Below.refl _ _).alloc (Nat.le_refl _) _
  have RA := h.below hal
  have ha' : GApp (w.alloc (.cells #[.int .i64 (-1)] 3)) o.cv c (-1) b' cap' w2 := by rw [hv]; exact ha
  obtain ⟨R1, S1⟩ := RA.more ha'
  have hh := (ha'.fr.block o.p (RA.lt _ (.inl rfl)) RA.p_ne.2.1).trans RA.head
  rw [← hL] at R1 S1
  exact ⟨by rw [cell_of_row _ _ _ _ _ _ hh, hv]; rfl, frozen_of_row _ _ _ _ _ hh, R1, (Step.of_below hal).trans S1⟩
theorem Raw.own {w : World} {o : Ob} {n : Nat} {c g : List Int} (h : Raw w o n c g) {a : Option Addr} {L cap : Nat} (hv : o.cv = .slice a L cap) (hL : L = c.length) : (w.alloc (.cells #[.int .i64 (-1)] 3)).ownsRow 0 3 1 (.slice a L cap) L (nums c) := by
  have hal : Below w.heap.size w (w.alloc (.cells #[.int .i64 (-1)] 3)) := (Below.refl _ _).alloc (Nat.le_refl _) _
  have := (h.below hal).chunks
  rw [hv] at this
  subst hL
  exact this
/-- Behind the gap was told: a table again. -/
theorem Raw.told {w w' : World} {o : Ob} {n : Nat} {c g g' : List Int} {gv' : Value} (h : Raw w o n (c ++ [-1]) g) (hpr : Pr n c g) (hc : c.length < n) (hg : Gh w' o.p (.int .i64 (n : Int)) (.map (some o.mb)) o.cv gv' g') (hs : Gs o.p o.gv gv' w w') (hp : g'.Perm (g ++ [(c.length : Int)])) (hh : Hp.Heap g') :
    Tk w' { o with gv := gv' } n (c ++ [-1]) g' ∧ Step o { o with gv := gv' } w w' := by
  obtain ⟨r, s⟩ := h.gs hg hs
  exact ⟨r.tk (hpr.more hc hp hh), s⟩

set_option maxHeartbeats 1000000 in
theorem skip_any {w : World} {o : Ob} {n : Nat} {c g : List Int} (h : Tk w o n c g) (i : Nat) (hi : i ≤ n) :
    Calls Try.prog 32 #[.pointer (some ⟨o.p, 0, none⟩), .int .i64 (i : Int)] w fun e w' => e = .returned (.tuple #[]) ∧ ∃ g', Went o n (c ++ List.replicate (i - c.length) (-1)) g' w w' := by
  have hn := h.pr.few
  have hlen := h.pr.len
  obtain ⟨_, _, h2, _, _⟩ := h.reads
  obtain ⟨a, cap, hv⟩ := ints_slice h.chunks
  rw [hv] at h2
  have H := Lib.hid h
  obtain ⟨L, hL⟩ : ∃ L, L = c.length := ⟨_, rfl⟩
  rw [← hL] at h2 hlen
  have HL := Lib.hid hL
  rw [← hL]
  clear h hL hv
  go_enter Try.func32, Try.ntmps32
  go_wp2
  go_loopw [4] (fun v wr => ∃ (k : Nat) (o' : Ob) (g' : List Int), v = .int .i64 (k : Int) ∧ Hid (Tk wr o' n (c ++ List.replicate (k - L) (-1)) g') ∧ Hid (Step o o' w wr) ∧ L ≤ k ∧ (k ≤ i ∨ k = L)) (fun v _ => i - (Lib.intOf v).toNat)
  case atStart => exact ⟨L, o, g, rfl, by rw [Nat.sub_self]; simpa using H, Lib.hid (Step.refl _ _), Nat.le_refl _, .inr rfl⟩
  case round =>
    obtain ⟨k, o', g', rfl, ht, hs, hLk, hk⟩ := hrel
    obtain ⟨c', hc'⟩ : ∃ c', c' = c ++ List.replicate (k - L) (-1) := ⟨_, rfl⟩
    rw [← hc'] at ht
    have hkc : k = c'.length := by have := HL.out; rw [hc']; simp; omega
    by_cases hlt : k < i
    · have d1 : decide ((k : Int) < (i : Int)) = true := by simp; omega
      have d2 : decide (k < i) = true := by simp; omega
      obtain ⟨_, _, r2, _, _⟩ := ht.out.reads
      obtain ⟨a', cap', hv'⟩ := ints_slice ht.out.chunks
      rw [hv', ← hkc] at r2
      rw [← hkc] at hv'
      have OWN := Lib.hid (ht.out.raw.own hv' hkc)
      have HV := Lib.hid hv'
      have HKC := Lib.hid hkc
      have HC := Lib.hid hc'
      have hp := hs.out.p
      rw [hp] at r2
      have hgl := ht.out.pr.glen
      rw [← hkc] at hgl
      have hw1 : IntKind.i64.wrap ((k : Int) + 1) = ((k + 1 : Nat) : Int) := by rw [IntWalk.i64_in _ (by omega)]; rfl
      have HP := Lib.hid hp
      clear hv' hkc hc' hp
      go_wp2_with (first
        | (at_builtin; refine wpList_add rfl (.tmp 19) (.tmp 20) 26 Try.underlying26 rfl (.slice a' k cap') k c' rfl HKC.out (by omega) OWN.out wr.heap.size (-1) rfl (by simp) ?_; intro b2 cap2 w2 ha; obtain ⟨q1, q2, hr1, hs1⟩ := ht.out.raw.grow HV.out HKC.out ha; rw [HP.out] at q1 q2 hr1 hs1; have R1 := Lib.hid hr1; have S1 := Lib.hid hs1; have PU := Lib.hid (hpush_any hr1.gh (k : Int) ht.out.pr.heap (by omega)); clear ha hr1 hs1 OWN)
        | (go_at_call 41; refine PU.out.mono ?_; rintro e w3 ⟨rfl, g3, gv3, h3, hp3, hh3, hs3⟩; have H3 := Lib.hid h3; have HP3 := Lib.hid hp3; have HH3 := Lib.hid hh3; have HS3 := Lib.hid hs3; clear h3 hp3 hh3 hs3))
      go_roundw
      case rel =>
        obtain ⟨t3, s3⟩ := R1.out.told ht.out.pr (by have := HKC.out; omega) H3.out HS3.out (by rw [← HKC.out]; exact HP3.out) HH3.out
        refine ⟨k + 1, _, g3, rfl, Lib.hid ?_, Lib.hid (hs.out.trans (S1.out.trans s3)), by omega, .inl (by omega)⟩
        rw [show c ++ List.replicate (k + 1 - L) (-1) = c' ++ [-1] by rw [HC.out, show k + 1 - L = (k - L) + 1 by omega, List.replicate_succ', List.append_assoc]]
        exact t3
      case measure => simp [Lib.intOf]; omega
    · have d1 : decide ((k : Int) < (i : Int)) = false := by simp; omega
      have d2 : decide (k < i) = false := by simp; omega
      have hki : k - L = i - L := by omega
      rw [hki] at hc'
      clear hkc
      go_wp2
      go_end0
      exact ⟨rfl, g', o', by rw [← hc']; exact ht.out, hs.out⟩
end Tb
end Go.Proofs.Ytibemiiflibnaaa
