/- container/heap's Push and Pop at gaps. -/
import Derived.Test.YtibemiiflibnaaaTabHeap
namespace Go.Proofs.Ytibemiiflibnaaa
namespace Tb
open Go.RowKit Dsk
set_option linter.unusedVariables false
set_option maxRecDepth 100000

/-- container/heap.Push at gaps. -/
theorem hpush_any {w : World} {p : Nat} {v0 v1 v2 gv : Value} {g : List Int} (h : Gh w p v0 v1 v2 gv g) (x : Int) (hh : Hp.Heap g) (hg : g.length ≤ 1048576) :
    Calls Try.prog 41 #[.iface 70 (.pointer (some ⟨p, 3, none⟩)), .iface 3 (.int .i64 x)] w fun e w' => e = .returned (.tuple #[]) ∧ ∃ g' gv', Gh w' p v0 v1 v2 gv' g' ∧ g'.Perm (g ++ [x]) ∧ Hp.Heap g' ∧ Gs p gv gv' w w' := by
  have C1 := Lib.hid (gap_push h x hg)
  have hm := lead_push
  have H := Lib.hid h
  have HH := Lib.hid hh
  obtain ⟨n, hn⟩ : ∃ n, n = g.length := ⟨_, rfl⟩
  have hn1 : n ≤ 1048576 := by omega
  have k2 : IntKind.i64.wrap (((n + 1 : Nat) : Int) - 1) = (n : Int) := by rw [IntWalk.i64_in _ (by omega)]; omega
  have HN := Lib.hid hn
  clear h hh hn
  go_enter Try.func41, Try.ntmps41
  go_wp2_with (first
    | (go_at_call 96; refine C1.out.mono ?_; rintro e w1 ⟨rfl, gv1, h1, hs1⟩; have H1 := Lib.hid h1; have S1 := Lib.hid hs1; obtain ⟨a, c, hav⟩ := ints_slice h1.row; rw [List.length_append, List.length_singleton, ← HN.out] at hav; subst hav; have hm1 := fun F => lead_len F w1 h1.cell; have UP := Lib.hid (up_any h1 n (by have := Hp.up_start HH.out x; rw [← HN.out] at this; exact this) (by simp; omega)); clear h1 hs1 hm C1)
    | (go_at_call 92; refine (gap_len _ _ _).mono ?_; rintro e w2 ⟨rfl, rfl⟩)
    | (go_at_call 47; refine UP.out.mono ?_; rintro e w2 ⟨rfl, g2, ht2, hh2⟩; have T2 := Lib.hid ht2; have HH2 := Lib.hid hh2; clear ht2 hh2))
  go_end0
  obtain ⟨a1, a2, a3⟩ := T2.out
  exact ⟨rfl, g2, _, a1, a2, HH2.out, S1.out.trans a3 H.out.lt⟩
theorem pop_swap {w w1 : World} {p : Nat} {v0 v1 v2 : Value} {a : Option Addr} {c n : Nat} {g : List Int} (h : Gh w p v0 v1 v2 (.slice a g.length c) g) (hn : g.length = n + 1) (hi : Ints w1 (.slice a (n + 1) c) (Hp.swap g 0 n)) (hf : Fr (fun k => (Value.slice a (n + 1) c).ownBlock = some k) w w1) :
    Turned p v0 v1 v2 (.slice a (n + 1) c) g (Hp.swap g 0 n) w w1 := by
  rw [hn] at h
  have h0 : Turned p v0 v1 v2 (.slice a (n + 1) c) g g w w := ⟨h, List.Perm.refl _, Gs.refl _ _ _⟩
  exact h0.swap 0 n (by omega) (by omega) hi hf
theorem pop_first {g g2 : List Int} {n : Nat} (hn : g.length = n + 1) (h : Hp.at_ g2 n = Hp.at_ (Hp.swap g 0 n) n) : Hp.at_ g2 n = Hp.at_ g 0 := by
  rw [h, Hp.at_swap _ _ _ _ (by omega) (by omega), if_pos rfl]
theorem pop_length {w w1 w2 : World} {p : Nat} {v0 v1 v2 gv : Value} {n : Nat} {g g1 g2 : List Int} (hn : g.length = n + 1) (h1 : Turned p v0 v1 v2 gv g g1 w w1) (h2 : Turned p v0 v1 v2 gv g1 g2 w1 w2) : g2.length = n + 1 := by
  rw [h2.2.1.length_eq, h1.2.1.length_eq, hn]
/-- container/heap.Pop at gaps: the least of them. -/
theorem hpop_any {w : World} {p : Nat} {v0 v1 v2 gv : Value} {g : List Int} (h : Gh w p v0 v1 v2 gv g) (n : Nat) (hn : g.length = n + 1) (hh : Hp.Heap g) (hg : n + 1 ≤ 1048576) :
    Calls Try.prog 46 #[.iface 70 (.pointer (some ⟨p, 3, none⟩))] w fun e w' => e = .returned (.iface 3 (.int .i64 (Hp.at_ g 0))) ∧ ∃ g' gv', Gh w' p v0 v1 v2 gv' g' ∧ (Hp.at_ g 0 :: g').Perm g ∧ Hp.Heap g' ∧ Gs p gv gv' w w' := by
  obtain ⟨a, c, rfl⟩ := ints_slice h.row
  have hm := fun F => lead_len F w h.cell
  have hm0 := fun F => lead_swap F w h.cell
  have SW := Lib.hid (gap_swap h.row 0 n (by omega) (by omega) (by omega))
  have H := Lib.hid h
  have HH := Lib.hid hh
  have HN := Lib.hid hn
  rw [hn] at hm hm0 SW
  rw [hn]
  have k2 : IntKind.i64.wrap (((n + 1 : Nat) : Int) - 1) = (n : Int) := by rw [IntWalk.i64_in _ (by omega)]; omega
  clear h hh hn
  go_enter Try.func46, Try.ntmps46
  go_wp2_with (first
    | (go_at_call 92; refine (gap_len _ _ _).mono ?_; rintro e w2 ⟨rfl, rfl⟩)
    | (go_at_call 94; refine SW.out.mono ?_; rintro e w1 ⟨rfl, hi1, hf1⟩; have T1 := Lib.hid (pop_swap H.out HN.out hi1 hf1); clear hi1 hf1 hm hm0; have DN := Lib.hid (down_any T1.out.1 n (Hp.down_start HH.out n HN.out) (by rw [Hp.swap_length, HN.out]; omega)))
    | (go_at_call 52; refine DN.out.mono ?_; rintro e w2 ⟨v, rfl, g2, ht2, hh2, hat2⟩; have T2 := Lib.hid ht2; have HH2 := Lib.hid hh2; have HA2 := Lib.hid (pop_first HN.out (hat2 n (Nat.le_refl _))); have hm2 := lead_pop; have PL := Lib.hid (pop_length HN.out T1.out T2.out); have PP := Lib.hid (gap_pop T2.out.1 n PL.out (by rw [PL.out]; omega)); rw [HA2.out] at PP; clear ht2 hh2 hat2)
    | (go_at_call 95; refine PP.out.mono ?_; rintro e w3 ⟨rfl, gv3, h3, hs3⟩; have H3 := Lib.hid h3; have S3 := Lib.hid hs3; clear h3 hs3))
  go_ret
  refine ⟨rfl, g2.take n, gv3, H3.out, ?_, Hp.heap_take HH2.out (by rw [PL.out]; omega), (T1.out.2.2.trans T2.out.2.2 H.out.lt).trans S3.out H.out.lt⟩
  have e := Hp.take_last PL.out
  rw [HA2.out] at e
  have hp : g2.Perm g := T2.out.2.1.trans T1.out.2.1
  rw [e] at hp
  exact (List.perm_append_comm (l₁ := [Hp.at_ g 0]) (l₂ := g2.take n)).trans hp
end Tb
end Go.Proofs.Ytibemiiflibnaaa
