/- The live question of the table's laws. -/
import Derived.Test.YtibemiiflibnaaaTabSame2
import Derived.Test.YtibemiiflibnaaaTabNew
namespace Go.Proofs.Ytibemiiflibnaaa
namespace Tb
open Go.RowKit Dsk Go.Maps
set_option linter.unusedVariables false
set_option maxRecDepth 100000

/-- A table of one's own, in blocks that are new since w. -/
def Live (w : World) (P : Nat) (m : List Int) (wr : World) : Prop := ∃ o, o.p = P ∧ Tm wr o m ∧ (∀ k, o.fp k → w.heap.size ≤ k) ∧ Below w.heap.size w wr
theorem Live.went {w wr w2 : World} {o : Ob} {m' : List Int} (hn : ∀ k, o.fp k → w.heap.size ≤ k) (hb : Below w.heap.size w wr) (h : WentM o m' wr w2) : Live w o.p m' w2 := by
  obtain ⟨o', ht, hs⟩ := h
  obtain ⟨b1, b2⟩ := hs.below hb.size hn
  exact ⟨o', hs.p, ht, b2, hb.trans b1⟩
theorem Live.next {w wr w2 : World} {P : Nat} {m : List Int} (h : Live w P m wr) (hb : Below wr.heap.size wr w2) : Live w P m w2 := by
  obtain ⟨o, h1, h2, h3, h4⟩ := h
  exact ⟨o, h1, h2.below hb, h3, h4.trans (hb.mono h4.size)⟩
theorem Live.put {w wr : World} {P : Nat} {m : List Int} (h : Live w P m wr) (k : Int) (hk : (Lit.int .i64 k).wf = true) {m' : List Int} {x e : Int} (hp : put m k = (m', x, e)) :
    Calls Try.prog 16 #[.pointer (some ⟨P, 0, none⟩), .int .i64 k] wr fun en w' => en = .returned (.tuple #[.int .i64 x, .int .i64 e]) ∧ Live w P m' w' := by
  obtain ⟨o, rfl, h2, h3, h4⟩ := h
  refine (put_any h2 k hk).mono ?_
  rintro en w' ⟨rfl, hw⟩
  rw [hp] at hw
  exact ⟨by rw [hp], Live.went h3 h4 hw⟩
theorem Live.drop {w wr : World} {P : Nat} {m : List Int} (h : Live w P m wr) (k : Int) (hk : (Lit.int .i64 k).wf = true) {m' : List Int} {x e : Int} (hp : drop m k = (m', x, e)) :
    Calls Try.prog 18 #[.pointer (some ⟨P, 0, none⟩), .int .i64 k] wr fun en w' => en = .returned (.tuple #[.int .i64 x, .int .i64 e]) ∧ Live w P m' w' := by
  obtain ⟨o, rfl, h2, h3, h4⟩ := h
  refine (drop_any h2 k hk).mono ?_
  rintro en w' ⟨rfl, hw⟩
  rw [hp] at hw
  exact ⟨by rw [hp], Live.went h3 h4 hw⟩
theorem keys4 : keys [9, 5, -1] = [5, 9] := by
  have h : (used [9, 5, -1]).Perm [5, 9] := List.Perm.swap _ _ _
  have e : ([5, 9] : List Int).mergeSort leI = [5, 9] := List.mergeSort_of_pairwise (by simp)
  exact (mergeSort_of_perm_i h).trans e
theorem all4 : all [9, 5, -1] = [(5, 1), (9, 0)] := by unfold all; rw [keys4]; rfl

/-- The row of exceptions lies apart from the table. -/
def AliveRow (o : Ob) (a : Option Addr) (w : World) : Prop := ∃ b, a = some ⟨b, 0, none⟩ ∧ b < w.heap.size ∧ ¬ o.fp b ∧ w.cell? ⟨b, 0, none⟩ = some (.int .i64 5) ∧ w.cell? ⟨b, 1, none⟩ = some (.int .i64 1)
theorem alive_row {w5 w6 : World} {o : Ob} {a : Option Addr} {c : Nat} (h : Ents w6 (.slice a [((5 : Int), (1 : Int)), (9, 0)].length c) [(5, 1), (9, 0)]) (hn : ∀ k, (Value.slice a [((5 : Int), (1 : Int)), (9, 0)].length c).ownBlock = some k → w5.heap.size ≤ k) (ht : Tm w5 o [9, 5, -1]) : AliveRow o a w6 := by
  obtain ⟨b, rfl, hlt, c0, c1⟩ := ents_cell h 0 (by decide)
  refine ⟨b, rfl, hlt, fun hf => ?_, c0, c1⟩
  have h1 := ht.lt b hf
  have h2 := hn b rfl
  omega
theorem alive_drop {w w6 : World} {o : Ob} {P : Nat} {a : Option Addr} (ht : Tm w6 o [9, 5, -1]) (hk : (Lit.int .i64 7).wf = true) (hn : ∀ k, o.fp k → w.heap.size ≤ k) (hb : Below w.heap.size w w6) (hp : o.p = P) (hr : AliveRow o a w6) :
    Calls Try.prog 18 #[.pointer (some ⟨P, 0, none⟩), .int .i64 7] w6 fun e w' => e = .returned (.tuple #[.int .i64 0, .int .i64 161]) ∧ (∃ b, a = some ⟨b, 0, none⟩ ∧ w'.cell? ⟨b, 0, none⟩ = some (.int .i64 5) ∧ w'.cell? ⟨b, 1, none⟩ = some (.int .i64 1)) ∧ Below w.heap.size w w' ∧
      Calls Try.prog 21 #[.pointer (some ⟨P, 0, none⟩)] w' fun e w2 => e = .returned (.int .i64 1) ∧ Below w'.heap.size w' w2 := by
  subst hp
  obtain ⟨b, rfl, hlt, hnf, c0, c1⟩ := hr
  refine (drop_any ht 7 hk).mono ?_
  rintro e w' ⟨rfl, o', t', s'⟩
  have hd : drop [9, 5, -1] 7 = ([9, 5, -1], 0, 161) := rfl
  rw [hd] at t' ⊢
  have hblk := s'.fr.block b hlt hnf
  refine ⟨rfl, ⟨b, rfl, (World.cell?_of_block (w := w6) (a := ⟨b, 0, none⟩) hblk).trans c0, (World.cell?_of_block (w := w6) (a := ⟨b, 1, none⟩) hblk).trans c1⟩, hb.trans (s'.below hb.size hn).1, ?_⟩
  have := left_any t'
  rw [s'.p] at this
  exact this
set_option maxHeartbeats 2000000 in
theorem alive_yes (w : World) : Calls Try.prog 6 #[] w fun e w' => e = .returned (.bool true) ∧ Below w.heap.size w w' := by
  have NW := Lib.hid (new_any 3 w)
  have wf7 : (Lit.int .i64 7).wf = true := by decide
  have wf5 : (Lit.int .i64 5).wf = true := by decide
  have wf9 : (Lit.int .i64 9).wf = true := by decide
  have W7 := Lib.hid wf7
  have W5 := Lib.hid wf5
  have W9 := Lib.hid wf9
  clear wf7 wf5 wf9
  go_enter Try.func6, Try.ntmps6
  go_wp2_with (first
    | (go_at_call 7; refine NW.out.mono ?_; rintro e w1 ⟨⟨o, rfl, h1, h2⟩, h3⟩; have L1 : Hid (Live w o.p [-1, -1, -1] w1) := Lib.hid ⟨o, rfl, h1, h2, h3⟩; have P1 := Lib.hid (L1.out.put 7 W7.out (m' := [7, -1, -1]) (x := 0) (e := 0) rfl); clear h1 h2 h3)
    | (go_at_call 16; refine P1.out.mono ?_; rintro e w2 ⟨rfl, h2⟩; have L2 := Lib.hid h2; have P2 := Lib.hid (L2.out.put 5 W5.out (m' := [7, 5, -1]) (x := 1) (e := 0) rfl); clear P1 h2)
    | (go_at_call 16; refine P2.out.mono ?_; rintro e w3 ⟨rfl, h3⟩; have L3 := Lib.hid h3; have D3 := Lib.hid (L3.out.drop 7 W7.out (m' := [-1, 5, -1]) (x := 0) (e := 0) rfl); clear P2 h3)
    | (go_at_call 18; refine D3.out.mono ?_; rintro e w4 ⟨rfl, h4⟩; have L4 := Lib.hid h4; have P4 := Lib.hid (L4.out.put 9 W9.out (m' := [9, 5, -1]) (x := 0) (e := 0) rfl); clear D3 h4)
    | (go_at_call 16; refine P4.out.mono ?_; rintro e w5 ⟨rfl, h5⟩; obtain ⟨o5, hp5, t5, n5, b5⟩ := h5; have AL := Lib.hid (all_any t5); rw [hp5, all4] at AL; have T5 := Lib.hid t5; have HP5 := Lib.hid hp5; have N5 := Lib.hid n5; have B5 := Lib.hid b5; clear P4 t5 hp5 n5 b5)
    | (go_at_call 22; refine AL.out.mono ?_; rintro e w6 ⟨v6, rfl, h6, n6, b6⟩; have T6 := Lib.hid (T5.out.below b6); have B6 := Lib.hid (B5.out.trans (b6.mono B5.out.size)); obtain ⟨a6, c6, hv6⟩ := ents_slice h6; subst hv6; have ROW := Lib.hid (alive_row h6 n6 T5.out); have FI := Lib.hid (find_any T6.out 7 W7.out); rw [HP5.out] at FI; clear AL h6 n6 b6)
    | (go_at_call 17; refine FI.out.mono ?_; rintro e w' ⟨rfl, rfl⟩; have D6 := Lib.hid (alive_drop T6.out W7.out N5.out B6.out HP5.out ROW.out); clear FI)
    | (go_at_call 18; refine D6.out.mono ?_; rintro e w7 ⟨rfl, ⟨b, ha, c0, c1⟩, hb7, hlf⟩; subst ha; have LF := Lib.hid hlf; have B7 := Lib.hid hb7; clear D6 hlf hb7 ROW)
    | (go_at_call 21; refine LF.out.mono ?_; rintro e w8 ⟨rfl, h8⟩; have B8 := Lib.hid (B7.out.trans (h8.mono B7.out.size)); clear LF h8))
  go_ret
  exact ⟨rfl, B8.out⟩
end Tb
end Go.Proofs.Ytibemiiflibnaaa
