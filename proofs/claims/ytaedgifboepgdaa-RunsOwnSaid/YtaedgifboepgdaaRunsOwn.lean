/- What is done to a run changes nothing of the exceptions, nor of what is told again. -/
import Derived.Test.YtaedgifboepgdaaRunAlive
namespace Go.Proofs.Ytaedgifboepgdaa
namespace Rn
open Go.RowKit Dsk Tb
set_option linter.unusedVariables false
set_option maxRecDepth 100000

theorem run_append_noneE (w : World) (ty : TypeId) (b : Option Addr) (k cap c : Nat) (h : k ≤ cap) : (Builtin.append_ #[22, 22] ty #[.slice b k cap, .slice none 0 c]).run Try.prog w = .ok (.slice b k cap) w := by
  have hu := run_underlying (P := Try.prog) (w := w) Try.underlying22
  have hz := Try.sizeOf36 w
  cases b <;> simp [Builtin.append_, hu, hz, Builtin.lenOf, Builtin.firstCells, storeCells, h, go_sem, Result.andThen]
/-- append of a row of exceptions that may be nil. -/
theorem wpList_append_anyE {w : World} {ops : Array Oper} {rest : List Oper} {o : Oper} {a : Act} {Q : Exit → Act → World → Prop} (hg : o.guard = none) (s x : Operand)
    (hop : o.op = .call { callee := .builtin .append, args := #[s, x], argTypes := #[22, 22] }) (base : Nat)
    (v : Value) (k : Nat) (xs : List Value) (hs : a.eval s = v) (hown : w.ownsRow base 36 2 v k xs)
    (pa : Option Addr) (m c : Nat) (z : List E) (hx : a.eval x = .slice pa m c) (hz : m = z.length) (hrow : REnts w pa z)
    (h63 : k + m ≤ maxLen) (hby : (k + m) * 16 ≤ 140737488355328) (hbase : base ≤ w.heap.size)
    (h : ∀ v' w', w'.ownsRow base 36 2 v' (k + m) (xs ++ ecells z) → w.grownBy w' v.ownBlock → wpList Try.prog ops Q rest (a.put o.dst v') w') :
    wpList Try.prog ops Q (o :: rest) a w := by
  obtain ⟨i0, hi, hz0, hz1, hz2⟩ := info_parts info_entry
  have hl := ecells_length z
  rw [← hz] at hl
  cases pa with
  | some ad =>
    refine wpList_append_own w hg s x 22 hop base 36 i0 _ 2 16 Try.underlying22 hi hz0 hz1 hz2 rfl (by decide) v k xs hs hown ad m c (ecells z) hx hl (fun j u hj => ?_) (ecells_one z) h63 hby hbase fun v' w' h1 h2 _ => h v' w' h1 h2
    by_cases hn : z = []
    · subst hn; simp [ecells] at hj
    · obtain ⟨b, off, e, _, hc⟩ := ents_news hrow hn
      injection e with e
      subst e
      rw [Addr.add_lit]
      exact hc j u hj
  | none =>
    have hn : z = [] := by
      by_cases hn : z = []
      · exact hn
      · obtain ⟨_, _, e, _⟩ := hrow hn; cases e
    subst hn
    obtain rfl : m = 0 := hz
    obtain ⟨b, cap, rfl, hk⟩ : ∃ b cap, v = .slice b k cap ∧ k ≤ cap := by
      rcases hown.2 with ⟨h1, h0⟩ | ⟨g, cap, cur, h1, _, _, h2, _⟩
      · exact ⟨none, 0, by rw [h1, h0], by omega⟩
      · exact ⟨_, cap, h1, h2⟩
    have hk' := h _ w (by simpa [ecells] using hown) ⟨rfl, rfl, rfl, Nat.le_refl _, fun _ _ _ => rfl⟩
    refine wpList_plain hg fun K hK => ?_
    have hrun := run_append_noneE w o.type b k cap c hk
    unfold Oper.wp
    simp [execOp, hop, resolve, invoke, builtin, hs, hx, hrun, Result.andThen]
    exact hK _ _ hk'
/-- A run that may be written to. -/
def Shape (w : World) (B : Nat) (u : Value) (n : Nat) : Prop := ∃ g cap cur, u = .slice (some ⟨g, 0, none⟩) n cap ∧ B ≤ g ∧ w.heap[g]? = some (.cells cur 36 (0, 0)) ∧ n * 2 ≤ cur.size
theorem Shape.set {w : World} {B : Nat} {u : Value} {n : Nat} (h : Shape w B u n) (p : Addr) (x : Value) : Shape (w.setCell p x) B u n := by
  obtain ⟨g, cap, cur, h1, h2, h3, h4⟩ := h
  by_cases e : g = p.block
  · have hlt := (Array.getElem?_eq_some_iff.1 h3).1
    refine ⟨g, cap, if p.spot.isSome = true then cur else cur.setIfInBounds p.off x, h1, h2, ?_, by split <;> simpa using h4⟩
    subst e
    show (w.heap.modify p.block _)[p.block]? = _
    rw [Array.getElem?_eq_getElem (by rw [Array.size_modify]; exact hlt), Array.getElem_modify_self, (Array.getElem?_eq_some_iff.1 h3).2]
  · exact ⟨g, cap, cur, h1, h2, (Below.heap_setCell _ _ _ _ e).trans h3, h4⟩
/-- Runs that may be written to. -/
structure Wr (B : Nat) (v : Value) (vs : List Value) (L : List (List E)) (w1 w : World) : Prop where
  out : w.ownsRow B 22 1 v L.length vs
  ins : ∀ (i : Nat) (r : List E), L[i]? = some r → ∃ u, vs[i]? = some u ∧ Shape w B u r.length
  bel : Below B w1 w
theorem Wr.start {B : Nat} {v : Value} {vs : List Value} {L : List (List E)} {w : World} (h : Rows w B v vs L) (hp : ∀ r ∈ L, 1 ≤ r.length) : Wr B v vs L w w := by
  refine ⟨h.out, fun i r hi => ?_, Below.refl _ _⟩
  have hs := h.size
  have hil := (List.getElem?_eq_some_iff.1 hi).1
  obtain ⟨u, hu⟩ : ∃ u, vs[i]? = some u := ⟨_, List.getElem?_eq_getElem (by omega)⟩
  have hr := hp r (List.mem_of_getElem? hi)
  refine ⟨u, hu, ?_⟩
  rcases (h.ins i u r hu hi).2 with ⟨_, h0⟩ | ⟨g, cap, cur, h1, h2, h3, h4, _, h5, _⟩
  · omega
  · exact ⟨g, cap, cur, h1, h2, h3, by omega⟩
theorem Wr.get {B : Nat} {v : Value} {vs : List Value} {L : List (List E)} {w1 w : World} (h : Wr B v vs L w1 w) {i : Nat} {r : List E} (hi : L[i]? = some r) :
    ∃ b c g d, v = .slice (some ⟨b, 0, none⟩) L.length c ∧ w.cell? ⟨b, i, none⟩ = some (.slice (some ⟨g, 0, none⟩) r.length d) ∧ B ≤ g ∧ (∀ j, j < r.length * 2 → ∃ x, w.cell? ⟨g, j, none⟩ = some x) ∧ (∀ j, w.frozen? ⟨g, j, none⟩ = false) ∧ ∃ cur, w.heap[g]? = some (.cells cur 36 (0, 0)) := by
  obtain ⟨u, hu, g, cap, cur, rfl, h2, h3, h4⟩ := h.ins i r hi
  have hil := (List.getElem?_eq_some_iff.1 hi).1
  rcases h.out.2 with ⟨_, h0⟩ | ⟨b, c, curb, rfl, hb, hh, _, _, _, ht⟩
  · omega
  · refine ⟨b, c, g, cap, rfl, ?_, h2, fun j hj => ⟨cur[j]'(by omega), ?_⟩, fun j => frozen_of_row (j := j) _ _ _ _ h3, cur, h3⟩
    · rw [cell_of_row _ _ _ _ _ _ hh, ← Array.getElem?_toList]
      rw [← ht, List.getElem?_take, if_pos (by omega)] at hu
      exact hu
    · rw [cell_of_row _ _ _ _ _ _ h3]
      exact Array.getElem?_eq_getElem _
theorem Wr.set {B : Nat} {v : Value} {vs : List Value} {L : List (List E)} {w1 w : World} (h : Wr B v vs L w1 w) {p : Addr} (hB : B ≤ p.block) {cur : Array Value} (hc : w.heap[p.block]? = some (.cells cur 36 (0, 0))) (x : Value) : Wr B v vs L w1 (w.setCell p x) := by
  refine ⟨own_set h.out (by decide) hc x, fun i r hi => ?_, h.bel.setCell hB x⟩
  obtain ⟨u, hu, hs⟩ := h.ins i r hi
  exact ⟨u, hu, hs.set p x⟩
theorem Wr.put {B : Nat} {v : Value} {vs : List Value} {L : List (List E)} {w1 w : World} (h : Wr B v vs L w1 w) {g : Nat} (hB : B ≤ g) (hc : ∃ cur, w.heap[g]? = some (.cells cur 36 (0, 0))) (i j : Nat) (x y : Value) : Wr B v vs L w1 ((w.setCell ⟨g, i, none⟩ x).setCell ⟨g, j, none⟩ y) := by
  obtain ⟨cur, hc⟩ := hc
  exact (h.set (p := ⟨g, i, none⟩) hB hc x).set (p := ⟨g, j, none⟩) hB (heap_setCell_same _ _ _ _ _ _ hc) y
theorem res_pos {m : Int} {l : List E} : ∀ r ∈ res m l, 1 ≤ r.length := fun r hr => by
  unfold res at hr
  split at hr
  · rename_i h
    exact (told_good (right_iff.1 h).1 l r hr).1
  · cases hr

set_option maxHeartbeats 2000000 in
theorem own_alive {m : Int} {l : List E} {n c : Nat} (h : 100 < n) (a : Option Addr) (w : World) :
    Calls Try.prog 5 #[.int .i64 m, .slice a n c] w fun e w' => e = .returned (.bool true) ∧ Below w.heap.size w w' := by
  have AL := Lib.hid (alive_any w)
  have t1 : decide ((n : Int) > 100) = true := by simp; omega
  have t2 : decide (n > 100) = true := by simp; omega
  clear h
  go_enter Try.func5, Try.ntmps5
  go_wp2_with fail
  refine AL.out.mono ?_
  rintro e w1 ⟨rfl, hb⟩
  go_wp2_with fail
  go_ret
  exact ⟨rfl, hb⟩
set_option maxHeartbeats 4000000 in
theorem own_yes {m : Int} {l : List E} {n c : Nat} (hin : In m l n c) (h : n ≤ 100) (a : Option Addr) (w : World) (hrow : REnts w a l) :
    Calls Try.prog 5 #[.int .i64 m, .slice a n c] w fun e w' => e = .returned (.bool true) ∧ Below w.heap.size w w' := by
  have HX := Lib.hid hrow
  have HIN := Lib.hid hin
  have hll : (res m l).length ≤ 100 := by have := res_len m l; have := hin.len; omega
  have hle : ∀ r ∈ res m l, r.length ≤ 100 := fun r hr => by have := res_each hr; have := hin.len; omega
  have hlp : ∀ r ∈ res m l, 1 ≤ r.length := res_pos
  have K1 : Hid (∀ W, REnts W a l → Calls Try.prog 7 #[.int .i64 m, .slice a n c] W fun e w' => ∃ v vs, e = .returned (.tuple #[v, .int .i64 (err m l)]) ∧ Rows w' W.heap.size v vs (res m l) ∧ Below W.heap.size W w') := fun W hW => of_any hin a W hW
  have K2 : Hid (∀ (W : World) (q : Option Addr) (d : Nat), n ≤ d → REnts W q l → Calls Try.prog 8 #[.int .i64 m, .slice q n d] W fun e w' => ∃ v vs, e = .returned (.tuple #[v, .int .i64 (err m l)]) ∧ Rows w' W.heap.size v vs (res m l) ∧ Below W.heap.size W w') := fun W q d hd hW => rof_any (c := d) ⟨hin.len, hd, hin.small, hin.m0, hin.m1, hin.bytes⟩ (by omega) q W hW
  obtain ⟨L, hL⟩ : ∃ L, L = res m l := ⟨_, rfl⟩
  obtain ⟨x, hx⟩ : ∃ x, x = err m l := ⟨_, rfl⟩
  rw [← hL, ← hx] at K1 K2
  rw [← hL] at hll hle hlp
  have SA : Hid (∀ (W : World) (p q : Option Addr) (d e : Nat), REnts W p l → REnts W q l → Calls Try.prog 12 #[.slice p n d, .slice q n e] W fun e w' => e = .returned (.bool true) ∧ Below W.heap.size W w') := fun W p q d e h1 h2 => by
    rw [hin.len]; exact esame_rows h1 h2 (by have := hin.len; omega)
  have SM : Hid (∀ (W : World) (b1 b2 : Nat) (v u : Value) (vs us : List Value), Rows W b1 v vs L → Rows W b2 u us L → Calls Try.prog 11 #[v, u] W fun e w' => e = .returned (.bool true) ∧ Below W.heap.size W w') := fun W b1 b2 v u vs us h1 h2 => same_any h1 h2 (by omega) fun r hr => by have := hle r hr; omega
  have AL := Lib.hid (fun W : World => alive_any W)
  have t1 : decide ((n : Int) > 100) = false := by simp; omega
  have t2 : decide (n > 100) = false := by simp; omega
  have t3 : (x == x) = true := by simp
  have HP := Lib.hid hlp
  have HLE := Lib.hid hle
  have HL := Lib.hid hin.len
  have HMX : Hid (0 + n ≤ maxLen) := Lib.hid (by unfold maxLen; omega)
  have HMB : Hid ((0 + n) * 16 ≤ 140737488355328) := Lib.hid (by omega)
  have ROW : Hid (REnts (w.alloc (.cells #[] 36)) a l) := Lib.hid (hrow.below (below_new _ _))
  have BASE : Hid (w.heap.size ≤ (w.alloc (.cells #[] 36)).heap.size) := Lib.hid (by simp)
  obtain ⟨N, hN⟩ : ∃ N, N = L.length := ⟨_, rfl⟩
  have HN := Lib.hid hN
  rw [← hN] at hll
  clear hin h hrow hL hx hle hlp hN
  go_enter Try.func5, Try.ntmps5
  go_wp2_with (first
    | (at_builtin; refine wpList_append_anyE rfl (.tmp 19) (.tmp 20) rfl w.heap.size (.slice (some ⟨w.heap.size, 0, none⟩) 0 0) 0 [] rfl (World.ownsRow_made w #[] 0 (Nat.le_refl _) (Nat.zero_le _) rfl) a n c l rfl HL.out ROW.out HMX.out HMB.out BASE.out ?_; intro v0 w0 ho hg; rw [Nat.zero_add, List.nil_append] at ho; obtain ⟨a0, c0, hv0, hnl0, hnc, hr0⟩ := ents_any ho; clear hnl0; subst hv0; have B0 := Lib.hid (((below_new w (.cells #[] 36)).grown hg (by simp) (by intro k hk; simp [Value.ownBlock] at hk; omega))); have R0 := Lib.hid hr0; have C0 := Lib.hid hnc; clear ho hg hr0 hnc)
    | (go_at_call 7; refine (K1.out _ (HX.out.below B0.out)).mono ?_; rintro e w1 ⟨v1, vs1, rfl, h1, hb1⟩; have B1 := Lib.hid hb1; have R1 := Lib.hid h1; obtain ⟨va1, vc1, hv1⟩ := h1.value; subst hv1; clear h1 hb1))
  rw [← HN.out] at R1 ⊢
  have W1 := Lib.hid (Wr.start R1.out HP.out)
  go_loopw [8] (fun i wr => ∃ k : Nat, k ≤ N ∧ i = .int .i64 k ∧ Hid (Wr w0.heap.size (.slice va1 N vc1) vs1 L w1 wr)) (fun i _ => N - (numOf i).toNat)
  case atStart => exact ⟨0, Nat.zero_le _, rfl, W1⟩
  case round =>
    obtain ⟨k, hk, rfl, hwr⟩ := hrel
    by_cases hlt : k < N
    · have t4 : decide ((k : Int) < (N : Int)) = true := by simp; omega
      have t5 : decide (k < N) = true := by simp; omega
      have hkl : k < L.length := by have := HN.out; omega
      obtain ⟨r, hr⟩ : ∃ r, L[k]? = some r := ⟨_, List.getElem?_eq_getElem hkl⟩
      have hk0 : (0 : Int) ≤ (k : Int) := by omega
      have hk1 : (k : Int) < (N : Int) := by omega
      have hw1 : IntKind.i64.wrap ((k : Int) + 1) = ((k + 1 : Nat) : Int) := by rw [IntWalk.i64_in _ (by omega)]; rfl
      obtain ⟨rl, hrl⟩ : ∃ rl, rl = r.length := ⟨_, rfl⟩
      have hr100 : rl ≤ 100 := by rw [hrl]; exact HLE.out r (List.mem_of_getElem? hr)
      have HR := Lib.hid hr
      have HRL := Lib.hid hrl
      clear hr hrl hkl
      go_wp2
      go_loopw [9] (fun q wr => ∃ k2 : Nat, k2 ≤ rl ∧ q = .int .i64 k2 ∧ Hid (Wr w0.heap.size (.slice va1 N vc1) vs1 L w1 wr)) (fun q _ => rl - (numOf q).toNat)
      case atStart => exact ⟨0, Nat.zero_le _, rfl, hwr⟩
      case round =>
        obtain ⟨k2, hk2, rfl, hw2⟩ := hrel
        obtain ⟨b, cc, g, d, e1, c0, hg, hcl, hfz, hcur⟩ := hw2.out.get HR.out
        injection e1 with e11 e12 e13
        subst e11
        rw [← HRL.out] at c0 hcl
        by_cases hlt2 : k2 < rl
        · have t6 : decide ((k2 : Int) < (rl : Int)) = true := by simp; omega
          have t7 : decide (k2 < rl) = true := by simp; omega
          obtain ⟨x0, d0⟩ := hcl (k2 * 2) (by omega)
          obtain ⟨x1, d1⟩ := hcl (k2 * 2 + 1) (by omega)
          have f0 := hfz (k2 * 2)
          have f1 := hfz (k2 * 2 + 1)
          have i0 : (0 : Int) ≤ (k2 : Int) := by omega
          have i1 : (k2 : Int) < (rl : Int) := by omega
          have i2 : IntKind.i64.wrap ((k2 : Int) + 1) = ((k2 + 1 : Nat) : Int) := by rw [IntWalk.i64_in _ (by omega)]; rfl
          have PUT := Lib.hid (hw2.out.put hg hcur (k2 * 2) (k2 * 2 + 1) (.int .i64 (-5)) (.int .i64 0))
          clear hcl hfz hcur e12 e13
          go_wp2
          go_roundw
          case rel => exact ⟨k2 + 1, by omega, by go_num, PUT⟩
          case measure => simp [numOf]; omega
        · have t6 : decide ((k2 : Int) < (rl : Int)) = false := by simp; omega
          have t7 : decide (k2 < rl) = false := by simp; omega
          clear hcl hfz hcur e12 e13
          go_wp2
          go_roundw
          case rel => exact ⟨k + 1, by omega, by go_num, hw2⟩
          case measure => simp [numOf]; omega
    · obtain rfl : k = N := by omega
      have t4 : decide ((k : Int) < (k : Int)) = false := by simp
      have t5 : decide (k < k) = false := by simp
      have B2 : Hid (Below w0.heap.size w0 wr) := Lib.hid (B1.out.trans hwr.out.bel)
      have X2 := Lib.hid ((HX.out.below B0.out).below B2.out)
      have Z2 := Lib.hid (R0.out.below B2.out)
      have BB := Lib.hid (B0.out.trans (B2.out.mono B0.out.size))
      clear B1
      go_wp2_with (first
        | (go_at_call 7; refine (K1.out _ X2.out).mono ?_; rintro e w3 ⟨v3, vs3, rfl, h3, hb3⟩; have B3 := Lib.hid (BB.out.trans (hb3.mono BB.out.size)); have R3 := Lib.hid h3; obtain ⟨va3, vc3, hv3⟩ := h3.value; subst hv3; have X3 := Lib.hid (X2.out.below hb3); have Z3 := Lib.hid (Z2.out.below hb3); clear h3 hb3)
        | (go_at_call 8; refine (K2.out _ _ _ C0.out Z3.out).mono ?_; rintro e w4 ⟨v4, vs4, rfl, h4, hb4⟩; have B4 := Lib.hid (B3.out.trans (hb4.mono B3.out.size)); have R4 := Lib.hid h4; have R3b := Lib.hid (R3.out.next hb4); obtain ⟨va4, vc4, hv4⟩ := h4.value; subst hv4; have X4 := Lib.hid (X3.out.below hb4); have Z4 := Lib.hid (Z3.out.below hb4); clear h4 hb4)
        | (go_at_call 11; refine (SM.out _ _ _ _ _ _ _ R3b.out R4.out).mono ?_; rintro e w5 ⟨rfl, hb5⟩; have B5 := Lib.hid (B4.out.trans (hb5.mono B4.out.size)); have X5 := Lib.hid (X4.out.below hb5); have Z5 := Lib.hid (Z4.out.below hb5); clear hb5)
        | (go_at_call 6; refine (AL.out _).mono ?_; rintro e w6 ⟨rfl, hb6⟩; have B6 := Lib.hid (B5.out.trans (hb6.mono B5.out.size)); have X6 := Lib.hid (X5.out.below hb6); have Z6 := Lib.hid (Z5.out.below hb6); clear hb6)
        | (go_at_call 12; refine (SA.out _ _ _ _ _ Z6.out X6.out).mono ?_; rintro e w7 ⟨rfl, hb7⟩; have B7 := Lib.hid (B6.out.trans (hb7.mono B6.out.size)); clear hb7))
      go_ret
      exact ⟨rfl, B7.out⟩
end Rn
end Go.Proofs.Ytaedgifboepgdaa
