/- All pages, and whether a table has what the document says. -/
import Derived.Test.YtibemiiflibnaaaTabTwo
namespace Go.Proofs.Ytibemiiflibnaaa
namespace Tb
open Go.RowKit Dsk Go.Maps
set_option linter.unusedVariables false
set_option maxRecDepth 100000

theorem page_any {w : World} {o : Ob} {m : List Int} (h : Tm w o m) (i : Int) : Calls Try.prog 19 #[.pointer (some ⟨o.p, 0, none⟩), .int .i64 i] w (MadeP (pageL m i) (pageE m i) w) := by
  by_cases hin : 0 ≤ i ∧ i < (pagesN m.length : Int)
  · obtain ⟨k, rfl⟩ : ∃ k : Nat, i = (k : Int) := ⟨i.toNat, by omega⟩
    have hk : k < pagesN m.length := by omega
    rw [pageL_in hk, pageE_in hk]
    refine (page_in h k hk).mono ?_
    rintro e w' ⟨g, rfl, h1, h2, h3⟩
    refine ⟨_, rfl, ?_, fun x hx => ?_, h3⟩
    · show World.ownsRow _ _ _ _ _ _ _
      rw [page_length]
      have := ints_of_cells (page_length m k) h1
      have e : Ints w' (.slice (some ⟨g, 0, none⟩) 13 13) (page m k) := this
      unfold Ints at e
      rwa [page_length] at e
    · have hx : g = x := by injection hx
      omega
  · have e1 : pageL m i = [] := by unfold pageL; rw [if_neg hin]
    have e2 : pageE m i = 2 := by unfold pageE; rw [if_neg hin]
    rw [e1, e2]
    refine (page_out h i hin).mono ?_
    rintro e w' ⟨rfl, rfl⟩
    exact ⟨_, rfl, World.ownsRow_nil _ _ _ _, (fun k hk => by cases hk), Below.refl _ _⟩

/-- 'append(l, k...)' of two rows of one's own, either nil let in, at the operation. -/
theorem wpList_append_ints {w : World} {ops : Array Oper} {rest : List Oper} {o : Oper} {a : Act} {Q : Exit → Act → World → Prop} (hgd : o.guard = none) (s x : Operand) (t : TypeId) (ht : Try.prog.underlying t = some (.slice 3))
    (ho : o.op = .call { callee := .builtin .append, args := #[s, x], argTypes := #[t, t] }) (v : Value) (n : Nat) (l : List Int) (hs : a.eval s = v) (hn : n = l.length) (hown : w.ownsRow 0 3 1 v n (nums l))
    (u : Value) (k : List Int) (hx : a.eval x = u) (hu : Ints w u k) (hb : n + k.length ≤ 1099511627776)
    (h : ∀ v' w', w'.ownsRow 0 3 1 v' (n + k.length) (nums (l ++ k)) → Fr (fun j => v.ownBlock = some j) w w' → (∀ j, v'.ownBlock = some j → v.ownBlock = some j ∨ w.heap.size ≤ j) → wpList Try.prog ops Q rest (a.put o.dst v') w') : wpList Try.prog ops Q (o :: rest) a w := by
  obtain ⟨i0, hi, hz0, hz1, hz2⟩ := info_parts info_int
  rcases hu.2 with ⟨rfl, h0⟩ | ⟨g, cap, cur, rfl, _⟩
  · have hk : k = [] := List.eq_nil_of_length_eq_zero h0
    subst hk
    obtain ⟨b, cap, rfl, hcap⟩ : ∃ b cap, v = .slice b n cap ∧ n ≤ cap := by
      rcases hown.2 with ⟨h1, h0⟩ | ⟨g, cap, cur, h1, _, _, h2, _⟩
      · exact ⟨none, 0, by rw [h1, h0], by omega⟩
      · exact ⟨_, cap, h1, h2⟩
    have hk' := h _ w (by simpa using hown) (Fr.refl _ _) (fun j hj => .inl hj)
    refine wpList_plain hgd fun K hK => ?_
    have hrun : (Builtin.append_ #[t, t] o.type #[.slice b n cap, .slice none 0 0]).run Try.prog w = .ok (.slice b n cap) w := by
      cases b <;> simp [Builtin.append_, run_underlying ht, sizeOf, typeInfo, hi, Builtin.lenOf, Builtin.firstCells, storeCells, hcap, go_sem, Result.andThen]
    unfold Oper.wp execOp
    simp only [ho, resolve, invoke, builtin, Sem.run_bind, Sem.run_pure, Result.andThen_ok, List.map_toArray, List.map_cons, List.map_nil, hs, hx, hrun]
    exact hK _ _ hk'
  · refine wpList_append_home hgd s x t ho 3 i0 _ 1 8 ht hi hz0 hz1 hz2 rfl (by decide) v n (nums l) hs hown ⟨g, 0, none⟩ k.length cap (nums k) hx (by simp) (fun j y hj => ?_) (ints_one k) (by unfold maxLen; omega) (by omega) fun v' w' h1 h2 h3 => ?_
    · rw [Addr.add_lit, Nat.zero_add, hu.cellAt j (by have := (List.getElem?_eq_some_iff.1 hj).1; simpa using this)]
      exact hj
    · refine h v' w' (by rw [nums, List.map_append]; exact h1) (Fr.of_grown (F := fun j => v.ownBlock = some j) h2 fun j e => e) fun j hj => ?_
      rcases h3 with e | e
      · exact .inl (by rw [← e]; exact hj)
      · right
        rw [hj] at e
        injection e with e
        omega

theorem Grows.many {w wr w' : World} {l k : List Int} {v v' : Value} {n : Nat} (h : Grows w l v n wr) (h1 : w'.ownsRow 0 3 1 v' (n + k.length) (nums (l ++ k))) (h2 : Fr (fun j => v.ownBlock = some j) wr w') (h3 : ∀ j, v'.ownBlock = some j → v.ownBlock = some j ∨ wr.heap.size ≤ j) : Grows w (l ++ k) v' (n + k.length) w' := by
  have hws := h.below.size
  refine ⟨h1, by rw [h.len]; simp, fun j hj => ?_, h.below.trans (h2.below hws fun j hj => h.new j hj)⟩
  rcases h3 j hj with e | e
  · exact h.new j e
  · omega
theorem Grows.next {w wr w2 : World} {l : List Int} {v : Value} {n : Nat} (h : Grows w l v n wr) (hb : Below wr.heap.size wr w2) : Grows w l v n w2 :=
  ⟨own_same h.row fun j hj => hb.block j (by obtain ⟨cur, hcc⟩ := own_block h.row j hj; exact lt_of_heap hcc), h.len, h.new, h.below.trans (hb.mono h.below.size)⟩

theorem ints_next {w w2 : World} {v : Value} {l : List Int} (h : Ints w v l) (hb : Below w.heap.size w w2) : Ints w2 v l := own_same h fun j hj => hb.block j (by obtain ⟨cur, hcc⟩ := own_block h j hj; exact lt_of_heap hcc)
/-- All pages, and that they are right. -/
def PagesIs (m : List Int) (w : World) (e : Ending) (w' : World) : Prop := ∃ v, e = .returned (.tuple #[v, .bool true]) ∧ Ints w' v (flat m (pagesN m.length)) ∧ (∀ k, v.ownBlock = some k → w.heap.size ≤ k) ∧ Below w.heap.size w w'
set_option maxHeartbeats 2000000 in
theorem pages_yes {w : World} {o : Ob} {v : Value} {m : List Int} (ht : Tm w o m) (hv : Ints w v m) :
    Calls Try.prog 13 #[.pointer (some ⟨o.p, 0, none⟩), v] w (PagesIs m w) := by
  have hm := ht.ok.few
  have hvl : ∀ k, v.ownBlock = some k → k < w.heap.size := fun k hk => by obtain ⟨cur, hc⟩ := own_block hv k hk; exact lt_of_heap hc
  obtain ⟨a, c, rfl⟩ := ints_slice hv
  have PG : Hid (∀ W : World, Calls Try.prog 34 #[.slice a m.length c] W fun e w' => e = .returned (.int .i64 (pagesN m.length : Int)) ∧ W = w') := Lib.hid fun W => rpages_any a m.length c W hm
  have P1 : Hid (∀ W, Below w.heap.size w W → ∀ i : Int, Calls Try.prog 19 #[.pointer (some ⟨o.p, 0, none⟩), .int .i64 i] W (MadeP (pageL m i) (pageE m i) W)) := Lib.hid fun W hW i => page_any (ht.below hW) i
  have P2 : Hid (∀ W, Below w.heap.size w W → ∀ i : Int, Calls Try.prog 35 #[.slice a m.length c, .int .i64 i] W (MadeP (pageL m i) (pageE m i) W)) := Lib.hid fun W hW i =>
    rpage_any (own_same hv fun k hk => hW.block k (hvl k hk)) i hm
  obtain ⟨q, hq⟩ : ∃ q, q = pagesN m.length := ⟨_, rfl⟩
  have HQ := Lib.hid hq
  have hqb : q ≤ 1048576 := by rw [hq]; unfold pagesN; omega
  obtain ⟨L, hL⟩ : ∃ L, L = m.length := ⟨_, rfl⟩
  rw [← hq, ← hL] at PG
  rw [← hL] at P2 ⊢
  clear ht hv hvl hm hq hL
  go_enter Try.func13, Try.ntmps13
  go_wp2
  go_loopw [7, 6] (fun i s wr => ∃ (k : Nat) (v : Value), i = .int .i64 (k : Int) ∧ s = v ∧ k ≤ q + 1 ∧ Hid (Grows w (flat m (min k q)) v (13 * min k q) wr)) (fun i _ _ => q + 1 - (Lib.intOf i).toNat)
  case atStart => exact ⟨0, _, rfl, rfl, by omega, by rw [Nat.zero_min]; exact Lib.hid (Grows.nil (Below.refl _ _))⟩
  case round =>
    obtain ⟨k, v, rfl, rfl, hk, hg⟩ := hrel
    by_cases hlt : k ≤ q
    · have t1 : decide ((k : Int) ≤ (q : Int)) = true := by simp; omega
      have t2 : decide (k ≤ q) = true := by simp; omega
      have hw1 : IntKind.i64.wrap ((k : Int) + 1) = ((k + 1 : Nat) : Int) := by rw [IntWalk.i64_in _ (by omega)]; rfl
      obtain ⟨N, hN⟩ : ∃ N, N = 13 * min k q := ⟨_, rfl⟩
      rw [← hN] at hg
      have hNb : N ≤ 13631488 := by omega
      obtain ⟨va, vc, hva⟩ := own_slice hg.out.row
      subst hva
      have C1 := Lib.hid (P1.out wr hg.out.below (k : Int))
      have hpl : (pageL m (k : Int)).length ≤ 13 := by unfold pageL; split <;> simp [page_length]
      have HPL := Lib.hid hpl
      have NX : Hid (flat m (min k q) ++ pageL m (k : Int) = flat m (min (k + 1) q) ∧ N + (pageL m (k : Int)).length = 13 * min (k + 1) q) := Lib.hid (by
        by_cases hkq : k < q
        · rw [Nat.min_eq_left (by omega), Nat.min_eq_left (by omega), pageL_in (by rw [← HQ.out]; exact hkq), ← flat_succ]
          exact ⟨rfl, by rw [page_length, hN, Nat.min_eq_left (by omega)]; omega⟩
        · have hkq' : k = q := by omega
          have e : pageL m (k : Int) = [] := by unfold pageL; rw [if_neg (by rw [← HQ.out]; omega)]
          rw [e, Nat.min_eq_right (by omega), Nat.min_eq_right (by omega)]
          exact ⟨by simp, by simp [hN]; omega⟩)
      obtain ⟨pe, hpe⟩ : ∃ pe, pe = pageE m (k : Int) := ⟨_, rfl⟩
      rw [← hpe] at C1
      have HPE := Lib.hid hpe
      have u1 : (pe != pe) = false := by simp
      have u2 : (pe == pe) = true := by simp
      clear hN hpl hpe
      go_wp2_with (first
        | (go_at_call 34; refine (PG.out _).mono ?_; rintro e w' ⟨rfl, rfl⟩)
        | (go_at_call 19; refine C1.out.mono ?_; rintro e w1 ⟨v1, rfl, hr1, hn1, hb1⟩; obtain ⟨a1, c1, hv1⟩ := ints_slice hr1; subst hv1; have R1 := Lib.hid hr1; have N1 := Lib.hid hn1; have B1 := Lib.hid (hg.out.below.trans (hb1.mono hg.out.below.size)); have G1 := Lib.hid (hg.out.next hb1); have C2 := Lib.hid (P2.out w1 B1.out (k : Int)); rw [← HPE.out] at C2; clear hr1 hn1 hb1)
        | (go_at_call 35; refine C2.out.mono ?_; rintro e w2 ⟨v2, rfl, hr2, hn2, hb2⟩; obtain ⟨a2, c2, hv2⟩ := ints_slice hr2; subst hv2; have R1b := Lib.hid (ints_next R1.out hb2); have G2 := Lib.hid (G1.out.next hb2); have SA := Lib.hid (isame_yes R1b.out hr2 (by have := HPL.out; omega)); clear hr2 hn2 hb2)
        | (go_at_call 36; refine SA.out.mono ?_; rintro e w3 ⟨rfl, hb3⟩; have R1c := Lib.hid (ints_next R1b.out hb3); have G3 := Lib.hid (G2.out.next hb3); clear hb3)
        | (at_builtin; refine wpList_append_ints rfl (.tmp 41) (.tmp 42) 26 Try.underlying26 rfl (.slice va N vc) N (flat m (min k q)) rfl G3.out.len G3.out.row (.slice a1 (pageL m (k : Int)).length c1) (pageL m (k : Int)) rfl R1c.out (by have := HPL.out; omega) ?_; intro v4 w4 h1 h2 h3; have G4 := Lib.hid (G3.out.many h1 h2 h3); clear h1 h2 h3))
      go_roundw
      case rel =>
        have g4 := G4.out
        rw [NX.out.1, NX.out.2] at g4
        exact ⟨k + 1, _, by go_num, rfl, by omega, Lib.hid g4⟩
      case measure => simp [Lib.intOf]; omega
    · have t1 : decide ((k : Int) ≤ (q : Int)) = false := by simp; omega
      have t2 : decide (k ≤ q) = false := by simp; omega
      have FIN : Hid (MadeR (flat m (pagesN m.length)) w (.returned u6) wr) := Lib.hid (by
        have := hg.out
        rw [Nat.min_eq_right (by omega), HQ.out] at this
        exact this.made)
      go_wp2_with (go_at_call 34; refine (PG.out _).mono ?_; rintro e w' ⟨rfl, rfl⟩)
      go_ret2
      obtain ⟨v', e1, e2, e3, e4⟩ := FIN.out
      injection e1 with e1
      subst e1
      exact ⟨_, rfl, e2, e3, e4⟩
end Tb
end Go.Proofs.Ytibemiiflibnaaa
