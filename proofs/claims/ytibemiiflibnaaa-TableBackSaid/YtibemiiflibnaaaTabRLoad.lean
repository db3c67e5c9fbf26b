/- The document's Load. -/
import Derived.Test.YtibemiiflibnaaaTabRPage
import Derived.Test.YtibemiiflibnaaaTabLoad
namespace Go.Proofs.Ytibemiiflibnaaa
namespace Tb
open Go.RowKit Dsk Go.Maps
set_option linter.unusedVariables false
set_option maxRecDepth 100000

/-- 'append(nil, l[:n]...)' of a row somewhere, of another type of slices, at the operation. -/
theorem wpList_append_rd {w : World} {ops : Array Oper} {rest : List Oper} {o : Oper} {a : Act} {Q : Exit → Act → World → Prop} (hgd : o.guard = none) (s x : Operand) (t t2 : TypeId)
    (ho : o.op = .call { callee := .builtin .append, args := #[s, x], argTypes := #[t, t2] }) (ht : Try.prog.underlying t = some (.slice 3)) (ht2 : Try.prog.underlying t2 = some (.slice 3))
    (p : Option Addr) (n c : Nat) (l : List Int) (hs : a.eval s = .slice none 0 0) (hx : a.eval x = .slice p n c) (hn : n ≤ l.length) (hb : n ≤ 1099511627776) (hr : Rd w p l)
    (h : ∀ va vc w', w'.ownsRow 0 3 1 (.slice va n vc) n (nums (l.take n)) → (∀ k, (Value.slice va n vc).ownBlock = some k → w.heap.size ≤ k) → Below w.heap.size w w' → wpList Try.prog ops Q rest (a.put o.dst (.slice va n vc)) w') : wpList Try.prog ops Q (o :: rest) a w := by
  obtain ⟨i0, hi, hz0, hz1, hz2⟩ := info_parts info_int
  refine wpList_plain hgd fun K hK => ?_
  have hlen : (nums (l.take n)).length = n := by simp; omega
  have key : ∃ va vc w', (Builtin.append_ #[t, t] o.type #[.slice none 0 0, .slice p n c]).run Try.prog w = .ok (.slice va n vc) w' ∧ w'.ownsRow 0 3 1 (.slice va n vc) n (nums (l.take n)) ∧ (∀ k, (Value.slice va n vc).ownBlock = some k → w.heap.size ≤ k) ∧ Below w.heap.size w w' := by
    by_cases h0 : n = 0
    · subst h0
      refine ⟨none, 0, w, ?_, by simpa using World.ownsRow_nil _ _ _ _, (fun k hk => by cases hk), Below.refl _ _⟩
      cases p <;> simp [Builtin.append_, run_underlying ht, sizeOf, typeInfo, hi, Builtin.lenOf, Builtin.firstCells, loadCells, loadCellsFrom, hz1, Result.andThen]
    · obtain ⟨b, off, e, hlt, hc⟩ := hr (fun e => by rw [e] at hn; simp at hn; omega)
      subst e
      obtain ⟨v', w', hr2, ho2, hg2, hv2⟩ := run_append_home (P := Try.prog) w t o.type 3 i0 _ 1 8 ht hi hz0 hz1 hz2 rfl (by decide) (.slice none 0 0) 0 [] (World.ownsRow_nil _ _ _ _) ⟨b, off, none⟩ n c (nums (l.take n)) (by rw [hlen, Nat.mul_one]) (fun j u hu => by
        have hj : j < n := by have := (List.getElem?_eq_some_iff.1 hu).1; rwa [hlen] at this
        rw [Addr.add_lit]
        rw [List.getElem?_map, List.getElem?_take, if_pos hj, List.getElem?_eq_getElem (by omega)] at hu
        injection hu with hu
        rw [← hu]
        exact hc j _ (List.getElem?_eq_getElem (by omega))) (ints_one _) (by unfold maxLen; omega) (by omega)
      rw [Nat.zero_add, List.nil_append] at ho2
      obtain ⟨va, vc, hvv⟩ := own_slice ho2
      subst hvv
      refine ⟨va, vc, w', hr2, ho2, fun k hk => ?_, (Below.refl _ _).grown hg2 (Nat.le_refl _) (fun k e => by cases e)⟩
      rcases hv2 with e | e
      · rw [hk] at e; cases e
      · rw [hk] at e; injection e with e; omega
  obtain ⟨va, vc, w', hr1, h2, h3, h4⟩ := key
  have hr2 := (run_append_types (P := Try.prog) w t t2 o.type 3 3 ht ht2 i0 hi none 0 0 (.slice p n c)).trans hr1
  unfold Oper.wp execOp
  simp only [ho, resolve, invoke, builtin, Sem.run_bind, Sem.run_pure, Result.andThen_ok, List.map_toArray, List.map_cons, List.map_nil, hs, hx, hr2]
  exact hK _ _ (h va vc w' h2 h3 h4)

/-- What the document's Load answers. -/
def loadL (p : Int) (l : List Int) : List Int := if loadE p l = 0 then l.take p.toNat else []
theorem rload_fail {p : Int} {l : List Int} {w wr : World} {x : Int} (he : loadE p l = x) (hx : x ≠ 0) (hb : Below w.heap.size w wr) : MadeP (loadL p l) (loadE p l) w (.returned (.tuple #[.slice none 0 0, .int .i64 x])) wr := by
  refine ⟨_, by rw [he], ?_, (fun k hk => by cases hk), hb⟩
  unfold loadL
  rw [if_neg (by rw [he]; exact hx)]
  exact World.ownsRow_nil _ _ _ _

theorem rload_arg {p : Int} {l : List Int} {w : World} (a : Option Addr) (c : Nat) (hl : l.length ≤ 4611686018427387904) (hp63 : -9223372036854775808 ≤ p) (hbad : p < 0 ∨ p > 1048576 ∨ l.length ≠ pagesN p.toNat * 13) :
    Calls Try.prog 12 #[.int .i64 p, .slice a l.length c] w (MadeP (loadL p l) (loadE p l) w) := by
  have he : loadE p l = 1 := by unfold loadE; rw [if_pos hbad]
  have FIN := Lib.hid (rload_fail he (by decide) (Below.refl w.heap.size w))
  obtain ⟨N, hN⟩ : ∃ N, N = l.length := ⟨_, rfl⟩
  rw [← hN] at hbad hl ⊢
  by_cases h0 : p < 0
  · have d1 : decide (p < 0) = true := by simpa using h0
    clear hN hbad h0 he
    go_enter Try.func12, Try.ntmps12
    go_wp2
    go_ret2
    exact FIN.out
  · have d1 : decide (p < 0) = false := by simpa using h0
    by_cases h1 : p > 1048576
    · have d2 : decide (1048576 < p) = true := by simpa using h1
      clear hN hbad h0 h1 he
      go_enter Try.func12, Try.ntmps12
      go_wp2
      go_ret2
      exact FIN.out
    · have d2 : decide (1048576 < p) = false := by simpa using h1
      obtain ⟨n, rfl⟩ : ∃ n : Nat, p = (n : Int) := ⟨p.toNat, by omega⟩
      rw [Int.toNat_natCast] at hbad
      obtain ⟨q, hq⟩ : ∃ q, q = pagesN n := ⟨_, rfl⟩
      rw [← hq] at hbad
      have hqd : ((n : Int) + 12).tdiv 13 = (q : Int) := by rw [Int.tdiv_eq_ediv_of_nonneg (by omega), hq]; unfold pagesN; omega
      have hqe : ((n : Int) + 12) / 13 = (q : Int) := by rw [hq]; unfold pagesN; omega
      have hqb : q ≤ 1048576 := by rw [hq]; unfold pagesN; omega
      have k0 : IntKind.i64.wrap ((n : Int) + 12) = (n : Int) + 12 := by rw [IntWalk.i64_in _ (by omega)]
      obtain ⟨Q, hQ⟩ : ∃ Q, Q = q * 13 := ⟨_, rfl⟩
      have k1 : IntKind.i64.wrap ((q : Int) * 13) = (Q : Int) := by rw [IntWalk.i64_in _ (by omega)]; omega
      have k2 : (q : Int) * 13 = (Q : Int) := by omega
      have k3 : IntKind.i64.wrap (Q : Int) = (Q : Int) := by rw [IntWalk.i64_in _ (by omega)]
      have e1 : ((N : Int) != (Q : Int)) = true := by simp; omega
      have e2 : ((N : Int) == (Q : Int)) = false := by simp; omega
      have e3 : (N == Q) = false := by simp; omega
      clear hN hq hQ hbad h0 h1 he
      go_enter Try.func12, Try.ntmps12
      go_wp2
      go_ret2
      exact FIN.out

set_option maxHeartbeats 2000000 in
theorem rload_ok {n : Nat} {l : List Int} {w : World} (a : Option Addr) (c : Nat) (hn : n ≤ 1048576) (hl : l.length = pagesN n * 13) (hcap : l.length ≤ c) (hr : Rd w a l) :
    Calls Try.prog 12 #[.int .i64 (n : Int), .slice a l.length c] w (MadeP (loadL (n : Int) l) (loadE (n : Int) l) w) := by
  have hok : ¬ ((n : Int) < 0 ∨ (n : Int) > 1048576 ∨ l.length ≠ pagesN (n : Int).toNat * 13) := by rw [Int.toNat_natCast]; omega
  have BAD : Hid (∀ (wr : World) (k : Nat) (x : Int), k < l.length → l[k]? = some x → x ≠ -1 → (¬ (0 ≤ x ∧ x ≤ 2147483646) ∨ n ≤ k ∨ x ∈ l.take k) → Below w.heap.size w wr → MadeP (loadL (n : Int) l) (loadE (n : Int) l) w (.returned (.tuple #[.slice none 0 0, .int .i64 165])) wr) := Lib.hid fun wr k x hk hx h1 h2 hb =>
    rload_fail (by unfold loadE; rw [if_neg hok, if_pos (badAny_true hk (by rw [Int.toNat_natCast]; exact (bad_iff hx).2 ⟨h1, h2⟩))]) (by decide) hb
  have GOOD : Hid ((∀ j, j < l.length → badB n l j = false) → loadE (n : Int) l = 0 ∧ loadL (n : Int) l = l.take n) := Lib.hid fun hg => by
    have e : loadE (n : Int) l = 0 := by unfold loadE; rw [if_neg hok, Int.toNat_natCast, badAny_false hg]; rfl
    exact ⟨e, by unfold loadL; rw [if_pos e, Int.toNat_natCast]⟩
  obtain ⟨N, hN⟩ : ∃ N, N = l.length := ⟨_, rfl⟩
  obtain ⟨q, hq⟩ : ∃ q, q = pagesN n := ⟨_, rfl⟩
  have hnN : n ≤ N := by rw [hN, hl]; unfold pagesN; omega
  have hNb : N ≤ 1048600 := by rw [hN, hl]; unfold pagesN; omega
  have hqN : q * 13 = N := by rw [hN, hl, hq]
  have hqd : ((n : Int) + 12).tdiv 13 = (q : Int) := by rw [Int.tdiv_eq_ediv_of_nonneg (by omega), hq]; unfold pagesN; omega
  have hqe : ((n : Int) + 12) / 13 = (q : Int) := by rw [hq]; unfold pagesN; omega
  have k0 : IntKind.i64.wrap ((n : Int) + 12) = (n : Int) + 12 := by rw [IntWalk.i64_in _ (by omega)]
  rw [← hN] at BAD GOOD hcap ⊢
  have HN := Lib.hid hN
  have HR : Hid (∀ wr, Below w.heap.size w wr → Rd wr a l) := Lib.hid fun wr hb => hr.below hb
  have d1 : decide ((n : Int) < 0) = false := by simp
  have d2 : decide (1048576 < (n : Int)) = false := by simp; omega
  have k1 : IntKind.i64.wrap ((q : Int) * 13) = (N : Int) := by rw [IntWalk.i64_in _ (by omega)]; omega
  have k2 : (q : Int) * 13 = (N : Int) := by omega
  have k3 : IntKind.i64.wrap (N : Int) = (N : Int) := by rw [IntWalk.i64_in _ (by omega)]
  have e1 : ((N : Int) != (N : Int)) = false := by simp
  have e2 : ((N : Int) == (N : Int)) = true := by simp
  clear hN hq hl hr hqN hok
  go_enter Try.func12, Try.ntmps12
  go_wp2
  go_loopw [6] (fun v wr => ∃ k : Nat, v = .int .i64 (k : Int) ∧ k ≤ N ∧ Hid (∀ j, j < k → badB n l j = false) ∧ Hid (Below w.heap.size w wr)) (fun v _ => N - (Lib.intOf v).toNat)
  case atStart => exact ⟨0, rfl, Nat.zero_le _, Lib.hid fun j hj => absurd hj (by omega), Lib.hid (Below.refl _ _)⟩
  case round =>
    obtain ⟨k, rfl, hkN, hgood, hw⟩ := hrel
    by_cases hlt : k < N
    · have t1 : decide ((k : Int) < (N : Int)) = true := by simp; omega
      have t2 : decide (k < N) = true := by simp; omega
      have hk0 : (0 : Int) ≤ (k : Int) := by omega
      have hk1 : (k : Int) < (N : Int) := by omega
      have hw1 : IntKind.i64.wrap ((k : Int) + 1) = ((k + 1 : Nat) : Int) := by rw [IntWalk.i64_in _ (by omega)]; rfl
      obtain ⟨x, hx⟩ : ∃ x, l[k]? = some x := ⟨l[k]'(by have := HN.out; omega), List.getElem?_eq_getElem (by have := HN.out; omega)⟩
      obtain ⟨b, off, hab, hb, hc⟩ := (HR.out wr hw.out) (fun e => by rw [e] at hx; simp at hx)
      subst hab
      have hcx := hc k x hx
      have HX := Lib.hid hx
      have HC := Lib.hid hc
      clear hc hx
      by_cases hlow : x < -1
      · have t3 : decide (x < -1) = true := by simpa using hlow
        have FIN := Lib.hid (BAD.out wr k x hlt HX.out (by omega) (.inl (by omega)) hw.out)
        clear hlow BAD GOOD
        go_wp2
        go_ret2
        exact FIN.out
      · have t3 : decide (x < -1) = false := by simpa using hlow
        by_cases hhigh : 2147483646 < x
        · have t4 : decide (2147483646 < x) = true := by simpa using hhigh
          have FIN := Lib.hid (BAD.out wr k x hlt HX.out (by omega) (.inl (by omega)) hw.out)
          clear hlow hhigh BAD GOOD
          go_wp2
          go_ret2
          exact FIN.out
        · have t4 : decide (2147483646 < x) = false := by simpa using hhigh
          by_cases h0 : 0 ≤ x
          · have t5 : decide (0 ≤ x) = true := by simpa using h0
            by_cases hnk : n ≤ k
            · have t6 : decide ((n : Int) ≤ (k : Int)) = true := by simp; omega
              have t7 : decide (n ≤ k) = true := by simp; omega
              have FIN := Lib.hid (BAD.out wr k x hlt HX.out (by omega) (.inr (.inl hnk)) hw.out)
              clear hlow hhigh h0 BAD GOOD
              go_wp2
              go_ret2
              exact FIN.out
            · have t6 : decide ((n : Int) ≤ (k : Int)) = false := by simp; omega
              have t7 : decide (n ≤ k) = false := by simp; omega
              clear hlow hhigh h0
              go_wp2
              go_loopw [7] (fun v wi => ∃ i : Nat, v = .int .i64 (i : Int) ∧ i ≤ k ∧ Hid (∀ y, y < i → l[y]? ≠ some x) ∧ Hid (Below w.heap.size w wi)) (fun v _ => k - (Lib.intOf v).toNat)
              case atStart => exact ⟨0, rfl, Nat.zero_le _, Lib.hid fun y hy => absurd hy (by omega), hw⟩
              case round =>
                obtain ⟨i, rfl, hik, hno, hwi⟩ := hrel
                by_cases hil : i < k
                · have u1 : decide ((i : Int) < (k : Int)) = true := by simp; omega
                  have u2 : decide (i < k) = true := by simp; omega
                  have hi0 : (0 : Int) ≤ (i : Int) := by omega
                  have hi1 : (i : Int) < (N : Int) := by omega
                  have hi2 : i < N := by omega
                  have hw2 : IntKind.i64.wrap ((i : Int) + 1) = ((i + 1 : Nat) : Int) := by rw [IntWalk.i64_in _ (by omega)]; rfl
                  obtain ⟨b', off', e', hb', hc'⟩ := (HR.out _ hwi.out) (fun e => by have := HX.out; rw [e] at this; simp at this)
                  cases e'
                  obtain ⟨y, hy⟩ : ∃ y, l[i]? = some y := ⟨l[i]'(by have := HN.out; omega), List.getElem?_eq_getElem (by have := HN.out; omega)⟩
                  have c1 := hc' k x HX.out
                  have c2 := hc' i y hy
                  have HY := Lib.hid hy
                  clear hc' hy
                  by_cases he : y = x
                  · subst he
                    have u3 : (y == y) = true := by simp
                    have FIN : Hid (∀ wz, Below w.heap.size w wz → MadeP (loadL (n : Int) l) (loadE (n : Int) l) w (.returned (.tuple #[.slice none 0 0, .int .i64 165])) wz) := Lib.hid fun wz hz =>
                      BAD.out wz k y hlt HX.out (by have := of_decide_eq_true t5; omega) (.inr (.inr (List.mem_of_getElem? (i := i) (by rw [List.getElem?_take, if_pos hil]; exact HY.out)))) hz
                    clear BAD GOOD
                    go_wp2
                    go_quiet (fail)
                    go_wp2
                    go_ret2
                    exact FIN.out _ (by first | exact Dsk.below_q hwi.out _ | exact hwi.out)
                  · have u3 : (y == x) = false := by simpa using he
                    have N2 : Hid (∀ z, z < i + 1 → l[z]? ≠ some x) := Lib.hid fun z hz hc => by
                      by_cases ez : z = i
                      · rw [ez, HY.out] at hc; injection hc with hc; exact he hc
                      · exact hno.out z (by omega) hc
                    clear he
                    go_wp2
                    go_quiet (fail)
                    go_wp2
                    go_roundw
                    case rel => exact ⟨i + 1, by go_num, by omega, N2, Lib.hid (by first | exact Dsk.below_q hwi.out _ | exact hwi.out)⟩
                    case measure => simp [Lib.intOf]; omega
                · obtain rfl : i = k := by omega
                  have u1 : decide ((i : Int) < (i : Int)) = false := by simp
                  have u2 : decide (i < i) = false := by simp
                  have N2 : Hid (∀ j, j < i + 1 → badB n l j = false) := Lib.hid fun j hj => by
                    by_cases ej : j = i
                    · subst ej
                      rw [Bool.eq_false_iff]
                      intro hbad
                      rcases ((bad_iff HX.out).1 hbad).2 with h | h | h
                      · have a1 := of_decide_eq_true t5
                        have a2 := of_decide_eq_false t4
                        omega
                      · have := of_decide_eq_false t7; omega
                      · obtain ⟨z, hz⟩ := List.getElem?_of_mem h
                        have hzl := (List.getElem?_eq_some_iff.1 hz).1
                        rw [List.length_take] at hzl
                        rw [List.getElem?_take, if_pos (by omega)] at hz
                        exact hno.out z (by omega) hz
                    · exact hgood.out j (by omega)
                  go_wp2
                  go_roundw
                  case rel => exact ⟨i + 1, by go_num, by omega, N2, hwi⟩
                  case measure => simp [Lib.intOf]; omega
          · have t5 : decide (0 ≤ x) = false := by simpa using h0
            obtain rfl : x = -1 := by omega
            clear hlow hhigh h0
            have N2 : Hid (∀ j, j < k + 1 → badB n l j = false) := Lib.hid fun j hj => by
              by_cases ej : j = k
              · subst ej
                rw [Bool.eq_false_iff]
                intro hbad
                exact ((bad_iff HX.out).1 hbad).1 rfl
              · exact hgood.out j (by omega)
            clear BAD GOOD
            go_wp2
            go_loopw [7] (fun v wi => ∃ i : Nat, v = .int .i64 (i : Int) ∧ i ≤ k ∧ Hid (Below w.heap.size w wi)) (fun v _ => k - (Lib.intOf v).toNat)
            case atStart => exact ⟨0, rfl, Nat.zero_le _, hw⟩
            case round =>
              obtain ⟨i, rfl, hik, hwi⟩ := hrel
              by_cases hil : i < k
              · have u1 : decide ((i : Int) < (k : Int)) = true := by simp; omega
                have u2 : decide (i < k) = true := by simp; omega
                have hw2 : IntKind.i64.wrap ((i : Int) + 1) = ((i + 1 : Nat) : Int) := by rw [IntWalk.i64_in _ (by omega)]; rfl
                obtain ⟨b', off', e', hb', hc'⟩ := (HR.out _ hwi.out) (fun e => by have := HX.out; rw [e] at this; simp at this)
                cases e'
                have c1 := hc' k (-1) HX.out
                clear hc'
                go_wp2
                go_quiet (fail)
                go_wp2
                go_roundw
                case rel => exact ⟨i + 1, by go_num, by omega, Lib.hid (by first | exact Dsk.below_q hwi.out _ | exact hwi.out)⟩
                case measure => simp [Lib.intOf]; omega
              · obtain rfl : i = k := by omega
                have u1 : decide ((i : Int) < (i : Int)) = false := by simp
                have u2 : decide (i < i) = false := by simp
                go_wp2
                go_roundw
                case rel => exact ⟨i + 1, by go_num, by omega, N2, hwi⟩
                case measure => simp [Lib.intOf]; omega
    · obtain rfl : k = N := by omega
      have t1 : decide ((k : Int) < (k : Int)) = false := by simp
      have t2 : decide (k < k) = false := by simp
      obtain ⟨g1, g2⟩ := GOOD.out fun j hj => hgood.out j (by have := HN.out; omega)
      have G1 := Lib.hid g1
      have G2 := Lib.hid g2
      have RD := Lib.hid (HR.out wr hw.out)
      have b1 : (n : Int) ≤ (c : Int) := by omega
      have b2 : n ≤ c := by omega
      have HLN : Hid (n ≤ l.length) := Lib.hid (by have := HN.out; omega)
      clear g1 g2 BAD GOOD
      go_wp2_with (at_builtin; refine wpList_append_rd rfl (.tmp 75) (.tmp 78) 27 26 rfl Try.underlying27 Try.underlying26 a n c l rfl rfl HLN.out (by omega) RD.out ?_; intro va vc w2 h1 h2 h3; have H1 := Lib.hid h1; have H2 := Lib.hid h2; have H3 := Lib.hid h3; clear h1 h2 h3)
      go_ret2
      refine ⟨_, by rw [G1.out]; rfl, ?_, fun x hx => Nat.le_trans hw.out.size (H2.out x hx), hw.out.trans (H3.out.mono hw.out.size)⟩
      rw [G2.out]
      show World.ownsRow _ _ _ _ _ _ _
      rw [List.length_take, Nat.min_eq_left HLN.out]
      exact H1.out
theorem rload_any {p : Int} {l : List Int} {w : World} (a : Option Addr) (c : Nat) (hl : l.length ≤ 4611686018427387904) (hp63 : -9223372036854775808 ≤ p) (hcap : l.length ≤ c) (hr : Rd w a l) :
    Calls Try.prog 12 #[.int .i64 p, .slice a l.length c] w (MadeP (loadL p l) (loadE p l) w) := by
  by_cases hbad : p < 0 ∨ p > 1048576 ∨ l.length ≠ pagesN p.toNat * 13
  · exact rload_arg a c hl hp63 hbad
  · obtain ⟨n, rfl⟩ : ∃ n : Nat, p = (n : Int) := ⟨p.toNat, by omega⟩
    rw [Int.toNat_natCast] at hbad
    exact rload_ok a c (by omega) (by omega) hcap hr
end Tb
end Go.Proofs.Ytibemiiflibnaaa
