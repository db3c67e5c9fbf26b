/- The contract of Load: a table of its pages. -/
import Derived.Test.YtibemiiflibnaaaTabPut
import Derived.Test.YtibemiiflibnaaaTabNew
namespace Go.Proofs.Ytibemiiflibnaaa
namespace Tb
open Go.RowKit Dsk Go.Maps
set_option linter.unusedVariables false
set_option maxRecDepth 100000

/-- A row of numbers somewhere, nil let in. -/
def Rd (w : World) (a : Option Addr) (l : List Int) : Prop := l ≠ [] → ∃ b off, a = some ⟨b, off, none⟩ ∧ b < w.heap.size ∧ ∀ i x, l[i]? = some x → w.cell? ⟨b, off + i, none⟩ = some (.int .i64 x)
theorem Rd.below {w w' : World} {a : Option Addr} {l : List Int} (h : Rd w a l) (hb : Below w.heap.size w w') : Rd w' a l := fun hn => by
  obtain ⟨b, off, e, hlt, hc⟩ := h hn
  exact ⟨b, off, e, Nat.lt_of_lt_of_le hlt hb.size, fun i x hx => (hb.cell (p := ⟨b, off + i, none⟩) hlt).trans (hc i x hx)⟩
theorem Rd.own {w : World} {v : Value} {l : List Int} (h : Ints w v l) : ∃ a c, v = .slice a l.length c ∧ Rd w a l := by
  obtain ⟨a, c, rfl⟩ := ints_slice h
  refine ⟨a, c, rfl, fun hn => ?_⟩
  obtain ⟨b, rfl⟩ := ints_some h (List.length_pos_iff.2 hn)
  refine ⟨b, 0, rfl, ?_, fun i x hx => ?_⟩
  · obtain ⟨cur, hc⟩ := own_block h b rfl; exact lt_of_heap hc
  · rw [Nat.zero_add, h.cellAt i (by rw [Nat.mul_one]; exact (List.getElem?_eq_some_iff.1 hx).1), List.getElem?_map, hx]
    rfl

theorem full_rep {n : Nat} {c : List Int} (j : Nat) (h : c.length + j ≤ n) : full n (c ++ List.replicate j (-1)) = full n c := by
  induction j with
  | zero => simp
  | succ j ih => rw [List.replicate_succ', ← List.append_assoc, full_more (by simp; omega), ih (by omega)]
theorem used_rep (c : List Int) (j : Nat) : used (c ++ List.replicate j (-1)) = used c := by unfold used; rw [List.filter_append]; simp

/-- Behind so many numbers. -/
structure LoadAt (w : World) (o0 : Nat) (n : Nat) (l : List Int) (k : Nat) (wr : World) (o : Ob) (c g : List Int) : Prop where
  tk : Tk wr o n c g
  p : o.p = o0
  full : full n c = pad n (l.take k)
  len : c.length ≤ k
  good : ∀ j, j < k → badB n l j = false
  new : ∀ j, o.fp j → w.heap.size ≤ j
  below : Below w.heap.size w wr
theorem LoadAt.twice {w wr : World} {o0 n k : Nat} {l c g : List Int} {o : Ob} (h : LoadAt w o0 n l k wr o c g) {x : Int} (h0 : 0 ≤ x) : x ∈ c ↔ x ∈ l.take k := by
  rw [← pad_mem h0 h.good, ← h.full, full_mem h0]
theorem LoadAt.step {w wr w2 : World} {o0 n k : Nat} {l c g : List Int} {o o2 : Ob} (h : LoadAt w o0 n l k wr o c g) {x : Int} (hx : l[k]? = some x) (hb : badB n l k = false) (h0 : 0 ≤ x) (hn : k < n) {g2 : List Int}
    (ht : Tk w2 o2 n (c ++ List.replicate (k - c.length) (-1) ++ [x]) g2) (hs : Step o o2 wr w2) : LoadAt w o0 n l (k + 1) w2 o2 (c ++ List.replicate (k - c.length) (-1) ++ [x]) g2 := by
  have hl := h.len
  have hlen : (c ++ List.replicate (k - c.length) (-1)).length = k := by simp; omega
  obtain ⟨b1, b2⟩ := hs.below h.below.size h.new
  refine ⟨ht, hs.p.trans h.p, ?_, ?_, fun j hj => ?_, b2, h.below.trans b1⟩
  · rw [← full_snoc x (by omega), hlen, full_rep _ (by omega), h.full, ← pad_set hx hn]
  · rw [List.length_append, hlen, List.length_singleton]; omega
  · by_cases e : j = k
    · rw [e]; exact hb
    · exact h.good j (by omega)
theorem LoadAt.skip {w wr : World} {o0 n k : Nat} {l c g : List Int} {o : Ob} (h : LoadAt w o0 n l k wr o c g) (hx : l[k]? = some (-1)) : LoadAt w o0 n l (k + 1) wr o c g := by
  have hl := h.len
  refine ⟨h.tk, h.p, by rw [h.full, pad_free hx], by omega, fun j hj => ?_, h.new, h.below⟩
  by_cases e : j = k
  · subst e
    rw [Bool.eq_false_iff]
    intro hb
    exact ((bad_iff hx).1 hb).1 rfl
  · exact h.good j (by omega)

/-- What Load answers. -/
def Loaded (p : Int) (l : List Int) (w : World) (e : Ending) (w' : World) : Prop :=
  Below w.heap.size w w' ∧ ((loadE p l ≠ 0 ∧ e = .returned (.tuple #[.pointer none, .int .i64 (loadE p l)])) ∨
    (loadE p l = 0 ∧ ∃ o, e = .returned (.tuple #[.pointer (some ⟨o.p, 0, none⟩), .int .i64 0]) ∧ Tm w' o (l.take p.toNat) ∧ ∀ k, o.fp k → w.heap.size ≤ k))

theorem load_arg {p : Int} {l : List Int} {w : World} (a : Option Addr) (c : Nat) (hl : l.length ≤ 4611686018427387904) (hbad : p < 0 ∨ p > 1048576 ∨ l.length ≠ pagesN p.toNat * 13) :
    Calls Try.prog 11 #[.int .i64 p, .slice a l.length c] w (Loaded p l w) := by
  have he : loadE p l = 1 := by unfold loadE; rw [if_pos hbad]
  have MH := Lib.hid (mayhave_any p w)
  have FIN : Hid (Loaded p l w (.returned (.tuple #[.pointer none, .int .i64 1])) w) := Lib.hid ⟨Below.refl _ _, .inl ⟨by rw [he]; decide, by rw [he]⟩⟩
  obtain ⟨N, hN⟩ : ∃ N, N = l.length := ⟨_, rfl⟩
  rw [← hN] at hbad hl ⊢
  by_cases hp : 0 ≤ p ∧ p ≤ 1048576
  · have d : (decide (0 ≤ p) && decide (p ≤ 1048576)) = true := by simp [hp]
    rw [d] at MH
    obtain ⟨n, rfl⟩ : ∃ n : Nat, p = (n : Int) := ⟨p.toNat, by omega⟩
    rw [Int.toNat_natCast] at hbad
    have PG := Lib.hid (pages_any n w (by omega))
    obtain ⟨q, hq⟩ : ∃ q, q = pagesN n := ⟨_, rfl⟩
    rw [← hq] at PG hbad
    have hqb : q ≤ 1048576 := by rw [hq]; unfold pagesN; omega
    have hne : N ≠ q * 13 := by omega
    obtain ⟨Q, hQ⟩ : ∃ Q, Q = q * 13 := ⟨_, rfl⟩
    have k1 : IntKind.i64.wrap ((q : Int) * 13) = (Q : Int) := by rw [IntWalk.i64_in _ (by omega)]; omega
    have k2 : (q : Int) * 13 = (Q : Int) := by omega
    have k3 : IntKind.i64.wrap (Q : Int) = (Q : Int) := by rw [IntWalk.i64_in _ (by omega)]
    have d1 : ((N : Int) != (Q : Int)) = true := by simp; omega
    have d2 : ((N : Int) == (Q : Int)) = false := by simp; omega
    have d3 : (N == Q) = false := by simp; omega
    clear hN hq hQ hne hbad hp d he
    go_enter Try.func11, Try.ntmps11
    go_wp2_with (first
      | (go_at_call 23; refine MH.out.mono ?_; rintro e w' ⟨rfl, rfl⟩)
      | (go_at_call 30; refine PG.out.mono ?_; rintro e w' ⟨rfl, rfl⟩))
    go_ret2
    exact FIN.out
  · have d : (decide (0 ≤ p) && decide (p ≤ 1048576)) = false := by
      rw [Bool.eq_false_iff]
      intro c
      rw [Bool.and_eq_true] at c
      exact hp ⟨of_decide_eq_true c.1, of_decide_eq_true c.2⟩
    rw [d] at MH
    clear hN hbad hp d he
    go_enter Try.func11, Try.ntmps11
    go_wp2_with (go_at_call 23; refine MH.out.mono ?_; rintro e w' ⟨rfl, rfl⟩)
    go_ret2
    exact FIN.out

theorem load_bad {p : Int} {l : List Int} {w wr : World} {k : Nat} (hok : ¬ (p < 0 ∨ p > 1048576 ∨ l.length ≠ pagesN p.toNat * 13)) (hk : k < l.length) (hb : badB p.toNat l k = true) (hbl : Below w.heap.size w wr) :
    Loaded p l w (.returned (.tuple #[.pointer none, .int .i64 165])) wr := by
  have he : loadE p l = 165 := by unfold loadE; rw [if_neg hok, if_pos (badAny_true hk hb)]
  exact ⟨hbl, .inl ⟨by rw [he]; decide, by rw [he]⟩⟩
set_option maxHeartbeats 2000000 in
theorem load_ok {n : Nat} {l : List Int} {w : World} (a : Option Addr) (c0 : Nat) (hn : n ≤ 1048576) (hl : l.length = pagesN n * 13) (hr : Rd w a l) (hwf : ∀ x ∈ l, (Lit.int .i64 x).wf = true) :
    Calls Try.prog 11 #[.int .i64 (n : Int), .slice a l.length c0] w (Loaded (n : Int) l w) := by
  have MH := Lib.hid (mayhave_any (n : Int) w)
  have d : (decide (0 ≤ (n : Int)) && decide ((n : Int) ≤ 1048576)) = true := by simp; omega
  rw [d] at MH
  have PG := Lib.hid (pages_any n w hn)
  have NW := Lib.hid (new_k (n : Int) w)
  have hnn : newN (n : Int) = n := by unfold newN; rw [if_pos ⟨by omega, by omega⟩, Int.toNat_natCast]
  rw [hnn] at NW
  have hok : Hid (¬ ((n : Int) < 0 ∨ (n : Int) > 1048576 ∨ l.length ≠ pagesN (n : Int).toNat * 13)) := Lib.hid (by rw [Int.toNat_natCast]; omega)
  have BAD : Hid (∀ (wr : World) (k : Nat) (x : Int), k < l.length → l[k]? = some x → x ≠ -1 → (¬ (0 ≤ x ∧ x ≤ 2147483646) ∨ n ≤ k ∨ x ∈ l.take k) → Below w.heap.size w wr → Loaded (n : Int) l w (.returned (.tuple #[.pointer none, .int .i64 165])) wr) := Lib.hid fun wr k x hk hx h1 h2 hb =>
    load_bad hok.out hk (by rw [Int.toNat_natCast]; exact (bad_iff hx).2 ⟨h1, h2⟩) hb
  obtain ⟨N, hN⟩ : ∃ N, N = l.length := ⟨_, rfl⟩
  obtain ⟨q, hq⟩ : ∃ q, q = pagesN n := ⟨_, rfl⟩
  have hnN : n ≤ N := by rw [hN, hl]; unfold pagesN; omega
  have hNb : N ≤ 1048600 := by rw [hN, hl]; unfold pagesN; omega
  have hqN : q * 13 = N := by rw [hN, hl, hq]
  rw [← hq] at PG
  rw [← hN] at BAD ⊢
  have HN := Lib.hid hN
  have HWF := Lib.hid hwf
  have HR : Hid (∀ wr, Below w.heap.size w wr → Rd wr a l) := Lib.hid fun wr hb => hr.below hb
  have k1 : IntKind.i64.wrap ((q : Int) * 13) = (N : Int) := by rw [IntWalk.i64_in _ (by omega)]; omega
  have k2 : (q : Int) * 13 = (N : Int) := by omega
  have k3 : IntKind.i64.wrap (N : Int) = (N : Int) := by rw [IntWalk.i64_in _ (by omega)]
  have d1 : ((N : Int) != (N : Int)) = false := by simp
  have d2 : ((N : Int) == (N : Int)) = true := by simp
  clear hN hq hl hnn d hwf hr hqN
  go_enter Try.func11, Try.ntmps11
  go_wp2_with (first
    | (go_at_call 23; refine MH.out.mono ?_; rintro e w' ⟨rfl, rfl⟩)
    | (go_at_call 30; refine PG.out.mono ?_; rintro e w' ⟨rfl, rfl⟩)
    | (go_at_call 7; refine NW.out.mono ?_; rintro e w1 hmade; obtain ⟨⟨o, rfl, htm, hnew⟩, hb1⟩ := hmade; have TM := Lib.hid htm; have NEW := Lib.hid hnew; have B1 := Lib.hid hb1; clear htm hnew hb1))
  obtain ⟨P, hP⟩ : ∃ P, P = o.p := ⟨_, rfl⟩
  rw [← hP]
  have A0 : Hid (∃ c g, LoadAt w P n l 0 w1 o c g) := by
    exact Lib.hid ⟨[], [], TM.out, hP.symm, by rw [List.take_zero]; unfold pad; rw [List.take_nil], Nat.zero_le _, fun j hj => absurd hj (by omega), NEW.out, B1.out⟩
  clear hP
  go_loopw [26] (fun v wr => ∃ (k : Nat) (o : Ob) (c g : List Int), v = .int .i64 (k : Int) ∧ k ≤ N ∧ Hid (LoadAt w P n l k wr o c g)) (fun v _ => N - (Lib.intOf v).toNat)
  case atStart =>
    obtain ⟨c, g, h⟩ := A0.out
    exact ⟨0, o, c, g, rfl, Nat.zero_le _, Lib.hid h⟩
  case round =>
    obtain ⟨k, o', c, g, rfl, hkN, hat⟩ := hrel
    have hkl := HN.out
    by_cases hlt : k < N
    · have t1 : decide ((k : Int) < (N : Int)) = true := by simp; omega
      have t2 : decide (k < N) = true := by simp; omega
      obtain ⟨x, hx⟩ : ∃ x, l[k]? = some x := ⟨l[k], List.getElem?_eq_getElem (by omega)⟩
      obtain ⟨b, off, hab, hb, hc⟩ := (HR.out wr hat.out.below) (fun e => by rw [e] at hx; simp at hx)
      subst hab
      have hc := hc k x hx
      have hwx := HWF.out x (List.mem_of_getElem? hx)
      have HX := Lib.hid hx
      clear hx A0 TM NEW B1 NW MH PG
      by_cases hm1 : x = -1
      · subst hm1
        clear hkl
        go_wp2
        go_roundw
        case rel => exact ⟨k + 1, o', c, g, by go_num, by omega, Lib.hid (hat.out.skip HX.out)⟩
        case measure => simp [Lib.intOf]; omega
      · have t3 : (x == -1) = false := by simpa using hm1
        obtain ⟨D, hD, hmo⟩ := hat.out.tk.placeOf
        obtain ⟨_, h1, _, _, _⟩ := hat.out.tk.reads
        rw [hat.out.p] at h1
        have HD := Lib.hid hD
        have hKEY : Hid (keyOf Try.prog 3 (.int .i64 x) = some (.int .i64 x)) := Lib.hid (int_key x hwx)
        have CH := Lib.hid (ischunk_any x wr)
        cases htw : Maps.has D (.int .i64 x) with
        | true =>
          have HH := Lib.hid htw
          have hin := (hmo.2.1 x).1 htw
          have FIN := Lib.hid (BAD.out wr k x hlt HX.out hm1 (.inr (.inr ((hat.out.twice hin.1).1 hin.2))) hat.out.below)
          clear htw hmo hD hkl hm1 hin BAD
          go_wp2_with (at_lookup; refine wpList_lookup_own_ok_int _ rfl _ _ 57 rfl 3 3 .i64 int_law Try.underlying57 Try.underlying3 (zero_int _) o'.mb (Maps.size D) D rfl HD.out _ (.int .i64 x) rfl hKEY.out ?_; intro y hy hwy; rw [HH.out]; clear hy hwy)
          go_ret2
          exact FIN.out
        | false =>
          have HH := Lib.hid htw
          have hnotin : 0 ≤ x → x ∉ c := fun h0 hc => by rw [(hmo.2.1 x).2 ⟨h0, hc⟩] at htw; cases htw
          clear htw hmo hD
          by_cases hch : 0 ≤ x ∧ x ≤ 2147483646
          · rw [decide_eq_true hch] at CH
            by_cases hnk : n ≤ k
            · have t4 : decide ((n : Int) ≤ (k : Int)) = true := by simp; omega
              have t5 : decide (n ≤ k) = true := by simp; omega
              have FIN := Lib.hid (BAD.out wr k x hlt HX.out hm1 (.inr (.inl hnk)) hat.out.below)
              clear hkl hm1 hch BAD hnotin
              go_wp2_with (first
                | (at_lookup; refine wpList_lookup_own_ok_int _ rfl _ _ 57 rfl 3 3 .i64 int_law Try.underlying57 Try.underlying3 (zero_int _) o'.mb (Maps.size D) D rfl HD.out _ (.int .i64 x) rfl hKEY.out ?_; intro y hy hwy; rw [HH.out]; clear hy hwy)
                | (go_at_call 31; refine CH.out.mono ?_; rintro e w' ⟨rfl, rfl⟩))
              go_ret2
              exact FIN.out
            · have t4 : decide ((n : Int) ≤ (k : Int)) = false := by simp; omega
              have t5 : decide (n ≤ k) = false := by simp; omega
              have SK := Lib.hid (skip_any hat.out.tk k (by omega))
              rw [hat.out.p] at SK
              have hcl := hat.out.len
              have ST : Hid (∀ w2 g2, Went o' n (c ++ List.replicate (k - c.length) (-1)) g2 wr w2 → Calls Try.prog 33 #[.pointer (some ⟨P, 0, none⟩), .int .i64 (k : Int), .int .i64 x] w2 fun e w' => e = .returned (.tuple #[]) ∧ ∃ o3, LoadAt w P n l (k + 1) w' o3 (c ++ List.replicate (k - c.length) (-1) ++ [x]) g2) := Lib.hid fun w2 g2 hw2 => by
                obtain ⟨o2, t2, s2⟩ := hw2
                have hlen : (c ++ List.replicate (k - c.length) (-1)).length = k := by simp; omega
                have hxc : x ∉ c ++ List.replicate (k - c.length) (-1) := by
                  rw [List.mem_append]
                  rintro (h | h)
                  · exact hnotin hch.1 h
                  · exact hm1 (List.mem_replicate.1 h).2
                have hnd : (used (c ++ List.replicate (k - c.length) (-1))).Nodup := by
                  have := used_nodup t2.pr.ok
                  rwa [used_full] at this
                have := stand_end t2.raw x hch.1 hxc hwx hnd (by omega)
                rw [hlen, s2.p, hat.out.p] at this
                refine this.mono ?_
                rintro e w' ⟨rfl, o3, r3, s3⟩
                have hgood : badB n l k = false := by
                  rw [Bool.eq_false_iff]
                  intro hb
                  rcases ((bad_iff HX.out).1 hb).2 with h | h | h
                  · exact h hch
                  · omega
                  · exact hnotin hch.1 ((hat.out.twice hch.1).2 h)
                exact ⟨rfl, o3, hat.out.step HX.out hgood hch.1 (by omega) (r3.tk (t2.pr.snoc (by omega) hch.1 hch.2 hxc)) (s2.trans s3)⟩
              clear hkl hm1 hch BAD hnotin hcl
              go_wp2_with (first
                | (at_lookup; refine wpList_lookup_own_ok_int _ rfl _ _ 57 rfl 3 3 .i64 int_law Try.underlying57 Try.underlying3 (zero_int _) o'.mb (Maps.size D) D rfl HD.out _ (.int .i64 x) rfl hKEY.out ?_; intro y hy hwy; rw [HH.out]; clear hy hwy)
                | (go_at_call 31; refine CH.out.mono ?_; rintro e w' ⟨rfl, rfl⟩)
                | (go_at_call 32; refine SK.out.mono ?_; rintro e w2 ⟨rfl, g2, hw2⟩; have S2 := Lib.hid (ST.out w2 g2 hw2); clear hw2)
                | (go_at_call 33; refine S2.out.mono ?_; rintro e w3 ⟨rfl, o3, h3⟩; have H3 := Lib.hid h3; clear h3))
              go_roundw
              case rel => exact ⟨k + 1, o3, _, g2, by go_num, by omega, H3⟩
              case measure => simp [Lib.intOf]; omega
          · rw [decide_eq_false hch] at CH
            have FIN := Lib.hid (BAD.out wr k x hlt HX.out hm1 (.inl hch) hat.out.below)
            clear hkl hm1 hch BAD hnotin
            go_wp2_with (first
              | (at_lookup; refine wpList_lookup_own_ok_int _ rfl _ _ 57 rfl 3 3 .i64 int_law Try.underlying57 Try.underlying3 (zero_int _) o'.mb (Maps.size D) D rfl HD.out _ (.int .i64 x) rfl hKEY.out ?_; intro y hy hwy; rw [HH.out]; clear hy hwy)
              | (go_at_call 31; refine CH.out.mono ?_; rintro e w' ⟨rfl, rfl⟩))
            go_ret2
            exact FIN.out
    · obtain rfl : k = N := by omega
      have t1 : decide ((k : Int) < (k : Int)) = false := by simp
      have t2 : decide (k < k) = false := by simp
      have FIN : Hid (Loaded (n : Int) l w (.returned (.tuple #[.pointer (some ⟨P, 0, none⟩), .int .i64 0])) wr) := by
        have he : loadE (n : Int) l = 0 := by
          unfold loadE
          rw [if_neg hok.out, Int.toNat_natCast, badAny_false (fun i hi => hat.out.good i (by omega))]
          rfl
        refine Lib.hid ⟨hat.out.below, .inr ⟨he, o', by rw [hat.out.p], ⟨n, c, g, hat.out.tk, ?_⟩, hat.out.new⟩⟩
        rw [hat.out.full, Int.toNat_natCast, List.take_of_length_le (by omega), pad_all (by omega)]
      clear hkl A0 TM NEW B1 NW MH PG BAD
      go_wp2
      go_ret2
      exact FIN.out
theorem load_any {p : Int} {l : List Int} {w : World} (a : Option Addr) (c : Nat) (hl : l.length ≤ 4611686018427387904) (hr : Rd w a l) (hwf : ∀ x ∈ l, (Lit.int .i64 x).wf = true) :
    Calls Try.prog 11 #[.int .i64 p, .slice a l.length c] w (Loaded p l w) := by
  by_cases hbad : p < 0 ∨ p > 1048576 ∨ l.length ≠ pagesN p.toNat * 13
  · exact load_arg a c hl hbad
  · obtain ⟨n, rfl⟩ : ∃ n : Nat, p = (n : Int) := ⟨p.toNat, by omega⟩
    rw [Int.toNat_natCast] at hbad
    exact load_ok a c (by omega) (by omega) hr hwf
end Tb
end Go.Proofs.Ytibemiiflibnaaa
