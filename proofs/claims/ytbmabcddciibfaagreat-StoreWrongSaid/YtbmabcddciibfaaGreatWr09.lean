/- Part 9 of the contracts and of the plain mathematics that the proof of the law rests on: TabLoad, TabArgs, DiskMath2, StoOps. -/
import Derived.Test.YtbmabcddciibfaaGreatWr02
import Derived.Test.YtbmabcddciibfaaGreatWr08
import Derived.Lib.Agree
import Derived.OpenShut
import Derived.SizedLaws
import Derived.Deep.Slices
import Derived.Deep.Fields
namespace Go.Proofs.YtbmabcddciibfaaGreat
namespace Tb
open Go.RowKit Dsk Go.Maps
set_option linter.unusedVariables false
set_option maxRecDepth 100000
def Rd (w : World) (a : Option Addr) (l : List Int) : Prop := l ≠ [] → ∃ b off, a = some ⟨b, off, none⟩ ∧ b < w.heap.size ∧ ∀ i x, l[i]? = some x → w.cell? ⟨b, off + i, none⟩ = some (.int .i64 x)
theorem Rd.below {w w' : World} {a : Option Addr} {l : List Int} (h : Rd w a l) (hb : Below w.heap.size w w') : Rd w' a l := fun hn => by
  obtain ⟨b, off, e, hlt, hc⟩ := h hn
  exact ⟨b, off, e, Nat.lt_of_lt_of_le hlt hb.size, fun i x hx => (hb.cell (p := ⟨b, off + i, none⟩) hlt).trans (hc i x hx)⟩
theorem Rd.own {w : World} {v : Value} {l : List Int} (h : Ints w v l) : ∃ a c, v = .slice a l.length c ∧ Rd w a l := by
  obtain ⟨a, c, rfl⟩ := ints_slice h
  refine ⟨a, c, rfl, fun hn => ?_⟩
  obtain ⟨b, rfl⟩ := ints_some h (List.length_pos_iff.2 hn)
  refine ⟨b, 0, rfl, ?_, fun i x hx => ?_⟩
  · obtain ⟨cur, hc⟩ := own_block h b rfl; exact lt_of_heap hc
  · rw [Nat.zero_add, h.cellAt i (by rw [Nat.mul_one]; exact (List.getElem?_eq_some_iff.1 hx).1), List.getElem?_map, hx]
    rfl
theorem full_rep {n : Nat} {c : List Int} (j : Nat) (h : c.length + j ≤ n) : full n (c ++ List.replicate j (-1)) = full n c := by
  induction j with
  | zero => simp
  | succ j ih => rw [List.replicate_succ', ← List.append_assoc, full_more (by simp; omega), ih (by omega)]
structure LoadAt (w : World) (o0 : Nat) (n : Nat) (l : List Int) (k : Nat) (wr : World) (o : Ob) (c g : List Int) : Prop where
  tk : Tk wr o n c g
  p : o.p = o0
  full : full n c = pad n (l.take k)
  len : c.length ≤ k
  good : ∀ j, j < k → badB n l j = false
  new : ∀ j, o.fp j → w.heap.size ≤ j
  below : Below w.heap.size w wr
theorem LoadAt.twice {w wr : World} {o0 n k : Nat} {l c g : List Int} {o : Ob} (h : LoadAt w o0 n l k wr o c g) {x : Int} (h0 : 0 ≤ x) : x ∈ c ↔ x ∈ l.take k := by
  rw [← pad_mem h0 h.good, ← h.full, full_mem h0]
theorem LoadAt.step {w wr w2 : World} {o0 n k : Nat} {l c g : List Int} {o o2 : Ob} (h : LoadAt w o0 n l k wr o c g) {x : Int} (hx : l[k]? = some x) (hb : badB n l k = false) (h0 : 0 ≤ x) (hn : k < n) {g2 : List Int}
    (ht : Tk w2 o2 n (c ++ List.replicate (k - c.length) (-1) ++ [x]) g2) (hs : Step o o2 wr w2) : LoadAt w o0 n l (k + 1) w2 o2 (c ++ List.replicate (k - c.length) (-1) ++ [x]) g2 := by
  have hl := h.len
  have hlen : (c ++ List.replicate (k - c.length) (-1)).length = k := by simp; omega
  obtain ⟨b1, b2⟩ := hs.below h.below.size h.new
  refine ⟨ht, hs.p.trans h.p, ?_, ?_, fun j hj => ?_, b2, h.below.trans b1⟩
  · rw [← full_snoc x (by omega), hlen, full_rep _ (by omega), h.full, ← pad_set hx hn]
  · rw [List.length_append, hlen, List.length_singleton]; omega
  · by_cases e : j = k
    · rw [e]; exact hb
    · exact h.good j (by omega)
theorem LoadAt.skip {w wr : World} {o0 n k : Nat} {l c g : List Int} {o : Ob} (h : LoadAt w o0 n l k wr o c g) (hx : l[k]? = some (-1)) : LoadAt w o0 n l (k + 1) wr o c g := by
  have hl := h.len
  refine ⟨h.tk, h.p, by rw [h.full, pad_free hx], by omega, fun j hj => ?_, h.new, h.below⟩
  by_cases e : j = k
  · subst e
    rw [Bool.eq_false_iff]
    intro hb
    exact ((bad_iff hx).1 hb).1 rfl
  · exact h.good j (by omega)
def Loaded (p : Int) (l : List Int) (w : World) (e : Ending) (w' : World) : Prop :=
  Below w.heap.size w w' ∧ ((loadE p l ≠ 0 ∧ e = .returned (.tuple #[.pointer none, .int .i64 (loadE p l)])) ∨
    (loadE p l = 0 ∧ ∃ o, e = .returned (.tuple #[.pointer (some ⟨o.p, 0, none⟩), .int .i64 0]) ∧ Tm w' o (l.take p.toNat) ∧ ∀ k, o.fp k → w.heap.size ≤ k))
theorem load_arg {p : Int} {l : List Int} {w : World} (a : Option Addr) (c : Nat) (hl : l.length ≤ 4611686018427387904) (hbad : p < 0 ∨ p > 1048576 ∨ l.length ≠ pagesN p.toNat * 13) :
    Calls Tryz.prog 92 #[.int .i64 p, .slice a l.length c] w (Loaded p l w) := by
  have he : loadE p l = 1 := by unfold loadE; rw [if_pos hbad]
  have MH := Lib.hid (mayhave_any p w)
  have FIN : Hid (Loaded p l w (.returned (.tuple #[.pointer none, .int .i64 1])) w) := Lib.hid ⟨Below.refl _ _, .inl ⟨by rw [he]; decide, by rw [he]⟩⟩
  obtain ⟨N, hN⟩ : ∃ N, N = l.length := ⟨_, rfl⟩
  rw [← hN] at hbad hl ⊢
  by_cases hp : 0 ≤ p ∧ p ≤ 1048576
  · have d : (decide (0 ≤ p) && decide (p ≤ 1048576)) = true := by simp [hp]
    rw [d] at MH
    obtain ⟨n, rfl⟩ : ∃ n : Nat, p = (n : Int) := ⟨p.toNat, by omega⟩
    rw [Int.toNat_natCast] at hbad
    have PG := Lib.hid (pages_any n w (by omega))
    obtain ⟨q, hq⟩ : ∃ q, q = pagesN n := ⟨_, rfl⟩
    rw [← hq] at PG hbad
    have hqb : q ≤ 1048576 := by rw [hq]; unfold pagesN; omega
    have hne : N ≠ q * 13 := by omega
    obtain ⟨Q, hQ⟩ : ∃ Q, Q = q * 13 := ⟨_, rfl⟩
    have k1 : IntKind.i64.wrap ((q : Int) * 13) = (Q : Int) := by rw [IntWalk.i64_in _ (by omega)]; omega
    have k2 : (q : Int) * 13 = (Q : Int) := by omega
    have k3 : IntKind.i64.wrap (Q : Int) = (Q : Int) := by rw [IntWalk.i64_in _ (by omega)]
    have d1 : ((N : Int) != (Q : Int)) = true := by simp; omega
    have d2 : ((N : Int) == (Q : Int)) = false := by simp; omega
    have d3 : (N == Q) = false := by simp; omega
    clear hN hq hQ hne hbad hp d he
    go_enter Tryz.func92, Tryz.ntmps92
    go_wp2_with (first
      | (go_at_call 122; refine MH.out.mono ?_; rintro e w' ⟨rfl, rfl⟩)
      | (go_at_call 126; refine PG.out.mono ?_; rintro e w' ⟨rfl, rfl⟩))
    go_ret2
    exact FIN.out
  · have d : (decide (0 ≤ p) && decide (p ≤ 1048576)) = false := by
      rw [Bool.eq_false_iff]
      intro c
      rw [Bool.and_eq_true] at c
      exact hp ⟨of_decide_eq_true c.1, of_decide_eq_true c.2⟩
    rw [d] at MH
    clear hN hbad hp d he
    go_enter Tryz.func92, Tryz.ntmps92
    go_wp2_with (go_at_call 122; refine MH.out.mono ?_; rintro e w' ⟨rfl, rfl⟩)
    go_ret2
    exact FIN.out
theorem load_bad {p : Int} {l : List Int} {w wr : World} {k : Nat} (hok : ¬ (p < 0 ∨ p > 1048576 ∨ l.length ≠ pagesN p.toNat * 13)) (hk : k < l.length) (hb : badB p.toNat l k = true) (hbl : Below w.heap.size w wr) :
    Loaded p l w (.returned (.tuple #[.pointer none, .int .i64 165])) wr := by
  have he : loadE p l = 165 := by unfold loadE; rw [if_neg hok, if_pos (badAny_true hk hb)]
  exact ⟨hbl, .inl ⟨by rw [he]; decide, by rw [he]⟩⟩
set_option maxHeartbeats 2000000 in
theorem load_ok {n : Nat} {l : List Int} {w : World} (a : Option Addr) (c0 : Nat) (hn : n ≤ 1048576) (hl : l.length = pagesN n * 13) (hr : Rd w a l) (hwf : ∀ x ∈ l, (Lit.int .i64 x).wf = true) :
    Calls Tryz.prog 92 #[.int .i64 (n : Int), .slice a l.length c0] w (Loaded (n : Int) l w) := by
  have MH := Lib.hid (mayhave_any (n : Int) w)
  have d : (decide (0 ≤ (n : Int)) && decide ((n : Int) ≤ 1048576)) = true := by simp; omega
  rw [d] at MH
  have PG := Lib.hid (pages_any n w hn)
  have NW := Lib.hid (new_k (n : Int) w)
  have hnn : newN (n : Int) = n := by unfold newN; rw [if_pos ⟨by omega, by omega⟩, Int.toNat_natCast]
  rw [hnn] at NW
  have hok : Hid (¬ ((n : Int) < 0 ∨ (n : Int) > 1048576 ∨ l.length ≠ pagesN (n : Int).toNat * 13)) := Lib.hid (by rw [Int.toNat_natCast]; omega)
  have BAD : Hid (∀ (wr : World) (k : Nat) (x : Int), k < l.length → l[k]? = some x → x ≠ -1 → (¬ (0 ≤ x ∧ x ≤ 2147483646) ∨ n ≤ k ∨ x ∈ l.take k) → Below w.heap.size w wr → Loaded (n : Int) l w (.returned (.tuple #[.pointer none, .int .i64 165])) wr) := Lib.hid fun wr k x hk hx h1 h2 hb =>
    load_bad hok.out hk (by rw [Int.toNat_natCast]; exact (bad_iff hx).2 ⟨h1, h2⟩) hb
  obtain ⟨N, hN⟩ : ∃ N, N = l.length := ⟨_, rfl⟩
  obtain ⟨q, hq⟩ : ∃ q, q = pagesN n := ⟨_, rfl⟩
  have hnN : n ≤ N := by rw [hN, hl]; unfold pagesN; omega
  have hNb : N ≤ 1048600 := by rw [hN, hl]; unfold pagesN; omega
  have hqN : q * 13 = N := by rw [hN, hl, hq]
  rw [← hq] at PG
  rw [← hN] at BAD ⊢
  have HN := Lib.hid hN
  have HWF := Lib.hid hwf
  have HR : Hid (∀ wr, Below w.heap.size w wr → Rd wr a l) := Lib.hid fun wr hb => hr.below hb
  have k1 : IntKind.i64.wrap ((q : Int) * 13) = (N : Int) := by rw [IntWalk.i64_in _ (by omega)]; omega
  have k2 : (q : Int) * 13 = (N : Int) := by omega
  have k3 : IntKind.i64.wrap (N : Int) = (N : Int) := by rw [IntWalk.i64_in _ (by omega)]
  have d1 : ((N : Int) != (N : Int)) = false := by simp
  have d2 : ((N : Int) == (N : Int)) = true := by simp
  clear hN hq hl hnn d hwf hr hqN
  go_enter Tryz.func92, Tryz.ntmps92
  go_wp2_with (first
    | (go_at_call 122; refine MH.out.mono ?_; rintro e w' ⟨rfl, rfl⟩)
    | (go_at_call 126; refine PG.out.mono ?_; rintro e w' ⟨rfl, rfl⟩)
    | (go_at_call 87; refine NW.out.mono ?_; rintro e w1 hmade; obtain ⟨⟨o, rfl, htm, hnew⟩, hb1⟩ := hmade; have TM := Lib.hid htm; have NEW := Lib.hid hnew; have B1 := Lib.hid hb1; clear htm hnew hb1))
  obtain ⟨P, hP⟩ : ∃ P, P = o.p := ⟨_, rfl⟩
  rw [← hP]
  have A0 : Hid (∃ c g, LoadAt w P n l 0 w1 o c g) := by
    exact Lib.hid ⟨[], [], TM.out, hP.symm, by rw [List.take_zero]; unfold pad; rw [List.take_nil], Nat.zero_le _, fun j hj => absurd hj (by omega), NEW.out, B1.out⟩
  clear hP
  go_loopw [26] (fun v wr => ∃ (k : Nat) (o : Ob) (c g : List Int), v = .int .i64 (k : Int) ∧ k ≤ N ∧ Hid (LoadAt w P n l k wr o c g)) (fun v _ => N - (Lib.intOf v).toNat)
  case atStart =>
    obtain ⟨c, g, h⟩ := A0.out
    exact ⟨0, o, c, g, rfl, Nat.zero_le _, Lib.hid h⟩
  case round =>
    obtain ⟨k, o', c, g, rfl, hkN, hat⟩ := hrel
    have hkl := HN.out
    by_cases hlt : k < N
    · have t1 : decide ((k : Int) < (N : Int)) = true := by simp; omega
      have t2 : decide (k < N) = true := by simp; omega
      obtain ⟨x, hx⟩ : ∃ x, l[k]? = some x := ⟨l[k], List.getElem?_eq_getElem (by omega)⟩
      obtain ⟨b, off, hab, hb, hc⟩ := (HR.out wr hat.out.below) (fun e => by rw [e] at hx; simp at hx)
      subst hab
      have hc := hc k x hx
      have hwx := HWF.out x (List.mem_of_getElem? hx)
      have HX := Lib.hid hx
      clear hx A0 TM NEW B1 NW MH PG
      by_cases hm1 : x = -1
      · subst hm1
        clear hkl
        go_wp2
        go_roundw
        case rel => exact ⟨k + 1, o', c, g, by go_num, by omega, Lib.hid (hat.out.skip HX.out)⟩
        case measure => simp [Lib.intOf]; omega
      · have t3 : (x == -1) = false := by simpa using hm1
        obtain ⟨D, hD, hmo⟩ := hat.out.tk.placeOf
        obtain ⟨_, h1, _, _, _⟩ := hat.out.tk.reads
        rw [hat.out.p] at h1
        have HD := Lib.hid hD
        have hKEY : Hid (keyOf Tryz.prog 3 (.int .i64 x) = some (.int .i64 x)) := Lib.hid (int_key x hwx)
        have CH := Lib.hid (ischunk_any x wr)
        cases htw : Maps.has D (.int .i64 x) with
        | true =>
          have HH := Lib.hid htw
          have hin := (hmo.2.1 x).1 htw
          have FIN := Lib.hid (BAD.out wr k x hlt HX.out hm1 (.inr (.inr ((hat.out.twice hin.1).1 hin.2))) hat.out.below)
          clear htw hmo hD hkl hm1 hin BAD
          go_wp2_with (at_lookup; refine wpList_lookup_own_ok_int _ rfl _ _ 96 rfl 3 3 .i64 int_law Tryz.underlying96 Tryz.underlying3 (zero_int _) o'.mb (Maps.size D) D rfl HD.out _ (.int .i64 x) rfl hKEY.out ?_; intro y hy hwy; rw [HH.out]; clear hy hwy)
          go_ret2
          exact FIN.out
        | false =>
          have HH := Lib.hid htw
          have hnotin : 0 ≤ x → x ∉ c := fun h0 hc => by rw [(hmo.2.1 x).2 ⟨h0, hc⟩] at htw; cases htw
          clear htw hmo hD
          by_cases hch : 0 ≤ x ∧ x ≤ 2147483646
          · rw [decide_eq_true hch] at CH
            by_cases hnk : n ≤ k
            · have t4 : decide ((n : Int) ≤ (k : Int)) = true := by simp; omega
              have t5 : decide (n ≤ k) = true := by simp; omega
              have FIN := Lib.hid (BAD.out wr k x hlt HX.out hm1 (.inr (.inl hnk)) hat.out.below)
              clear hkl hm1 hch BAD hnotin
              go_wp2_with (first
                | (at_lookup; refine wpList_lookup_own_ok_int _ rfl _ _ 96 rfl 3 3 .i64 int_law Tryz.underlying96 Tryz.underlying3 (zero_int _) o'.mb (Maps.size D) D rfl HD.out _ (.int .i64 x) rfl hKEY.out ?_; intro y hy hwy; rw [HH.out]; clear hy hwy)
                | (go_at_call 127; refine CH.out.mono ?_; rintro e w' ⟨rfl, rfl⟩))
              go_ret2
              exact FIN.out
            · have t4 : decide ((n : Int) ≤ (k : Int)) = false := by simp; omega
              have t5 : decide (n ≤ k) = false := by simp; omega
              have SK := Lib.hid (skip_any hat.out.tk k (by omega))
              rw [hat.out.p] at SK
              have hcl := hat.out.len
              have ST : Hid (∀ w2 g2, Went o' n (c ++ List.replicate (k - c.length) (-1)) g2 wr w2 → Calls Tryz.prog 129 #[.pointer (some ⟨P, 0, none⟩), .int .i64 (k : Int), .int .i64 x] w2 fun e w' => e = .returned (.tuple #[]) ∧ ∃ o3, LoadAt w P n l (k + 1) w' o3 (c ++ List.replicate (k - c.length) (-1) ++ [x]) g2) := Lib.hid fun w2 g2 hw2 => by
                obtain ⟨o2, t2, s2⟩ := hw2
                have hlen : (c ++ List.replicate (k - c.length) (-1)).length = k := by simp; omega
                have hxc : x ∉ c ++ List.replicate (k - c.length) (-1) := by
                  rw [List.mem_append]
                  rintro (h | h)
                  · exact hnotin hch.1 h
                  · exact hm1 (List.mem_replicate.1 h).2
                have hnd : (used (c ++ List.replicate (k - c.length) (-1))).Nodup := by
                  have := used_nodup t2.pr.ok
                  rwa [used_full] at this
                have := stand_end t2.raw x hch.1 hxc hwx hnd (by omega)
                rw [hlen, s2.p, hat.out.p] at this
                refine this.mono ?_
                rintro e w' ⟨rfl, o3, r3, s3⟩
                have hgood : badB n l k = false := by
                  rw [Bool.eq_false_iff]
                  intro hb
                  rcases ((bad_iff HX.out).1 hb).2 with h | h | h
                  · exact h hch
                  · omega
                  · exact hnotin hch.1 ((hat.out.twice hch.1).2 h)
                exact ⟨rfl, o3, hat.out.step HX.out hgood hch.1 (by omega) (r3.tk (t2.pr.snoc (by omega) hch.1 hch.2 hxc)) (s2.trans s3)⟩
              clear hkl hm1 hch BAD hnotin hcl
              go_wp2_with (first
                | (at_lookup; refine wpList_lookup_own_ok_int _ rfl _ _ 96 rfl 3 3 .i64 int_law Tryz.underlying96 Tryz.underlying3 (zero_int _) o'.mb (Maps.size D) D rfl HD.out _ (.int .i64 x) rfl hKEY.out ?_; intro y hy hwy; rw [HH.out]; clear hy hwy)
                | (go_at_call 127; refine CH.out.mono ?_; rintro e w' ⟨rfl, rfl⟩)
                | (go_at_call 128; refine SK.out.mono ?_; rintro e w2 ⟨rfl, g2, hw2⟩; have S2 := Lib.hid (ST.out w2 g2 hw2); clear hw2)
                | (go_at_call 129; refine S2.out.mono ?_; rintro e w3 ⟨rfl, o3, h3⟩; have H3 := Lib.hid h3; clear h3))
              go_roundw
              case rel => exact ⟨k + 1, o3, _, g2, by go_num, by omega, H3⟩
              case measure => simp [Lib.intOf]; omega
          · rw [decide_eq_false hch] at CH
            have FIN := Lib.hid (BAD.out wr k x hlt HX.out hm1 (.inl hch) hat.out.below)
            clear hkl hm1 hch BAD hnotin
            go_wp2_with (first
              | (at_lookup; refine wpList_lookup_own_ok_int _ rfl _ _ 96 rfl 3 3 .i64 int_law Tryz.underlying96 Tryz.underlying3 (zero_int _) o'.mb (Maps.size D) D rfl HD.out _ (.int .i64 x) rfl hKEY.out ?_; intro y hy hwy; rw [HH.out]; clear hy hwy)
              | (go_at_call 127; refine CH.out.mono ?_; rintro e w' ⟨rfl, rfl⟩))
            go_ret2
            exact FIN.out
    · obtain rfl : k = N := by omega
      have t1 : decide ((k : Int) < (k : Int)) = false := by simp
      have t2 : decide (k < k) = false := by simp
      have FIN : Hid (Loaded (n : Int) l w (.returned (.tuple #[.pointer (some ⟨P, 0, none⟩), .int .i64 0])) wr) := by
        have he : loadE (n : Int) l = 0 := by
          unfold loadE
          rw [if_neg hok.out, Int.toNat_natCast, badAny_false (fun i hi => hat.out.good i (by omega))]
          rfl
        refine Lib.hid ⟨hat.out.below, .inr ⟨he, o', by rw [hat.out.p], ⟨n, c, g, hat.out.tk, ?_⟩, hat.out.new⟩⟩
        rw [hat.out.full, Int.toNat_natCast, List.take_of_length_le (by omega), pad_all (by omega)]
      clear hkl A0 TM NEW B1 NW MH PG BAD
      go_wp2
      go_ret2
      exact FIN.out
theorem load_any {p : Int} {l : List Int} {w : World} (a : Option Addr) (c : Nat) (hl : l.length ≤ 4611686018427387904) (hr : Rd w a l) (hwf : ∀ x ∈ l, (Lit.int .i64 x).wf = true) :
    Calls Tryz.prog 92 #[.int .i64 p, .slice a l.length c] w (Loaded p l w) := by
  by_cases hbad : p < 0 ∨ p > 1048576 ∨ l.length ≠ pagesN p.toNat * 13
  · exact load_arg a c hl hbad
  · obtain ⟨n, rfl⟩ : ∃ n : Nat, p = (n : Int) := ⟨p.toNat, by omega⟩
    rw [Int.toNat_natCast] at hbad
    exact load_ok a c (by omega) (by omega) hr hwf
end Tb
end Go.Proofs.YtbmabcddciibfaaGreat
namespace Go.Proofs.YtbmabcddciibfaaGreat
namespace Tb
open Go.RowKit Go.ChangeShapes Go.WideShapes Go.Deep
set_option linter.unusedVariables false
set_option maxRecDepth 100000
section
variable {H : Type} {enc : TypeId × Value → H} {w : World} {spare : Nat → Bool} {held : Bool}
theorem lt_of_cell {w : World} {a : Addr} {v : Value} (h : w.cell? a = some v) : a.block < w.heap.size := by
  unfold World.cell? at h
  by_cases hb : a.block < w.heap.size
  · exact hb
  · rw [Array.getElem?_eq_none (by omega)] at h
    simp at h
theorem plain_at {a : Addr} {v : Value} (h : w.cell? a = some v) : ∃ b off, a = ⟨b, off, none⟩ := by
  obtain ⟨b, off, spot⟩ := a
  have : spot = none := by simpa using World.cell?_spot h
  subst this
  exact ⟨b, off, rfl⟩
theorem cells_int : Tryz.prog.cellsOf 3 = 1 := by kernel_rfl
def ActAt (w : World) (b off : Nat) (x : Bool × Int) : Prop := w.cell? ⟨b, off, none⟩ = some (.bool x.1) ∧ w.cell? ⟨b, off + 1, none⟩ = some (.int .i64 x.2) ∧ (Lit.int .i64 x.2).wf = true
def Acts (w : World) (a : Option Addr) (xs : List (Bool × Int)) : Prop := xs ≠ [] → ∃ b off, a = some ⟨b, off, none⟩ ∧ b < w.heap.size ∧ ∀ i x, xs[i]? = some x → ActAt w b (off + i * 2) x
theorem Acts.nil (w : World) (a : Option Addr) : Acts w a [] := fun h => (h rfl).elim
theorem Acts.below {w w' : World} {a : Option Addr} {xs : List (Bool × Int)} (h : Acts w a xs) (hb : Below w.heap.size w w') : Acts w' a xs := fun hn => by
  obtain ⟨b, off, e, hlt, hc⟩ := h hn
  exact ⟨b, off, e, Nat.lt_of_lt_of_le hlt hb.size, fun i x hx => ⟨(hb.cell (p := ⟨b, off + i * 2, none⟩) hlt).trans (hc i x hx).1, (hb.cell (p := ⟨b, off + i * 2 + 1, none⟩) hlt).trans (hc i x hx).2.1, (hc i x hx).2.2⟩⟩
structure Nums (w : World) (a : Option Addr) (c : Nat) (xs : List Int) : Prop where
  row : Rd w a xs
  cap : xs.length ≤ c
  wf : ∀ x ∈ xs, (Lit.int .i64 x).wf = true
theorem view_nums {fuel : Nat} {v : Value} {x : DataW H × List MemPlace} (h : DataW.trod enc Tryz.prog w 0 spare held fuel 31 [v] = some x) :
    ∃ (a : Option Addr) (xs : List Int) (c : Nat), v = .slice a xs.length c ∧ xs.length ≤ maxLen ∧ Nums w a c xs := by
  rcases open_slice Tryz.underlying31 h with ⟨h0, _⟩ | ⟨a, len, cap, m, n, D, Pl, hv, _, hlc, hcm, hm, hxe, hx⟩
  · injection h0 with h0
    exact ⟨none, [], 0, h0, Nat.zero_le _, ⟨fun h => (h rfl).elim, Nat.le_refl _, fun x hx => by cases hx⟩⟩
  · injection hv with hv
    have hlm : len ≤ m := by rw [hm]; split <;> omega
    rw [cells_int] at hx
    by_cases hz : len = 0
    · subst hz
      exact ⟨some a, [], cap, hv, Nat.zero_le _, ⟨fun h => (h rfl).elim, hlc, fun x hx => by cases hx⟩⟩
    · obtain ⟨cs0, hc0, _⟩ := hx 0 (by omega)
      obtain ⟨_, _, hat0⟩ := World.cells?_some hc0
      have h0 := hat0 0 (by decide)
      have hl0 : 0 < cs0.length := by obtain ⟨_, hl, _⟩ := World.cells?_some hc0; omega
      rw [List.getElem?_eq_getElem hl0] at h0
      rw [show (a.add (0 * 1)).add 0 = a from rfl] at h0
      obtain ⟨b, off, rfl⟩ := plain_at h0
      obtain ⟨X, hX⟩ := choose_lt (α := Int) (n := m) (p := fun i x => w.cell? ⟨b, off + i, none⟩ = some (.int .i64 x) ∧ (Lit.int .i64 x).wf = true) (fun i hi => by
        obtain ⟨cs, h1, h2⟩ := hx i hi
        rw [Go.WideShapes.add_plain, Nat.mul_one] at h1
        obtain ⟨_, hl, hat⟩ := World.cells?_some h1
        match cs, hl with
        | [v0], _ =>
          have g0 := hat 0 (by decide)
          obtain ⟨q, e1, _, w1⟩ := DataW.trod_int Tryz.underlying3 h2
          have e1 : v0 = .int .i64 q := by simpa using e1
          exact ⟨q, by rw [← e1]; exact g0, w1⟩)
      refine ⟨some ⟨b, off, none⟩, (List.range len).map X, cap, by rw [hv, List.length_map, List.length_range], by rw [List.length_map, List.length_range]; omega, ⟨fun hn => ⟨b, off, rfl, lt_of_cell h0, fun i x hi => ?_⟩, by rw [List.length_map, List.length_range]; exact hlc, fun x hx => ?_⟩⟩
      · have hil : i < len := by have := (List.getElem?_eq_some_iff.1 hi).1; rwa [List.length_map, List.length_range] at this
        rw [List.getElem?_map, List.getElem?_range hil] at hi
        injection hi with hi
        rw [← hi]
        exact (hX i (by omega)).1
      · obtain ⟨i, hi, rfl⟩ := List.mem_map.1 hx
        exact (hX i (by have := List.mem_range.1 hi; omega)).2
end
end Tb
end Go.Proofs.YtbmabcddciibfaaGreat
namespace Go.Proofs.YtbmabcddciibfaaGreat
namespace Dm
theorem set_getD {S : List (List UInt8)} {j k : Nat} (_hj : j < S.length) (d : List UInt8) : (S.set j d).getD k [] = if j = k then d else S.getD k [] := by
  simp only [List.getD_eq_getElem?_getD, List.getElem?_set]
  split
  · subst_vars
    simp
  · rfl
theorem settle_all {S : List (List UInt8)} {P : List (Nat × List UInt8)} (h : ∀ x ∈ P, x.1 < S.length) (k : Nat) : (settle S P (all P)).getD k [] = last P k (S.getD k []) := by
  induction P generalizing S with
  | nil => rfl
  | cons x P ih =>
    show (settle (S.set x.1 x.2) P (all P)).getD k [] = last P k (if x.1 = k then x.2 else S.getD k [])
    rw [ih (fun y hy => by rw [List.length_set]; exact h y (List.mem_cons_of_mem _ hy)), set_getD (h x List.mem_cons_self)]
theorem settle_one {S : List (List UInt8)} {P : List (Nat × List UInt8)} (keep : List Bool) (h : ∀ x ∈ P, x.1 < S.length) (k : Nat) :
    (settle S P keep).getD k [] = S.getD k [] ∨ ∃ x ∈ P, x = (k, (settle S P keep).getD k []) := by
  induction P generalizing S keep with
  | nil => exact .inl rfl
  | cons x P ih =>
    unfold settle
    split
    · rcases ih keep.tail (S := S.set x.1 x.2) (fun y hy => by rw [List.length_set]; exact h y (List.mem_cons_of_mem _ hy)) with e | ⟨y, hy, he⟩
      · rw [set_getD (h x List.mem_cons_self)] at e
        by_cases hk : x.1 = k
        · rw [if_pos hk] at e
          exact .inr ⟨x, List.mem_cons_self, by rw [e, ← hk]⟩
        · rw [if_neg hk] at e
          exact .inl e
      · exact .inr ⟨y, List.mem_cons_of_mem _ hy, he⟩
    · rcases ih keep.tail (S := S) (fun y hy => h y (List.mem_cons_of_mem _ hy)) with e | ⟨y, hy, he⟩
      · exact .inl e
      · exact .inr ⟨y, List.mem_cons_of_mem _ hy, he⟩
def news (a : Nat) (cs : List (List UInt8)) (f : Nat) : List (Nat × List UInt8) := (List.range f).map fun j => (a + j, cs.getD j [])
theorem news_cons (a : Nat) (c : List UInt8) (cs : List (List UInt8)) (f : Nat) : news a (c :: cs) (f + 1) = (a, c) :: news (a + 1) cs f := by
  unfold news
  rw [List.range_succ_eq_map]
  simp only [List.map_cons, List.map_map, Nat.add_zero, List.getD_cons_zero]
  congr 1
  apply List.map_congr_left
  intro j _
  simp only [Function.comp, Nat.succ_eq_add_one, List.getD_cons_succ]
  congr 1
  omega
theorem puts_P (st : St) (a : Nat) (cs : List (List UInt8)) : ∃ f, f ≤ cs.length ∧ (puts st a cs).1.P = st.P ++ news a cs f := by
  induction cs generalizing st a with
  | nil => exact ⟨0, Nat.le_refl _, by simp [puts, news]⟩
  | cons c cs ih =>
    unfold puts
    split
    · obtain ⟨f, hf, he⟩ := ih (put (spendS st) a c) (a + 1)
      refine ⟨f + 1, by simp; omega, ?_⟩
      rw [he, news_cons]
      show ((spendS st).P ++ [(a, c)]) ++ _ = _
      rw [spendS_P, List.append_assoc]
      rfl
    · exact ⟨0, Nat.zero_le _, by rw [spendS_P]; simp [news]⟩
theorem write_P (st : St) (a : Int) (l : List UInt8) : ∃ f, (write st a l).1.P = st.P ++ news a.toNat (chunks l) f ∧ (0 < f → 0 ≤ a ∧ f ≤ l.length / 64 ∧ a.toNat + l.length / 64 ≤ st.S.length) := by
  unfold write
  split
  · exact ⟨0, by simp [news], fun h => absurd h (by omega)⟩
  · split
    · split
      · rename_i ht
        obtain ⟨h1, h2, h3⟩ := (there_iff _ _ _).1 ht
        obtain ⟨f, hf, he⟩ := puts_P st a.toNat (chunks l)
        rw [chunks_length] at hf
        exact ⟨f, he, fun _ => ⟨h1, hf, by omega⟩⟩
      · exact ⟨0, by simp [news], fun h => absurd h (by omega)⟩
    · exact ⟨0, by simp [news], fun h => absurd h (by omega)⟩
end Dm
end Go.Proofs.YtbmabcddciibfaaGreat
namespace Go.Proofs.YtbmabcddciibfaaGreat
namespace So
inductive Op where
  | wr (k : Nat) (d : List UInt8)
  | fl
def step (st : Dm.St) : Op → Dm.St × Int
  | .wr k d => Dm.write st (k : Int) d
  | .fl => Dm.flush st
def runs : Dm.St → List Op → Dm.St × Int
  | st, [] => (st, 0)
  | st, o :: r => if (step st o).2 = 0 then runs (step st o).1 r else step st o
theorem runs_nil (st : Dm.St) : runs st [] = (st, 0) := rfl
theorem runs_yes {st : Dm.St} {o : Op} (r : List Op) (h : (step st o).2 = 0) : runs st (o :: r) = runs (step st o).1 r := by rw [runs, if_pos h]
theorem runs_no {st : Dm.St} {o : Op} (r : List Op) (h : (step st o).2 ≠ 0) : runs st (o :: r) = step st o := by rw [runs, if_neg h]
theorem runs_one_op (st : Dm.St) (o : Op) : runs st [o] = ((step st o).1, (step st o).2) := by
  by_cases h : (step st o).2 = 0
  · rw [runs_yes _ h, runs_nil, h]
  · rw [runs_no _ h]
theorem runs_app_yes {st : Dm.St} {a : List Op} (b : List Op) (h : (runs st a).2 = 0) : runs st (a ++ b) = runs (runs st a).1 b := by
  induction a generalizing st with
  | nil => rfl
  | cons o a ih =>
    by_cases ho : (step st o).2 = 0
    · rw [runs_yes _ ho] at h
      rw [List.cons_append, runs_yes _ ho, runs_yes _ ho, ih h]
    · rw [runs_no _ ho] at h
      exact absurd h ho
theorem runs_app_no {st : Dm.St} {a : List Op} (b : List Op) (h : (runs st a).2 ≠ 0) : runs st (a ++ b) = runs st a := by
  induction a generalizing st with
  | nil => exact absurd rfl h
  | cons o a ih =>
    by_cases ho : (step st o).2 = 0
    · rw [runs_yes _ ho] at h
      rw [List.cons_append, runs_yes _ ho, runs_yes _ ho, ih h]
    · rw [List.cons_append, runs_no _ ho, runs_no _ ho]
def upd (f : Nat → List UInt8) (k : Nat) (d : List UInt8) (x : Nat) : List UInt8 := if k ≤ x ∧ x < k + d.length / 64 then (d.drop (64 * (x - k))).take 64 else f x
def eff : (Nat → List UInt8) → List Op → Nat → List UInt8
  | f, [] => f
  | f, .wr k d :: r => eff (upd f k d) r
  | f, .fl :: r => eff f r
def Wr (W : List Op) (x : Nat) (d : List UInt8) : Prop := ∃ k c, Op.wr k c ∈ W ∧ k ≤ x ∧ x < k + c.length / 64 ∧ d = (c.drop (64 * (x - k))).take 64
theorem Wr.mono {V W : List Op} {x : Nat} {d : List UInt8} (h : Wr V x d) (hs : ∀ o ∈ V, o ∈ W) : Wr W x d := by
  obtain ⟨k, c, hm, r⟩ := h
  exact ⟨k, c, hs _ hm, r⟩
theorem eff_off {W : List Op} {x : Nat} (f : Nat → List UInt8) (h : ∀ d, ¬ Wr W x d) : eff f W x = f x := by
  induction W generalizing f with
  | nil => rfl
  | cons o W ih =>
    have h2 : ∀ d, ¬ Wr W x d := fun d hd => h d (hd.mono fun o ho => List.mem_cons_of_mem _ ho)
    cases o with
    | fl => exact ih f h2
    | wr k c =>
      show eff (upd f k c) W x = f x
      rw [ih _ h2]
      unfold upd
      split
      · rename_i hk
        exact absurd ⟨k, c, List.mem_cons_self, hk.1, hk.2, rfl⟩ (h ((c.drop (64 * (x - k))).take 64))
      · rfl
theorem eff_at {W : List Op} {x : Nat} (f : Nat → List UInt8) {v : List UInt8} (h : Wr W x v) (hu : ∀ d, Wr W x d → d = v) : eff f W x = v := by
  have key : ∀ (W : List Op) (f : Nat → List UInt8), (∀ d, Wr W x d → d = v) → (f x = v ∨ ∃ d, Wr W x d) → eff f W x = v := by
    intro W
    induction W with
    | nil =>
      intro f _ h
      rcases h with h | ⟨d, k, c, hm, _⟩
      · exact h
      · cases hm
    | cons o W ih =>
      intro f hu h
      have hu2 : ∀ d, Wr W x d → d = v := fun d hd => hu d (hd.mono fun o ho => List.mem_cons_of_mem _ ho)
      cases o with
      | fl =>
        refine ih f hu2 (h.imp id ?_)
        rintro ⟨d, k, c, hm, r⟩
        rcases List.mem_cons.1 hm with hm | hm
        · cases hm
        · exact ⟨d, k, c, hm, r⟩
      | wr k c =>
        refine ih (upd f k c) hu2 ?_
        by_cases hk : k ≤ x ∧ x < k + c.length / 64
        · left
          unfold upd
          rw [if_pos hk]
          exact hu _ ⟨k, c, List.mem_cons_self, hk.1, hk.2, rfl⟩
        · rcases h with h | ⟨d, k', c', hm, h1, h2, r⟩
          · left; unfold upd; rw [if_neg hk]; exact h
          · rcases List.mem_cons.1 hm with hm | hm
            · injection hm with e1 e2; subst e1; subst e2; exact absurd ⟨h1, h2⟩ hk
            · exact .inr ⟨d, k', c', hm, h1, h2, r⟩
  exact key W f hu (.inr ⟨v, h⟩)
theorem one_spend (st : Dm.St) (x : Nat) : Dm.one (Dm.spendS st) x = Dm.one st x := by unfold Dm.one; rw [Dm.spendS_S, Dm.spendS_P]
theorem one_put (st : Dm.St) (k x : Nat) (c : List UInt8) : Dm.one (Dm.put st k c) x = if k = x then c else Dm.one st x := by
  show Dm.last (st.P ++ [(k, c)]) x (st.S.getD x []) = _
  rw [Dm.last_snoc]
  rfl
theorem puts_one {cs : List (List UInt8)} {st : Dm.St} {k : Nat} (h : (Dm.puts st k cs).2 = 0) (x : Nat) :
    Dm.one (Dm.puts st k cs).1 x = if k ≤ x ∧ x < k + cs.length then cs.getD (x - k) [] else Dm.one st x := by
  induction cs generalizing st k with
  | nil => rw [if_neg (by simp)]; rfl
  | cons c cs ih =>
    unfold Dm.puts at h ⊢
    cases hb : Dm.spendB st with
    | false => rw [hb] at h; simp at h
    | true =>
      rw [hb] at h
      simp only [if_true] at h ⊢
      rw [ih h, one_put, one_spend]
      simp only [List.length_cons]
      by_cases e : k = x
      · subst e
        rw [if_neg (by omega), if_pos rfl, if_pos (by omega), Nat.sub_self]
        rfl
      · by_cases h2 : k + 1 ≤ x ∧ x < k + 1 + cs.length
        · rw [if_pos h2, if_pos (by omega), show x - k = (x - (k + 1)) + 1 by omega]
          rfl
        · rw [if_neg h2, if_neg e, if_neg (by omega)]
theorem step_one {st : Dm.St} (hok : Dm.Ok st) {o : Op} (h : (step st o).2 = 0) (x : Nat) : Dm.one (step st o).1 x = eff (Dm.one st) [o] x := by
  cases o with
  | fl =>
    show Dm.one (Dm.flush st).1 x = Dm.one st x
    have h : (Dm.flush st).2 = 0 := h
    unfold Dm.flush at h ⊢
    cases hb : Dm.spendB st with
    | false => rw [hb] at h; simp at h
    | true => exact Dm.settle_all (fun y hy => (hok.writes y hy).1) x
  | wr k d =>
    show Dm.one (Dm.write st (k : Int) d).1 x = upd (Dm.one st) k d x
    have h : (Dm.write st (k : Int) d).2 = 0 := h
    unfold Dm.write at h ⊢
    split at h
    · simp at h
    · rename_i h1
      split at h
      · rename_i h2
        split at h
        · rename_i h3
          rw [if_neg h1, if_pos h2, if_pos h3]
          rw [Int.toNat_natCast] at h ⊢
          rw [puts_one h, Dm.chunks_length]
          unfold upd
          split
          · rename_i hx
            rw [Dm.chunks_get _ _ (by omega)]
          · rfl
        · simp at h
      · simp at h
theorem step_ok {st : Dm.St} (h : Dm.Ok st) (o : Op) : Dm.Ok (step st o).1 ∧ (step st o).1.S.length = st.S.length := by
  cases o with
  | fl =>
    refine ⟨Dm.flush_ok h, ?_⟩
    show (Dm.flush st).1.S.length = _
    unfold Dm.flush
    split
    · exact Dm.settle_length _ _ _
    · rw [Dm.spendS_S]
  | wr k d =>
    have := Dm.write_ok h (k : Int) d
    exact ⟨this.1, by show (Dm.write st (k : Int) d).1.S.length = _; rw [this.2.1]⟩
theorem runs_ok {st : Dm.St} (h : Dm.Ok st) (ops : List Op) : Dm.Ok (runs st ops).1 ∧ (runs st ops).1.S.length = st.S.length := by
  induction ops generalizing st with
  | nil => exact ⟨h, rfl⟩
  | cons o r ih =>
    have h1 := step_ok h o
    by_cases ho : (step st o).2 = 0
    · rw [runs_yes _ ho]
      have := ih h1.1
      exact ⟨this.1, this.2.trans h1.2⟩
    · rw [runs_no _ ho]
      exact h1
theorem runs_one {ops : List Op} {st : Dm.St} (hok : Dm.Ok st) (h : (runs st ops).2 = 0) (x : Nat) : Dm.one (runs st ops).1 x = eff (Dm.one st) ops x := by
  have hcong : ∀ (W : List Op) (f g : Nat → List UInt8), (∀ y, f y = g y) → ∀ y, eff f W y = eff g W y := fun W f g hfg y => by
    have : f = g := funext hfg
    rw [this]
  induction ops generalizing st with
  | nil => rfl
  | cons o r ih =>
    by_cases ho : (step st o).2 = 0
    · rw [runs_yes _ ho] at h ⊢
      rw [ih (step_ok hok o).1 h]
      have h2 := step_one hok ho
      rw [hcong r _ _ h2]
      cases o <;> rfl
    · rw [runs_no _ ho] at h
      exact absurd h ho
structure Awake (st : Dm.St) : Prop where
  fuse : st.fuse = -1
  dead : st.dead = false
theorem Awake.spend {st : Dm.St} (h : Awake st) : Dm.spendB st = true ∧ Dm.spendS st = st := by
  obtain ⟨h1, h2⟩ := h
  refine ⟨by unfold Dm.spendB; rw [h1, h2]; rfl, ?_⟩
  unfold Dm.spendS
  rw [if_neg (by omega), if_neg (by rw [h2]; decide), if_neg (by omega)]
def Good (n : Nat) : Op → Prop
  | .wr k d => d.length % 64 = 0 ∧ k + d.length / 64 ≤ n
  | .fl => True
theorem puts_awake {st : Dm.St} (h : Awake st) (k : Nat) (cs : List (List UInt8)) : (Dm.puts st k cs).2 = 0 ∧ Awake (Dm.puts st k cs).1 := by
  induction cs generalizing st k with
  | nil => exact ⟨rfl, h⟩
  | cons c cs ih =>
    unfold Dm.puts
    rw [if_pos h.spend.1, h.spend.2]
    exact ih (st := Dm.put st k c) ⟨h.fuse, h.dead⟩ _
theorem step_awake {st : Dm.St} (h : Awake st) {o : Op} (hg : Good st.S.length o) : (step st o).2 = 0 ∧ Awake (step st o).1 := by
  cases o with
  | fl =>
    show (Dm.flush st).2 = 0 ∧ Awake (Dm.flush st).1
    unfold Dm.flush
    rw [if_pos h.spend.1, h.spend.2]
    exact ⟨rfl, h.fuse, h.dead⟩
  | wr k d =>
    show (Dm.write st (k : Int) d).2 = 0 ∧ Awake (Dm.write st (k : Int) d).1
    unfold Dm.write
    obtain ⟨h1, h2⟩ : d.length % 64 = 0 ∧ k + d.length / 64 ≤ st.S.length := hg
    rw [if_neg (by rw [h.dead]; decide), if_pos h1, if_pos (by rw [Dm.there_iff]; omega)]
    exact puts_awake h _ _
theorem runs_awake {ops : List Op} {st : Dm.St} (hok : Dm.Ok st) (h : Awake st) (hg : ∀ o ∈ ops, Good st.S.length o) : (runs st ops).2 = 0 ∧ Awake (runs st ops).1 := by
  induction ops generalizing st with
  | nil => exact ⟨rfl, h⟩
  | cons o r ih =>
    have h1 := step_awake h (hg o List.mem_cons_self)
    rw [runs_yes _ h1.1]
    exact ih (step_ok hok o).1 h1.2 fun o' ho' => by rw [(step_ok hok o).2]; exact hg o' (List.mem_cons_of_mem _ ho')
theorem step_P {st : Dm.St} (o : Op) (y : Nat × List UInt8) (hy : y ∈ (step st o).1.P) : y ∈ st.P ∨ Wr [o] y.1 y.2 := by
  cases o with
  | fl =>
    have hy : y ∈ (Dm.flush st).1.P := hy
    unfold Dm.flush at hy
    split at hy
    · cases hy
    · exact .inl (by rw [Dm.spendS_P] at hy; exact hy)
  | wr k d =>
    have hy : y ∈ (Dm.write st (k : Int) d).1.P := hy
    obtain ⟨f, he, hf⟩ := Dm.write_P st (k : Int) d
    rw [he] at hy
    rcases List.mem_append.1 hy with hy | hy
    · exact .inl hy
    · right
      simp only [Dm.news, List.mem_map, List.mem_range] at hy
      obtain ⟨j, hj, rfl⟩ := hy
      obtain ⟨_, h2, _⟩ := hf (by omega)
      rw [Int.toNat_natCast]
      exact ⟨k, d, List.mem_singleton.2 rfl, by show k ≤ k + j; omega, by show k + j < _; omega, by show (Dm.chunks d).getD j [] = _; rw [Dm.chunks_get _ _ (by omega), show k + j - k = j by omega]⟩
theorem runs_P {st : Dm.St} (ops : List Op) (y : Nat × List UInt8) (hy : y ∈ (runs st ops).1.P) : y ∈ st.P ∨ Wr ops y.1 y.2 := by
  induction ops generalizing st with
  | nil => exact .inl hy
  | cons o r ih =>
    have h1 : y ∈ (step st o).1.P → y ∈ st.P ∨ Wr (o :: r) y.1 y.2 := fun h => (step_P o y h).imp id fun h => h.mono fun o' ho' => by rw [List.mem_singleton.1 ho']; exact List.mem_cons_self
    by_cases ho : (step st o).2 = 0
    · rw [runs_yes _ ho] at hy
      rcases ih hy with h | h
      · exact h1 h
      · exact .inr (h.mono fun o' ho' => List.mem_cons_of_mem _ ho')
    · rw [runs_no _ ho] at hy
      exact h1 hy
theorem flush_P {st : Dm.St} (h : (step st .fl).2 = 0) : (step st .fl).1.P = [] := by
  have h : (Dm.flush st).2 = 0 := h
  show (Dm.flush st).1.P = []
  unfold Dm.flush at h ⊢
  cases hb : Dm.spendB st with
  | false => rw [hb] at h; simp at h
  | true => rfl
theorem runs_fl {st : Dm.St} {ops : List Op} (h : (runs st (ops ++ [.fl])).2 = 0) : (runs st (ops ++ [.fl])).1.P = [] := by
  by_cases h1 : (runs st ops).2 = 0
  · rw [runs_app_yes _ h1, runs_one_op] at h ⊢
    exact flush_P h
  · rw [runs_app_no _ h1] at h
    exact absurd h h1
structure From (f : Nat → List UInt8) (W : List Op) (st : Dm.St) : Prop where
  ok : Dm.Ok st
  stands : ∀ x, st.S.getD x [] = f x ∨ Wr W x (st.S.getD x [])
  pend : ∀ y ∈ st.P, Wr W y.1 y.2
theorem From.start {st : Dm.St} (h : Dm.Ok st) (hP : st.P = []) (W : List Op) : From (Dm.one st) W st := by
  refine ⟨h, fun x => .inl ?_, by rw [hP]; intro y hy; cases hy⟩
  unfold Dm.one
  rw [hP]
  rfl
theorem From.step {f : Nat → List UInt8} {W : List Op} {st : Dm.St} (h : From f W st) {o : Op} (ho : o ∈ W) : From f W (step st o).1 := by
  refine ⟨(step_ok h.ok o).1, fun x => ?_, fun y hy => (step_P o y hy).elim (h.pend y) fun hw => hw.mono fun o' ho' => by rw [List.mem_singleton.1 ho']; exact ho⟩
  cases o with
  | wr k d =>
    have : (So.step st (.wr k d)).1.S = st.S := (Dm.write_ok h.ok (k : Int) d).2.1
    rw [this]
    exact h.stands x
  | fl =>
    show (Dm.flush st).1.S.getD x [] = f x ∨ Wr W x ((Dm.flush st).1.S.getD x [])
    unfold Dm.flush
    split
    · rcases Dm.settle_one (Dm.all st.P) (S := st.S) (P := st.P) (fun y hy => (h.ok.writes y hy).1) x with e | ⟨y, hy, he⟩
      · show (Dm.settle st.S st.P (Dm.all st.P)).getD x [] = f x ∨ Wr W x ((Dm.settle st.S st.P (Dm.all st.P)).getD x [])
        rw [e]
        exact h.stands x
      · right
        have := h.pend y hy
        rw [he] at this
        exact this
    · rw [Dm.spendS_S]
      exact h.stands x
theorem From.runs {f : Nat → List UInt8} {W ops : List Op} {st : Dm.St} (h : From f W st) (ho : ∀ o ∈ ops, o ∈ W) : From f W (runs st ops).1 := by
  induction ops generalizing st with
  | nil => exact h
  | cons o r ih =>
    have h1 := h.step (ho o List.mem_cons_self)
    by_cases hs : (So.step st o).2 = 0
    · rw [runs_yes _ hs]
      exact ih h1 fun o' ho' => ho o' (List.mem_cons_of_mem _ ho')
    · rw [runs_no _ hs]
      exact h1
theorem From.restart {f : Nat → List UInt8} {W : List Op} {st : Dm.St} (h : From f W st) (keep : List Bool) (x : Nat) : Dm.one (Dm.restart st keep) x = f x ∨ Wr W x (Dm.one (Dm.restart st keep) x) := by
  show (Dm.settle st.S st.P keep).getD x [] = f x ∨ Wr W x ((Dm.settle st.S st.P keep).getD x [])
  rcases Dm.settle_one keep (S := st.S) (P := st.P) (fun y hy => (h.ok.writes y hy).1) x with e | ⟨y, hy, he⟩
  · rw [e]
    exact h.stands x
  · right
    have := h.pend y hy
    rw [he] at this
    exact this
def sec : Op → Nat
  | .wr _ d => d.length / 64
  | .fl => 0
theorem step_count {st : Dm.St} (h : Dm.Ok st) (o : Op) : (step st o).1.P.length ≤ st.P.length + sec o := by
  cases o with
  | wr k d => exact (Dm.write_ok h (k : Int) d).2.2
  | fl =>
    show (Dm.flush st).1.P.length ≤ _
    unfold Dm.flush
    split
    · exact Nat.zero_le _
    · rw [Dm.spendS_P]; exact Nat.le_add_right _ _
theorem runs_count {st : Dm.St} (h : Dm.Ok st) (ops : List Op) : (runs st ops).1.P.length ≤ st.P.length + (ops.map sec).sum := by
  induction ops generalizing st with
  | nil => exact Nat.le_add_right _ _
  | cons o r ih =>
    have h1 := step_count h o
    simp only [List.map_cons, List.sum_cons]
    by_cases hs : (step st o).2 = 0
    · rw [runs_yes _ hs]
      have := ih (step_ok h o).1
      omega
    · rw [runs_no _ hs]
      omega
end So
end Go.Proofs.YtbmabcddciibfaaGreat
