/- The document's own answer: all gaps, sector by sector. -/
import Derived.Test.YtemdlnphlibcaaaExtRRight
import Derived.Deep.AppendLies
namespace Go.Proofs.Ytemdlnphlibcaaa
namespace Xm
open Go.RowKit
set_option maxRecDepth 100000
set_option linter.unusedVariables false

theorem rgaps_no (s l : Int) (u : List (Int × Int)) (n : Nat) (hn : n = u.length) (hn63 : n ≤ 4611686018427387904) (p : Option Addr) (c : Nat) (w : World) (hu : Exts w p u) (h : okB s l u = false) :
    Calls Try.prog 8 #[.agg #[.int .i64 s, .int .i64 l], .slice p n c] w fun e w' => e = .returned (.tuple #[.slice none 0 0, .int .i64 1]) ∧ Below w.heap.size w w' := by
  have HB := Lib.hid (below_new w (.cells #[.int .i64 s, .int .i64 l] 23))
  have hx := Bx.new w s l
  have c0 := hx.c0
  have c1 := hx.c1
  have R := Lib.hid (rright_any s l u n hn hn63 p c _ (hu.next HB.out))
  rw [h] at R
  clear hx h hu hn
  go_enter Try.func8, Try.ntmps8
  go_wp2_with fail
  refine R.out.mono ?_
  rintro e w1 ⟨rfl, hb⟩
  have HB1 := Lib.hid (HB.out.trans (hb.mono HB.out.size))
  clear hb c0 c1
  go_wp2_with fail
  go_ret2
  exact ⟨rfl, HB1.out⟩
/-- The last gap has one sector more: in its row. -/
theorem cells_set (l : List (Int × Int)) (x : Int × Int) : (cells (l ++ [x])).set (l.length * 2 + 1) (.int .i64 (x.2 + 1)) = cells (l ++ [(x.1, x.2 + 1)]) := by
  rw [cells_append, cells_append, List.set_append_right _ _ (by rw [cells_length]; omega), cells_length, show l.length * 2 + 1 - l.length * 2 = 1 by omega, cells_one, cells_one]
  rfl
theorem ownsRow_cap {w : World} {base : Nat} {e : TypeId} {size : Nat} {v : Value} {n : Nat} {xs : List Value} (h : w.ownsRow base e size v n xs) : ∃ a c, v = .slice a n c := by
  rcases h.2 with ⟨h, h0⟩ | ⟨g, cap, cur, h, _⟩
  · exact ⟨none, 0, by rw [h, h0]⟩
  · exact ⟨_, _, h⟩
theorem own_mono {w : World} {base base' : Nat} {e : TypeId} {size : Nat} {v : Value} {n : Nat} {xs : List Value} (h : w.ownsRow base e size v n xs) (hb : base' ≤ base) : w.ownsRow base' e size v n xs :=
  ⟨h.1, h.2.imp id fun ⟨g, cap, cur, hv, hg, r⟩ => ⟨g, cap, cur, hv, Nat.le_trans hb hg, r⟩⟩
theorem own_succ {w : World} {base : Nat} {e : TypeId} {size : Nat} {v : Value} {n : Nat} {xs : List Value} (h : w.ownsRow base e size v (n + 1) xs) : ∃ g cap, v = .slice (some ⟨g, 0, none⟩) (n + 1) cap := by
  rcases h.2 with ⟨_, h0⟩ | ⟨g, cap, cur, hv, _⟩
  · omega
  · exact ⟨g, cap, hv⟩
theorem own_from2 {w : World} {base : Nat} {e : TypeId} {size : Nat} {v : Value} {n : Nat} {xs : List Value} (h : w.ownsRow base e size v n xs) (r : Nat) (hr : v.ownBlock = some r) : base ≤ r := by
  rcases h.2 with ⟨rfl, _⟩ | ⟨g, cap, cur, rfl, hg, hh, _⟩
  · simp [Value.ownBlock] at hr
  · simp [Value.ownBlock] at hr; subst hr; exact hg

set_option maxHeartbeats 2000000 in
theorem rgaps_ok (s l : Int) (u : List (Int × Int)) (n : Nat) (hn : n = u.length) (hn63 : n ≤ 4611686018427387904) (p : Option Addr) (c : Nat) (w : World) (hu : Exts w p u) (h : okB s l u = true) :
    Calls Try.prog 8 #[.agg #[.int .i64 s, .int .i64 l], .slice p n c] w fun e w' => ∃ v, e = .returned (.tuple #[v, .int .i64 0]) ∧ w'.ownsRow w.heap.size 23 2 v (gaps s l u).length (cells (gaps s l u)) ∧ Below w.heap.size w w' := by
  obtain ⟨i0, hi, hz0, hz1, hz2⟩ := info_parts info_ext
  obtain ⟨W0, hW0⟩ : ∃ W0, w.alloc (.cells #[.int .i64 s, .int .i64 l] 23) = W0 := ⟨_, rfl⟩
  have hx : Bx W0 w.heap.size s l := by rw [← hW0]; exact Bx.new _ _ _
  have hsz : W0.heap.size = w.heap.size + 1 := by rw [← hW0]; simp
  have hB : Below w.heap.size w W0 := by rw [← hW0]; exact below_new _ _
  have HB := Lib.hid hB
  have HX := Lib.hid hx
  have HU := Lib.hid hu
  have c0 := hx.c0
  have c1 := hx.c1
  have R := Lib.hid (rright_any s l u n hn hn63 p c W0 (hu.next hB))
  rw [h] at R
  have hok := ok_iff.1 h
  have HA := Lib.hid (fun t w1 (hu1 : Exts w1 p u) => rhas_any s l u n hn (by omega) p c t w1 hu1 hok.1 hok.2.1)
  obtain ⟨s1, s2, s3, s4⟩ := reg_iff.1 hok.1
  obtain ⟨L, hL⟩ : ∃ L : Nat, l = (L : Int) := ⟨l.toNat, by omega⟩
  obtain ⟨F, hF⟩ : ∃ F : Nat → List (Int × Int) × Bool, F = acc (has u) s := ⟨_, rfl⟩
  have HG := Lib.hid (show gaps s l u = (F L).1.reverse by unfold gaps; rw [hF, hL]; rfl)
  have F0 := Lib.hid (show F 0 = ([], false) by rw [hF]; rfl)
  have FY := Lib.hid (show ∀ k : Nat, has u (s + (k : Int)) = true → F (k + 1) = ((F k).1, false) from fun k e => by rw [hF]; exact acc_yes e)
  have FN := Lib.hid (show ∀ k : Nat, has u (s + (k : Int)) = false → F (k + 1) = (put (F k).1 (F k).2 (s + (k : Int)), true) from fun k e => by rw [hF]; exact acc_no e)
  have FA := Lib.hid (show ∀ k : Nat, Acc (has u) s k (F k).1 (F k).2 from fun k => by rw [hF]; exact acc_holds _ _ _)
  clear hF
  have e1 : IntKind.i64.wrap (s + l) = s + l := IntWalk.i64_in _ (by omega)
  have hL2 : L ≤ 1048576 := by omega
  have HLL := Lib.hid hL
  clear hx hB hu h hn hok hL
  go_enter Try.func8, Try.ntmps8
  go_wp2_with fail
  clear hW0
  refine R.out.mono ?_
  rintro e w1 ⟨rfl, hb⟩
  have HW : Hid (Below (w.heap.size + 1) W0 w1) := hb.mono (by omega)
  have c0 := (hb.cell (p := ⟨w.heap.size, 0, none⟩) (by show w.heap.size < _; omega)).trans c0
  clear hb
  go_wp2_with fail
  go_loopw [7, 8, 9] (fun v b i wr => ∃ k : Nat, k ≤ L ∧ i = .int .i64 (s + (k : Int)) ∧ b = .bool (F k).2 ∧ Hid (wr.ownsRow (w.heap.size + 1) 23 2 v (F k).1.reverse.length (cells (F k).1.reverse)) ∧ Hid (Below (w.heap.size + 1) W0 wr)) (fun _ _ i _ => (s + l - intOf i).toNat)
  case atStart => exact ⟨0, Nat.zero_le _, by simp, by rw [F0.out], by rw [F0.out]; exact Lib.hid (World.ownsRow_nil _ _ _ _), HW⟩
  case round =>
    obtain ⟨k, hk, rfl, rfl, hrow, hbel⟩ := hrel
    have hbx : Bx wr w.heap.size s l := HX.out.below hbel.out (by omega)
    have y0 := hbx.c0
    have y1 := hbx.c1
    have hwr : w.heap.size + 1 ≤ wr.heap.size := by have := hbel.out.size; omega
    have hbw : Below w.heap.size w wr := HB.out.trans (hbel.out.mono (by omega))
    have HBW := Lib.hid hbw
    by_cases hlt : k < L
    · have HS := Lib.hid (HA.out (s + (k : Int)) wr (HU.out.next hbw))
      obtain ⟨t, ht⟩ : ∃ t, t = s + (k : Int) := ⟨_, rfl⟩
      have hd : decide (t < s + l) = true := by have := HLL.out; simp; omega
      have e2 : IntKind.i64.wrap (t + 1) = t + 1 := IntWalk.i64_in _ (by omega)
      have HT := Lib.hid ht
      rw [← ht] at HS ⊢
      clear hbx hbw
      cases hh : has u t with
      | true =>
        have HY := Lib.hid (FY.out k (by rw [← ht]; exact hh))
        rw [hh] at HS
        have hr2 := hrow.out
        clear ht hh
        go_wp2_with fail
        refine HS.out.mono ?_
        rintro e w2 ⟨rfl, hb⟩
        have HR2 := Lib.hid (hrow.out.kept (⟨hb.os, hb.tape, hb.output, hb.size, fun i hi _ => hb.block i hi⟩ : wr.grownBy w2 none) (by cases (Value.ownBlock _) <;> simp))
        have HB2 : Hid (Below (w.heap.size + 1) W0 w2) := hbel.out.trans (hb.mono hwr)
        clear hb hr2
        go_wp2_with fail
        go_roundw
        case rel => exact ⟨k + 1, by omega, by have := HT.out; simp; omega, by rw [HY.out], by rw [HY.out]; exact HR2, HB2⟩
        case measure => have := HT.out; have := HLL.out; simp [intOf]; omega
      | false =>
        have hn' := FN.out k (by rw [← ht]; exact hh)
        rw [← ht] at hn'
        have hfa := FA.out k
        rw [hh] at HS
        obtain ⟨A, hA⟩ : ∃ A, A = (F k).1 := ⟨_, rfl⟩
        obtain ⟨b, hb0⟩ : ∃ b, b = (F k).2 := ⟨_, rfl⟩
        rw [← hA, ← hb0] at hn' hfa
        rw [← hA] at hrow
        rw [← hb0]
        have hlen := hfa.len
        clear hA hb0 hh
        cases b with
        | true =>
          obtain ⟨x, r, rfl, hx⟩ := hfa.head rfl
          obtain ⟨x1, x2, x3, _⟩ := hfa.each x (by simp)
          rw [put_true] at hn'
          obtain ⟨q, hq⟩ : ∃ q, q = r.reverse := ⟨_, rfl⟩
          rw [List.reverse_cons, ← hq, List.length_append, List.length_singleton] at hrow
          have hq2 : (F (k + 1)).1.reverse = q ++ [(x.1, x.2 + 1)] := by rw [hn', hq, List.reverse_cons]
          have hq3 : (F (k + 1)).2 = true := by rw [hn']
          obtain ⟨m, hm⟩ : ∃ m, m = q.length := ⟨_, rfl⟩
          rw [← hm] at hrow
          have hml : m ≤ 1048576 := by rw [hm, hq, List.length_reverse]; simp at hlen; omega
          obtain ⟨g, cap, rfl⟩ := own_succ hrow.out
          have HRW := Lib.hid hrow.out
          have HQ2 := Lib.hid hq2
          have HQ3 := Lib.hid hq3
          have HMM := Lib.hid hm
          have e3 : IntKind.i64.wrap (x.2 + 1) = x.2 + 1 := IntWalk.i64_in _ (by omega)
          have i1 : (0 : Int) ≤ (m : Int) + 1 - 1 := by omega
          have i2 : (m : Int) + 1 - 1 = (m : Int) := by omega
          clear hn' hfa hlen hx x1 x2 x3 hq hq2 hq3 hm hrow ht
          go_wp2_with fail
          refine HS.out.mono ?_
          rintro e w2 ⟨rfl, hb⟩
          have hr2 := HRW.out.kept (⟨hb.os, hb.tape, hb.output, hb.size, fun i hi _ => hb.block i hi⟩ : wr.grownBy w2 none) (by simp [Value.ownBlock])
          have r0 : w2.cell? ⟨g, m * 2 + 1, none⟩ = some (.int .i64 x.2) := by
            rw [hr2.cellAt _ (by omega), cells_append, List.getElem?_append_right (by rw [cells_length]; have := HMM.out; omega), cells_length, ← HMM.out, show m * 2 + 1 - m * 2 = 1 by omega, cells_one]
            rfl
          have r1 := hr2.frozenAt (m * 2 + 1)
          have hgb := own_from2 hr2 g rfl
          have ST := Lib.hid (hr2.stored (m * 2 + 1) (.int .i64 (x.2 + 1)))
          have HB2 : Hid (Below (w.heap.size + 1) W0 w2) := hbel.out.trans (hb.mono hwr)
          clear hb hr2
          go_wp2_with fail
          go_roundw
          case rel =>
            refine ⟨k + 1, by omega, by have := HT.out; simp; omega, by rw [HQ3.out], ?_, Lib.hid (HB2.out.setCell (p := ⟨g, m * 2 + 1, none⟩) hgb _)⟩
            rw [HQ2.out, ← cells_set, List.length_append, List.length_singleton, ← HMM.out]
            exact ST.out.1
          case measure => have := HT.out; have := HLL.out; simp [intOf]; omega
        | false =>
          rw [put_false] at hn'
          have hq2 : (F (k + 1)).1.reverse = A.reverse ++ [(t, 1)] := by rw [hn', List.reverse_cons]
          have hq3 : (F (k + 1)).2 = true := by rw [hn']
          obtain ⟨q, hq⟩ : ∃ q, q = A.reverse := ⟨_, rfl⟩
          rw [← hq] at hq2 hrow
          obtain ⟨m, hm⟩ : ∃ m, m = q.length := ⟨_, rfl⟩
          rw [← hm] at hrow
          have hml : m ≤ 1048576 := by rw [hm, hq, List.length_reverse]; omega
          obtain ⟨pa, pc, rfl⟩ := ownsRow_cap hrow.out
          have HRW := Lib.hid hrow.out
          have HQ2 := Lib.hid hq2
          have HQ3 := Lib.hid hq3
          have HMM := Lib.hid hm
          clear hn' hfa hlen hq hq2 hq3 hm hrow ht
          go_wp2_with fail
          refine HS.out.mono ?_
          rintro e w2 ⟨rfl, hb⟩
          have HR2 := Lib.hid (HRW.out.kept (⟨hb.os, hb.tape, hb.output, hb.size, fun i hi _ => hb.block i hi⟩ : wr.grownBy w2 none) (by cases (Value.ownBlock _) <;> simp))
          have HB2 : Hid (Below (w.heap.size + 1) W0 w2) := hbel.out.trans (hb.mono hwr)
          have hw2 : w.heap.size + 1 ≤ w2.heap.size := Nat.le_trans hwr hb.size
          have HO : Hid (∀ r, (Value.slice pa m pc).ownBlock = some r → w.heap.size + 1 ≤ r) := fun r hr => own_from2 HRW.out r hr
          clear hb
          go_wp2_with (at_builtin; refine wpList_append_own _ rfl _ _ 24 rfl (w.heap.size + 1) 23 i0 _ 2 16 Try.underlying24 hi hz0 hz1 hz2 rfl (by decide) (.slice pa m pc) m (cells q) rfl (HR2.out.alloc _) ⟨w2.heap.size, 0, none⟩ 1 1 [.int .i64 t, .int .i64 1] rfl rfl (World.news_of_block (cs := #[.int .i64 t, .int .i64 1]) (heap_alloc_new w2 _)) (by simp [Value.oneCell']) (by unfold maxLen; omega) (by omega) (by simp; omega) ?_)
          intro v' w3 hown hgrow hnil
          have HF3 : Hid (w3.ownsRow (w.heap.size + 1) 23 2 v' (F (k + 1)).1.reverse.length (cells (F (k + 1)).1.reverse)) := Lib.hid (by
            rw [HQ2.out, cells_append, cells_one, List.length_append, List.length_singleton, ← HMM.out]; exact hown)
          have HB3 : Hid (Below (w.heap.size + 1) W0 w3) := (HB2.out.alloc hw2 _).grown hgrow (by simp; omega) (fun j e => HO.out j e)
          clear hown hgrow hnil
          go_wp2_with fail
          go_roundw
          case rel => exact ⟨k + 1, by omega, by have := HT.out; simp; omega, by rw [HQ3.out], HF3, HB3⟩
          case measure => have := HT.out; have := HLL.out; simp [intOf]; omega
    · obtain ⟨t, ht⟩ : ∃ t, t = s + (k : Int) := ⟨_, rfl⟩
      have hd : decide (t < s + l) = false := by have := HLL.out; simp; omega
      have hkL : k = L := by omega
      rw [← ht]
      clear ht
      subst hkL
      obtain ⟨a', c', rfl⟩ := ownsRow_cap hrow.out
      have HR2 := Lib.hid hrow.out
      clear hbx hbw hrow
      go_wp2_with fail
      go_ret2
      refine ⟨_, rfl, ?_, HBW.out⟩
      rw [HG.out]
      exact own_mono HR2.out (Nat.le_succ _)
end Xm
end Go.Proofs.Ytemdlnphlibcaaa
