/- Contracts of Right and Free. -/
import Derived.Test.YtemdlnphlibcaaaExtGaps
namespace Go.Proofs.Ytemdlnphlibcaaa
namespace Xm
open Go.RowKit Go.Shelf Geo
set_option linter.unusedVariables false
attribute [local go_sem] Oper.semAt_some

theorem pright_any (s l : Int) (u : List (Int × Int)) (n : Nat) (hn : n = u.length) (p : Option Addr) (c : Nat) (w : World) (hu : Exts w p u) (hsm : Small u) (hm : n ≤ maxLen) (hby : n * 16 ≤ 140737488355328) :
    Calls Try.prog 12 #[.agg #[.int .i64 s, .int .i64 l], .slice p n c] w fun e w' => e = .returned (.bool (okB s l u)) ∧ Below w.heap.size w w' := by
  have HB := Lib.hid (below_new w (.cells #[.int .i64 s, .int .i64 l] 23))
  have hx := Bx.new w s l
  have c0 := hx.c0
  have c1 := hx.c1
  have R := Lib.hid (rising_any s l u n hn p c _ (hu.next HB.out) hsm hm hby)
  clear hx hsm hm hby hu hn
  go_enter Try.func12, Try.ntmps12
  go_wp2_with fail
  refine R.out.mono ?_
  rintro e w1 ⟨hb, ⟨h, rfl⟩ | ⟨h, q, d, z, rfl, _⟩⟩
  all_goals
    have HB1 := Lib.hid (HB.out.trans (hb.mono HB.out.size))
    have HO := Lib.hid h
    clear hb c0 c1 h
    go_wp2_with fail
    go_ret
    exact ⟨by rw [HO.out]; rfl, HB1.out⟩
theorem pfree_no (s l : Int) (u : List (Int × Int)) (n : Nat) (hn : n = u.length) (p : Option Addr) (c : Nat) (w : World) (hu : Exts w p u) (hsm : Small u) (hm : n ≤ maxLen) (hby : n * 16 ≤ 140737488355328) (h : okB s l u = false) :
    Calls Try.prog 14 #[.agg #[.int .i64 s, .int .i64 l], .slice p n c] w fun e w' => e = .returned (.int .i64 0) ∧ Below w.heap.size w w' := by
  have HB := Lib.hid (below_new w (.cells #[.int .i64 s, .int .i64 l] 23))
  have hx := Bx.new w s l
  have c0 := hx.c0
  have c1 := hx.c1
  have R := Lib.hid (rising_any s l u n hn p c _ (hu.next HB.out) hsm hm hby)
  have HO := Lib.hid h
  clear hx h hsm hm hby hu hn
  go_enter Try.func14, Try.ntmps14
  go_wp2_with fail
  refine R.out.mono ?_
  rintro e w1 ⟨hb, ⟨_, rfl⟩ | ⟨h, _⟩⟩
  · have HB1 := Lib.hid (HB.out.trans (hb.mono HB.out.size))
    clear hb c0 c1
    go_wp2_with fail
    go_ret
    exact ⟨rfl, HB1.out⟩
  · rw [HO.out] at h; cases h
/-- What a round turns: the box alone. -/
theorem kp_set {W : World} {B : Nat} {t : TypeId} {v : Value} (h : Boxed W B t v) (v' : Value) (hv : v'.ownBlock = none) : Kp B W (W.setCell ⟨B, 0, none⟩ v') := by
  have o2 : ownAt B (W.setCell ⟨B, 0, none⟩ v') = none := by unfold ownAt; rw [(h.set v').cell]; exact hv
  refine ⟨by simp [World.setCell], fun k o hk _ hp _ => (Below.heap_setCell _ _ _ _ hp).trans hk, fun r e => ?_, fun _ r e => ?_⟩
  · rw [o2] at e; cases e
  · rw [o2] at e; cases e
theorem wrap_sum (a b : Int) : IntKind.i64.wrap (IntKind.i64.wrap a + b) = IntKind.i64.wrap (a + b) := by rw [IntKind.wrap_i64, IntKind.wrap_i64, IntKind.wrap_i64]; omega
theorem free_small (s l : Int) (u : List (Int × Int)) (h : regB s l = true) : 0 ≤ free s l u ∧ free s l u ≤ l := by
  obtain ⟨_, _, h3, _⟩ := reg_iff.1 h
  rw [free_cnt]
  have := cnt_le (has u) s l.toNat
  omega

set_option maxRecDepth 100000 in
set_option maxHeartbeats 2000000 in
theorem pfree_ok (s l : Int) (u : List (Int × Int)) (n : Nat) (hn : n = u.length) (p : Option Addr) (c : Nat) (w : World) (hu : Exts w p u) (hsm : Small u) (hm : n ≤ maxLen) (hby : n * 16 ≤ 140737488355328) (h : okB s l u = true) :
    Calls Try.prog 14 #[.agg #[.int .i64 s, .int .i64 l], .slice p n c] w fun e w' => e = .returned (.int .i64 (free s l u)) ∧ Below w.heap.size w w' := by
  have HB := Lib.hid (below_new w (.cells #[.int .i64 s, .int .i64 l] 23))
  have hx := Bx.new w s l
  have HX := Lib.hid hx
  have c0 := hx.c0
  have c1 := hx.c1
  have R := Lib.hid (rising_any s l u n hn p c _ (hu.next HB.out) hsm hm hby)
  have HO := Lib.hid h
  have HG := Lib.hid (gaps_len s l u)
  have HM := Lib.hid hby
  have HN := Lib.hid hn
  clear hx h hsm hm hby hu hn
  refine (callsIn_wide (n := 3)).1 ?_
  refine callsIn_of_wp_marks Try.func14 rfl trivial ?_ rfl
  simp only [Try.ntmps14, List.size_toArray, List.length_cons, List.length_nil, Nat.reduceAdd, Nat.reduceSub, Array.replicate_succ, Array.replicate_zero, List.push_toArray, List.append_toArray, List.nil_append, List.cons_append]
  gi_wp2_with fail
  refine ⟨trivial, (callsIn_wide.2 R.out).mono ?_⟩
  rintro e w1 ⟨hb, ⟨h, _⟩ | ⟨_, q, d, z, rfl, hp, hz, hrow⟩⟩
  · rw [HO.out] at h; cases h
  have HB1 := Lib.hid (HB.out.trans (hb.mono HB.out.size))
  have HX1 := Lib.hid (HX.out.next hb)
  have HR := Lib.hid hrow
  have HP := Lib.hid hp
  have HZ := Lib.hid hz
  clear hb c0 c1 hrow hp hz R
  have hX1 := HX1.out.next (below_new w1 (.cells #[.int .i64 0] 3))
  have c0 := hX1.c0
  have c1 := hX1.c1
  have G := Lib.hid (gaps_any s l q n d (w1.alloc (.cells #[.int .i64 0] 3)))
  clear hX1
  gi_wp2_with fail
  refine ⟨trivial, (callsIn_wide.2 G.out).mono ?_⟩
  rintro e w3 ⟨rfl, rfl⟩
  gi_wp2_with fail
  obtain ⟨W1, hW1⟩ : ∃ W1, w1.alloc (.cells #[.int .i64 0] 3) = W1 := ⟨_, rfl⟩
  rw [hW1]
  obtain ⟨W2, hW2⟩ : ∃ W2, (W1.alloc (.cells #[.int .i64 s, .int .i64 l] 23)).alloc (.cells #[.slice q n d] 24) = W2 := ⟨_, rfl⟩
  obtain ⟨hb2, s2, bG, bS⟩ := boxes_made W1 s l q n d W2 hW2
  have hok := ok_iff.1 HO.out
  have s1 : W1.heap.size = w1.heap.size + 1 := by rw [← hW1]; simp
  have b1 : Below w1.heap.size w1 W1 := by rw [← hW1]; exact below_new _ _
  have bP : Boxed W2 w1.heap.size 3 (.int .i64 0) := by
    have := Boxed.new w1 3 (.int .i64 0)
    rw [hW1] at this
    rw [← hW2]
    exact (this.alloc _).alloc _
  have hB2 : Below w.heap.size w W2 := HB1.out.trans ((b1.trans (hb2.mono (by omega))).mono HB1.out.size)
  have hwB : w.heap.size ≤ w1.heap.size := HB1.out.size
  have hgs := along_gaps hok HP.out HZ.out
  have hnz : n = z.length := by rw [HN.out]; exact HP.out.length_eq
  have hrow : RowKept w1.heap.size W2.heap.size W2 q z := by
    have h2 : Exts W2 q z := (HR.out.next b1).next hb2
    refine ⟨h2, fun hne => ?_⟩
    obtain ⟨b, off, e, hb, _⟩ := HR.out hne
    exact ⟨b, off, e, by omega, by omega⟩
  have GS := Lib.hid (gaps_stops (3 - 1) (by omega) w1.heap.size W1.heap.size (W1.heap.size + 1) s l q d n z hnz (by have := HM.out; omega) hok.1 (fun x hx => (hok.perm HP.out).2.1 x hx) HZ.out W2 (by omega) (by omega) bG (by omega) bS hrow (by unfold ownAt; rw [bP.cell]; rfl))
  rw [hgs] at GS
  obtain ⟨B, hB⟩ : ∃ B, B = w1.heap.size := ⟨_, rfl⟩
  have HF : Hid (0 ≤ free s l u ∧ free s l u ≤ 1048576) := by
    obtain ⟨_, _, _, h4⟩ := reg_iff.1 hok.1
    have := free_small s l u hok.1
    exact ⟨this.1, by omega⟩
  rw [s1] at GS
  rw [hW2]
  rw [← hB] at bP GS hwB ⊢
  have hBW : B + 3 = W2.heap.size := by omega
  clear hW2 hb2 s2 bG bS hok s1 b1 hgs hnz hrow c0 c1 G HB HX HB1 HX1 HR HP HZ HG hB hW1
  refine wpIn_rangeFunc_ownH rfl (by omega) (gf := 28) (lb := #[.pointer (some ⟨B + 1, 0, none⟩), .pointer (some ⟨B + 1 + 1, 0, none⟩)]) rfl trivial (enters_of Try.func28 (by kernel_rfl) rfl)
    GS.out (fun h k => h.trans k) (kp_b (by omega)) (Below.refl _ _) (fun _ => rfl)
    (fun pre W => Boxed W B 3 (.int .i64 (IntKind.i64.wrap (sumL pre))) ∧ Below w.heap.size w W)
    (fun _ _ _ => False)
    (OwnFrom.and (Own.from (boxed_own B 3 (fun pre : List (Int × Int) => Value.int .i64 (IntKind.i64.wrap (sumL pre)))) _) (ownFrom_below (Nat.le_refl _) (by omega)))
    (fun _ _ _ _ _ hs _ _ => hs)
    ⟨bP, hB2⟩
    (fun x a' W => ∃ b, B < b ∧ Bx W b x.1 x.2 ∧ a' = { tmps := #[.agg #[.int .i64 s, .int .i64 l], .slice p n c, .pointer (some ⟨w.heap.size, 0, none⟩), undef, .int .i64 0, .slice q n d, .bool true, .pointer (some ⟨B, 0, none⟩), .pointer (some ⟨b, 0, none⟩), .tuple #[.slice q n d, .bool true], .agg #[.int .i64 s, .int .i64 l], .slice p n c, .tuple #[.slice q n d, .bool true], .slice q n d, .bool true, .bool true, .bool false, .agg #[.int .i64 s, .int .i64 l], .slice q n d, .func (.func 28) #[] #[.pointer (some ⟨B + 1, 0, none⟩), .pointer (some ⟨B + 1 + 1, 0, none⟩)], .agg #[.int .i64 x.1, .int .i64 x.2], undef, undef, undef, undef, undef], defers := [] })
    (fun x a' _ X Y row hs hg hr => by
      obtain ⟨b, k1, k2, k3⟩ := hs
      refine ⟨b, k1, (hg.block b (Array.getElem?_eq_some_iff.1 k2).1 fun e => ?_).trans k2, k3⟩
      obtain ⟨_, ob, hob, hcc⟩ := hr b e.symm
      unfold Bx at k2
      rw [k2] at hob; cases hob; cases hcc)
    ?assign ?body ?done ?stop
  case assign =>
    rintro ly pre x W K ⟨hv, hB⟩ hK
    unfold encG
    gi_wp2
    exact hK _ _ ((KeepsOthers.alloc _ _).from _) (Kp.grown (World.grownBy_alloc W _ none) hv.lt (fun r e => by cases e)) ⟨hv.alloc _, hB.alloc hB.size _⟩ ⟨W.heap.size, hv.lt, heap_alloc_new W _, rfl⟩
  case body =>
    rintro ly pre x a' W hl ⟨r, hr⟩ ⟨hv, hB⟩ ⟨b, hBx, bX, rfl⟩ hlt
    obtain ⟨t, ht⟩ : ∃ t, t = IntKind.i64.wrap (sumL pre) := ⟨_, rfl⟩
    rw [← ht] at hv
    obtain ⟨t2, ht2⟩ : ∃ t2, IntKind.i64.wrap (t + x.2) = t2 := ⟨_, rfl⟩
    have HT := Lib.hid (show t2 = IntKind.i64.wrap (sumL (pre ++ [x])) by rw [← ht2, ht, wrap_sum, sumL_append]; simp [sumL])
    have hc := hv.cell
    have hf := hv.frozen
    have x0 := bX.c0
    have x1 := bX.c1
    clear ht
    gi_wp2
    refine ⟨(KeepsOthers.setCell _ _ _).from _, kp_set hv _ rfl, ?_, hB.setCell (p := ⟨B, 0, none⟩) (by show w.heap.size ≤ B; omega) _⟩
    rw [← HT.out]
    exact hv.set _
  case done =>
    rintro D ys W hD rfl ⟨hv, hB⟩ hK
    have e1 : IntKind.i64.wrap (sumL (gaps s l u)) = free s l u := by
      obtain ⟨f1, f2⟩ := HF.out
      exact IntWalk.i64_in _ (by unfold free at f1 f2; omega)
    rw [e1] at hv
    have hc := hv.cell
    gi_wp2
    refine ⟨by simp, .inl ⟨_, _, rfl, run_takeDeferred hK, ?_⟩⟩
    exact ⟨_, results_tmp rfl _ _ _, rfl, hB.trans (belowK_b (w := w) (Nat.le_refl _) W D _ _ (by omega) hK rfl rfl)⟩
  case stop =>
    rintro D c pre W _ _ h _
    exact h.elim
end Xm
end Go.Proofs.Ytemdlnphlibcaaa
