/- Contract of Gaps. -/
import Derived.Test.YtemdlnphlibcaaaExtTold
namespace Go.Proofs.Ytemdlnphlibcaaa
namespace Xm
open Go.RowKit Go.Shelf Geo
set_option linter.unusedVariables false
attribute [local go_sem] Oper.semAt_some

/-- The iterator's contract, as the loop's law asks it. -/
theorem gaps_stops (m : Nat) (hm : 1 ≤ m) (p bg bs : Nat) (s l : Int) (q : Option Addr) (d n : Nat) (z : List (Int × Int)) (hn : n = z.length) (hn63 : n ≤ 4611686018427387904) (hr : regB s l = true) (hin : ∀ x ∈ z, inB s l x = true) (hz : Rise z)
    (w : World) (hpn : p < w.heap.size) (hgp : bg ≠ p) (hg : Bx w bg s l) (hbs : bs < w.heap.size) (cs : w.cell? ⟨bs, 0, none⟩ = some (.slice q n d)) (hrow : RowKept p w.heap.size w q z) (hp : ownAt p w = none) :
    SeqStopsK Fence.wide m Try.prog 28 #[.pointer (some ⟨bg, 0, none⟩), .pointer (some ⟨bs, 0, none⟩)] encG (Kp p) (fun ys => ys = along s (s + l) z) (fun pre => pre <+: along s (s + l) z) (along s (s + l) z).length w := fun ly J Jx W hW hJ _ hY h0 => by
  obtain ⟨s1, s2, s3, s4⟩ := reg_iff.1 hr
  have hown : ownAt p W = none := by rw [ownAt_same (hW.block p hpn)]; exact hp
  refine gaps1_in m hm ly p w.heap.size bg bs s l q d n z hn hn63 hr hin hz J Jx W.heap.size hJ hY W hpn hg.lt hgp ((hW.cell (p := ⟨bs, 0, none⟩) hbs).trans cs) ?_
  refine ⟨Int.le_refl _, by omega, fun i h _ => (in_iff.1 (hin _ (List.getElem_mem h))).2.1, rfl, h0, hW.size, fun r hr => ?_, hg.next hW, hrow.next hW⟩
  rw [hown] at hr; cases hr
theorem boxes_made (W1 : World) (s l : Int) (q : Option Addr) (n d : Nat) (W2 : World) (h : (W1.alloc (.cells #[.int .i64 s, .int .i64 l] 23)).alloc (.cells #[.slice q n d] 24) = W2) :
    Below W1.heap.size W1 W2 ∧ W2.heap.size = W1.heap.size + 2 ∧ Bx W2 W1.heap.size s l ∧ W2.cell? ⟨W1.heap.size + 1, 0, none⟩ = some (.slice q n d) := by
  subst h
  have b := Boxed.new (W1.alloc (.cells #[.int .i64 s, .int .i64 l] 23)) 24 (.slice q n d)
  simp only [World.size_alloc] at b
  exact ⟨(below_new W1 _).alloc (by simp) _, by simp, (Bx.new W1 s l).next (below_new _ _), b.cell⟩
theorem gaps_len (s l : Int) (u : List (Int × Int)) : (gaps s l u).length ≤ l.toNat := by unfold gaps; rw [List.length_reverse]; exact (acc_holds _ _ _).len

theorem pgaps_no (s l : Int) (u : List (Int × Int)) (n : Nat) (hn : n = u.length) (p : Option Addr) (c : Nat) (w : World) (hu : Exts w p u) (hsm : Small u) (hm : n ≤ maxLen) (hby : n * 16 ≤ 140737488355328) (h : okB s l u = false) :
    Calls Try.prog 7 #[.agg #[.int .i64 s, .int .i64 l], .slice p n c] w fun e w' => e = .returned (.tuple #[.slice none 0 0, .int .i64 1]) ∧ Below w.heap.size w w' := by
  have HB := Lib.hid (below_new w (.cells #[.int .i64 s, .int .i64 l] 23))
  have hx := Bx.new w s l
  have c0 := hx.c0
  have c1 := hx.c1
  have R := Lib.hid (rising_any s l u n hn p c _ (hu.next HB.out) hsm hm hby)
  have HO := Lib.hid h
  clear hx h hsm hm hby hu hn
  go_enter Try.func7, Try.ntmps7
  go_wp2_with fail
  refine R.out.mono ?_
  rintro e w1 ⟨hb, ⟨_, rfl⟩ | ⟨h, _⟩⟩
  · have HB1 := Lib.hid (HB.out.trans (hb.mono HB.out.size))
    clear hb c0 c1
    go_wp2_with fail
    go_ret2
    exact ⟨rfl, HB1.out⟩
  · rw [HO.out] at h; cases h
set_option maxRecDepth 100000 in
set_option maxHeartbeats 2000000 in
theorem pgaps_ok (s l : Int) (u : List (Int × Int)) (n : Nat) (hn : n = u.length) (p : Option Addr) (c : Nat) (w : World) (hu : Exts w p u) (hsm : Small u) (hm : n ≤ maxLen) (hby : n * 16 ≤ 140737488355328) (h : okB s l u = true) :
    Calls Try.prog 7 #[.agg #[.int .i64 s, .int .i64 l], .slice p n c] w fun e w' => ∃ v, e = .returned (.tuple #[v, .int .i64 0]) ∧ w'.ownsRow w.heap.size 23 2 v (gaps s l u).length (cells (gaps s l u)) ∧ Below w.heap.size w w' := by
  obtain ⟨i0, hi, hz0, hz1, hz2⟩ := info_parts info_ext
  have HB := Lib.hid (below_new w (.cells #[.int .i64 s, .int .i64 l] 23))
  have hx := Bx.new w s l
  have HX := Lib.hid hx
  have c0 := hx.c0
  have c1 := hx.c1
  have R := Lib.hid (rising_any s l u n hn p c _ (hu.next HB.out) hsm hm hby)
  have HO := Lib.hid h
  have HG := Lib.hid (gaps_len s l u)
  have HM := Lib.hid hby
  have HN := Lib.hid hn
  clear hx h hsm hm hby hu hn
  refine (callsIn_wide (n := 3)).1 ?_
  refine callsIn_of_wp_marks Try.func7 rfl trivial ?_ rfl
  simp only [Try.ntmps7, List.size_toArray, List.length_cons, List.length_nil, Nat.reduceAdd, Nat.reduceSub, Array.replicate_succ, Array.replicate_zero, List.push_toArray, List.append_toArray, List.nil_append, List.cons_append]
  gi_wp2_with fail
  refine ⟨trivial, (callsIn_wide.2 R.out).mono ?_⟩
  rintro e w1 ⟨hb, ⟨h, _⟩ | ⟨_, q, d, z, rfl, hp, hz, hrow⟩⟩
  · rw [HO.out] at h; cases h
  have HB1 := Lib.hid (HB.out.trans (hb.mono HB.out.size))
  have HX1 := Lib.hid (HX.out.next hb)
  have HR := Lib.hid hrow
  have HP := Lib.hid hp
  have HZ := Lib.hid hz
  clear hb c0 c1 hrow hp hz R
  obtain ⟨W1, hW1⟩ : ∃ W1, w1.alloc (.cells #[.slice none 0 0] 24) = W1 := ⟨_, rfl⟩
  have hX1 := HX1.out.next (below_new w1 (.cells #[.slice none 0 0] 24))
  rw [hW1] at hX1
  have c0 := hX1.c0
  have c1 := hX1.c1
  have G := Lib.hid (gaps_any s l q n d W1)
  clear hX1
  gi_wp2_with fail
  refine ⟨trivial, (callsIn_wide.2 G.out).mono ?_⟩
  rintro e w3 ⟨rfl, rfl⟩
  gi_wp2_with fail
  obtain ⟨W2, hW2⟩ : ∃ W2, (W1.alloc (.cells #[.int .i64 s, .int .i64 l] 23)).alloc (.cells #[.slice q n d] 24) = W2 := ⟨_, rfl⟩
  obtain ⟨hb2, s2, bG, bS⟩ := boxes_made W1 s l q n d W2 hW2
  have hok := ok_iff.1 HO.out
  have s1 : W1.heap.size = w1.heap.size + 1 := by rw [← hW1]; simp
  have b1 : Below w1.heap.size w1 W1 := by rw [← hW1]; exact below_new _ _
  have bP : Boxed W2 w1.heap.size 24 (.slice none 0 0) := by
    have := Boxed.new w1 24 (.slice none 0 0)
    rw [hW1] at this
    rw [← hW2]
    exact (this.alloc _).alloc _
  have hB2 : Below w.heap.size w W2 := HB1.out.trans ((b1.trans (hb2.mono (by omega))).mono HB1.out.size)
  have hwB : w.heap.size ≤ w1.heap.size := HB1.out.size
  have hgs := along_gaps hok HP.out HZ.out
  have hnz : n = z.length := by rw [HN.out]; exact HP.out.length_eq
  have hrow : RowKept w1.heap.size W2.heap.size W2 q z := by
    have h2 : Exts W2 q z := (HR.out.next b1).next hb2
    refine ⟨h2, fun hne => ?_⟩
    obtain ⟨b, off, e, hb, _⟩ := HR.out hne
    exact ⟨b, off, e, by omega, by omega⟩
  have GS := Lib.hid (gaps_stops (3 - 1) (by omega) w1.heap.size W1.heap.size (W1.heap.size + 1) s l q d n z hnz (by have := HM.out; omega) hok.1 (fun x hx => (hok.perm HP.out).2.1 x hx) HZ.out W2 (by omega) (by omega) bG (by omega) bS hrow (by unfold ownAt; rw [bP.cell]; rfl))
  rw [hgs] at GS
  obtain ⟨B, hB⟩ : ∃ B, B = w1.heap.size := ⟨_, rfl⟩
  have HL : Hid ((gaps s l u).length ≤ 1048576) := by
    obtain ⟨_, _, _, h4⟩ := reg_iff.1 hok.1
    have := HG.out; exact Nat.le_trans this (by omega)
  rw [s1] at GS ⊢
  rw [hW2]
  rw [← hB] at bP GS hwB ⊢
  have hBW : B + 3 = W2.heap.size := by omega
  clear hW2 hb2 s2 bG bS hok s1 b1 hgs hnz hrow c0 c1 G HB HX HB1 HX1 HR HP HZ HG hB hW1
  refine wpIn_rangeFunc_ownH rfl (by omega) (gf := 28) (lb := #[.pointer (some ⟨B + 1, 0, none⟩), .pointer (some ⟨B + 1 + 1, 0, none⟩)]) rfl trivial (enters_of Try.func28 (by kernel_rfl) rfl)
    GS.out (fun h k => h.trans k) (kp_b (by omega)) (Below.refl _ _) (fun _ => rfl)
    (fun pre W => (∃ v, Boxed W B 24 v ∧ W.ownsRow w.heap.size 23 2 v pre.length (cells pre) ∧ True) ∧ Below w.heap.size w W)
    (fun _ _ _ => False)
    (OwnFrom.and (Own.from (holdsRow_own w.heap.size B 24 23 2 (fun pre : List (Int × Int) => pre.length) cells (fun _ _ => True)) _) (ownFrom_below (Nat.le_refl _) (by omega)))
    (fun _ _ _ _ _ hs _ _ => hs)
    ⟨⟨_, bP, World.ownsRow_nil _ _ _ _, trivial⟩, hB2⟩
    (fun x a' W => ∃ b, B < b ∧ Bx W b x.1 x.2 ∧ a' = { tmps := #[.agg #[.int .i64 s, .int .i64 l], .slice p n c, .pointer (some ⟨w.heap.size, 0, none⟩), undef, .slice none 0 0, .int .i64 0, .slice q n d, .bool true, .pointer (some ⟨B, 0, none⟩), .pointer (some ⟨b, 0, none⟩), .tuple #[.slice q n d, .bool true], .agg #[.int .i64 s, .int .i64 l], .slice p n c, .tuple #[.slice q n d, .bool true], .slice q n d, .bool true, .bool true, .bool false, .agg #[.int .i64 s, .int .i64 l], .slice q n d, .func (.func 28) #[] #[.pointer (some ⟨B + 1, 0, none⟩), .pointer (some ⟨B + 1 + 1, 0, none⟩)], .agg #[.int .i64 x.1, .int .i64 x.2], undef, undef, undef, undef, undef], defers := [] })
    (fun x a' _ X Y row hs hg hr => by
      obtain ⟨b, k1, k2, k3⟩ := hs
      refine ⟨b, k1, (hg.block b (Array.getElem?_eq_some_iff.1 k2).1 fun e => ?_).trans k2, k3⟩
      obtain ⟨_, ob, hob, hcc⟩ := hr b e.symm
      unfold Bx at k2
      rw [k2] at hob; cases hob; cases hcc)
    ?assign ?body ?done ?stop
  case assign =>
    rintro ly pre x W K ⟨⟨v, hv, hrow, _⟩, hB⟩ hK
    unfold encG
    gi_wp2
    exact hK _ _ ((KeepsOthers.alloc _ _).from _) (Kp.grown (World.grownBy_alloc W _ none) hv.lt (fun r e => by cases e)) ⟨⟨v, hv.alloc _, hrow.alloc _, trivial⟩, hB.alloc hB.size _⟩ ⟨W.heap.size, hv.lt, heap_alloc_new W _, rfl⟩
  case body =>
    rintro ly pre x a' W hl ⟨r, hr⟩ ⟨⟨v, hv, hrow, _⟩, hB⟩ ⟨b, hBx, bX, rfl⟩ hlt
    have hc := hv.cell
    have x0 := bX.c0
    have x1 := bX.c1
    obtain ⟨k, hk⟩ : ∃ k, k = pre.length := ⟨_, rfl⟩
    rw [← hk] at hrow hlt
    have hkb : k < 1048576 := Nat.lt_of_lt_of_le hlt HL.out
    have HK := Lib.hid hk
    have HR := Lib.hid hrow
    have HR0 := Lib.hid (own_zero hrow)
    obtain ⟨sa, sc, rfl⟩ : ∃ a c, v = .slice a k c := by
      rcases hrow.2 with ⟨h, h0⟩ | ⟨g, cap, cur, h, _⟩
      · exact ⟨none, 0, by rw [h, h0]⟩
      · exact ⟨_, _, h⟩
    clear hk hrow bX
    gi_wp2_with (gi_at_builtin; refine wpListIn_append_home _ rfl _ _ 24 rfl 23 i0 _ 2 16 Try.underlying24 hi hz0 hz1 hz2 rfl (by decide) (.slice sa k sc) k (cells pre) rfl (HR0.out.alloc _) ⟨W.heap.size, 0, none⟩ 1 1 [.int .i64 x.1, .int .i64 x.2] rfl rfl (World.news_of_block (cs := #[.int .i64 x.1, .int .i64 x.2]) (heap_alloc_new W _)) (by simp [Value.oneCell']) (by unfold maxLen; omega) (by omega) ?_; intro v' w3 hown' hgrow hat; obtain ⟨g', cap', rfl⟩ := ownsRow_succ hown'; obtain ⟨hv1, hv2, hr2, hk2, hb2, kp2⟩ := appended_all hv (by decide) HR.out hB.size (by omega) hown' hgrow (by simpa using hat); have hc1 := hv1.cell; have hf1 := hv1.frozen)
    exact ⟨hk2.from _, kp2, ⟨⟨_, hv2, by rw [cells_append, cells_one, List.length_append, ← HK.out]; exact hr2, trivial⟩, hB.trans hb2⟩⟩
  case done =>
    rintro D ys W hD rfl ⟨⟨v, hv, hrow, _⟩, hB⟩ hK
    have hc := hv.cell
    gi_wp2
    refine ⟨by simp, .inl ⟨_, _, rfl, run_takeDeferred hK, ?_⟩⟩
    exact ⟨_, results_tmp2 rfl _ _ _, v, rfl, ownsRow_putObj hrow _ hK rfl, hB.trans (belowK_b (w := w) (Nat.le_refl _) W D _ _ (by omega) hK rfl rfl)⟩
  case stop =>
    rintro D c pre W _ _ h _
    exact h.elim
end Xm
end Go.Proofs.Ytemdlnphlibcaaa
