/- Part 32 of the contracts and of the plain mathematics that the proof of the law rests on: StoRR, StoActB, StoActC, TabRAll. -/
import Derived.Test.YtbmabcddciibfaaGreatWr17
import Derived.Test.YtbmabcddciibfaaGreatWr25
import Derived.Test.YtbmabcddciibfaaGreatWr29
import Derived.Test.YtbmabcddciibfaaGreatWr30
import Derived.Test.YtbmabcddciibfaaGreatWr31
import Derived.Lib.Agree
import Derived.WalkSpells
import Derived.LoopTactic
import Derived.Deep.QuietTactic
import Derived.BigQuiet
import Derived.RegionTactic
namespace Go.Proofs.YtbmabcddciibfaaGreat
namespace So
open Go.RowKit
set_option maxRecDepth 100000
set_option linter.unusedVariables false
structure RrAt (w : World) (m l : List Int) (v : Value) (k : Nat) (wr : World) : Prop where
  row : Tb.Ints wr v (dropsM m (l.take k))
  bel : Below w.heap.size w wr
  all : ∀ j x, j < k → l[j]? = some x → (Tb.find (dropsM m (l.take j)) x).isSome = true
theorem mayRem_steps {m l : List Int} (hok : Tb.Ok m) (h : ∀ j x, l[j]? = some x → (Tb.find (dropsM m (l.take j)) x).isSome = true) : mayRem m l = true := by
  induction l generalizing m with
  | nil => exact mayRem_nil m
  | cons y l ih =>
    rw [mayRem_cons hok, Bool.and_eq_true]
    refine ⟨h 0 y rfl, ih (Tb.drop_ok hok y) fun j x hj => ?_⟩
    exact h (j + 1) x (by simpa using hj)
theorem mayRem_no {m l : List Int} (hok : Tb.Ok m) {k : Nat} {x : Int} (hx : l[k]? = some x) (h : (Tb.find (dropsM m (l.take k)) x).isSome = false) : mayRem m l = false := by
  cases hc : mayRem m l with
  | false => rfl
  | true =>
    obtain ⟨i, hi⟩ := mayRem_at hok hc hx
    rw [hi] at h
    cases h
theorem drop_code {m : List Int} {x : Int} : ((Tb.find m x).isSome = true → (Tb.drop m x).2.2 = 0) ∧ ((Tb.find m x).isSome = false → (Tb.drop m x).2.2 ≠ 0) := by
  cases hf : Tb.find m x with
  | some i => exact ⟨fun _ => by rw [Tb.drop_has hf], fun h => by cases h⟩
  | none => exact ⟨fun h => (by cases h), fun _ => by rw [Tb.drop_none hf]; show (161 : Int) ≠ 0; decide⟩
set_option maxHeartbeats 2000000 in
theorem rremove_pub {w : World} {r : Rb} {p : Pa} {M : Ms} (h : Rs w r p M) (hp : p.Ok) (hfit : Fit p M) {l : List Int} (n c : Nat) (hn : n = l.length) (hn2 : n ≤ 1048576) (a : Option Addr) (hr : Tb.Rd w a l) :
    Calls Tryz.prog 38 #[.pointer (some ⟨r.q, 0, none⟩), .slice a n c] w fun e w' => e = .returned (.int .i64 (remE M.inv M.T l)) ∧ RWent r p (remM M l) w w' := by
  obtain ⟨-, -, -, -, -, -, c6, -, c8, cf⟩ := h.reads
  have hN1 := hp.nums.N1
  have hok := hfit.tok
  obtain ⟨va, vc, hv⟩ := Dsk.own_slice h.row
  have hrow := h.row
  rw [hv] at hrow c6
  have SAME : Hid (remE M.inv M.T l ≠ 0 → ∀ w', Below w.heap.size w w' → RWent r p (remM M l) w w') := Lib.hid fun hne w' hb => by
    unfold remM
    rw [if_neg hne]
    exact RWent.below h hb
  cases hi : M.inv with
  | true =>
    have E : Hid (remE M.inv M.T l = 162) := Lib.hid (by unfold remE; rw [if_pos hi])
    rw [hi] at c8 SAME E
    clear h hp hfit hN1 hok hv hrow c6 hi hn hr
    go_enter Tryz.func38, Tryz.ntmps38
    go_wp2_with fail
    go_ret
    exact ⟨by rw [E.out]; rfl, SAME.out (by rw [E.out]; decide) _ (Below.refl _ _)⟩
  | false =>
    rw [hi] at c8 SAME
    obtain ⟨T, hT⟩ : ∃ T, T = M.T.length := ⟨_, rfl⟩
    have CO := Tb.rcopy_any hrow (by rw [hfit.tlen]; exact hN1)
    rw [← hT] at c6 CO
    have hTN : T ≤ 1048576 := by rw [hT, hfit.tlen]; exact hN1
    have HC := Lib.hid CO
    have HSK := Lib.hid h
    have HN := Lib.hid hn
    have HTT := Lib.hid hT
    have HOK := Lib.hid hok
    have HI := Lib.hid hi
    have HR : Hid (∀ wr, Below w.heap.size w wr → Tb.Rd wr a l) := Lib.hid fun wr hb => hr.below hb
    obtain ⟨m, hm⟩ : ∃ m, m = M.T := ⟨_, rfl⟩
    rw [← hm] at HC HOK HTT SAME ⊢
    have HM := Lib.hid hm
    clear CO h hp hfit hN1 hok hv hrow hi hn hr hT hm
    go_enter Tryz.func38, Tryz.ntmps38
    go_wp2_with fail
    refine HC.out.mono ?_
    rintro e w1 ⟨v, rfl, hvv, hvn, hb⟩
    obtain ⟨xa, xc, hxv⟩ := Dsk.own_slice hvv
    subst hxv
    rw [← HTT.out] at hvv hvn
    have R0 : Hid (RrAt w m l (.slice xa T xc) 0 w1) := Lib.hid ⟨by rw [List.take_zero]; exact hvv, hb, fun j x hj => absurd hj (by omega)⟩
    have HVN := Lib.hid hvn
    rw [← HTT.out]
    clear hvv hvn hb HC c6 c8 cf
    go_wp2_with fail
    go_loopw [6] (fun i wr => ∃ k : Nat, i = .int .i64 (k : Int) ∧ k ≤ n ∧ Hid (RrAt w m l (.slice xa T xc) k wr)) (fun i _ => n - (Lib.intOf i).toNat)
    case atStart => exact ⟨0, rfl, Nat.zero_le _, R0⟩
    case round =>
      obtain ⟨k, rfl, hk, hat⟩ := hrel
      by_cases hlt : k < n
      · have d1 : decide ((k : Int) < (n : Int)) = true := by simp; omega
        have d2 : decide (k < n) = true := by simp; omega
        have hw1 : IntKind.i64.wrap ((k : Int) + 1) = ((k + 1 : Nat) : Int) := by rw [IntWalk.i64_in _ (by omega)]; rfl
        obtain ⟨x, hx⟩ : ∃ x, l[k]? = some x := ⟨l[k]'(by have := HN.out; omega), List.getElem?_eq_getElem _⟩
        obtain ⟨g, off, hab, hb, hc⟩ := (HR.out wr hat.out.bel) (fun e => by rw [e] at hx; simp at hx)
        subst hab
        have hc := hc k x hx
        have hrow := hat.out.row
        have hlen : (dropsM m (l.take k)).length = T := by rw [dropsM_length, HTT.out]
        have DR := Tb.rdrop_any (a := xa) (c := xc) (m := dropsM m (l.take k)) (w := wr) (by rw [hlen]; exact hrow) x (by rw [hlen]; exact hTN)
        rw [hlen] at DR
        obtain ⟨q1, q2⟩ := drop_code (m := dropsM m (l.take k)) (x := x)
        obtain ⟨em, -⟩ := dropsM_take (m := m) hx
        have NX : Hid ((Tb.find (dropsM m (l.take k)) x).isSome = true → ∀ w2, Tb.RWent (.slice xa T xc) (Tb.drop (dropsM m (l.take k)) x).1 wr w2 → RrAt w m l (.slice xa T xc) (k + 1) w2) := Lib.hid fun hs w2 hw => by
          obtain ⟨h1, h2⟩ := hw
          refine ⟨by rw [em]; exact h1, hat.out.bel.trans (h2.below hat.out.bel.size fun j hj => HVN.out j hj), fun j y hj hy => ?_⟩
          by_cases e : j = k
          · subst e
            rw [hx] at hy
            injection hy with hy
            rw [← hy]
            exact hs
          · exact hat.out.all j y (by omega) hy
        have NO : Hid ((Tb.find (dropsM m (l.take k)) x).isSome = false → remE false m l = 161) := Lib.hid fun hs => by unfold remE; rw [if_neg (by decide), mayRem_no HOK.out hx hs, if_neg (by decide)]
        have BL : Hid (∀ w2, Tb.RWent (.slice xa T xc) (Tb.drop (dropsM m (l.take k)) x).1 wr w2 → Below w.heap.size w w2) := Lib.hid fun w2 hw => hat.out.bel.trans (hw.2.below hat.out.bel.size fun j hj => HVN.out j hj)
        obtain ⟨y, hy⟩ : ∃ y, y = (Tb.drop (dropsM m (l.take k)) x).2.2 := ⟨_, rfl⟩
        rw [← hy] at DR q1 q2
        have DRH := Lib.hid DR
        clear DR hrow hlen hx hb hat em hy
        cases hs : (Tb.find (dropsM m (l.take k)) x).isSome with
        | true =>
          have hy0 := q1 hs
          subst hy0
          have NXT := Lib.hid (NX.out hs)
          clear q1 q2 hs NX NO BL
          go_wp2_with fail
          refine DRH.out.mono ?_
          rintro e w2 ⟨rfl, hw⟩
          have G2 := Lib.hid (NXT.out w2 hw)
          clear hw
          go_wp2_with fail
          go_roundw
          case rel => exact ⟨k + 1, rfl, by omega, G2⟩
          case measure => simp [Lib.intOf]; omega
        | false =>
          have hy1 : (y != 0) = true := by simpa using q2 hs
          have FIN : Hid (remE false m l = 161) := Lib.hid (NO.out hs)
          clear q1 q2 hs NX NO
          go_wp2_with fail
          refine DRH.out.mono ?_
          rintro e w2 ⟨rfl, hw⟩
          have B2 := Lib.hid (BL.out w2 hw)
          clear hw
          go_wp2_with fail
          go_ret
          exact ⟨by rw [FIN.out]; rfl, SAME.out (by rw [FIN.out]; decide) _ B2.out⟩
      · obtain rfl : k = n := by omega
        have d1 : decide ((k : Int) < (k : Int)) = false := by simp
        have d2 : decide (k < k) = false := by simp
        have hall : l.take k = l := List.take_of_length_le (by rw [← HN.out]; exact Nat.le_refl _)
        have hmr : mayRem m l = true := mayRem_steps HOK.out fun j x hj => hat.out.all j x (by have := (List.getElem?_eq_some_iff.1 hj).1; have := HN.out; omega) hj
        have E : Hid (remE false m l = 0) := Lib.hid (by unfold remE; rw [if_neg (by decide), hmr, if_pos rfl])
        have hrow := hat.out.row
        rw [hall] at hrow
        have kk := HSK.out.below hat.out.bel
        obtain ⟨-, -, -, -, -, -, e6, -, -, ef⟩ := kk.reads
        obtain ⟨W2, hW2⟩ : ∃ W2, wr.setCell ⟨r.q, 6, none⟩ (.slice xa T xc) = W2 := ⟨_, rfl⟩
        obtain ⟨k2, s2⟩ := HSK.out.setT hrow HVN.out hat.out.bel
        rw [hW2] at k2 s2
        have FIN : Hid (RWent r p (remM M l) w W2) := Lib.hid ⟨_, by
          unfold remM
          rw [HI.out, ← HM.out, if_pos E.out]
          unfold Ms.drops
          rw [← HM.out]
          exact k2, s2⟩
        clear hat hall hmr hrow kk k2 s2
        go_wp2_with fail
        go_ret
        exact ⟨by rw [E.out]; rfl, FIN.out⟩
end So
end Go.Proofs.YtbmabcddciibfaaGreat
namespace Go.Proofs.YtbmabcddciibfaaGreat
namespace So
open Go.RowKit
set_option linter.unusedVariables false
set_option maxRecDepth 100000
theorem rd_low {w w' : World} {a : Option Addr} {l : List Int} {F : Nat → Prop} (h : Tb.Rd w a l) (hf : Dsk.Fr F w w') (hn : ∀ g off, l ≠ [] → a = some ⟨g, off, none⟩ → ¬ F g) : Tb.Rd w' a l := fun hne => by
  obtain ⟨g, off, ha, hg, hc⟩ := h hne
  refine ⟨g, off, ha, Nat.lt_of_lt_of_le hg hf.size, fun i x hx => ?_⟩
  rw [fr_cell hf hg (hn g off hne ha)]
  exact hc i x hx
theorem actM2 {p : Pa} {M : Ms} {x : Ac} (h : x.k % 6 = 2) : actM p M x = remM M x.rm := by unfold actM; rw [if_neg (by omega), if_neg (by omega), if_pos h]
theorem actOps2 {p : Pa} {M : Ms} {x : Ac} {ops : List Op} (h : x.k % 6 = 2) (ho : RemOps p M x.rm ops) : ActOps p M x ops := by unfold ActOps; rw [if_neg (by omega), if_neg (by omega), if_pos h]; exact ho
theorem actM1 {p : Pa} {M : Ms} {x : Ac} (h : x.k % 6 = 1) : actM p M x = wriM p M x.o x.f x.d := by unfold actM; rw [if_neg (by omega), if_pos h]
theorem actOps1 {p : Pa} {M : Ms} {x : Ac} {ops : List Op} (h : x.k % 6 = 1) (ho : WriOps p M x.o x.f x.d ops) : ActOps p M x ops := by unfold ActOps; rw [if_neg (by omega), if_pos h]; exact ho
set_option maxHeartbeats 2000000 in
theorem sact2 {w : World} {y : Bo} {p : Pa} {st : Dm.St} {M : Ms} (h : Both w y p M.inv st M.tab M) (hp : p.Ok) (hfit : Fit p M) (hP : st.P.length ≤ 68719476736) (x : Ac) (hk : x.k % 6 = 2) (hk2 : x.k < 256)
    (ra : Option Addr) (rc : Nat) (hn2 : x.rm.length ≤ 1048576) (hr : Tb.Rd w ra x.rm) (hlow : ∀ g off, x.rm ≠ [] → ra = some ⟨g, off, none⟩ → ¬ y.fp g) (hwf : ∀ c ∈ x.rm, (Lit.int .i64 c).wf = true) (lv cv kv : Value) :
    Calls Tryz.prog 8 #[.pointer (some ⟨y.X, 0, none⟩), .agg #[.int .i64 (p.a : Int), .int .i64 (p.n : Int), .int .i64 (p.g : Int), .int .i64 (p.st : Int), .int .i64 (p.ln : Int), .int .u32 (p.gen : Int), lv], .agg #[.int .u8 (x.k : Int), .int .i64 x.o, .int .i64 x.f, .int .i64 x.n, .string (Om.B x.d), cv, .slice ra x.rm.length rc, kv]] w (ActEnd y p st M x w) := by
  obtain ⟨W0, hW0⟩ : ∃ W0, (w.alloc (.cells #[.int .i64 (p.a : Int), .int .i64 (p.n : Int), .int .i64 (p.g : Int), .int .i64 (p.st : Int), .int .i64 (p.ln : Int), .int .u32 (p.gen : Int), lv] 29)).alloc (.cells #[.int .u8 (x.k : Int), .int .i64 x.o, .int .i64 x.f, .int .i64 x.n, .string (Om.B x.d), cv, .slice ra x.rm.length rc, kv] 34) = W0 := ⟨_, rfl⟩
  obtain ⟨hB, hc, ha, hsz⟩ := act_boxes w _ _ W0 hW0
  have hk6 : (x.k : Int) % 6 = 2 := by omega
  obtain ⟨n, hn⟩ : ∃ n, n = x.rm.length := ⟨_, rfl⟩
  rw [← hn] at ha hn2 hW0 ⊢
  obtain ⟨-, -, -, -, c4, c5, -⟩ := (h.below hB).reads
  have b0 : W0.cell? ⟨w.heap.size + 1, 0, none⟩ = some (.int .u8 (x.k : Int)) := by rw [cell_of_row _ _ _ _ _ _ ha]; rfl
  have b5 : W0.cell? ⟨w.heap.size + 1, 6, none⟩ = some (.slice ra n rc) := by rw [cell_of_row _ _ _ _ _ _ ha]; rfl
  have AD : Hid (∀ W, Below W0.heap.size W0 W → Calls Tryz.prog 23 #[.pointer (some ⟨y.b.q, 0, none⟩), .slice ra n rc] W fun e w' => ∃ E, e = .returned (.int .i64 E) ∧ Mid y p st M x w E (remE M.inv M.T x.rm) w' ∧ w'.cell? ⟨w.heap.size + 1, 6, none⟩ = some (.slice ra n rc) ∧ w.heap.size + 1 < w'.heap.size) := Lib.hid fun W hW => by
    have hbW : Below w.heap.size w W := hB.trans (hW.mono hB.size)
    have k := h.below hbW
    have hbox : ∀ w', Dsk.Fr y.b.fp W w' → w'.cell? ⟨w.heap.size + 1, 6, none⟩ = some (.slice ra n rc) ∧ w.heap.size + 1 < w'.heap.size := fun w' hf => by
      have ha2 := (hW.block (w.heap.size + 1) (by omega)).trans ha
      have ha3 := (hf.block (w.heap.size + 1) (Dsk.lt_of_heap ha2) (fun hfp => by have := h.sk.lt _ hfp; omega)).trans ha2
      exact ⟨by rw [cell_of_row _ _ _ _ _ _ ha3]; rfl, Dsk.lt_of_heap ha3⟩
    have hlen : M.inv = false → M.tab.length = p.N := fun hi => by rw [tab_no hi]; exact hfit.tlen
    refine (remove_pub k.sk hp hlen n rc hn hn2 (by omega) ra (hr.below hbW) (fun g off hne e hfp => hlow g off hne e (.inr (.inl hfp))) hwf).mono ?_
    intro e w' hpost
    rcases hpost with ⟨h1, he, hs⟩ | ⟨h1, hne, he, hs⟩
    · rw [remE_tab] at h1 he
      refine ⟨_, he, Mid.of (ops := []) h hbW hs (actOps2 hk (.inl ⟨h1, rfl⟩)) fun hl => ⟨rfl, ?_⟩, hbox _ hs.fr⟩
      rw [actM2 hk]
      unfold remM
      split
      · rename_i h0
        rcases h1 with h1 | h1
        · exact absurd h0 h1
        · rw [h1]; exact ⟨rfl, rfl⟩
      · exact ⟨rfl, rfl⟩
    · rw [remE_tab] at h1
      have hi := (remE_zero h1).1
      rw [tab_no hi] at he hs
      have hops : ActOps p M x (remOps p M.T x.rm (pagesOf (dropsP M.T x.rm))) := actOps2 hk (.inr ⟨h1, hne, _, pagesOf_chg _, rfl⟩)
      refine ⟨_, he, Mid.of h hbW hs hops fun hl => ?_, hbox _ hs.fr⟩
      have hd := (next_act hp hl hops).done
      rw [actM2 hk]
      unfold remM
      rw [if_pos h1]
      refine ⟨by rw [hd, h1], rfl, ?_⟩
      rw [tab_no (show (M.drops x.rm).inv = false from hi)]
      rfl
  have DA : Hid (∀ w1 W E, Mid y p st M x w E (remE M.inv M.T x.rm) w1 → w1.cell? ⟨w.heap.size + 1, 6, none⟩ = some (.slice ra n rc) → w.heap.size + 1 < w1.heap.size → Below w1.heap.size w1 W → Calls Tryz.prog 38 #[.pointer (some ⟨y.r.q, 0, none⟩), .slice ra n rc] W fun e w2 => e = .returned (.int .i64 (remE M.inv M.T x.rm)) ∧
      (w2.cell? ⟨y.X, 4, none⟩ = some (.pointer (some ⟨y.b.q, 0, none⟩)) ∧ w2.cell? ⟨y.X, 5, none⟩ = some (.pointer (some ⟨y.r.q, 0, none⟩)) ∧ w2.cell? ⟨w.heap.size + 1, 6, none⟩ = some (.slice ra n rc)) ∧ ∀ res, (E = remE M.inv M.T x.rm → res = true) → ActEnd y p st M x w (.returned (.bool res)) w2) := Lib.hid fun w1 W E hm hbx hbl hW => by
    have hrW : Tb.Rd W ra x.rm := (rd_low hr hm.fr fun g off hne e => hlow g off hne e).below hW
    refine (rremove_pub (hm.both.below hW) hp hfit n rc hn hn2 ra hrW).mono ?_
    rintro e w2 ⟨he, hw2⟩
    refine ⟨he, mid_keep h hm hbx hbl hW hw2, fun res hres => hm.end hW ?_ hres⟩
    rw [actM2 hk]
    exact hw2
  obtain ⟨ER, hER⟩ : ∃ ER, ER = remE M.inv M.T x.rm := ⟨_, rfl⟩
  rw [← hER] at AD DA
  clear h hp hfit hP hk hr hlow hwf hB hc ha hsz hn hER
  go_enter Tryz.func8, Tryz.ntmps8
  go_upto_region 7 with fail
  clear hW0
  go_region_held3 (fun w' => w'.cell? ⟨y.X, 4, none⟩ = some (.pointer (some ⟨y.b.q, 0, none⟩)) ∧ w'.cell? ⟨y.X, 5, none⟩ = some (.pointer (some ⟨y.r.q, 0, none⟩)) ∧ w'.cell? ⟨w.heap.size + 1, 6, none⟩ = some (.slice ra n rc))
    (first | (refine ⟨?_, ?_, ?_⟩ <;> assumption) | go_keep)
    (first
      | (go_at_call 23; refine (AD.out _ (Below.refl _ _).drew).mono ?_; rintro e w2 ⟨E, rfl, hm, z6, zl⟩; obtain ⟨z4, z5⟩ := hm.cell; have DD := Lib.hid (fun W hW => DA.out w2 W E hm z6 zl hW); clear hm)
      | (go_at_call 38; refine (DD.out _ (Below.refl _ _)).mono ?_; rintro e w3 ⟨rfl, ⟨y4, y5, y6⟩, hfin⟩; have FIN := Lib.hid hfin; clear hfin))
  go_wp2_with fail
  go_ret
  exact FIN.out _ fun h => by simp [h]
set_option maxHeartbeats 2000000 in
theorem sact1 {w : World} {y : Bo} {p : Pa} {st : Dm.St} {M : Ms} (h : Both w y p M.inv st M.tab M) (hp : p.Ok) (hfit : Fit p M) (hP : st.P.length ≤ 68719476736) (x : Ac) (hk : x.k % 6 = 1) (hk2 : x.k < 256)
    (ho : (Lit.int .i64 x.o).wf = true) (hf : (Lit.int .i64 x.f).wf = true) (hd : x.d.length ≤ 137438953472) (lv cv rv kv : Value) :
    Calls Tryz.prog 8 #[.pointer (some ⟨y.X, 0, none⟩), .agg #[.int .i64 (p.a : Int), .int .i64 (p.n : Int), .int .i64 (p.g : Int), .int .i64 (p.st : Int), .int .i64 (p.ln : Int), .int .u32 (p.gen : Int), lv], .agg #[.int .u8 (x.k : Int), .int .i64 x.o, .int .i64 x.f, .int .i64 x.n, .string (Om.B x.d), cv, rv, kv]] w (ActEnd y p st M x w) := by
  obtain ⟨W0, hW0⟩ : ∃ W0, (w.alloc (.cells #[.int .i64 (p.a : Int), .int .i64 (p.n : Int), .int .i64 (p.g : Int), .int .i64 (p.st : Int), .int .i64 (p.ln : Int), .int .u32 (p.gen : Int), lv] 29)).alloc (.cells #[.int .u8 (x.k : Int), .int .i64 x.o, .int .i64 x.f, .int .i64 x.n, .string (Om.B x.d), cv, rv, kv] 34) = W0 := ⟨_, rfl⟩
  obtain ⟨hB, hc, ha, hsz⟩ := act_boxes w _ _ W0 hW0
  have hk6 : (x.k : Int) % 6 = 1 := by omega
  obtain ⟨hf1, hf2⟩ := Dsk.i64_wf hf
  obtain ⟨-, -, -, -, c4, c5, -⟩ := (h.below hB).reads
  have b0 : W0.cell? ⟨w.heap.size + 1, 0, none⟩ = some (.int .u8 (x.k : Int)) := by rw [cell_of_row _ _ _ _ _ _ ha]; rfl
  have b1 : W0.cell? ⟨w.heap.size + 1, 1, none⟩ = some (.int .i64 x.o) := by rw [cell_of_row _ _ _ _ _ _ ha]; rfl
  have b2 : W0.cell? ⟨w.heap.size + 1, 2, none⟩ = some (.int .i64 x.f) := by rw [cell_of_row _ _ _ _ _ _ ha]; rfl
  have b4 : W0.cell? ⟨w.heap.size + 1, 4, none⟩ = some (.string (Om.B x.d)) := by rw [cell_of_row _ _ _ _ _ _ ha]; rfl
  have AD : Hid (∀ W, Below W0.heap.size W0 W → Calls Tryz.prog 22 #[.pointer (some ⟨y.b.q, 0, none⟩), .int .i64 x.o, .int .i64 x.f, .string (Om.B x.d)] W fun e w' => ∃ E, e = .returned (.int .i64 E) ∧ Mid y p st M x w E (wriE p M x.o x.f x.d) w' ∧ (w'.cell? ⟨w.heap.size + 1, 1, none⟩ = some (.int .i64 x.o) ∧ w'.cell? ⟨w.heap.size + 1, 2, none⟩ = some (.int .i64 x.f) ∧ w'.cell? ⟨w.heap.size + 1, 4, none⟩ = some (.string (Om.B x.d))) ∧ w.heap.size + 1 < w'.heap.size) := Lib.hid fun W hW => by
    have hbW : Below w.heap.size w W := hB.trans (hW.mono hB.size)
    have k := h.below hbW
    have hbox : ∀ w', Dsk.Fr y.b.fp W w' → (w'.cell? ⟨w.heap.size + 1, 1, none⟩ = some (.int .i64 x.o) ∧ w'.cell? ⟨w.heap.size + 1, 2, none⟩ = some (.int .i64 x.f) ∧ w'.cell? ⟨w.heap.size + 1, 4, none⟩ = some (.string (Om.B x.d))) ∧ w.heap.size + 1 < w'.heap.size := fun w' hf => by
      have ha2 := (hW.block (w.heap.size + 1) (by omega)).trans ha
      have ha3 := (hf.block (w.heap.size + 1) (Dsk.lt_of_heap ha2) (fun hfp => by have := h.sk.lt _ hfp; omega)).trans ha2
      exact ⟨⟨by rw [cell_of_row _ _ _ _ _ _ ha3]; rfl, by rw [cell_of_row _ _ _ _ _ _ ha3]; rfl, by rw [cell_of_row _ _ _ _ _ _ ha3]; rfl⟩, Dsk.lt_of_heap ha3⟩
    have hlen : M.inv = false → M.tab.length = p.N := fun hi => by rw [tab_no hi]; exact hfit.tlen
    refine (write_pub k.sk hp hlen x.o x.f x.d ho hf hd (by omega)).mono ?_
    intro e w' hpost
    rcases hpost with ⟨h1, he, hs⟩ | ⟨h1, i, hi, he, hs⟩
    · rw [wE_tab] at h1 he
      refine ⟨_, he, Mid.of (ops := []) h hbW hs (actOps1 hk (.inl ⟨h1, rfl⟩)) fun hl => ⟨rfl, ?_⟩, hbox _ hs.fr⟩
      rw [actM1 hk]
      unfold wriM
      rw [if_neg h1]
      exact ⟨rfl, rfl⟩
    · rw [wE_tab] at h1
      obtain ⟨hinv, hfd, -, -⟩ := findE_zero (wriE_zero h1).1
      rw [tab_no hinv, hfd] at hi
      injection hi with hi
      subst hi
      have hops : ActOps p M x [wriOp p (findP M x.o) x.f.toNat x.d] := actOps1 hk (.inr ⟨h1, rfl⟩)
      refine ⟨_, he, Mid.of h hbW hs hops fun hl => ?_, hbox _ hs.fr⟩
      have hdn := (next_act hp hl hops).done
      rw [actM1 hk]
      unfold wriM
      rw [if_pos h1]
      exact ⟨by rw [hdn, h1], rfl, rfl⟩
  have DA : Hid (∀ w1 W E, Mid y p st M x w E (wriE p M x.o x.f x.d) w1 → (w1.cell? ⟨w.heap.size + 1, 1, none⟩ = some (.int .i64 x.o) ∧ w1.cell? ⟨w.heap.size + 1, 2, none⟩ = some (.int .i64 x.f) ∧ w1.cell? ⟨w.heap.size + 1, 4, none⟩ = some (.string (Om.B x.d))) → w.heap.size + 1 < w1.heap.size → Below w1.heap.size w1 W → Calls Tryz.prog 37 #[.pointer (some ⟨y.r.q, 0, none⟩), .int .i64 x.o, .int .i64 x.f, .string (Om.B x.d)] W fun e w2 => e = .returned (.int .i64 (wriE p M x.o x.f x.d)) ∧
      (w2.cell? ⟨y.X, 4, none⟩ = some (.pointer (some ⟨y.b.q, 0, none⟩)) ∧ w2.cell? ⟨y.X, 5, none⟩ = some (.pointer (some ⟨y.r.q, 0, none⟩)) ∧ w2.cell? ⟨w.heap.size + 1, 1, none⟩ = some (.int .i64 x.o) ∧ w2.cell? ⟨w.heap.size + 1, 2, none⟩ = some (.int .i64 x.f) ∧ w2.cell? ⟨w.heap.size + 1, 4, none⟩ = some (.string (Om.B x.d))) ∧ ∀ res, (E = wriE p M x.o x.f x.d → res = true) → ActEnd y p st M x w (.returned (.bool res)) w2) := Lib.hid fun w1 W E hm hbx hbl hW => by
    refine (rwrite_pub (hm.both.below hW) hp hfit x.o x.f x.d hf1 hf2 hd).mono ?_
    rintro e w2 ⟨he, hw2⟩
    obtain ⟨q1, q2, q3⟩ := mid_keep h hm hbx.1 hbl hW hw2
    obtain ⟨-, -, q4⟩ := mid_keep h hm hbx.2.1 hbl hW hw2
    obtain ⟨-, -, q5⟩ := mid_keep h hm hbx.2.2 hbl hW hw2
    refine ⟨he, ⟨q1, q2, q3, q4, q5⟩, fun res hres => hm.end hW ?_ hres⟩
    rw [actM1 hk]
    exact hw2
  obtain ⟨ER, hER⟩ : ∃ ER, ER = wriE p M x.o x.f x.d := ⟨_, rfl⟩
  rw [← hER] at AD DA
  clear h hp hfit hP hk ho hf hf1 hf2 hd hB hc ha hsz hER
  go_enter Tryz.func8, Tryz.ntmps8
  go_upto_region 5 with fail
  clear hW0
  go_region_held3 (fun w' => w'.cell? ⟨y.X, 4, none⟩ = some (.pointer (some ⟨y.b.q, 0, none⟩)) ∧ w'.cell? ⟨y.X, 5, none⟩ = some (.pointer (some ⟨y.r.q, 0, none⟩)) ∧ w'.cell? ⟨w.heap.size + 1, 1, none⟩ = some (.int .i64 x.o) ∧ w'.cell? ⟨w.heap.size + 1, 2, none⟩ = some (.int .i64 x.f) ∧ w'.cell? ⟨w.heap.size + 1, 4, none⟩ = some (.string (Om.B x.d)))
    (first | (refine ⟨?_, ?_, ?_, ?_, ?_⟩ <;> assumption) | go_keep)
    (first
      | (go_at_call 22; refine (AD.out _ (Below.refl _ _).drew).mono ?_; rintro e w2 ⟨E, rfl, hm, ⟨z1, z2, z6⟩, zl⟩; obtain ⟨z4, z5⟩ := hm.cell; have DD := Lib.hid (fun W hW => DA.out w2 W E hm ⟨z1, z2, z6⟩ zl hW); clear hm)
      | (go_at_call 37; refine (DD.out _ (Below.refl _ _)).mono ?_; rintro e w3 ⟨rfl, ⟨y4, y5, y6, y7, y8⟩, hfin⟩; have FIN := Lib.hid hfin; clear hfin))
  go_wp2_with fail
  go_ret
  exact FIN.out _ fun h => by simp [h]
end So
end Go.Proofs.YtbmabcddciibfaaGreat
namespace Go.Proofs.YtbmabcddciibfaaGreat
namespace So
open Go.RowKit
set_option linter.unusedVariables false
set_option maxRecDepth 100000
theorem actM3 {p : Pa} {M : Ms} {x : Ac} (h : x.k % 6 = 3 ∨ x.k % 6 = 5) : actM p M x = M := by unfold actM; rw [if_neg (by omega), if_neg (by omega), if_neg (by omega), if_neg (by omega)]
theorem actOps3 {p : Pa} {M : Ms} {x : Ac} (h : x.k % 6 = 3 ∨ x.k % 6 = 5) : ActOps p M x [] := by unfold ActOps; rw [if_neg (by omega), if_neg (by omega), if_neg (by omega), if_neg (by omega)]
theorem actM4 {p : Pa} {M : Ms} {x : Ac} (h : x.k % 6 = 4) : actM p M x = M.spoil := by unfold actM; rw [if_neg (by omega), if_neg (by omega), if_neg (by omega), if_pos h]
theorem actOps4 {p : Pa} {M : Ms} {x : Ac} (h : x.k % 6 = 4) : ActOps p M x (spoOps p) := by unfold ActOps; rw [if_neg (by omega), if_neg (by omega), if_neg (by omega), if_pos h]
theorem ActEnd.still {w w' : World} {y : Bo} {p : Pa} {st : Dm.St} {M : Ms} {x : Ac} {res : Bool} (h : Both w y p M.inv st M.tab M) (hk : x.k % 6 = 3 ∨ x.k % 6 = 5) (hb : Below w.heap.size w w') (hr : Live p st M → res = true) : ActEnd y p st M x w (.returned (.bool res)) w' :=
  ⟨res, [], M.inv, M.tab, y, rfl, actOps3 hk, by rw [actM3 hk]; exact h.below hb, Bp.of_below hb, fun hl => ⟨hr hl, by rw [actM3 hk], by rw [actM3 hk]⟩⟩
set_option maxHeartbeats 2000000 in
theorem sact3 {w : World} {y : Bo} {p : Pa} {st : Dm.St} {M : Ms} (h : Both w y p M.inv st M.tab M) (hp : p.Ok) (hfit : Fit p M) (hP : st.P.length ≤ 68719476736) (hdead : st.dead = false) (hlen : st.S.length = p.a) (x : Ac) (hk : x.k % 6 = 3) (hk2 : x.k < 256)
    (ho : (Lit.int .i64 x.o).wf = true) (hf : (Lit.int .i64 x.f).wf = true) (lv cv rv kv : Value) :
    Calls Tryz.prog 8 #[.pointer (some ⟨y.X, 0, none⟩), .agg #[.int .i64 (p.a : Int), .int .i64 (p.n : Int), .int .i64 (p.g : Int), .int .i64 (p.st : Int), .int .i64 (p.ln : Int), .int .u32 (p.gen : Int), lv], .agg #[.int .u8 (x.k : Int), .int .i64 x.o, .int .i64 x.f, .int .i64 x.n, .string (Om.B x.d), cv, rv, kv]] w (ActEnd y p st M x w) := by
  obtain ⟨W0, hW0⟩ : ∃ W0, (w.alloc (.cells #[.int .i64 (p.a : Int), .int .i64 (p.n : Int), .int .i64 (p.g : Int), .int .i64 (p.st : Int), .int .i64 (p.ln : Int), .int .u32 (p.gen : Int), lv] 29)).alloc (.cells #[.int .u8 (x.k : Int), .int .i64 x.o, .int .i64 x.f, .int .i64 x.n, .string (Om.B x.d), cv, rv, kv] 34) = W0 := ⟨_, rfl⟩
  obtain ⟨hB, hc, ha, hsz⟩ := act_boxes w _ _ W0 hW0
  have hk6 : (x.k : Int) % 6 = 3 := by omega
  obtain ⟨hf1, hf2⟩ := Dsk.i64_wf hf
  have KEEP : Hid (∀ W, Below W0.heap.size W0 W → W.cell? ⟨y.X, 4, none⟩ = some (.pointer (some ⟨y.b.q, 0, none⟩)) ∧ W.cell? ⟨y.X, 5, none⟩ = some (.pointer (some ⟨y.r.q, 0, none⟩)) ∧ W.cell? ⟨w.heap.size + 1, 1, none⟩ = some (.int .i64 x.o) ∧ W.cell? ⟨w.heap.size + 1, 2, none⟩ = some (.int .i64 x.f) ∧ W.cell? ⟨w.heap.size + 1, 3, none⟩ = some (.int .i64 x.n)) := Lib.hid fun W hW => by
    obtain ⟨-, -, -, -, c4, c5, -⟩ := ((h.below hB).below hW).reads
    have ha2 := (hW.block (w.heap.size + 1) (by omega)).trans ha
    exact ⟨c4, c5, by rw [cell_of_row _ _ _ _ _ _ ha2]; rfl, by rw [cell_of_row _ _ _ _ _ _ ha2]; rfl, by rw [cell_of_row _ _ _ _ _ _ ha2]; rfl⟩
  have b0 : W0.cell? ⟨w.heap.size + 1, 0, none⟩ = some (.int .u8 (x.k : Int)) := by rw [cell_of_row _ _ _ _ _ _ ha]; rfl
  obtain ⟨c4, c5, b1, b2, b3⟩ := KEEP.out W0 (Below.refl _ _)
  have RP : Hid (∀ W, Below W0.heap.size W0 W → Calls Tryz.prog 20 #[.pointer (some ⟨y.b.q, 0, none⟩), .int .i64 x.o, .int .i64 x.f, .int .i64 x.n] W fun e w' => ∃ V E, e = .returned (.tuple #[.string (Om.B V), .int .i64 E]) ∧ Below W.heap.size W w' ∧ (Live p st M → V = readV p M x.o x.f x.n ∧ E = readE p M x.o x.f x.n)) := Lib.hid fun W hW => by
    have hbW : Below w.heap.size w W := hB.trans (hW.mono hB.size)
    have hl : M.inv = false → M.tab.length = p.N := fun hi => by rw [tab_no hi]; exact hfit.tlen
    refine (read_pub (h.below hbW).sk hp hl x.o x.f x.n ho hf hdead hlen (by omega)).mono ?_
    rintro e w' ⟨hb, hc⟩
    rcases hc with ⟨h1, he⟩ | ⟨h1, i, hi, he⟩
    · rw [rE_tab] at h1 he
      exact ⟨_, _, he, hb, fun _ => ⟨by unfold readV; rw [if_neg h1], rfl⟩⟩
    · rw [rE_tab] at h1
      refine ⟨_, _, he, hb, fun hlv => ?_⟩
      obtain ⟨hinv, hfd, -, -⟩ := findE_zero (readE_zero h1).1
      rw [tab_no hinv, hfd] at hi
      injection hi with hi
      subst hi
      exact ⟨(live_read hp hlv h1).2, h1.symm⟩
  have DP : Hid (∀ W, Below W0.heap.size W0 W → Calls Tryz.prog 39 #[.pointer (some ⟨y.r.q, 0, none⟩), .int .i64 x.o, .int .i64 x.f, .int .i64 x.n] W fun e w' => e = .returned (.tuple #[.string (Om.B (readV p M x.o x.f x.n)), .int .i64 (readE p M x.o x.f x.n)]) ∧ W = w') := Lib.hid fun W hW => rread_pub (h.below (hB.trans (hW.mono hB.size))).rs hp hfit x.o x.f x.n hf1 hf2
  obtain ⟨V2, hV2⟩ : ∃ V, V = readV p M x.o x.f x.n := ⟨_, rfl⟩
  obtain ⟨E2, hE2⟩ : ∃ E, E = readE p M x.o x.f x.n := ⟨_, rfl⟩
  rw [← hV2, ← hE2] at RP DP
  have END : Hid (∀ (W : World) (res : Bool), Below W0.heap.size W0 W → (Live p st M → res = true) → ActEnd y p st M x w (.returned (.bool res)) W) := Lib.hid fun W res hW hr => ActEnd.still h (.inl hk) (hB.trans (hW.mono hB.size)) hr
  clear h hp hfit hP hk ho hf hf1 hf2 hB hc ha hsz hV2 hE2 hdead hlen
  go_enter Tryz.func8, Tryz.ntmps8
  go_upto_region 9 with fail
  clear hW0
  go_region_held3 (fun w' => w'.cell? ⟨y.X, 4, none⟩ = some (.pointer (some ⟨y.b.q, 0, none⟩)) ∧ w'.cell? ⟨w.heap.size + 1, 1, none⟩ = some (.int .i64 x.o) ∧ w'.cell? ⟨w.heap.size + 1, 2, none⟩ = some (.int .i64 x.f) ∧ w'.cell? ⟨w.heap.size + 1, 3, none⟩ = some (.int .i64 x.n))
    (first | (refine ⟨?_, ?_, ?_, ?_⟩ <;> assumption) | go_keep)
    (first
      | (go_at_call 20; refine (RP.out _ (Below.refl _ _).drew).mono ?_; rintro e w2 ⟨V, E, rfl, hb, hv⟩; have HV := Lib.hid hv; have B2 : Hid (Below W0.heap.size W0 w2) := Lib.hid (keepd hb (Below.refl _ _).drew); obtain ⟨z4, z5, z1, z2, z3⟩ := KEEP.out w2 B2.out; clear hb hv))
  clear c4 c5 b0 b1 b2 b3 RP
  go_upto_region 10 with fail
  go_region_held3 (fun w' => w'.cell? ⟨y.X, 5, none⟩ = some (.pointer (some ⟨y.r.q, 0, none⟩)) ∧ w'.cell? ⟨w.heap.size + 1, 1, none⟩ = some (.int .i64 x.o) ∧ w'.cell? ⟨w.heap.size + 1, 2, none⟩ = some (.int .i64 x.f) ∧ w'.cell? ⟨w.heap.size + 1, 3, none⟩ = some (.int .i64 x.n))
    (first | (refine ⟨?_, ?_, ?_, ?_⟩ <;> assumption) | go_keep)
    (first
      | (go_at_call 39; refine (DP.out _ B2.out.drew).mono ?_; rintro e w3 ⟨rfl, hw3⟩; have B3 : Hid (Below W0.heap.size W0 w3) := Lib.hid (by rw [← hw3]; exact B2.out.drew); obtain ⟨y4, y5, y1, y2, y3⟩ := KEEP.out w3 B3.out; clear hw3))
  clear z1 z2 z3 z4 z5 y1 y2 y3 y4 y5 KEEP DP
  by_cases hv : V = V2
  · subst hv
    go_wp2_with fail
    go_ret
    exact END.out _ _ B3.out fun hl => by simp [(HV.out hl).2]
  · go_wp2_with fail
    all_goals
      try go_wp2_with fail
      go_ret
      exact END.out _ _ B3.out fun hl => absurd (HV.out hl).1 hv
theorem Both.opened {w w' : World} {y : Bo} {p : Pa} {inv inv' : Bool} {st : Dm.St} {m m' : List Int} {M : Ms} (h : Both w y p inv st m M) {b' : Bk} (k : Sk w' b' p inv' st m') (hdp : b'.d.p = y.b.d.p) (hfp : ∀ k, b'.fp k → y.b.d.fp k ∨ w.heap.size ≤ k) (hf : Dsk.Fr y.b.d.fp w w') :
    Both (w'.setCell ⟨y.X, 4, none⟩ (.pointer (some ⟨b'.q, 0, none⟩))) ⟨y.X, b', y.r⟩ p inv' st m' M ∧ Bp y ⟨y.X, b', y.r⟩ w (w'.setCell ⟨y.X, 4, none⟩ (.pointer (some ⟨b'.q, 0, none⟩))) := by
  have hX := Dsk.lt_of_heap h.head
  have hXd : ¬ y.b.d.fp y.X := fun c => h.bx (.inr (.inl c))
  have hh := (hf.block y.X hX hXd).trans h.head
  have hXb : ¬ b'.fp y.X := fun c => (hfp _ c).elim hXd fun c => by omega
  have hne : ∀ j, j ≠ y.X → (w'.setCell ⟨y.X, 4, none⟩ (.pointer (some ⟨b'.q, 0, none⟩))).heap[j]? = w'.heap[j]? := fun j hj => Below.heap_setCell _ _ _ _ hj
  have rs' := h.rs.keep hf fun k hr hd => h.ap k (.inr (.inl hd)) hr
  refine ⟨⟨?_, k.same fun j hj => hne j fun e => hXb (e ▸ hj), rs'.same fun j hj => hne j fun e => h.rx (e ▸ hj), fun j hb hr => ?_, hXb, h.rx⟩, ⟨?_, fun j hj => ?_, rfl, hdp, rfl⟩⟩
  · rw [heap_setCell_same _ _ _ _ _ _ hh]
    show some (Obj.cells #[.pointer (some ⟨y.b.d.p, 0, none⟩), _, _, _, .pointer (some ⟨b'.q, 0, none⟩), _] _ _) = some (Obj.cells #[.pointer (some ⟨b'.d.p, 0, none⟩), _, _, _, .pointer (some ⟨b'.q, 0, none⟩), _] _ _)
    rw [hdp]
  · rcases hfp j hb with c | c
    · exact h.ap j (.inr (.inl c)) hr
    · have := h.rs.lt j hr
      omega
  · exact Dsk.Fr.setCell (F := y.fp) (hf.mono fun j _ hj => .inr (.inl (.inr (.inl hj)))) ⟨y.X, 4, none⟩ (.inl rfl) _
  · rcases hj with hj | hj | hj
    · exact .inl (.inl hj)
    · exact (hfp j hj).imp (fun c => .inr (.inl (.inr (.inl c)))) id
    · exact .inl (.inr (.inr hj))
set_option maxHeartbeats 2000000 in
theorem sact4 {w : World} {y : Bo} {p : Pa} {st : Dm.St} {M : Ms} (h : Both w y p M.inv st M.tab M) (hp : p.Ok) (hfit : Fit p M) (hP : st.P.length ≤ 68719476736) (x : Ac) (hk : x.k % 6 = 4) (hk2 : x.k < 256) (lv cv rv kv : Value) :
    Calls Tryz.prog 8 #[.pointer (some ⟨y.X, 0, none⟩), .agg #[.int .i64 (p.a : Int), .int .i64 (p.n : Int), .int .i64 (p.g : Int), .int .i64 (p.st : Int), .int .i64 (p.ln : Int), .int .u32 (p.gen : Int), lv], .agg #[.int .u8 (x.k : Int), .int .i64 x.o, .int .i64 x.f, .int .i64 x.n, .string (Om.B x.d), cv, rv, kv]] w (ActEnd y p st M x w) := by
  obtain ⟨W0, hW0⟩ : ∃ W0, (w.alloc (.cells #[.int .i64 (p.a : Int), .int .i64 (p.n : Int), .int .i64 (p.g : Int), .int .i64 (p.st : Int), .int .i64 (p.ln : Int), .int .u32 (p.gen : Int), lv] 29)).alloc (.cells #[.int .u8 (x.k : Int), .int .i64 x.o, .int .i64 x.f, .int .i64 x.n, .string (Om.B x.d), cv, rv, kv] 34) = W0 := ⟨_, rfl⟩
  obtain ⟨hB, hc, ha, hsz⟩ := act_boxes w _ _ W0 hW0
  have hk6 : (x.k : Int) % 6 = 4 := by omega
  have b0 : W0.cell? ⟨w.heap.size + 1, 0, none⟩ = some (.int .u8 (x.k : Int)) := by rw [cell_of_row _ _ _ _ _ _ ha]; rfl
  have h0 := h.below hB
  obtain ⟨-, -, -, -, c4, c5, -⟩ := h0.reads
  have D1 : Hid (Calls Tryz.prog 40 #[.pointer (some ⟨y.r.q, 0, none⟩)] W0 fun e w1 => e = .returned (.tuple #[]) ∧ (w1.cell? ⟨y.X, 4, none⟩ = some (.pointer (some ⟨y.b.q, 0, none⟩))) ∧ ∃ y1, Both w1 y1 p M.inv st M.tab M.spoil ∧ Bp y y1 w w1 ∧ y1.b = y.b) := Lib.hid (by
    refine (rspoil_any h0.rs (by rw [hfit.tlen]; exact hp.nums.N1)).mono ?_
    rintro e w1 ⟨he, hw⟩
    obtain ⟨y1, k1, s1, e1⟩ := h0.doc hw
    obtain ⟨-, -, -, -, d4, -, -⟩ := k1.reads
    rw [s1.X, e1] at d4
    exact ⟨he, d4, y1, k1, (Bp.of_below hB).trans s1, e1⟩)
  have D2 : Hid (∀ w1 y1, Both w1 y1 p M.inv st M.tab M.spoil → Bp y y1 w w1 → y1.b = y.b → Calls Tryz.prog 24 #[.pointer (some ⟨y.b.q, 0, none⟩)] w1 fun e w2 => e = .returned (.int .i64 (runs st (spoOps p)).2) ∧ ∀ res, ((runs st (spoOps p)).2 = 0 → res = true) → ActEnd y p st M x w (.returned (.bool res)) w2) := Lib.hid fun w1 y1 k1 s1 e1 => by
    have hs := spoil_pub k1.sk hp (by omega)
    rw [e1] at hs
    refine hs.mono ?_
    rintro e w2 ⟨he, hw⟩
    rw [← e1] at hw
    obtain ⟨y2, k2, s2, -, -⟩ := k1.store hw
    refine ⟨he, fun res hres => ⟨res, spoOps p, true, [], y2, rfl, actOps4 hk, by rw [actM4 hk]; exact k2, s1.trans s2, fun hl => ?_⟩⟩
    refine ⟨hres (next_act hp hl (actOps4 (x := x) hk)).done, by rw [actM4 hk]; rfl, ?_⟩
    rw [actM4 hk]
    unfold Ms.tab
    rw [if_pos (show M.spoil.inv = true from rfl)]
  obtain ⟨E, hE⟩ : ∃ E, E = (runs st (spoOps p)).2 := ⟨_, rfl⟩
  rw [← hE] at D2
  clear h hp hfit hP hk hB hc ha hsz h0 hE
  go_enter Tryz.func8, Tryz.ntmps8
  go_wp2_with fail
  clear hW0
  refine D1.out.mono ?_
  rintro e w1 ⟨rfl, z4, y1, k1, s1, e1⟩
  have DD := Lib.hid (D2.out w1 y1 k1 s1 e1)
  clear k1 s1 e1 c4 c5 b0
  go_wp2_with fail
  refine DD.out.mono ?_
  rintro e w2 ⟨rfl, hfin⟩
  have FIN := Lib.hid hfin
  clear hfin
  go_wp2_with fail
  go_ret
  exact FIN.out _ fun h => by simp [h]
set_option maxHeartbeats 2000000 in
theorem sact5 {w : World} {y : Bo} {p : Pa} {st : Dm.St} {M : Ms} (h : Both w y p M.inv st M.tab M) (hp : p.Ok) (hfit : Fit p M) (hst : Stand p (Dm.one st) M) (hP : st.P.length ≤ 68719476736) (hdead : st.dead = false) (hlen : st.S.length = p.a) (x : Ac) (hk : x.k % 6 = 5) (hk2 : x.k < 256) (lv cv rv kv : Value) :
    Calls Tryz.prog 8 #[.pointer (some ⟨y.X, 0, none⟩), .agg #[.int .i64 (p.a : Int), .int .i64 (p.n : Int), .int .i64 (p.g : Int), .int .i64 (p.st : Int), .int .i64 (p.ln : Int), .int .u32 (p.gen : Int), lv], .agg #[.int .u8 (x.k : Int), .int .i64 x.o, .int .i64 x.f, .int .i64 x.n, .string (Om.B x.d), cv, rv, kv]] w (ActEnd y p st M x w) := by
  obtain ⟨W0, hW0⟩ : ∃ W0, (w.alloc (.cells #[.int .i64 (p.a : Int), .int .i64 (p.n : Int), .int .i64 (p.g : Int), .int .i64 (p.st : Int), .int .i64 (p.ln : Int), .int .u32 (p.gen : Int), lv] 29)).alloc (.cells #[.int .u8 (x.k : Int), .int .i64 x.o, .int .i64 x.f, .int .i64 x.n, .string (Om.B x.d), cv, rv, kv] 34) = W0 := ⟨_, rfl⟩
  obtain ⟨hB, hc, ha, hsz⟩ := act_boxes w _ _ W0 hW0
  have hk6 : (x.k : Int) % 6 = 5 := by omega
  have b0 : W0.cell? ⟨w.heap.size + 1, 0, none⟩ = some (.int .u8 (x.k : Int)) := by rw [cell_of_row _ _ _ _ _ _ ha]; rfl
  have a3 : W0.cell? ⟨w.heap.size, 3, none⟩ = some (.int .i64 (p.st : Int)) := by rw [cell_of_row _ _ _ _ _ _ hc]; rfl
  have a4 : W0.cell? ⟨w.heap.size, 4, none⟩ = some (.int .i64 (p.ln : Int)) := by rw [cell_of_row _ _ _ _ _ _ hc]; rfl
  have a5 : W0.cell? ⟨w.heap.size, 5, none⟩ = some (.int .u32 (p.gen : Int)) := by rw [cell_of_row _ _ _ _ _ _ hc]; rfl
  have h0 := h.below hB
  obtain ⟨c0, c1, c2, c3, c4, c5, -⟩ := h0.reads
  have OP : Hid (∀ W, Below W0.heap.size W0 W → Calls Tryz.prog 13 #[.pointer (some ⟨y.b.d.p, 0, none⟩), .agg #[.int .i64 (p.a : Int), .int .i64 (p.n : Int), .int .i64 (p.g : Int)], .agg #[.int .i64 (p.st : Int), .int .i64 (p.ln : Int)], .int .u32 (p.gen : Int)] W fun e w2 => ∃ q, e = .returned (.tuple #[.pointer (some ⟨q, 0, none⟩), .int .i64 0]) ∧
      (w2.cell? ⟨y.X, 0, none⟩ = some (.pointer (some ⟨y.b.d.p, 0, none⟩)) ∧ w2.cell? ⟨y.X, 1, none⟩ = some (.int .i64 (p.a : Int)) ∧ w2.cell? ⟨y.X, 2, none⟩ = some (.int .i64 (p.n : Int)) ∧ w2.cell? ⟨y.X, 3, none⟩ = some (.int .i64 (p.g : Int)) ∧ w2.cell? ⟨w.heap.size, 3, none⟩ = some (.int .i64 (p.st : Int)) ∧ w2.cell? ⟨w.heap.size, 4, none⟩ = some (.int .i64 (p.ln : Int)) ∧ w2.cell? ⟨w.heap.size, 5, none⟩ = some (.int .u32 (p.gen : Int))) ∧
      (∃ v, w2.cell? ⟨y.X, 4, none⟩ = some (.pointer v)) ∧ w2.frozen? ⟨y.X, 4, none⟩ = false ∧ ActEnd y p st M x w (.returned (.bool true)) (w2.setCell ⟨y.X, 4, none⟩ (.pointer (some ⟨q, 0, none⟩)))) := Lib.hid fun W hW => by
    have hbW : Below w.heap.size w W := hB.trans (hW.mono hB.size)
    have k := h.below hbW
    obtain ⟨hE, hI, hT⟩ := open_stand hp hst hfit
    refine (open_any hp k.sk.dk hdead hlen (by omega)).mono ?_
    intro e w2 ho
    rcases ho with ⟨-, b', he, hk2, hdp, hfp, hdf, hq, hf⟩ | ⟨h1, -⟩
    · obtain ⟨kb, sb⟩ := k.opened hk2 hdp hfp hf
      have hX := Dsk.lt_of_heap k.head
      have hh := (hf.block y.X hX (fun c => k.bx (.inr (.inl c)))).trans k.head
      have hc2 := (hf.block w.heap.size (Dsk.lt_of_heap ((hW.block w.heap.size (by omega)).trans hc)) (fun c => by have := h.sk.lt w.heap.size (.inr (.inl c)); omega)).trans ((hW.block w.heap.size (by omega)).trans hc)
      refine ⟨b'.q, he, ⟨?_, ?_, ?_, ?_, ?_, ?_, ?_⟩, ⟨_, by rw [cell_of_row _ _ _ _ _ _ hh]; rfl⟩, frozen_of_row _ _ _ _ _ hh, ?_⟩
      · rw [cell_of_row _ _ _ _ _ _ hh]; rfl
      · rw [cell_of_row _ _ _ _ _ _ hh]; rfl
      · rw [cell_of_row _ _ _ _ _ _ hh]; rfl
      · rw [cell_of_row _ _ _ _ _ _ hh]; rfl
      · rw [cell_of_row _ _ _ _ _ _ hc2]; rfl
      · rw [cell_of_row _ _ _ _ _ _ hc2]; rfl
      · rw [cell_of_row _ _ _ _ _ _ hc2]; rfl
      · refine ⟨true, [], _, _, _, rfl, actOps3 (.inr hk), by rw [actM3 (.inr hk)]; exact kb, (Bp.of_below hbW).trans sb, fun _ => ⟨rfl, ?_, ?_⟩⟩
        · rw [actM3 (.inr hk)]; exact hI
        · rw [actM3 (.inr hk)]; exact hT
    · rw [hE] at h1
      exact absurd h1 (by decide)
  clear h hp hfit hst hP hk hB hc ha hsz h0 hdead hlen
  go_enter Tryz.func8, Tryz.ntmps8
  go_upto_region 15 with fail
  clear hW0
  go_region_held3 (fun w' => w'.cell? ⟨y.X, 0, none⟩ = some (.pointer (some ⟨y.b.d.p, 0, none⟩)) ∧ w'.cell? ⟨y.X, 1, none⟩ = some (.int .i64 (p.a : Int)) ∧ w'.cell? ⟨y.X, 2, none⟩ = some (.int .i64 (p.n : Int)) ∧ w'.cell? ⟨y.X, 3, none⟩ = some (.int .i64 (p.g : Int)) ∧ w'.cell? ⟨w.heap.size, 3, none⟩ = some (.int .i64 (p.st : Int)) ∧ w'.cell? ⟨w.heap.size, 4, none⟩ = some (.int .i64 (p.ln : Int)) ∧ w'.cell? ⟨w.heap.size, 5, none⟩ = some (.int .u32 (p.gen : Int)))
    (first | (refine ⟨?_, ?_, ?_, ?_, ?_, ?_, ?_⟩ <;> assumption) | go_keep)
    (first
      | (go_at_call 13; refine (OP.out _ (Below.refl _ _).drew).mono ?_; rintro e w2 ⟨q, rfl, ⟨z0, z1, z2, z3, y3, y4, y5⟩, ⟨v, z4⟩, zf, hfin⟩; have FIN := Lib.hid hfin; clear hfin))
  clear c0 c1 c2 c3 c4 c5 a3 a4 a5 b0 OP
  go_wp2_with fail
  go_ret
  exact FIN.out
end So
end Go.Proofs.YtbmabcddciibfaaGreat
namespace Go.Proofs.YtbmabcddciibfaaGreat
namespace Tb
open Go.RowKit Dsk Go.Maps
set_option linter.unusedVariables false
set_option maxRecDepth 100000
def Best (m : List Int) (la : Int) (i : Nat) (b : Int) : Prop :=
  (b = -1 ∧ ∀ (y : Nat) (x : Int), y < i → m[y]? = some x → x ≤ la) ∨
  ∃ (q : Nat) (z : Int), b = (q : Int) ∧ m[q]? = some z ∧ la < z ∧ ∀ (y : Nat) (x : Int), y < i → m[y]? = some x → la < x → z ≤ x
theorem Best.none {m : List Int} {la b : Int} {i : Nat} {x : Int} (h : Best m la i b) (hx : m[i]? = some x) (hl : x ≤ la) : Best m la (i + 1) b := by
  rcases h with ⟨e, h⟩ | ⟨q, z, e, hq, hz, h⟩
  · refine .inl ⟨e, fun y x' hy hx' => ?_⟩
    by_cases ey : y = i
    · rw [ey, hx] at hx'; injection hx' with hx'; omega
    · exact h y x' (by omega) hx'
  · refine .inr ⟨q, z, e, hq, hz, fun y x' hy hx' hl' => ?_⟩
    by_cases ey : y = i
    · rw [ey, hx] at hx'; injection hx' with hx'; omega
    · exact h y x' (by omega) hx' hl'
theorem Best.less {m : List Int} {la : Int} {i q : Nat} {x z : Int} (h : Best m la i (q : Int)) (hq : m[q]? = some z) (hx : m[i]? = some x) (hl : la < x) (hlt : x < z) : Best m la (i + 1) (i : Int) := by
  rcases h with ⟨e, _⟩ | ⟨q', z', e, hq', hz, h⟩
  · omega
  · have : q' = q := by omega
    subst this
    rw [hq] at hq'; injection hq' with hq'
    refine .inr ⟨i, x, rfl, hx, hl, fun y x' hy hx' hl' => ?_⟩
    by_cases ey : y = i
    · rw [ey, hx] at hx'; injection hx' with hx'; omega
    · have := h y x' (by omega) hx' hl'; omega
theorem Best.more {m : List Int} {la : Int} {i q : Nat} {x z : Int} (h : Best m la i (q : Int)) (hq : m[q]? = some z) (hx : m[i]? = some x) (hle : z ≤ x) : Best m la (i + 1) (q : Int) := by
  rcases h with ⟨e, _⟩ | ⟨q', z', e, hq', hz, h⟩
  · omega
  · have : q' = q := by omega
    subst this
    rw [hq] at hq'; injection hq' with hq'
    refine .inr ⟨q', z', rfl, by rw [hq, hq'], hz, fun y x' hy hx' hl' => ?_⟩
    by_cases ey : y = i
    · rw [ey, hx] at hx'; injection hx' with hx'; omega
    · exact h y x' (by omega) hx' hl'
end Tb
end Go.Proofs.YtbmabcddciibfaaGreat
