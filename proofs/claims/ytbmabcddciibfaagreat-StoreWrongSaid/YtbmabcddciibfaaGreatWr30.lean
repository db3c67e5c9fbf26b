/- Part 30 of the contracts and of the plain mathematics that the proof of the law rests on: StoRW, StoRD, StoActA, StoClo. -/
import Derived.Test.YtbmabcddciibfaaGreatWr04
import Derived.Test.YtbmabcddciibfaaGreatWr23
import Derived.Test.YtbmabcddciibfaaGreatWr24
import Derived.Test.YtbmabcddciibfaaGreatWr25
import Derived.Test.YtbmabcddciibfaaGreatWr29
namespace Go.Proofs.YtbmabcddciibfaaGreat
namespace So
open Go.RowKit
set_option maxRecDepth 100000
set_option linter.unusedVariables false
theorem Rs.setD {w : World} {r : Rb} {p : Pa} {M : Ms} (h : Rs w r p M) {k g : Nat} (hk : k < M.D.length) (hg : r.dv.ownBlock = some g) (x : List UInt8) :
    Rs (w.setCell ⟨g, k, none⟩ (.string (Om.B x))) r p ⟨M.T, M.D.set k x, M.inv⟩ ∧ RSp r r w (w.setCell ⟨g, k, none⟩ (.string (Om.B x))) := by
  obtain ⟨g', c, hv, hg', hc, hz⟩ := h.at hk
  rw [hg'] at hg
  injection hg with hg
  subst hg
  have hown := h.drow
  have hf : Dsk.Fr (fun j => j = g') w (w.setCell ⟨g', k, none⟩ (.string (Om.B x))) := Dsk.Fr.setCell (F := fun j => j = g') (Dsk.Fr.refl _ w) ⟨g', k, none⟩ rfl _
  refine ⟨⟨?_, Dsk.own_same h.row fun j hj => hf.block j (h.lt j (.inr (.inl hj))) fun e => h.td j hj (by rw [e]; exact hg'), ?_, h.td, h.qt, h.qd⟩, ⟨hf.mono fun j _ e => .inr (.inr (by rw [e]; exact hg')), fun _ h => .inl h, rfl⟩⟩
  · rw [hf.block r.q (h.lt _ (.inl rfl)) (fun e => h.qd (by rw [e]; exact hg'))]
    exact h.head
  · show World.ownsRow _ _ _ _ _ _ _
    rw [List.length_set]
    rw [hv] at hown ⊢
    rw [Dsk.scells_set]
    exact (hown.stored k (.string (Om.B x))).1
theorem no_over14 (a b : List UInt8) (h : a.length + b.length < 4611686018427387904) : ¬ 9223372036854775807 < (Om.B a).size + (Om.B b).size := by rw [Om.B_size, Om.B_size]; omega
def RWPost (r : Rb) (p : Pa) (M : Ms) (x : Int) (w : World) (e : Ending) (w' : World) : Prop := e = .returned (.int .i64 x) ∧ RWent r p M w w'
set_option maxHeartbeats 2000000 in
theorem rwrite_pub {w : World} {r : Rb} {p : Pa} {M : Ms} (h : Rs w r p M) (hp : p.Ok) (hfit : Fit p M) (o f : Int) (d : List UInt8) (hf1 : -9223372036854775808 ≤ f) (hf2 : f ≤ 9223372036854775807) (hdl : d.length ≤ 137438953472) :
    Calls Tryz.prog 37 #[.pointer (some ⟨r.q, 0, none⟩), .int .i64 o, .int .i64 f, .string (Om.B d)] w (RWPost r p (wriM p M o f d) (wriE p M o f d) w) := by
  obtain ⟨-, -, c2, -, -, -, c6, c7, c8, cf⟩ := h.reads
  have hN1 := hp.nums.N1
  have hg2 := hp.nums.g2
  obtain ⟨va, vc, hv⟩ := Dsk.own_slice h.row
  have hrow := h.row
  rw [hv] at hrow
  have RF := Tb.rfind_any hrow o (by rw [hfit.tlen]; exact hN1)
  rw [hv] at c6
  obtain ⟨T, hT⟩ : ∃ T, T = M.T.length := ⟨_, rfl⟩
  rw [← hT] at RF c6
  unfold RWPost
  have SAME : Hid (wriE p M o f d ≠ 0 → RWent r p (wriM p M o f d) w w) := Lib.hid fun hne => by
    unfold wriM
    rw [if_neg hne]
    exact ⟨r, h, RSp.refl _ _⟩
  cases hi : M.inv with
  | true =>
    have E : Hid (wriE p M o f d = 162) := Lib.hid (by
      have h1 : findE M o = 162 := by unfold findE; rw [if_pos hi]
      unfold wriE; rw [h1]; rfl)
    rw [hi] at c8
    clear h hp hfit hf1 hf2 hN1 hg2 hv hrow RF c6 c7 c2 hi hT hdl
    go_enter Tryz.func37, Tryz.ntmps37
    go_wp2_with fail
    go_ret
    exact ⟨by rw [E.out]; rfl, SAME.out (by rw [E.out]; decide)⟩
  | false =>
    rw [hi] at c8
    cases hfd : Tb.find M.T o with
    | none =>
      have E : Hid (wriE p M o f d = 161) := Lib.hid (by
        have h1 : findE M o = 161 := by unfold findE; rw [hi, if_neg (by decide), hfd]; rfl
        unfold wriE; rw [h1]; rfl)
      rw [Tb.findI_none hfd] at RF
      have RFH := Lib.hid RF
      clear h hp hfit hf1 hf2 hN1 hg2 hv hrow RF c7 c2 hi hT hfd hdl
      go_enter Tryz.func37, Tryz.ntmps37
      go_wp2_with fail
      refine RFH.out.mono ?_
      rintro e w1 ⟨rfl, rfl⟩
      go_wp2_with fail
      go_ret
      exact ⟨by rw [E.out]; rfl, SAME.out (by rw [E.out]; decide)⟩
    | some i =>
      have h1 : findE M o = 0 := by unfold findE; rw [hi, if_neg (by decide), hfd]; rfl
      rw [Tb.findI_some hfd] at RF
      have RFH := Lib.hid RF
      have d0 : decide ((i : Int) < 0) = false := by simp
      have hsz2 : (Om.B d).size = d.length := Om.B_size d
      obtain ⟨n, hn⟩ : ∃ n, n = d.length := ⟨_, rfl⟩
      rw [← hn] at hsz2 hdl
      obtain ⟨q, hq⟩ : ∃ q, q = n / 64 := ⟨_, rfl⟩
      have hq2 : (n : Int) / 64 = (q : Int) := by omega
      have hwq : IntKind.i64.wrap (q : Int) = (q : Int) := IntWalk.i64_in _ (by omega)
      have E0 : Hid (wriE p M o f d = if n % 64 = 0 then if inCh p f (q : Int) = true then 0 else 2 else 1) := Lib.hid (by unfold wriE; rw [if_pos h1, ← hn, ← hq])
      by_cases hm0 : n % 64 = 0
      · have e0 : ((n : Int) % 64 != 0) = false := by simp; omega
        by_cases hin : inCh p f (q : Int) = true
        · have E : Hid (wriE p M o f d = 0) := Lib.hid (by rw [E0.out, if_pos hm0, if_pos hin])
          obtain ⟨f0, n0, hfn⟩ := inCh_iff.1 hin
          obtain ⟨F, rfl⟩ : ∃ F : Nat, f = (F : Int) := ⟨f.toNat, by omega⟩
          have hfp : findP M o = i := by unfold findP; rw [hfd]; rfl
          have hil : i < M.D.length := by rw [hfit.dlen, ← hfit.tlen]; exact Tb.find_lt hfd
          obtain ⟨g, c, hdv, hob, hcell, hfr⟩ := h.at hil
          obtain ⟨h00, hTi, _⟩ := Tb.find_some.1 hfd
          have hXl : (M.D.getD i []).length = 64 * p.g := hfit.size i o hTi h00
          have SETD := h.setD hil hob
          obtain ⟨X, hX⟩ : ∃ X, X = M.D.getD i [] := ⟨_, rfl⟩
          rw [← hX] at hcell hXl
          have hsz : (Om.B X).size = 64 * p.g := by rw [Om.B_size]; exact hXl
          obtain ⟨A, hA⟩ : ∃ A, A = 64 * F := ⟨_, rfl⟩
          obtain ⟨K, hK⟩ : ∃ K, K = 64 * F + n := ⟨_, rfl⟩
          have hWM : wriM p M o (F : Int) d = ⟨M.T, M.D.set i (splice X d F), M.inv⟩ := by
            unfold wriM
            rw [if_pos E.out, hfp, Int.toNat_natCast]
            show M.wri i F d = _
            unfold Ms.wri
            rw [← hX]
          have hsp : splice X d F = X.take A ++ d ++ X.drop K := by unfold splice; rw [hA, hK, hn]
          have FIN : Hid (∀ w2, Below w.heap.size w w2 → RWent r p (wriM p M o (F : Int) d) w (w2.setCell ⟨g, i, none⟩ (.string (Om.B (X.take A ++ d ++ X.drop K))))) := Lib.hid fun w2 hb => by
            rw [hWM, hsp]
            obtain ⟨k2, s2⟩ := (h.below hb).setD hil hob (X.take A ++ d ++ X.drop K)
            exact ⟨r, k2, (RSp.of_below hb).trans s2⟩
          rw [hdv] at c7
          obtain ⟨ND, hND⟩ : ∃ ND, ND = M.D.length := ⟨_, rfl⟩
          rw [← hND] at c7 hil
          have e1 : IntKind.i64.wrap (64 * (F : Int)) = (A : Int) := by rw [IntWalk.i64_in _ (by omega)]; omega
          have e3 : IntKind.i64.wrap ((A : Int) + (n : Int)) = (K : Int) := by rw [IntWalk.i64_in _ (by omega)]; omega
          have e4 : IntKind.i64.wrap ((p.g : Int) - (F : Int)) = (p.g : Int) - (F : Int) := IntWalk.i64_in _ (by omega)
          have t1 : decide ((F : Int) < 0) = false := by simp
          have t3 : decide ((p.g : Int) < (F : Int)) = false := by simp; omega
          have t4 : decide (p.g < F) = false := by simp; omega
          have t5 : decide ((p.g : Int) - (F : Int) < (q : Int)) = false := by simp; omega
          have b1 : (A : Int) ≤ ((Om.B X).size : Int) := by omega
          have b2 : A ≤ (Om.B X).size := by omega
          have b3 : K ≤ (Om.B X).size := by rw [hsz]; omega
          have b4 : (K : Int) ≤ ((Om.B X).size : Int) := by omega
          have b5 : (0 : Int) ≤ (i : Int) := by omega
          have b6 : (i : Int) < (ND : Int) := by omega
          have x1 : (Om.B X).extract 0 A = Om.B (X.take A) := by rw [Om.extract_front, Om.L_B]
          have x2 : (Om.B X).extract K (Om.B X).size = Om.B (X.drop K) := by rw [Om.extract_end, Om.L_B]
          have x3 : Om.B (X.take A) ++ Om.B d = Om.B (X.take A ++ d) := Om.B_append _ _
          have x4 : Om.B (X.take A ++ d) ++ Om.B (X.drop K) = Om.B (X.take A ++ d ++ X.drop K) := Om.B_append _ _
          have ov1 := no_over14 (X.take A) d (by rw [List.length_take, ← hn]; omega)
          have ov2 := no_over14 (X.take A ++ d) (X.drop K) (by rw [List.length_append, List.length_take, List.length_drop, ← hn]; omega)
          have ov3 : ¬ 9223372036854775807 < (Om.B (X.take A)).size + n := by rw [← hsz2]; exact ov1
          clear h hp hfit hf1 hf2 hN1 hg2 hv hrow RF hi hT hfd hin f0 n0 hfn hfp hdv hob h00 hTi hX hND h1 E0 hWM hsp SETD hn hq hm0 hXl hdl
          go_enter Tryz.func37, Tryz.ntmps37
          go_wp2_with fail
          refine RFH.out.mono ?_
          rintro e w1 ⟨rfl, rfl⟩
          go_upto_region 11 with fail
          refine Dsk.still_tail 32 (by kernel_rfl) (by kernel_rfl) ?_
          intro w2 hw2
          have y2 : w2.cell? ⟨r.q, 7, none⟩ = some (.slice (some ⟨g, 0, none⟩) ND c) := by rw [hw2.out]; exact c7
          have y3 : w2.cell? ⟨g, i, none⟩ = some (.string (Om.B X)) := by rw [hw2.out]; exact hcell
          have y4 : w2.frozen? ⟨g, i, none⟩ = false := by rw [hw2.out]; exact hfr
          have HB2 : Hid (Below w.heap.size w w2) := Lib.hid (by rw [hw2.out]; exact (Below.refl _ _).drew)
          clear c2 c6 c7 c8 cf hcell hfr hA hK hsz
          simp only [List.take_succ_cons, List.take_zero, List.drop_succ_cons, List.drop_zero]
          repeat still_step
          refine wpStill_nil ?_
          go_wp2
          go_wp2
          go_ret
          refine ⟨by rw [E.out]; rfl, ?_⟩
          have hfin := FIN.out _ HB2.out
          rw [List.append_assoc] at hfin
          exact hfin
        · have E : Hid (wriE p M o f d = 2) := Lib.hid (by rw [E0.out, if_pos hm0, if_neg hin])
          have hcase : f < 0 ∨ (¬ f < 0 ∧ (p.g : Int) < f) ∨ (¬ f < 0 ∧ ¬ (p.g : Int) < f ∧ (p.g : Int) - f < (q : Int)) := by
            have h2 : ¬ (0 ≤ f ∧ 0 ≤ (q : Int) ∧ (q : Int) ≤ (p.g : Int) - f) := fun hc => hin (inCh_iff.2 hc)
            omega
          rcases hcase with t1 | ⟨t1, t3⟩ | ⟨t1, t3, t4⟩
          · have u1 : decide (f < 0) = true := by simpa using t1
            clear h hp hfit hf1 hf2 hN1 hg2 hv hrow RF hi hT hfd hin h1 t1 E0 hn hq hm0 hdl
            go_enter Tryz.func37, Tryz.ntmps37
            go_wp2_with fail
            refine RFH.out.mono ?_
            rintro e w1 ⟨rfl, rfl⟩
            go_wp2_with fail
            go_ret
            exact ⟨by rw [E.out]; rfl, SAME.out (by rw [E.out]; decide)⟩
          · have u1 : decide (f < 0) = false := by simpa using t1
            have u3 : decide ((p.g : Int) < f) = true := by simpa using t3
            have u4 : decide (f > (p.g : Int)) = true := by simpa using t3
            clear h hp hfit hf1 hf2 hN1 hg2 hv hrow RF hi hT hfd hin h1 t1 t3 E0 hn hq hm0 hdl
            go_enter Tryz.func37, Tryz.ntmps37
            go_wp2_with fail
            refine RFH.out.mono ?_
            rintro e w1 ⟨rfl, rfl⟩
            go_wp2_with fail
            go_ret
            exact ⟨by rw [E.out]; rfl, SAME.out (by rw [E.out]; decide)⟩
          · have u1 : decide (f < 0) = false := by simpa using t1
            have u3 : decide ((p.g : Int) < f) = false := by simpa using t3
            have u5 : IntKind.i64.wrap ((p.g : Int) - f) = (p.g : Int) - f := IntWalk.i64_in _ (by omega)
            have u6 : decide ((p.g : Int) - f < (q : Int)) = true := by simpa using t4
            clear h hp hfit hf1 hf2 hN1 hg2 hv hrow RF hi hT hfd hin h1 t1 t3 t4 E0 hn hq hm0 hdl
            go_enter Tryz.func37, Tryz.ntmps37
            go_wp2_with fail
            refine RFH.out.mono ?_
            rintro e w1 ⟨rfl, rfl⟩
            go_wp2_with fail
            go_ret
            exact ⟨by rw [E.out]; rfl, SAME.out (by rw [E.out]; decide)⟩
      · have E : Hid (wriE p M o f d = 1) := Lib.hid (by rw [E0.out, if_neg hm0])
        have e0 : ((n : Int) % 64 != 0) = true := by simp; omega
        clear h hp hfit hf1 hf2 hN1 hg2 hv hrow RF hi hT hfd hm0 h1 E0 hn hq hdl
        go_enter Tryz.func37, Tryz.ntmps37
        go_wp2_with fail
        refine RFH.out.mono ?_
        rintro e w1 ⟨rfl, rfl⟩
        go_wp2_with fail
        go_ret
        exact ⟨by rw [E.out]; rfl, SAME.out (by rw [E.out]; decide)⟩
end So
end Go.Proofs.YtbmabcddciibfaaGreat
namespace Go.Proofs.YtbmabcddciibfaaGreat
namespace So
open Go.RowKit
set_option maxRecDepth 100000
set_option linter.unusedVariables false
theorem Rs.putT {w w2 : World} {r : Rb} {p : Pa} {M : Ms} (h : Rs w r p M) {T' : List Int} (hw : Tb.RWent r.tv T' w w2) : Rs w2 r p ⟨T', M.D, M.inv⟩ ∧ RSp r r w w2 := by
  obtain ⟨h1, h2⟩ := hw
  have k : ∀ j, r.fp j → r.tv.ownBlock ≠ some j → w2.heap[j]? = w.heap[j]? := fun j hj hn => h2.block j (h.lt j hj) hn
  exact ⟨⟨(k _ (.inl rfl) h.qt).trans h.head, h1, Dsk.own_same h.drow fun j hj => k j (.inr (.inr hj)) fun e => h.td j e hj, h.td, h.qt, h.qd⟩, ⟨h2.mono fun j _ hj => .inr (.inl hj), fun _ h => .inl h, rfl⟩⟩
def Ms.addsTo (M : Ms) (l : List (Int × List UInt8)) (k : Nat) : Ms := ⟨putsM M.T (l.take k), setD M.D (putsP M.T (l.take k)) (l.take k), M.inv⟩
structure RdAt (w : World) (r : Rb) (p : Pa) (M : Ms) (l : List (Int × List UInt8)) (k : Nat) (wr : World) : Prop where
  rs : Rs wr r p (M.addsTo l k)
  sp : RSp r r w wr
set_option maxHeartbeats 4000000 in
theorem radd_pub {w : World} {r : Rb} {p : Pa} {M : Ms} (h : Rs w r p M) (hp : p.Ok) (hfit : Fit p M) {l : List (Int × List UInt8)} (n c : Nat) (hn : n = l.length) (hn2 : n ≤ 1048576) (a : Option Addr) (hr : RCop w a l) (hra : ∀ g off, l ≠ [] → a = some ⟨g, off, none⟩ → ¬ r.fp g) :
    Calls Tryz.prog 36 #[.pointer (some ⟨r.q, 0, none⟩), .slice a n c] w fun e w' => e = .returned (.int .i64 (addE M.inv M.T p.g l)) ∧ RWent r p (addM p M l) w w' := by
  have WR := Lib.hid (rwrong_any h hp hfit n c hn hn2 a hr)
  obtain ⟨x, hx⟩ : ∃ x, x = addE M.inv M.T p.g l := ⟨_, rfl⟩
  rw [← hx] at WR ⊢
  by_cases h0 : x = 0
  · have h00 : addE M.inv M.T p.g l = 0 := by rw [← hx]; exact h0
    obtain ⟨hinv, hadd, hlen⟩ := addE_zero hfit.tok h00
    have HFIN : Hid (addM p M l = M.addsTo l n) := Lib.hid (by
      unfold addM
      rw [if_pos h00]
      unfold Ms.adds Ms.addsTo
      rw [List.take_of_length_le (by omega)])
    have HSK := Lib.hid h
    have HN := Lib.hid hn
    have HR : Hid (∀ wr, Dsk.Fr r.fp w wr → RCop wr a l) := Lib.hid fun wr hf => hr.keep hf hra
    obtain ⟨T, hT⟩ : ∃ T, T = M.T.length := ⟨_, rfl⟩
    have hT2 : T ≤ 1048576 := by rw [hT, hfit.tlen]; exact hp.nums.N1
    have hD : M.D.length = T := by rw [hT, hfit.tlen, hfit.dlen]
    obtain ⟨va, vc, hv⟩ := Dsk.own_slice h.row
    rw [← hT] at hv
    have RND : Hid (∀ (k : Nat) (wr : World), k < n → RdAt w r p M l k wr → ∃ (y : Int × List UInt8) (g off i gd cd : Nat), a = some ⟨g, off, none⟩ ∧ wr.cell? ⟨g, off + k * 2, none⟩ = some (.int .i64 y.1) ∧ wr.cell? ⟨r.q, 6, none⟩ = some (.slice va T vc) ∧ i < T ∧
        (∀ W, Below wr.heap.size wr W → Calls Tryz.prog 81 #[.slice va T vc, .int .i64 y.1] W fun e w2 => e = .returned (.tuple #[.int .i64 (i : Int), .int .i64 0]) ∧ w2.cell? ⟨r.q, 6, none⟩ = some (.slice va T vc) ∧ w2.cell? ⟨g, off + k * 2, none⟩ = some (.int .i64 y.1) ∧
          w2.cell? ⟨r.q, 7, none⟩ = some (.slice (some ⟨gd, 0, none⟩) T cd) ∧ w2.cell? ⟨g, off + k * 2 + 1, none⟩ = some (.string (Om.B y.2)) ∧ (∃ old, w2.cell? ⟨gd, i, none⟩ = some (.string old)) ∧ w2.frozen? ⟨gd, i, none⟩ = false ∧
          ∀ w3, Below w2.heap.size w2 w3 → RdAt w r p M l (k + 1) (w3.setCell ⟨gd, i, none⟩ (.string (Om.B y.2))))) := Lib.hid fun k wr hk hat => by
      obtain ⟨y, hy⟩ : ∃ y, l[k]? = some y := ⟨l[k]'(by omega), List.getElem?_eq_getElem _⟩
      obtain ⟨g, off, hab, hgl, hc⟩ := (hr.keep hat.sp.fr hra) (fun e => by rw [e] at hy; simp at hy)
      have hng : ¬ r.fp g := hra g off (fun e => by rw [e] at hy; simp at hy) hab
      obtain ⟨hc0, hc1⟩ := hc k y hy
      have hsplit : l.take k ++ l.drop k = l := List.take_append_drop k l
      have hdrop : l.drop k = y :: l.drop (k + 1) := by
        obtain ⟨h1, h2⟩ := List.getElem?_eq_some_iff.1 hy
        rw [List.drop_eq_getElem_cons h1, h2]
      have hap : Adding (putsM M.T (l.take k)) (y :: l.drop (k + 1)) := by
        have h1 : Adding M.T (l.take k ++ l.drop k) := by rw [hsplit]; exact hadd
        have h2 := h1.app
        rwa [hdrop] at h2
      obtain ⟨i, hgap, hilt, hput⟩ := hap.put
      have hiT : i < T := by rw [putsM_length] at hilt; omega
      obtain ⟨e1, e2, -⟩ := dataOps_take (p := p) (m := M.T) hy hgap
      have hDl : (M.addsTo l k).D.length = T := by show (setD _ _ _).length = T; rw [setD_length, hD]
      obtain ⟨gd, cd, hdv, hob, -, -⟩ := hat.rs.at (k := i) (by rw [hDl]; exact hiT)
      obtain ⟨-, -, -, -, -, -, r6, -, -, -⟩ := hat.rs.reads
      rw [hv] at r6
      refine ⟨y, g, off, i, gd, cd, hab, hc0, r6, hiT, fun W hW => ?_⟩
      have kW := hat.rs.below hW
      have hrowW := kW.row
      have hTl : (M.addsTo l k).T.length = T := by show (putsM _ _).length = T; rw [putsM_length, hT]
      rw [hv] at hrowW
      have PUT := Tb.rput_any (a := va) (c := vc) (m := (M.addsTo l k).T) (w := W) (by rw [hTl]; exact hrowW) y.1 (by rw [hTl]; exact hT2)
      rw [hTl] at PUT
      have hput' : Tb.put (M.addsTo l k).T y.1 = ((putsM M.T (l.take k)).set i y.1, (i : Int), 0) := hput
      rw [hput'] at PUT
      refine PUT.mono ?_
      rintro e w2 ⟨rfl, hw⟩
      have hw' : Tb.RWent r.tv ((putsM M.T (l.take k)).set i y.1) W w2 := by rw [hv]; exact hw
      obtain ⟨k2, s2⟩ := kW.putT hw'
      obtain ⟨-, -, -, -, -, -, q6, q7, -, -⟩ := k2.reads
      rw [hv] at q6
      have hD2 : i < (⟨(putsM M.T (l.take k)).set i y.1, (M.addsTo l k).D, (M.addsTo l k).inv⟩ : Ms).D.length := by show i < (M.addsTo l k).D.length; rw [hDl]; exact hiT
      obtain ⟨gd', cd', hdv', hob', hcell, hfr⟩ := k2.at hD2
      rw [hob'] at hob
      injection hob with hob
      subst hob
      have hdv2 : r.dv = .slice (some ⟨gd', 0, none⟩) T cd := by rw [hdv, hDl]
      rw [hdv2] at q7
      have hglW : g < W.heap.size := Nat.lt_of_lt_of_le hgl hW.size
      have kc : ∀ (q : Nat) (v : Value), wr.cell? ⟨g, q, none⟩ = some v → w2.cell? ⟨g, q, none⟩ = some v := fun q v hh => (fr_cell s2.fr hglW hng).trans ((hW.cell (p := ⟨g, q, none⟩) hgl).trans hh)
      refine ⟨rfl, q6, kc _ _ hc0, q7, kc _ _ hc1, ⟨_, hcell⟩, hfr, fun w3 hb3 => ?_⟩
      obtain ⟨k3, s3⟩ := (k2.below hb3).setD hD2 (by rw [hdv2]; rfl) y.2
      refine ⟨?_, hat.sp.trans ((RSp.of_below hW).trans (s2.trans ((RSp.of_below hb3).trans s3)))⟩
      have : M.addsTo l (k + 1) = ⟨(putsM M.T (l.take k)).set i y.1, (M.addsTo l k).D.set i y.2, (M.addsTo l k).inv⟩ := by
        unfold Ms.addsTo
        rw [e1, e2]
        have e3 : l.take (k + 1) = l.take k ++ [y] := by
          obtain ⟨h1, h2⟩ := List.getElem?_eq_some_iff.1 hy
          rw [List.take_succ_eq_append_getElem h1, h2]
        rw [e3, setD_snoc _ _ _ _ _ (by rw [putsP_length])]
      rw [this]
      exact k3
    have ST : Hid (∀ w1, Below w.heap.size w w1 → RdAt w r p M l 0 w1) := Lib.hid fun w1 hb => ⟨by
      have := h.below hb
      unfold Ms.addsTo
      rw [List.take_zero]
      exact this, RSp.of_below hb⟩
    subst h0
    clear h hp hfit hn hr hra hx h00 hinv hadd hlen hT hD hv
    go_enter Tryz.func36, Tryz.ntmps36
    go_wp2_with fail
    refine WR.out.mono ?_
    rintro e w1 ⟨rfl, hb⟩
    have R0 := Lib.hid (ST.out w1 hb)
    clear hb ST WR
    go_wp2_with fail
    go_loopw [6] (fun i wr => ∃ k : Nat, i = .int .i64 (k : Int) ∧ k ≤ n ∧ Hid (RdAt w r p M l k wr)) (fun i _ => n - (Lib.intOf i).toNat)
    case atStart => exact ⟨0, rfl, Nat.zero_le _, R0⟩
    case round =>
      obtain ⟨k, rfl, hk, hat⟩ := hrel
      by_cases hlt : k < n
      · have d1 : decide ((k : Int) < (n : Int)) = true := by simp; omega
        have d2 : decide (k < n) = true := by simp; omega
        have b1 : (0 : Int) ≤ (k : Int) := by omega
        have b2 : (k : Int) < (n : Int) := by omega
        have hw1 : IntKind.i64.wrap ((k : Int) + 1) = ((k + 1 : Nat) : Int) := by rw [IntWalk.i64_in _ (by omega)]; rfl
        obtain ⟨y, g, off, i, gd, cd, hab, hc0, c6, hi, hput⟩ := RND.out k wr hlt hat.out
        subst hab
        have PUT := Lib.hid hput
        have b3 : (0 : Int) ≤ (i : Int) := by omega
        have b4 : (i : Int) < (T : Int) := by omega
        clear hput hat
        go_upto_region 7 with fail
        go_region_held3 (fun w' => w'.cell? ⟨r.q, 6, none⟩ = some (.slice va T vc) ∧ w'.cell? ⟨g, off + k * 2, none⟩ = some (.int .i64 y.1))
          (first | (refine ⟨?_, ?_⟩ <;> assumption) | go_keep)
          (first | (go_at_call 81; refine (PUT.out _ (Below.refl _ _).drew).mono ?_; rintro e w2 ⟨rfl, z6, zc, z7, zd, ⟨old, zo⟩, zf, hnx⟩; have NX := Lib.hid hnx; clear hnx))
        clear hc0 c6
        go_upto_region 8 with fail
        refine Dsk.still_tail 11 (by kernel_rfl) (by kernel_rfl) ?_
        intro w3 hw3
        have y7 : w3.cell? ⟨r.q, 7, none⟩ = some (.slice (some ⟨gd, 0, none⟩) T cd) := by rw [hw3.out]; exact z7
        have yd : w3.cell? ⟨g, off + k * 2 + 1, none⟩ = some (.string (Om.B y.2)) := by rw [hw3.out]; exact zd
        have yo : w3.cell? ⟨gd, i, none⟩ = some (.string old) := by rw [hw3.out]; exact zo
        have yf : w3.frozen? ⟨gd, i, none⟩ = false := by rw [hw3.out]; exact zf
        have G3 := Lib.hid (NX.out w3 (by rw [hw3.out]; exact (Below.refl _ _).drew))
        clear z6 zc z7 zd zo zf NX
        simp only [List.take_succ_cons, List.take_zero, List.drop_succ_cons, List.drop_zero]
        repeat still_step
        refine wpStill_nil ?_
        go_wp2
        go_roundw
        case rel => exact ⟨k + 1, rfl, by omega, G3⟩
        case measure => simp [Lib.intOf]; omega
      · obtain rfl : k = n := by omega
        have d1 : decide ((k : Int) < (k : Int)) = false := by simp
        have d2 : decide (k < k) = false := by simp
        have FIN : Hid (RWent r p (addM p M l) w wr) := Lib.hid ⟨r, by rw [HFIN.out]; exact hat.out.rs, hat.out.sp⟩
        clear hat
        go_wp2_with fail
        go_ret
        exact ⟨rfl, FIN.out⟩
  · have e1 : (x != 0) = true := by simpa using h0
    have SAME : Hid (∀ w', Below w.heap.size w w' → RWent r p (addM p M l) w w') := Lib.hid fun w' hb => by
      unfold addM
      rw [if_neg (by rw [← hx]; exact h0)]
      exact RWent.below h hb
    clear h hp hfit hn hr hra hx h0
    go_enter Tryz.func36, Tryz.ntmps36
    go_wp2_with fail
    refine WR.out.mono ?_
    rintro e w1 ⟨rfl, hb⟩
    have B1 := Lib.hid hb
    clear hb
    go_wp2_with fail
    go_ret
    exact ⟨rfl, SAME.out _ B1.out⟩
end So
end Go.Proofs.YtbmabcddciibfaaGreat
namespace Go.Proofs.YtbmabcddciibfaaGreat
namespace So
open Go.RowKit
set_option linter.unusedVariables false
set_option maxRecDepth 100000
def Mid (y : Bo) (p : Pa) (st : Dm.St) (M : Ms) (x : Ac) (w : World) (E ER : Int) (w' : World) : Prop :=
  ∃ (ops : List Op) (inv' : Bool) (m' : List Int) (y' : Bo), ActOps p M x ops ∧ Both w' y' p inv' (runs st ops).1 m' M ∧ Bp y y' w w' ∧ y'.r = y.r ∧ y'.b.q = y.b.q ∧
    (Live p st M → E = ER ∧ inv' = (actM p M x).inv ∧ m' = (actM p M x).tab)
theorem Mid.both {y : Bo} {p : Pa} {st : Dm.St} {M : Ms} {x : Ac} {w w' : World} {E ER : Int} (h : Mid y p st M x w E ER w') : Rs w' y.r p M := by
  obtain ⟨ops, inv', m', y', h1, h2, h3, h4, h5, h6⟩ := h
  rw [← h4]
  exact h2.rs
theorem Mid.end {y : Bo} {p : Pa} {st : Dm.St} {M : Ms} {x : Ac} {w w1 W w2 : World} {E ER : Int} {res : Bool} (h : Mid y p st M x w E ER w1) (hb : Below w1.heap.size w1 W) (hd : RWent y.r p (actM p M x) W w2) (hr : E = ER → res = true) :
    ActEnd y p st M x w (.returned (.bool res)) w2 := by
  obtain ⟨ops, inv', m', y', h1, h2, h3, h4, h5, h6⟩ := h
  rw [← h4] at hd
  obtain ⟨y2, k2, s2, e2⟩ := (h2.below hb).doc hd
  refine ⟨res, ops, inv', m', y2, rfl, h1, k2, h3.trans ((Bp.of_below hb).trans s2), fun hl => ?_⟩
  obtain ⟨a, b, c⟩ := h6 hl
  exact ⟨hr a, b, c⟩
theorem Mid.of {y : Bo} {p : Pa} {st : Dm.St} {M : Ms} {x : Ac} {w W w' : World} {E ER : Int} {ops : List Op} {inv' : Bool} {m' : List Int} (h : Both w y p M.inv st M.tab M) (hb : Below w.heap.size w W) (hs : SWent y.b p inv' (runs st ops).1 m' W w') (ho : ActOps p M x ops)
    (hl : Live p st M → E = ER ∧ inv' = (actM p M x).inv ∧ m' = (actM p M x).tab) : Mid y p st M x w E ER w' := by
  obtain ⟨y', k, s, e1, e2⟩ := (h.below hb).store hs
  exact ⟨ops, inv', m', y', ho, k, (Bp.of_below hb).trans s, e1, e2, hl⟩
theorem Mid.cell {y : Bo} {p : Pa} {st : Dm.St} {M : Ms} {x : Ac} {w w' : World} {E ER : Int} (h : Mid y p st M x w E ER w') : w'.cell? ⟨y.X, 4, none⟩ = some (.pointer (some ⟨y.b.q, 0, none⟩)) ∧ w'.cell? ⟨y.X, 5, none⟩ = some (.pointer (some ⟨y.r.q, 0, none⟩)) := by
  obtain ⟨ops, inv', m', y', h1, h2, h3, h4, h5, h6⟩ := h
  obtain ⟨-, -, -, -, c4, c5, -⟩ := h2.reads
  rw [h3.X, h5] at c4
  rw [h3.X, h4] at c5
  exact ⟨c4, c5⟩
theorem Mid.fr {y : Bo} {p : Pa} {st : Dm.St} {M : Ms} {x : Ac} {w w' : World} {E ER : Int} (h : Mid y p st M x w E ER w') : Dsk.Fr y.fp w w' := by
  obtain ⟨ops, inv', m', y', h1, h2, h3, h4, h5, h6⟩ := h
  exact h3.fr
theorem act_boxes (w : World) (cv av : Array Value) (W0 : World) (h : (w.alloc (.cells cv 29)).alloc (.cells av 34) = W0) :
    Below w.heap.size w W0 ∧ W0.heap[w.heap.size]? = some (.cells cv 29 (0, 0)) ∧ W0.heap[w.heap.size + 1]? = some (.cells av 34 (0, 0)) ∧ W0.heap.size = w.heap.size + 2 := by
  subst h
  have h1 := heap_alloc_new w (.cells cv 29)
  have h2 := heap_alloc_new (w.alloc (.cells cv 29)) (.cells av 34)
  have hs : (w.alloc (.cells cv 29)).heap.size = w.heap.size + 1 := by simp
  rw [hs] at h2
  have hb : Below (w.heap.size + 1) (w.alloc (.cells cv 29)) ((w.alloc (.cells cv 29)).alloc (.cells av 34)) := (Below.refl _ _).alloc (by simp) _
  exact ⟨((Below.refl _ w).alloc (Nat.le_refl _) _).alloc (by simp) _, (hb.block w.heap.size (by omega)).trans h1, h2, by simp⟩
theorem mid_keep {w w1 W w2 : World} {y : Bo} {p : Pa} {inv : Bool} {st st' : Dm.St} {m : List Int} {M M' M2 : Ms} {x : Ac} {E ER : Int} {j : Nat} {v : Value} (h : Both w y p inv st m M) (hm : Mid y p st' M' x w E ER w1) (hbx : w1.cell? ⟨w.heap.size + 1, j, none⟩ = some v) (hbl : w.heap.size + 1 < w1.heap.size) (hW : Below w1.heap.size w1 W) (hw2 : RWent y.r p M2 W w2) :
    w2.cell? ⟨y.X, 4, none⟩ = some (.pointer (some ⟨y.b.q, 0, none⟩)) ∧ w2.cell? ⟨y.X, 5, none⟩ = some (.pointer (some ⟨y.r.q, 0, none⟩)) ∧ w2.cell? ⟨w.heap.size + 1, j, none⟩ = some v := by
  obtain ⟨r', k, s⟩ := hw2
  have hX := Dsk.lt_of_heap h.head
  have h01 := hm.fr.size
  obtain ⟨c4, c5⟩ := hm.cell
  have kX : ∀ i, w2.cell? ⟨y.X, i, none⟩ = w1.cell? ⟨y.X, i, none⟩ := fun i => (fr_cell s.fr (Nat.lt_of_lt_of_le (Nat.lt_of_lt_of_le hX h01) hW.size) h.rx).trans (hW.cell (p := ⟨y.X, i, none⟩) (Nat.lt_of_lt_of_le hX h01))
  refine ⟨(kX 4).trans c4, (kX 5).trans c5, ?_⟩
  rw [fr_cell s.fr (Nat.lt_of_lt_of_le hbl hW.size) (fun hf => by have := h.rs.lt _ hf; omega), ← hbx]
  exact hW.cell (p := ⟨w.heap.size + 1, j, none⟩) hbl
theorem actM0 {p : Pa} {M : Ms} {x : Ac} (h : x.k % 6 = 0) : actM p M x = addM p M x.cs := by unfold actM; rw [if_pos h]
set_option maxHeartbeats 2000000 in
theorem sact0 {w : World} {y : Bo} {p : Pa} {st : Dm.St} {M : Ms} (h : Both w y p M.inv st M.tab M) (hp : p.Ok) (hfit : Fit p M) (hP : st.P.length ≤ 68719476736) (x : Ac) (hk : x.k % 6 = 0) (hk2 : x.k < 256)
    (ca : Option Addr) (cc : Nat) (hn2 : x.cs.length ≤ 1048576) (hr : RCop w ca x.cs) (hlow : ∀ g off, x.cs ≠ [] → ca = some ⟨g, off, none⟩ → ¬ y.fp g) (hwf : ∀ c ∈ x.cs, (Lit.int .i64 c.1).wf = true) (lv rv kv : Value) :
    Calls Tryz.prog 8 #[.pointer (some ⟨y.X, 0, none⟩), .agg #[.int .i64 (p.a : Int), .int .i64 (p.n : Int), .int .i64 (p.g : Int), .int .i64 (p.st : Int), .int .i64 (p.ln : Int), .int .u32 (p.gen : Int), lv], .agg #[.int .u8 (x.k : Int), .int .i64 x.o, .int .i64 x.f, .int .i64 x.n, .string (Om.B x.d), .slice ca x.cs.length cc, rv, kv]] w (ActEnd y p st M x w) := by
  obtain ⟨W0, hW0⟩ : ∃ W0, (w.alloc (.cells #[.int .i64 (p.a : Int), .int .i64 (p.n : Int), .int .i64 (p.g : Int), .int .i64 (p.st : Int), .int .i64 (p.ln : Int), .int .u32 (p.gen : Int), lv] 29)).alloc (.cells #[.int .u8 (x.k : Int), .int .i64 x.o, .int .i64 x.f, .int .i64 x.n, .string (Om.B x.d), .slice ca x.cs.length cc, rv, kv] 34) = W0 := ⟨_, rfl⟩
  obtain ⟨hB, hc, ha, hsz⟩ := act_boxes w _ _ W0 hW0
  have hk6 : (x.k : Int) % 6 = 0 := by omega
  obtain ⟨n, hn⟩ : ∃ n, n = x.cs.length := ⟨_, rfl⟩
  rw [← hn] at ha hn2 hW0 ⊢
  obtain ⟨-, -, -, -, c4, c5, -⟩ := (h.below hB).reads
  have b0 : W0.cell? ⟨w.heap.size + 1, 0, none⟩ = some (.int .u8 (x.k : Int)) := by rw [cell_of_row _ _ _ _ _ _ ha]; rfl
  have b5 : W0.cell? ⟨w.heap.size + 1, 5, none⟩ = some (.slice ca n cc) := by rw [cell_of_row _ _ _ _ _ _ ha]; rfl
  have KEEP : Hid (∀ W, Below W0.heap.size W0 W → W.cell? ⟨y.X, 4, none⟩ = some (.pointer (some ⟨y.b.q, 0, none⟩)) ∧ W.cell? ⟨y.X, 5, none⟩ = some (.pointer (some ⟨y.r.q, 0, none⟩)) ∧ W.cell? ⟨w.heap.size + 1, 5, none⟩ = some (.slice ca n cc)) := Lib.hid fun W hW => by
    obtain ⟨-, -, -, -, c4, c5, -⟩ := ((h.below hB).below hW).reads
    have ha2 := (hW.block (w.heap.size + 1) (by omega)).trans ha
    exact ⟨c4, c5, by rw [cell_of_row _ _ _ _ _ _ ha2]; rfl⟩
  have CP : Hid (∀ W, Below W0.heap.size W0 W → Calls Tryz.prog 35 #[.slice ca n cc] W fun e w' => ∃ v, e = .returned v ∧ GrowsC W x.cs v n w') := Lib.hid fun W hW => copies_any n cc hn hn2 ((hr.below hB).below hW)
  have AD : Hid (∀ W1 w1 W (va : Option Addr) (vc : Nat), Below W0.heap.size W0 W1 → GrowsC W1 x.cs (.slice va n vc) n w1 → Below w1.heap.size w1 W → Calls Tryz.prog 21 #[.pointer (some ⟨y.b.q, 0, none⟩), .slice va n vc] W fun e w' => ∃ E, e = .returned (.int .i64 E) ∧ Mid y p st M x w E (addE M.inv M.T p.g x.cs) w' ∧ w'.cell? ⟨w.heap.size + 1, 5, none⟩ = some (.slice ca n cc) ∧ w.heap.size + 1 < w'.heap.size) := Lib.hid fun W1 w1 W va vc hW1 hg hW => by
    have hbW : Below w.heap.size w W := ((hB.trans (hW1.mono hB.size)).trans (hg.below.mono (Nat.le_trans hB.size hW1.size))).trans (hW.mono (Nat.le_trans (Nat.le_trans hB.size hW1.size) hg.below.size))
    obtain ⟨hrc, hnew⟩ := hg.rcop
    have k := h.below hbW
    have hbox : ∀ w', Dsk.Fr y.b.fp W w' → w'.cell? ⟨w.heap.size + 1, 5, none⟩ = some (.slice ca n cc) ∧ w.heap.size + 1 < w'.heap.size := fun w' hf => by
      have h0W : Below W0.heap.size W0 W := (hW1.trans (hg.below.mono hW1.size)).trans (hW.mono (Nat.le_trans hW1.size hg.below.size))
      have ha2 := (h0W.block (w.heap.size + 1) (by omega)).trans ha
      have ha3 := (hf.block (w.heap.size + 1) (Dsk.lt_of_heap ha2) (fun hfp => by have := h.sk.lt _ hfp; omega)).trans ha2
      exact ⟨by rw [cell_of_row _ _ _ _ _ _ ha3]; rfl, Dsk.lt_of_heap ha3⟩
    have hlen : M.inv = false → M.tab.length = p.N := fun hi => by rw [tab_no hi]; exact hfit.tlen
    refine (add_pub k.sk hp hlen n vc hn hn2 hP va (hrc.below hW) (fun g off hne e hfp => ?_) hwf).mono ?_
    · have h1 := hnew g off hne e
      have h2 := h.sk.lt g hfp
      have := hB.size
      have := hW1.size
      omega
    · intro e w' hpost
      rcases hpost with ⟨h1, he, hs⟩ | ⟨h1, hne, he, m', hs, hm'⟩
      · rw [addE_tab] at h1 he
        refine ⟨_, he, Mid.of (ops := []) h hbW hs ?_ fun hl => ⟨rfl, ?_⟩, hbox _ hs.fr⟩
        · unfold ActOps; rw [if_pos hk]; exact .inl ⟨h1, rfl⟩
        · rw [actM0 hk]
          unfold addM
          split
          · rename_i h0
            rcases h1 with h1 | h1
            · exact absurd h0 h1
            · rw [h1]; exact ⟨rfl, rfl⟩
          · exact ⟨rfl, rfl⟩
      · rw [addE_tab] at h1
        have hi := (addE_zero hfit.tok h1).1
        rw [tab_no hi] at he hs hm'
        have hops : ActOps p M x (addOps p M.T x.cs (pagesOf (putsP M.T x.cs))) := by unfold ActOps; rw [if_pos hk]; exact .inr ⟨h1, hne, _, pagesOf_chg _, rfl⟩
        refine ⟨_, he, Mid.of h hbW hs hops fun hl => ?_, hbox _ hs.fr⟩
        have hd := (next_act hp hl hops).done
        rw [actM0 hk]
        unfold addM
        rw [if_pos h1]
        refine ⟨by rw [hd, h1], rfl, ?_⟩
        rw [hm' hd, tab_no (show (M.adds x.cs).inv = false from hi)]
        rfl
  have DA : Hid (∀ w1 W E, Mid y p st M x w E (addE M.inv M.T p.g x.cs) w1 → w1.cell? ⟨w.heap.size + 1, 5, none⟩ = some (.slice ca n cc) → w.heap.size + 1 < w1.heap.size → Below w1.heap.size w1 W → Calls Tryz.prog 36 #[.pointer (some ⟨y.r.q, 0, none⟩), .slice ca n cc] W fun e w2 => e = .returned (.int .i64 (addE M.inv M.T p.g x.cs)) ∧
      (w2.cell? ⟨y.X, 4, none⟩ = some (.pointer (some ⟨y.b.q, 0, none⟩)) ∧ w2.cell? ⟨y.X, 5, none⟩ = some (.pointer (some ⟨y.r.q, 0, none⟩)) ∧ w2.cell? ⟨w.heap.size + 1, 5, none⟩ = some (.slice ca n cc)) ∧ ∀ res, (E = addE M.inv M.T p.g x.cs → res = true) → ActEnd y p st M x w (.returned (.bool res)) w2) := Lib.hid fun w1 W E hm hbx hbl hW => by
    have hrW : RCop W ca x.cs := (hr.keep hm.fr fun g off hne e => hlow g off hne e).below hW
    refine (radd_pub (hm.both.below hW) hp hfit n cc hn hn2 ca hrW fun g off hne e hfp => hlow g off hne e (.inr (.inr hfp))).mono ?_
    rintro e w2 ⟨he, hw2⟩
    refine ⟨he, mid_keep h hm hbx hbl hW hw2, fun res hres => hm.end hW ?_ hres⟩
    rw [actM0 hk]
    exact hw2
  obtain ⟨ER, hER⟩ : ∃ ER, ER = addE M.inv M.T p.g x.cs := ⟨_, rfl⟩
  rw [← hER] at AD DA
  clear h hp hfit hP hk hr hlow hwf hB hc ha hsz hn hER
  go_enter Tryz.func8, Tryz.ntmps8
  go_upto_region 3 with fail
  clear hW0
  go_region_held3 (fun w' => w'.cell? ⟨y.X, 4, none⟩ = some (.pointer (some ⟨y.b.q, 0, none⟩)) ∧ w'.cell? ⟨y.X, 5, none⟩ = some (.pointer (some ⟨y.r.q, 0, none⟩)) ∧ w'.cell? ⟨w.heap.size + 1, 5, none⟩ = some (.slice ca n cc))
    (first | (refine ⟨?_, ?_, ?_⟩ <;> assumption) | go_keep)
    (first
      | (go_at_call 35; refine (CP.out _ (Below.refl _ _).drew).mono ?_; rintro e w1 ⟨v, rfl, hg⟩; obtain ⟨va, vc, hvv⟩ := Dsk.own_slice hg.row; subst hvv; have B1 : Hid (Below W0.heap.size W0 w1) := Lib.hid (keepd hg.below (Below.refl _ _).drew); obtain ⟨f4, f5, f6⟩ := KEEP.out w1 B1.out; have ADD := Lib.hid (fun W hW => AD.out _ w1 W va vc (Below.refl _ _).drew hg hW); clear hg)
      | (go_at_call 21; refine (ADD.out _ (Below.refl _ _)).mono ?_; rintro e w2 ⟨E, rfl, hm, z6, zl⟩; obtain ⟨z4, z5⟩ := hm.cell; have DD := Lib.hid (fun W hW => DA.out w2 W E hm z6 zl hW); clear hm)
      | (go_at_call 36; refine (DD.out _ (Below.refl _ _)).mono ?_; rintro e w3 ⟨rfl, ⟨y4, y5, y6⟩, hfin⟩; have FIN := Lib.hid hfin; clear hfin))
  go_wp2_with fail
  go_ret
  exact FIN.out _ fun h => by simp [h]
end So
end Go.Proofs.YtbmabcddciibfaaGreat
namespace Go.Proofs.YtbmabcddciibfaaGreat
namespace So
open Go.RowKit
set_option maxRecDepth 100000
set_option linter.unusedVariables false
def Five (q dp g0 g1 g2 g3 : Nat) (A f : Int) (d : Value) (W : World) : Prop := W.cell? ⟨g0, 0, none⟩ = some (.pointer (some ⟨q, 0, none⟩)) ∧ W.cell? ⟨q, 3, none⟩ = some (.pointer (some ⟨dp, 0, none⟩)) ∧ W.cell? ⟨g1, 0, none⟩ = some (.int .i64 A) ∧ W.cell? ⟨g2, 0, none⟩ = some (.int .i64 f) ∧ W.cell? ⟨g3, 0, none⟩ = some d
theorem wri_clo {W : World} {q dp g0 g1 g2 g3 : Nat} {A f k : Int} {d : ByteArray} {X : Int} {Q : World → Prop} (hc : Five q dp g0 g1 g2 g3 A f (.string d) W) (hk : IntKind.i64.wrap (A + f) = k)
    (h : ∀ W', Below W.heap.size W W' → Calls Tryz.prog 62 #[.pointer (some ⟨dp, 0, none⟩), .int .i64 k, .string d] W' fun e w' => e = .returned (.int .i64 X) ∧ Five q dp g0 g1 g2 g3 A f (.string d) w' ∧ Q w') :
    Calls Tryz.prog 60 #[.pointer (some ⟨g0, 0, none⟩), .pointer (some ⟨g1, 0, none⟩), .pointer (some ⟨g2, 0, none⟩), .pointer (some ⟨g3, 0, none⟩)] W fun e w' => e = endE X ∧ Q w' := by
  unfold Five at hc h
  obtain ⟨a0, a1, a2, a3, a4⟩ := hc
  have HC := Lib.hid h
  by_cases hX : X = 0
  · subst hX
    have NE := Lib.hid (fun w1 => need_ok w1)
    rw [endE_zero]
    clear h
    go_enter Tryz.func60, Tryz.ntmps60
    go_region_held3 (fun w' => w'.cell? ⟨g0, 0, none⟩ = some (.pointer (some ⟨q, 0, none⟩)) ∧ w'.cell? ⟨q, 3, none⟩ = some (.pointer (some ⟨dp, 0, none⟩)) ∧ w'.cell? ⟨g1, 0, none⟩ = some (.int .i64 A) ∧ w'.cell? ⟨g2, 0, none⟩ = some (.int .i64 f) ∧ w'.cell? ⟨g3, 0, none⟩ = some (.string d))
      (first | (refine ⟨?_, ?_, ?_, ?_, ?_⟩ <;> assumption) | go_keep)
      (first
        | (go_at_call 62; refine (HC.out _ (Below.refl _ _).drew).mono ?_; rintro e w2 ⟨rfl, ⟨b0, b1, b2, b3, b4⟩, hq⟩; have HQ := Lib.hid hq; clear hq)
        | (go_at_call 61; refine (NE.out _).mono ?_; rintro e w3 ⟨rfl, rfl⟩))
    go_end0
    exact ⟨rfl, HQ.out⟩
  · have NE := Lib.hid (fun w1 => need_no X hX w1)
    rw [endE_no hX]
    unfold faultE at NE ⊢
    clear h hX
    go_enter Tryz.func60, Tryz.ntmps60
    go_region_held (fun w' => w'.cell? ⟨g0, 0, none⟩ = some (.pointer (some ⟨q, 0, none⟩)) ∧ w'.cell? ⟨q, 3, none⟩ = some (.pointer (some ⟨dp, 0, none⟩)) ∧ w'.cell? ⟨g1, 0, none⟩ = some (.int .i64 A) ∧ w'.cell? ⟨g2, 0, none⟩ = some (.int .i64 f) ∧ w'.cell? ⟨g3, 0, none⟩ = some (.string d))
      (first | (refine ⟨?_, ?_, ?_, ?_, ?_⟩ <;> assumption) | go_keep)
      (first
        | (go_at_call 62; refine (HC.out _ (Below.refl _ _).drew).mono ?_; rintro e w2 ⟨rfl, ⟨b0, b1, b2, b3, b4⟩, hq⟩; have HQ := Lib.hid hq; clear hq)
        | (go_at_call 61; refine (NE.out _).mono ?_; rintro e w3 ⟨rfl, rfl⟩; refine Classical.byContradiction fun hn => ?_; have hno : False := hn ⟨rfl, rfl, HQ.out⟩; clear hn; refine way_out (by assumption) hno { tmps := #[], defers := [] } w2 ?_))
    exact hno.elim
theorem one_other {w : World} {g q : Nat} (h : q ≠ g) (x : Value) (j : Nat) : (w.setCell ⟨g, 0, none⟩ x).cell? ⟨q, j, none⟩ = w.cell? ⟨q, j, none⟩ := cell_same (p := ⟨q, j, none⟩) (Below.heap_setCell _ ⟨g, 0, none⟩ _ _ h)
theorem rd_clo {W : World} {q dp g0 g1 g2 g3 g4 : Nat} {A f n k : Int} {d : List UInt8} {z : Value} (hc : Five q dp g0 g1 g2 g3 A f (.int .i64 n) W) (hk : IntKind.i64.wrap (A + f) = k)
    (hz : W.cell? ⟨g4, 0, none⟩ = some z) (hzf : W.frozen? ⟨g4, 0, none⟩ = false) (hd : g0 ≠ g4 ∧ q ≠ g4 ∧ g1 ≠ g4 ∧ g2 ≠ g4 ∧ g3 ≠ g4)
    (h : ∀ W', Below W.heap.size W W' → Calls Tryz.prog 56 #[.pointer (some ⟨dp, 0, none⟩), .int .i64 k, .int .i64 n] W' fun e w' => e = .returned (.tuple #[.string (Om.B d), .int .i64 0]) ∧ Below W'.heap.size W' w') :
    Calls Tryz.prog 54 #[.pointer (some ⟨g0, 0, none⟩), .pointer (some ⟨g1, 0, none⟩), .pointer (some ⟨g2, 0, none⟩), .pointer (some ⟨g3, 0, none⟩), .pointer (some ⟨g4, 0, none⟩)] W fun e w' => e = .returned (.tuple #[]) ∧ ∃ w1, Below W.heap.size W w1 ∧ w' = w1.setCell ⟨g4, 0, none⟩ (.string (Om.B d)) := by
  have KP : Hid (∀ w1, Below W.heap.size W w1 → Five q dp g0 g1 g2 g3 A f (.int .i64 n) w1 ∧ w1.cell? ⟨g4, 0, none⟩ = some z ∧ w1.frozen? ⟨g4, 0, none⟩ = false) := Lib.hid fun w1 hb => by
    obtain ⟨a0, a1, a2, a3, a4⟩ := hc
    have k := fun (p : Addr) v (h : W.cell? p = some v) => (hb.cell (p := p) (World.block_lt_of_cell? _ _ h)).trans h
    exact ⟨⟨k _ _ a0, k _ _ a1, k _ _ a2, k _ _ a3, k _ _ a4⟩, k _ _ hz, (hb.frozen (p := ⟨g4, 0, none⟩) (World.block_lt_of_cell? _ _ hz)).trans hzf⟩
  unfold Five at hc KP
  obtain ⟨a0, a1, a2, a3, a4⟩ := hc
  have HC := Lib.hid h
  have MU := Lib.hid (fun w1 => mustS_ok (.string (Om.B d)) w1)
  have HD := Lib.hid hd
  clear h hz hzf hd
  go_enter Tryz.func54, Tryz.ntmps54
  go_region_held3 (fun w' => w'.cell? ⟨g0, 0, none⟩ = some (.pointer (some ⟨q, 0, none⟩)) ∧ w'.cell? ⟨q, 3, none⟩ = some (.pointer (some ⟨dp, 0, none⟩)) ∧ w'.cell? ⟨g1, 0, none⟩ = some (.int .i64 A) ∧ w'.cell? ⟨g2, 0, none⟩ = some (.int .i64 f) ∧ w'.cell? ⟨g3, 0, none⟩ = some (.int .i64 n))
    (first | (refine ⟨?_, ?_, ?_, ?_, ?_⟩ <;> first | (rw [one_other HD.out.1]; assumption) | (rw [one_other HD.out.2.1]; assumption) | (rw [one_other HD.out.2.2.1]; assumption) | (rw [one_other HD.out.2.2.2.1]; assumption) | (rw [one_other HD.out.2.2.2.2]; assumption) | assumption) | go_keep)
    (first
      | (go_at_call 56; refine (HC.out _ (Below.refl _ _).drew).mono ?_; rintro e w2 ⟨rfl, hb⟩; have B2 := Lib.hid (drew_below hb); obtain ⟨⟨b0, b1, b2, b3, b4⟩, y4, yf⟩ := KP.out w2 B2.out; clear hb)
      | (go_at_call 55; refine (MU.out _).mono ?_; rintro e w3 ⟨rfl, rfl⟩))
  go_end0
  exact ⟨rfl, w2, B2.out, rfl⟩
end So
end Go.Proofs.YtbmabcddciibfaaGreat
