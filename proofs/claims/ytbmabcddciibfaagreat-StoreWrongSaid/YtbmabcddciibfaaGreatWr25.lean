/- Part 25 of the contracts and of the plain mathematics that the proof of the law rests on: StoRA, StoRG, StoLC, StoEq, Skip. -/
import Derived.Test.YtbmabcddciibfaaGreatWr04
import Derived.Test.YtbmabcddciibfaaGreatWr15
import Derived.Test.YtbmabcddciibfaaGreatWr18
import Derived.Test.YtbmabcddciibfaaGreatWr22
import Derived.Test.YtbmabcddciibfaaGreatWr24
import Derived.LoopTactic
import Derived.Deep.RegionHeld3
import Derived.Test.YtbmabcddciibfaaGreatProg
namespace Go.Proofs.YtbmabcddciibfaaGreat
namespace So
open Go.RowKit
set_option maxRecDepth 100000
set_option linter.unusedVariables false
theorem Rs.setInv {w : World} {r : Rb} {p : Pa} {M : Ms} (h : Rs w r p M) (x : Bool) : Rs (w.setCell ⟨r.q, 8, none⟩ (.bool x)) r p ⟨M.T, M.D, x⟩ ∧ RSp r r w (w.setCell ⟨r.q, 8, none⟩ (.bool x)) := by
  have hf : Dsk.Fr (fun k => k = r.q) w (w.setCell ⟨r.q, 8, none⟩ (.bool x)) := Dsk.Fr.setCell (F := fun k => k = r.q) (Dsk.Fr.refl _ w) ⟨r.q, 8, none⟩ rfl _
  refine ⟨⟨?_, Dsk.own_same h.row fun k hk => hf.block k (h.lt k (.inr (.inl hk))) fun e => h.qt (e ▸ hk), Dsk.own_same h.drow fun k hk => hf.block k (h.lt k (.inr (.inr hk))) fun e => h.qd (e ▸ hk), h.td, h.qt, h.qd⟩, ⟨hf.mono fun k _ e => .inl e, fun _ h => .inl h, rfl⟩⟩
  rw [heap_setCell_same _ _ _ _ _ _ h.head]
  rfl
theorem Rs.setT {w w0 : World} {r : Rb} {p : Pa} {M : Ms} (h : Rs w0 r p M) {v : Value} {T' : List Int} (hv : Tb.Ints w v T') (hn : ∀ k, v.ownBlock = some k → w0.heap.size ≤ k) (hb : Below w0.heap.size w0 w) :
    Rs (w.setCell ⟨r.q, 6, none⟩ v) { r with tv := v } p ⟨T', M.D, M.inv⟩ ∧ RSp r { r with tv := v } w0 (w.setCell ⟨r.q, 6, none⟩ v) := by
  have h1 := h.below hb
  have hf : Dsk.Fr (fun k => k = r.q) w (w.setCell ⟨r.q, 6, none⟩ v) := Dsk.Fr.setCell (F := fun k => k = r.q) (Dsk.Fr.refl _ w) ⟨r.q, 6, none⟩ rfl _
  have hq := h.lt r.q (.inl rfl)
  have hvl : ∀ k, v.ownBlock = some k → k < w.heap.size := fun k hk => by obtain ⟨c, hc⟩ := Dsk.own_block hv k hk; exact Dsk.lt_of_heap hc
  refine ⟨⟨?_, Dsk.own_same hv fun k hk => hf.block k (hvl k hk) fun e => ?_, Dsk.own_same h1.drow fun k hk => hf.block k (h1.lt k (.inr (.inr hk))) fun e => h.qd (e ▸ hk), fun k hk h2 => ?_, fun e => ?_, h.qd⟩, ⟨((Dsk.Fr.of_below hb : Dsk.Fr r.fp w0 w).trans hf fun k hk e => .inl e), fun k hk => ?_, rfl⟩⟩
  · rw [heap_setCell_same _ _ _ _ _ _ h1.head]
    rfl
  · have := hn k hk
    omega
  · have := hn k hk
    have := h.lt k (.inr (.inr h2))
    omega
  · have : w0.heap.size ≤ r.q := hn _ e
    omega
  · rcases hk with hk | hk | hk
    · exact .inl (.inl hk)
    · exact .inr (hn k hk)
    · exact .inl (.inr (.inr hk))
theorem rspoil_any {w : World} {r : Rb} {p : Pa} {M : Ms} (h : Rs w r p M) (hm : M.T.length ≤ 1048576) : Calls Tryz.prog 40 #[.pointer (some ⟨r.q, 0, none⟩)] w fun e w' => e = .returned (.tuple #[]) ∧ RWent r p M.spoil w w' := by
  obtain ⟨-, -, -, -, -, -, -, -, c8, cf⟩ := h.reads
  obtain ⟨W1, hW1⟩ : ∃ W1, w.setCell ⟨r.q, 8, none⟩ (.bool true) = W1 := ⟨_, rfl⟩
  obtain ⟨h1, s1⟩ := h.setInv true
  rw [hW1] at h1 s1
  obtain ⟨-, -, -, -, -, -, d6, -, -, df⟩ := h1.reads
  obtain ⟨va, vc, hv⟩ := Dsk.own_slice h1.row
  have hlen : M.T.length = M.T.length := rfl
  have hrt : r.tv = .slice va M.T.length vc := hv
  rw [hrt] at d6
  obtain ⟨N, hN⟩ : ∃ N, N = M.T.length := ⟨_, rfl⟩
  rw [← hN] at d6 hm
  have NW : Hid (∀ w1, Calls Tryz.prog 74 #[.int .i64 (N : Int)] w1 (Tb.MadeR (List.replicate N (-1)) w1)) := Lib.hid fun w1 => Tb.rnew_any (N : Int) w1 N (by rw [if_neg (by omega), Int.toNat_natCast]) (by omega)
  have AF : Hid (∀ w2 v, Tb.Ints w2 v (List.replicate N (-1)) → (∀ k, v.ownBlock = some k → W1.heap.size ≤ k) → Below W1.heap.size W1 w2 → (w2.cell? ⟨r.q, 6, none⟩ = some (.slice va N vc) ∧ w2.frozen? ⟨r.q, 6, none⟩ = false) ∧ RWent r p M.spoil w (w2.setCell ⟨r.q, 6, none⟩ v)) := Lib.hid fun w2 v hv hn hb => by
    obtain ⟨-, -, -, -, -, -, e6, -, -, ef⟩ := (h1.below hb).reads
    obtain ⟨k2, s2⟩ := h1.setT hv hn hb
    refine ⟨⟨by rw [e6, hrt, hN], ef 6⟩, _, ?_, s1.trans s2⟩
    have : M.spoil = ⟨List.replicate N (-1), M.D, true⟩ := by rw [hN]; rfl
    rw [this]
    exact k2
  clear h h1 s1 hv hrt hN hm hlen
  go_enter Tryz.func40, Tryz.ntmps40
  go_wp2_with fail
  clear hW1 c8 cf
  refine (NW.out _).mono ?_
  rintro e w2 ⟨v, rfl, hv, hn, hb⟩
  obtain ⟨va', vc', hvv⟩ := Dsk.own_slice hv
  subst hvv
  obtain ⟨⟨e6, ef⟩, hw⟩ := AF.out w2 _ hv hn hb
  simp only [List.length_replicate] at hw
  have HW := Lib.hid hw
  clear hv hn hb hw AF d6 df
  go_wp2_with fail
  go_end0
  exact ⟨rfl, HW.out⟩
theorem Rs.at {w : World} {r : Rb} {p : Pa} {M : Ms} (h : Rs w r p M) {k : Nat} (hk : k < M.D.length) :
    ∃ g c, r.dv = .slice (some ⟨g, 0, none⟩) M.D.length c ∧ r.dv.ownBlock = some g ∧ w.cell? ⟨g, k, none⟩ = some (.string (Om.B (M.D.getD k []))) ∧ w.frozen? ⟨g, k, none⟩ = false := by
  have hown := h.drow
  rcases hown.2 with ⟨_, hz⟩ | ⟨g, cap, cc, hv2, _⟩
  · omega
  · rw [hv2] at hown
    refine ⟨g, cap, hv2, by rw [hv2]; rfl, ?_, hown.frozenAt k⟩
    rw [hown.cellAt k (by omega)]
    exact Dsk.scells_get hk
set_option maxHeartbeats 2000000 in
theorem rread_pub {w : World} {r : Rb} {p : Pa} {M : Ms} (h : Rs w r p M) (hp : p.Ok) (hfit : Fit p M) (o f n : Int) (hf1 : -9223372036854775808 ≤ f) (hf2 : f ≤ 9223372036854775807) :
    Calls Tryz.prog 39 #[.pointer (some ⟨r.q, 0, none⟩), .int .i64 o, .int .i64 f, .int .i64 n] w fun e w' => e = .returned (.tuple #[.string (Om.B (readV p M o f n)), .int .i64 (readE p M o f n)]) ∧ w = w' := by
  obtain ⟨-, -, c2, -, -, -, c6, c7, c8, cf⟩ := h.reads
  have hN1 := hp.nums.N1
  have hg2 := hp.nums.g2
  obtain ⟨va, vc, hv⟩ := Dsk.own_slice h.row
  have hrow := h.row
  rw [hv] at hrow
  have RF := Tb.rfind_any hrow o (by rw [hfit.tlen]; exact hN1)
  rw [hv] at c6
  obtain ⟨T, hT⟩ : ∃ T, T = M.T.length := ⟨_, rfl⟩
  rw [← hT] at RF c6
  cases hi : M.inv with
  | true =>
    have E : Hid (readE p M o f n = 162 ∧ readV p M o f n = []) := Lib.hid (by
      have h1 : findE M o = 162 := by unfold findE; rw [if_pos hi]
      have h2 : readE p M o f n = 162 := by unfold readE; rw [h1]; rfl
      exact ⟨h2, by unfold readV; rw [h2]; rfl⟩)
    rw [hi] at c8
    clear h hp hfit hf1 hf2 hN1 hg2 hv hrow RF c6 c7 c2 hi hT
    go_enter Tryz.func39, Tryz.ntmps39
    go_wp2_with fail
    go_ret2
    exact ⟨by rw [E.out.1, E.out.2]; rfl, rfl⟩
  | false =>
    rw [hi] at c8
    cases hfd : Tb.find M.T o with
    | none =>
      have E : Hid (readE p M o f n = 161 ∧ readV p M o f n = []) := Lib.hid (by
        have h1 : findE M o = 161 := by unfold findE; rw [hi, if_neg (by decide), hfd]; rfl
        have h2 : readE p M o f n = 161 := by unfold readE; rw [h1]; rfl
        exact ⟨h2, by unfold readV; rw [h2]; rfl⟩)
      rw [Tb.findI_none hfd] at RF
      have RFH := Lib.hid RF
      clear h hp hfit hf1 hf2 hN1 hg2 hv hrow RF c7 c2 hi hT hfd
      go_enter Tryz.func39, Tryz.ntmps39
      go_wp2_with fail
      refine RFH.out.mono ?_
      rintro e w1 ⟨rfl, rfl⟩
      go_wp2_with fail
      go_ret2
      exact ⟨by rw [E.out.1, E.out.2]; rfl, rfl⟩
    | some i =>
      have h1 : findE M o = 0 := by unfold findE; rw [hi, if_neg (by decide), hfd]; rfl
      rw [Tb.findI_some hfd] at RF
      have RFH := Lib.hid RF
      have d0 : decide ((i : Int) < 0) = false := by simp
      by_cases hin : inCh p f n = true
      · obtain ⟨f0, n0, hfn⟩ := inCh_iff.1 hin
        obtain ⟨F, rfl⟩ : ∃ F : Nat, f = (F : Int) := ⟨f.toNat, by omega⟩
        obtain ⟨n', rfl⟩ : ∃ n' : Nat, n = (n' : Int) := ⟨n.toNat, by omega⟩
        have hfp : findP M o = i := by unfold findP; rw [hfd]; rfl
        have hil : i < M.D.length := by rw [hfit.dlen, ← hfit.tlen]; exact Tb.find_lt hfd
        obtain ⟨g, c, hdv, hob, hcell, hfr⟩ := h.at hil
        obtain ⟨h00, hTi, _⟩ := Tb.find_some.1 hfd
        have hsz : (Om.B (M.D.getD i [])).size = 64 * p.g := by rw [Om.B_size]; exact hfit.size i o hTi h00
        obtain ⟨X, hX⟩ : ∃ X, X = M.D.getD i [] := ⟨_, rfl⟩
        rw [← hX] at hcell hsz
        have E : Hid (readE p M o (F : Int) (n' : Int) = 0 ∧ readV p M o (F : Int) (n' : Int) = (X.drop (64 * F)).take (64 * n')) := Lib.hid (by
          have h2 : readE p M o (F : Int) (n' : Int) = 0 := by unfold readE; rw [h1, if_pos rfl, if_pos hin]
          refine ⟨h2, ?_⟩
          unfold readV
          rw [if_pos h2, hfp, ← hX, Int.toNat_natCast, Int.toNat_natCast])
        rw [hdv] at c7
        obtain ⟨ND, hND⟩ : ∃ ND, ND = M.D.length := ⟨_, rfl⟩
        rw [← hND] at c7 hil
        obtain ⟨A, hA⟩ : ∃ A, A = 64 * F := ⟨_, rfl⟩
        obtain ⟨B, hB⟩ : ∃ B, B = 64 * F + 64 * n' := ⟨_, rfl⟩
        have e1 : IntKind.i64.wrap (64 * (F : Int)) = (A : Int) := by rw [IntWalk.i64_in _ (by omega)]; omega
        have e2 : IntKind.i64.wrap (64 * (n' : Int)) = 64 * (n' : Int) := IntWalk.i64_in _ (by omega)
        have e3 : IntKind.i64.wrap ((A : Int) + 64 * (n' : Int)) = (B : Int) := by rw [IntWalk.i64_in _ (by omega)]; omega
        have e4 : IntKind.i64.wrap ((p.g : Int) - (F : Int)) = (p.g : Int) - (F : Int) := IntWalk.i64_in _ (by omega)
        have t1 : decide ((F : Int) < 0) = false := by simp
        have t2 : decide ((n' : Int) < 0) = false := by simp
        have t3 : decide ((p.g : Int) < (F : Int)) = false := by simp; omega
        have t4 : decide (p.g < F) = false := by simp; omega
        have t5 : decide ((p.g : Int) - (F : Int) < (n' : Int)) = false := by simp; omega
        have b1 : (A : Int) ≤ (B : Int) := by omega
        have b2 : A ≤ B := by omega
        have b3 : B ≤ (Om.B X).size := by rw [hsz]; omega
        have b4 : (B : Int) ≤ ((Om.B X).size : Int) := by omega
        have b5 : (0 : Int) ≤ (i : Int) := by omega
        have b6 : (i : Int) < (ND : Int) := by omega
        have XX : Hid ((Om.B X).extract A B = Om.B ((X.drop (64 * F)).take (64 * n'))) := Lib.hid (by rw [Dsk.extract_mid, hA, hB, Nat.add_sub_cancel_left])
        clear h hp hfit hf1 hf2 hN1 hg2 hv hrow RF hi hT hfd hin f0 n0 hfn hfp hdv hob h00 hTi hX hND hA hB h1 hsz
        go_enter Tryz.func39, Tryz.ntmps39
        go_wp2_with fail
        refine RFH.out.mono ?_
        rintro e w1 ⟨rfl, rfl⟩
        go_wp2_with fail
        go_ret2
        refine ⟨?_, rfl⟩
        rw [E.out.1, E.out.2, ← XX.out]
        rfl
      · have E : Hid (readE p M o f n = 2 ∧ readV p M o f n = []) := Lib.hid (by
          have h2 : readE p M o f n = 2 := by unfold readE; rw [h1, if_pos rfl, if_neg hin]
          exact ⟨h2, by unfold readV; rw [h2]; rfl⟩)
        have hcase : f < 0 ∨ (¬ f < 0 ∧ n < 0) ∨ (¬ f < 0 ∧ ¬ n < 0 ∧ (p.g : Int) < f) ∨ (¬ f < 0 ∧ ¬ n < 0 ∧ ¬ (p.g : Int) < f ∧ (p.g : Int) - f < n) := by
          have h2 : ¬ (0 ≤ f ∧ 0 ≤ n ∧ n ≤ (p.g : Int) - f) := fun hc => hin (inCh_iff.2 hc)
          omega
        rcases hcase with t1 | ⟨t1, t2⟩ | ⟨t1, t2, t3⟩ | ⟨t1, t2, t3, t4⟩
        · have u1 : decide (f < 0) = true := by simpa using t1
          clear h hp hfit hf1 hf2 hN1 hg2 hv hrow RF hi hT hfd hin h1 t1
          go_enter Tryz.func39, Tryz.ntmps39
          go_wp2_with fail
          refine RFH.out.mono ?_
          rintro e w1 ⟨rfl, rfl⟩
          go_wp2_with fail
          go_ret2
          exact ⟨by rw [E.out.1, E.out.2]; rfl, rfl⟩
        · have u1 : decide (f < 0) = false := by simpa using t1
          have u2 : decide (n < 0) = true := by simpa using t2
          clear h hp hfit hf1 hf2 hN1 hg2 hv hrow RF hi hT hfd hin h1 t1 t2
          go_enter Tryz.func39, Tryz.ntmps39
          go_wp2_with fail
          refine RFH.out.mono ?_
          rintro e w1 ⟨rfl, rfl⟩
          go_wp2_with fail
          go_ret2
          exact ⟨by rw [E.out.1, E.out.2]; rfl, rfl⟩
        · have u1 : decide (f < 0) = false := by simpa using t1
          have u2 : decide (n < 0) = false := by simpa using t2
          have u3 : decide ((p.g : Int) < f) = true := by simpa using t3
          have u4 : decide (f > (p.g : Int)) = true := by simpa using t3
          clear h hp hfit hf1 hf2 hN1 hg2 hv hrow RF hi hT hfd hin h1 t1 t2 t3
          go_enter Tryz.func39, Tryz.ntmps39
          go_wp2_with fail
          refine RFH.out.mono ?_
          rintro e w1 ⟨rfl, rfl⟩
          go_wp2_with fail
          go_ret2
          exact ⟨by rw [E.out.1, E.out.2]; rfl, rfl⟩
        · have u1 : decide (f < 0) = false := by simpa using t1
          have u2 : decide (n < 0) = false := by simpa using t2
          have u3 : decide ((p.g : Int) < f) = false := by simpa using t3
          have u5 : IntKind.i64.wrap ((p.g : Int) - f) = (p.g : Int) - f := IntWalk.i64_in _ (by omega)
          have u6 : decide ((p.g : Int) - f < n) = true := by simpa using t4
          clear h hp hfit hf1 hf2 hN1 hg2 hv hrow RF hi hT hfd hin h1 t1 t2 t3 t4
          go_enter Tryz.func39, Tryz.ntmps39
          go_wp2_with fail
          refine RFH.out.mono ?_
          rintro e w1 ⟨rfl, rfl⟩
          go_wp2_with fail
          go_ret2
          exact ⟨by rw [E.out.1, E.out.2]; rfl, rfl⟩
end So
end Go.Proofs.YtbmabcddciibfaaGreat
namespace Go.Proofs.YtbmabcddciibfaaGreat
namespace So
open Go.RowKit
set_option maxRecDepth 100000
set_option linter.unusedVariables false
def firstOk (m : List Int) (g : Nat) (l : List (Int × List UInt8)) (k : Nat) : Prop := ∀ j x, j < k → l[j]? = some x → chunkOk m g x = true ∧ ∀ i y, i < j → l[i]? = some y → y.1 ≠ x.1
theorem mayAdd_yes {m : List Int} {g : Nat} {l : List (Int × List UInt8)} (h : firstOk m g l l.length) : mayAdd m g l = true := by
  unfold mayAdd
  rw [Bool.and_eq_true, List.all_eq_true, decide_eq_true_eq]
  refine ⟨fun c hc => ?_, ?_⟩
  · obtain ⟨j, hj⟩ := List.getElem?_of_mem hc
    exact (h j c (List.getElem?_eq_some_iff.1 hj).1 hj).1
  · show List.Pairwise (· ≠ ·) _
    rw [List.pairwise_iff_getElem]
    intro i j hi hj hij e
    rw [List.length_map] at hi hj
    rw [List.getElem_map, List.getElem_map] at e
    exact (h j _ hj (List.getElem?_eq_getElem hj)).2 i _ hij (List.getElem?_eq_getElem hi) e
theorem mayAdd_no1 {m : List Int} {g : Nat} {l : List (Int × List UInt8)} {k : Nat} {x : Int × List UInt8} (hx : l[k]? = some x) (h : chunkOk m g x = false) : mayAdd m g l = false := mayAdd_take hx h
theorem mayAdd_no2 {m : List Int} {g : Nat} {l : List (Int × List UInt8)} {i k : Nat} {x y : Int × List UInt8} (hx : l[k]? = some x) (hy : l[i]? = some y) (hik : i < k) (h : y.1 = x.1) : mayAdd m g l = false := by
  unfold mayAdd
  rw [Bool.and_eq_false_iff]
  right
  rw [decide_eq_false_iff_not]
  intro hnd
  have hnd : List.Pairwise (· ≠ ·) (l.map (·.1)) := hnd
  rw [List.pairwise_iff_getElem] at hnd
  obtain ⟨h1, h2⟩ := List.getElem?_eq_some_iff.1 hx
  obtain ⟨h3, h4⟩ := List.getElem?_eq_some_iff.1 hy
  refine hnd i k (by rw [List.length_map]; exact h3) (by rw [List.length_map]; exact h1) hik ?_
  rw [List.getElem_map, List.getElem_map, h2, h4, h]
def among (l : List (Int × List UInt8)) (x : Int) : Nat → Bool
  | 0 => false
  | k + 1 => among l x k || (match l[k]? with | some y => y.1 == x | none => false)
theorem among_no {l : List (Int × List UInt8)} {x : Int} {k : Nat} (h : among l x k = false) : ∀ i y, i < k → l[i]? = some y → y.1 ≠ x := by
  induction k with
  | zero => intro i y hi; omega
  | succ k ih =>
    unfold among at h
    rw [Bool.or_eq_false_iff] at h
    intro i y hi hy
    by_cases e : i = k
    · subst e
      rw [hy] at h
      simpa using h.2
    · exact ih h.1 i y (by omega) hy
theorem among_yes {l : List (Int × List UInt8)} {x : Int} {k : Nat} (h : among l x k = true) : ∃ i y, i < k ∧ l[i]? = some y ∧ y.1 = x := by
  induction k with
  | zero => cases h
  | succ k ih =>
    unfold among at h
    rw [Bool.or_eq_true] at h
    rcases h with h | h
    · obtain ⟨i, y, h1, h2, h3⟩ := ih h
      exact ⟨i, y, by omega, h2, h3⟩
    · cases hy : l[k]? with
      | none => rw [hy] at h; cases h
      | some y =>
        rw [hy] at h
        exact ⟨k, y, by omega, hy, by simpa using h⟩
theorem among_succ {l : List (Int × List UInt8)} {x : Int} {k : Nat} {y : Int × List UInt8} (hy : l[k]? = some y) : among l x (k + 1) = (among l x k || (y.1 == x)) := by
  show (among l x k || (match l[k]? with | some y => y.1 == x | none => false)) = _
  rw [hy]
set_option maxHeartbeats 8000000 in
theorem rwrong_any {w : World} {r : Rb} {p : Pa} {M : Ms} (h : Rs w r p M) (hp : p.Ok) (hfit : Fit p M) {l : List (Int × List UInt8)} (n c : Nat) (hn : n = l.length) (hn2 : n ≤ 1048576) (a : Option Addr) (hr : RCop w a l) :
    Calls Tryz.prog 80 #[.pointer (some ⟨r.q, 0, none⟩), .slice a n c] w fun e w' => e = .returned (.int .i64 (addE M.inv M.T p.g l)) ∧ Below w.heap.size w w' := by
  obtain ⟨-, -, c2, -, -, -, c6, -, c8, cf⟩ := h.reads
  have hN1 := hp.nums.N1
  have hg2 := hp.nums.g2
  obtain ⟨va, vc, hv⟩ := Dsk.own_slice h.row
  cases hi : M.inv with
  | true =>
    have E : Hid (addE true M.T p.g l = 162) := Lib.hid (by unfold addE; rw [if_pos rfl])
    rw [hi] at c8
    clear h hp hfit hN1 hg2 hv c6 hi hn hr c2
    go_enter Tryz.func80, Tryz.ntmps80
    go_wp2_with fail
    go_ret
    exact ⟨by rw [E.out]; rfl, Below.refl _ _⟩
  | false =>
    rw [hi] at c8
    obtain ⟨m, hm⟩ : ∃ m, m = M.T := ⟨_, rfl⟩
    obtain ⟨g, hg⟩ : ∃ g, g = p.g := ⟨_, rfl⟩
    have hrow := h.row
    rw [← hm] at hv hrow ⊢
    rw [← hg] at hg2 ⊢
    rw [hv] at hrow
    have hTl : m.length = p.N := by rw [hm]; exact hfit.tlen
    have hok : Tb.Ok m := by rw [hm]; exact hfit.tok
    obtain ⟨T, hT⟩ : ∃ T, T = m.length := ⟨_, rfl⟩
    have hT2 : T ≤ 1048576 := by rw [hT, hTl]; exact hN1
    have ST : Hid (∀ W, Below w.heap.size w W → W.cell? ⟨r.q, 2, none⟩ = some (.int .i64 (g : Int)) ∧ W.cell? ⟨r.q, 6, none⟩ = some (.slice va T vc) ∧ Tb.Ints W (.slice va T vc) m ∧ RCop W a l) := Lib.hid fun W hW => by
      obtain ⟨-, -, e2, -, -, -, e6, -, -, -⟩ := (h.below hW).reads
      refine ⟨by rw [hg]; exact e2, by rw [hT, e6, hv], ?_, hr.below hW⟩
      have := (h.below hW).row
      rw [← hm, hv] at this
      rw [hT]
      exact this
    have FD : Hid (∀ W, Tb.Ints W (.slice va T vc) m → ∀ x n, Calls Tryz.prog 49 #[.slice va T vc, .int .i64 x] (W.drewN n) fun e w' => e = .returned (.int .i64 (Tb.findI m x)) ∧ ∃ k, w' = W.drewN k) := Lib.hid fun W hW x n => by
      rw [hT] at hW ⊢
      exact quiet_eq (Tb.rfind_any (w := W.drewN n) (Dsk.own_same hW fun _ _ => rfl) x (by rw [hTl]; exact hN1))
    have LE : Hid (∀ W, Tb.Ints W (.slice va T vc) m → ∀ n, Calls Tryz.prog 118 #[.slice va T vc] (W.drewN n) fun e w' => e = .returned (.int .i64 ((Tb.used m).length : Int)) ∧ ∃ k, w' = W.drewN k) := Lib.hid fun W hW n => by
      rw [hT] at hW ⊢
      exact quiet_eq (Tb.rlen_any (w := W.drewN n) (Dsk.own_same hW fun _ _ => rfl) (by rw [hTl]; exact hN1))
    have HN := Lib.hid hn
    have HTT := Lib.hid hT
    have hU := Tb.used_length_le m
    rw [← hT] at hU
    clear h hp hfit hN1 hv hrow hi hn hr c2 c6 hm hg hTl hok hT
    go_enter Tryz.func80, Tryz.ntmps80
    go_wp2_with fail
    go_loopw [5] (fun i wr => ∃ k : Nat, i = .int .i64 (k : Int) ∧ k ≤ n ∧ Hid (Below w.heap.size w wr ∧ firstOk m g l k)) (fun i _ => n - (Lib.intOf i).toNat)
    case atStart => exact ⟨0, rfl, Nat.zero_le _, Lib.hid ⟨Below.refl _ _, fun j x hj => absurd hj (by omega)⟩⟩
    case round =>
      obtain ⟨k, rfl, hk, hat⟩ := hrel
      obtain ⟨s2, s6, sT, sR⟩ := ST.out wr hat.out.1
      by_cases hlt : k < n
      · have d1 : decide ((k : Int) < (n : Int)) = true := by simp; omega
        have d2 : decide (k < n) = true := by simp; omega
        have b1 : (0 : Int) ≤ (k : Int) := by omega
        have b2 : (k : Int) < (n : Int) := by omega
        have hw1 : IntKind.i64.wrap ((k : Int) + 1) = ((k + 1 : Nat) : Int) := by rw [IntWalk.i64_in _ (by omega)]; rfl
        obtain ⟨x, hx⟩ : ∃ x, l[k]? = some x := ⟨l[k]'(by have := HN.out; omega), List.getElem?_eq_getElem _⟩
        obtain ⟨ga, off, hab, hb, hc⟩ := sR (fun e => by rw [e] at hx; simp at hx)
        subst hab
        have HC := Lib.hid (And.intro hb hc)
        obtain ⟨hc0, hc1⟩ := hc k x hx
        have FI := Lib.hid (FD.out wr sT x.1)
        obtain ⟨B0, hB0⟩ : ∃ B, B = !(chunkOk m g x) := ⟨_, rfl⟩
        have HB0 := Lib.hid hB0
        have HX := Lib.hid hx
        have hgw : IntKind.i64.wrap (64 * (g : Int)) = 64 * (g : Int) := IntWalk.i64_in _ (by omega)
        clear hc hx hb
        go_upto_region 6 with fail
        go_cut [6] from 18 to 59 (fun s wx => s = .bool B0 ∧ Hid (Below wr.heap.size wr wx))
        case first =>
          by_cases t1 : x.1 < 0
          · have f0 : B0 = true := by rw [hB0]; simp [chunkOk]; omega
            have u1 : decide (x.1 < 0) = true := by simpa using t1
            subst f0
            clear hB0 t1
            go_quiet (first | (go_at_call 49; exact FI.out _))
            go_wp2_with fail
            go_meet
            exact ⟨rfl, Lib.hid (below_drewN (Below.refl _ _) nq)⟩
          · by_cases t2 : 2147483646 < x.1
            · have f0 : B0 = true := by rw [hB0]; simp [chunkOk]; omega
              have u1 : decide (x.1 < 0) = false := by simpa using t1
              have u2 : decide (2147483646 < x.1) = true := by simpa using t2
              have u3 : decide (x.1 > 2147483646) = true := by simpa using t2
              subst f0
              clear hB0 t1 t2
              go_quiet (first | (go_at_call 49; exact FI.out _))
              go_wp2_with fail
              go_meet
              exact ⟨rfl, Lib.hid (below_drewN (Below.refl _ _) nq)⟩
            · have u1 : decide (x.1 < 0) = false := by simpa using t1
              have u2 : decide (2147483646 < x.1) = false := by simpa using t2
              have u3 : decide (x.1 > 2147483646) = false := by simpa using t2
              cases hf : Tb.find m x.1 with
              | some j =>
                have f0 : B0 = true := by rw [hB0]; simp [chunkOk, hf]
                have FI2 := Lib.hid FI.out
                rw [Tb.findI_some hf] at FI2
                have u4 : decide ((0 : Int) ≤ (j : Int)) = true := by simp
                have u5 : decide ((j : Int) ≥ 0) = true := by simp
                subst f0
                clear hB0 t1 t2 hf
                go_quiet (first | (go_at_call 49; exact FI2.out _))
                go_wp2_with fail
                go_meet
                exact ⟨rfl, Lib.hid (below_drewN (Below.refl _ _) nq)⟩
              | none =>
                have FI2 := Lib.hid FI.out
                rw [Tb.findI_none hf] at FI2
                by_cases t4 : x.2.length = 64 * g
                · have f0 : B0 = false := by rw [hB0, chunkOk_iff.2 ⟨⟨by omega, by omega⟩, hf, t4⟩]; rfl
                  have u6 : (((Om.B x.2).size : Int) != 64 * (g : Int)) = false := by rw [Om.B_size, t4]; simp
                  subst f0
                  clear hB0 t1 t2 hf t4
                  go_quiet (first | (go_at_call 49; exact FI2.out _))
                  go_wp2_with fail
                  go_meet
                  exact ⟨rfl, Lib.hid (below_drewN (Below.refl _ _) nq)⟩
                · have f0 : B0 = true := by rw [hB0]; simp [chunkOk, t4]
                  have u6 : (((Om.B x.2).size : Int) != 64 * (g : Int)) = true := by rw [Om.B_size]; simp; omega
                  subst f0
                  clear hB0 t1 t2 hf t4
                  go_quiet (first | (go_at_call 49; exact FI2.out _))
                  go_wp2_with fail
                  go_meet
                  exact ⟨rfl, Lib.hid (below_drewN (Below.refl _ _) nq)⟩
        case rest =>
        obtain ⟨rfl, HBX⟩ := hcut
        obtain ⟨W2, hW2⟩ : ∃ W2, wc = W2 := ⟨_, rfl⟩
        rw [hW2] at HBX ⊢
        clear hW2 hc0 hc1 s2 s6 FI hgw hB0
        have KC : Hid (∀ W, Below wr.heap.size wr W → W.cell? ⟨ga, off + k * 2, none⟩ = some (.int .i64 x.1) ∧ (∀ j y, l[j]? = some y → W.cell? ⟨ga, off + j * 2, none⟩ = some (.int .i64 y.1)) ∧ Below w.heap.size w W) := Lib.hid fun W hW =>
          ⟨(hW.cell (p := ⟨ga, off + k * 2, none⟩) HC.out.1).trans (HC.out.2 k x HX.out).1, fun j y hy => (hW.cell (p := ⟨ga, off + j * 2, none⟩) HC.out.1).trans (HC.out.2 j y hy).1, hat.out.1.trans (hW.mono hat.out.1.size)⟩
        have HFO := Lib.hid hat.out.2
        clear hat sT sR
        go_wp2_with fail
        go_loopw [6, 7] (fun b i wi => ∃ j : Nat, i = .int .i64 (j : Int) ∧ j ≤ k ∧ b = .bool (B0 || among l x.1 j) ∧ Hid (Below wr.heap.size wr wi)) (fun _ i _ => k - (Lib.intOf i).toNat)
        case atStart => exact ⟨0, rfl, Nat.zero_le _, by unfold among; rw [Bool.or_false], HBX⟩
        case round =>
          obtain ⟨j, rfl, hj, rfl, hbi⟩ := hrel
          obtain ⟨g0, kc, hbw⟩ := KC.out wr hbi.out
          by_cases hlj : j < k
          · have d3 : decide ((j : Int) < (k : Int)) = true := by simp; omega
            have d4 : decide (j < k) = true := by simp; omega
            have b3 : (0 : Int) ≤ (j : Int) := by omega
            have b4 : (j : Int) < (n : Int) := by omega
            have hw2 : IntKind.i64.wrap ((j : Int) + 1) = ((j + 1 : Nat) : Int) := by rw [IntWalk.i64_in _ (by omega)]; rfl
            obtain ⟨y, hy⟩ : ∃ y, l[j]? = some y := ⟨l[j]'(by have := HN.out; omega), List.getElem?_eq_getElem _⟩
            have g1 := kc j y hy
            have AS := Lib.hid (among_succ (x := x.1) hy)
            clear hy kc hbw
            cases hbb : (B0 || among l x.1 j) with
            | true =>
              have NX : Hid ((B0 || among l x.1 (j + 1)) = true) := Lib.hid (by rw [AS.out, ← Bool.or_assoc, hbb]; rfl)
              clear hbb
              go_wp2_with fail
              go_quiet (fail)
              generalize hW3 : wr.drewN nq = W3
              have HB3 := Lib.hid (below_drewN hbi.out nq)
              rw [hW3] at HB3
              clear hW3
              go_wp2_with fail
              go_roundw
              case rel => exact ⟨j + 1, rfl, by omega, by rw [NX.out], HB3⟩
              case measure => simp [Lib.intOf]; omega
            | false =>
              obtain ⟨E0, hE0⟩ : ∃ E, E = (y.1 == x.1) := ⟨_, rfl⟩
              have NX : Hid ((B0 || among l x.1 (j + 1)) = E0) := Lib.hid (by rw [AS.out, ← Bool.or_assoc, hbb, hE0]; rfl)
              cases hee : (y.1 == x.1) with
              | true =>
                rw [hee] at hE0
                subst hE0
                clear hbb
                go_wp2_with fail
                go_quiet (fail)
                generalize hW3 : wr.drewN nq = W3
                have HB3 := Lib.hid (below_drewN hbi.out nq)
                rw [hW3] at HB3
                clear hW3
                go_wp2_with fail
                go_roundw
                case rel => exact ⟨j + 1, rfl, by omega, by rw [NX.out], HB3⟩
                case measure => simp [Lib.intOf]; omega
              | false =>
                rw [hee] at hE0
                subst hE0
                clear hbb
                go_wp2_with fail
                go_quiet (fail)
                generalize hW3 : wr.drewN nq = W3
                have HB3 := Lib.hid (below_drewN hbi.out nq)
                rw [hW3] at HB3
                clear hW3
                go_wp2_with fail
                go_roundw
                case rel => exact ⟨j + 1, rfl, by omega, by rw [NX.out], HB3⟩
                case measure => simp [Lib.intOf]; omega
          · obtain rfl : j = k := by omega
            have d3 : decide ((j : Int) < (j : Int)) = false := by simp
            have d4 : decide (j < j) = false := by simp
            have FB : Hid (Below w.heap.size w wr) := Lib.hid hbw
            cases hbb : (B0 || among l x.1 j) with
            | true =>
              have E : Hid (addE false m g l = 1) := Lib.hid (by
                have hno : mayAdd m g l = false := by
                  rw [Bool.or_eq_true] at hbb
                  rcases hbb with h0 | h0
                  · refine mayAdd_no1 HX.out ?_
                    rw [HB0.out] at h0
                    simpa using h0
                  · obtain ⟨i, y, h1, h2, h3⟩ := among_yes h0
                    exact mayAdd_no2 HX.out h2 h1 h3
                unfold addE; rw [if_neg (by decide), hno, if_neg (by decide)])
              clear hbb kc hbw
              go_wp2_with fail
              go_ret
              exact ⟨by rw [E.out]; rfl, FB.out⟩
            | false =>
              have NX : Hid (firstOk m g l (j + 1)) := Lib.hid (by
                rw [Bool.or_eq_false_iff, HB0.out] at hbb
                intro i z hi hz
                by_cases e : i = j
                · subst e
                  rw [HX.out] at hz
                  injection hz with hz
                  subst hz
                  exact ⟨by simpa using hbb.1, among_no hbb.2⟩
                · exact HFO.out i z (by omega) hz)
              clear hbb kc hbw
              go_wp2_with fail
              go_roundw
              case rel => exact ⟨j + 1, rfl, by omega, Lib.hid ⟨FB.out, NX.out⟩⟩
              case measure => simp [Lib.intOf]; omega
      · obtain rfl : k = n := by omega
        have d1 : decide ((k : Int) < (k : Int)) = false := by simp
        have d2 : decide (k < k) = false := by simp
        have hma : mayAdd m g l = true := mayAdd_yes (by rw [← HN.out]; exact hat.out.2)
        have LEH := Lib.hid (LE.out wr sT)
        obtain ⟨U, hU2⟩ : ∃ U, U = (Tb.used m).length := ⟨_, rfl⟩
        rw [← hU2] at hU LEH
        have hfree : free m = T - U := by unfold free; rw [HTT.out, hU2]
        have ew : IntKind.i64.wrap ((T : Int) - (U : Int)) = (T : Int) - (U : Int) := IntWalk.i64_in _ (by omega)
        by_cases hle : k ≤ T - U
        · have E : Hid (addE false m g l = 0) := Lib.hid (by unfold addE; rw [if_neg (by decide), hma, if_pos rfl, if_pos (by rw [hfree, ← HN.out]; exact hle)])
          have u1 : decide ((T : Int) - (U : Int) < (k : Int)) = false := by simp; omega
          have u2 : decide ((k : Int) > (T : Int) - (U : Int)) = false := by simp; omega
          clear hma hU2 hfree hle sT sR hU s2
          go_wp2_with fail
          go_quiet (first | (go_at_call 118; exact LEH.out _))
          generalize hW3 : wr.drewN nq = W3
          have HB3 : Hid (Below w.heap.size w W3) := Lib.hid (by rw [← hW3]; exact below_drewN hat.out.1 nq)
          clear hW3 s6
          go_wp2_with fail
          go_ret
          exact ⟨by rw [E.out]; rfl, HB3.out⟩
        · have E : Hid (addE false m g l = 111) := Lib.hid (by unfold addE; rw [if_neg (by decide), hma, if_pos rfl, if_neg (by rw [hfree, ← HN.out]; exact hle)])
          have u1 : decide ((T : Int) - (U : Int) < (k : Int)) = true := by simp; omega
          have u2 : decide ((k : Int) > (T : Int) - (U : Int)) = true := by simp; omega
          clear hma hU2 hfree hle sT sR hU s2
          go_wp2_with fail
          go_quiet (first | (go_at_call 118; exact LEH.out _))
          generalize hW3 : wr.drewN nq = W3
          have HB3 : Hid (Below w.heap.size w W3) := Lib.hid (by rw [← hW3]; exact below_drewN hat.out.1 nq)
          clear hW3 s6
          go_wp2_with fail
          go_ret
          exact ⟨by rw [E.out]; rfl, HB3.out⟩
end So
end Go.Proofs.YtbmabcddciibfaaGreat
namespace Go.Proofs.YtbmabcddciibfaaGreat
namespace So
open Go.RowKit Go.Maps
set_option maxRecDepth 100000
set_option linter.unusedVariables false
def ccells (l : List (Int × List UInt8)) : List Value := l.flatMap fun x => [.int .i64 x.1, .string (Om.B x.2)]
theorem ccells_snoc (l : List (Int × List UInt8)) (x : Int × List UInt8) : ccells (l ++ [x]) = ccells l ++ [.int .i64 x.1, .string (Om.B x.2)] := by simp [ccells]
theorem ccells_get (l : List (Int × List UInt8)) (i : Nat) (h : i < l.length) : (ccells l)[i * 2]? = some (.int .i64 l[i].1) ∧ (ccells l)[i * 2 + 1]? = some (.string (Om.B l[i].2)) := by
  induction l generalizing i with
  | nil => simp at h
  | cons x l ih =>
    have e : ccells (x :: l) = .int .i64 x.1 :: .string (Om.B x.2) :: ccells l := rfl
    rw [e]
    cases i with
    | zero => simp
    | succ i =>
      have := ih i (by simpa using h)
      rw [show (i + 1) * 2 = i * 2 + 1 + 1 by omega]
      simpa using this
theorem info_copy : (Tryz.prog.info? 84).map (fun i => (i.zero, i.size, i.bytes)) = some (some (.agg #[.int .i64 0, .string (Om.B [])]), 2, 24) := by kernel_rfl
structure GrowsC (w : World) (l : List (Int × List UInt8)) (v : Value) (n : Nat) (wr : World) : Prop where
  row : wr.ownsRow 0 84 2 v n (ccells l)
  len : n = l.length
  new : ∀ k, v.ownBlock = some k → w.heap.size ≤ k
  below : Below w.heap.size w wr
theorem GrowsC.nil {w wr : World} (hb : Below w.heap.size w wr) : GrowsC w [] (.slice none 0 0) 0 wr := ⟨World.ownsRow_nil _ _ _ _, rfl, fun k hk => (by cases hk), hb⟩
theorem GrowsC.rcop {w wr : World} {l : List (Int × List UInt8)} {va : Option Addr} {n c : Nat} (h : GrowsC w l (.slice va n c) n wr) : RCop wr va l ∧ ∀ g off, l ≠ [] → va = some ⟨g, off, none⟩ → w.heap.size ≤ g := by
  have hr := h.row
  rcases hr.2 with ⟨h1, h2⟩ | ⟨b, cap, cur, hv, _, hh, _⟩
  · have : l = [] := List.eq_nil_of_length_eq_zero (by have := h.len; omega)
    exact ⟨fun hn => absurd this hn, fun _ _ hn _ => absurd this hn⟩
  · injection hv with h1 h2 h3
    subst h1
    refine ⟨fun _ => ⟨b, 0, rfl, Dsk.lt_of_heap hh, fun i x hx => ?_⟩, fun g off _ e => ?_⟩
    · obtain ⟨hi, rfl⟩ := List.getElem?_eq_some_iff.1 hx
      obtain ⟨e1, e2⟩ := ccells_get l i hi
      have hl := h.len
      have hr' : wr.ownsRow 0 84 2 (.slice (some ⟨b, 0, none⟩) n c) n (ccells l) := hr
      rw [Nat.zero_add]
      exact ⟨by rw [hr'.cellAt _ (by omega)]; exact e1, by rw [hr'.cellAt _ (by omega)]; exact e2⟩
    · injection e with e
      injection e with e
      exact h.new g (by rw [← e]; rfl)
theorem cp_new (w : World) (x : Int) (d : ByteArray) : ∀ j u, ([.int .i64 x, .string d] : List Value)[j]? = some u → (w.alloc (.cells #[.int .i64 x, .string d] 84)).drew.cell? ((⟨w.heap.size, 0, none⟩ : Addr).add j) = some u :=
  World.news_of_block (cs := #[.int .i64 x, .string d]) (show (w.alloc _).heap[w.heap.size]? = _ from heap_alloc_new _ _)
theorem cp_one (x : Int) (d : ByteArray) : ∀ u ∈ ([.int .i64 x, .string d] : List Value), u.oneCell' = true := by
  intro u hu
  rcases List.mem_cons.1 hu with rfl | hu
  · rfl
  · rw [List.mem_singleton.1 hu]; rfl
theorem GrowsC.next {w wr w2 : World} {l : List (Int × List UInt8)} {va : Option Addr} {k vc g cap : Nat} {x : Int × List UInt8} (h : GrowsC w (l.take k) (.slice va k vc) k wr) (hx : l[k]? = some x)
    (hown : w2.ownsRow 0 84 2 (.slice (some ⟨g, 0, none⟩) (k + 1) cap) (k + 1) (ccells (l.take k) ++ [.int .i64 x.1, .string (Om.B x.2)]))
    (hg : (wr.alloc (.cells #[.int .i64 x.1, .string (Om.B x.2)] 84)).drew.grownBy w2 (Value.slice va k vc).ownBlock) (hat : (Value.slice va k vc).ownBlock = some g ∨ g = wr.heap.size + 1) :
    GrowsC w (l.take (k + 1)) (.slice (some ⟨g, 0, none⟩) (k + 1) cap) (k + 1) w2 := by
  obtain ⟨hk, e⟩ := List.getElem?_eq_some_iff.1 hx
  have et : l.take (k + 1) = l.take k ++ [x] := by rw [List.take_succ_eq_append_getElem hk, e]
  refine ⟨by rw [et, ccells_snoc]; exact hown, by rw [List.length_take]; omega, fun j hj => ?_, ?_⟩
  · injection hj with hj
    have hj : g = j := hj
    rcases hat with e2 | e2
    · exact h.new j (by rw [← hj]; exact e2)
    · have := h.below.size
      omega
  · have h1 : Below w.heap.size w (wr.alloc (.cells #[.int .i64 x.1, .string (Om.B x.2)] 84)).drew := (h.below.alloc h.below.size _).drew
    exact h1.grown hg h1.size fun j hj => h.new j hj
set_option maxHeartbeats 2000000 in
theorem copies_any {w : World} {a : Option Addr} {l : List (Int × List UInt8)} (n c : Nat) (hn : n = l.length) (hn2 : n ≤ 1048576) (hr : RCop w a l) :
    Calls Tryz.prog 35 #[.slice a n c] w fun e w' => ∃ v, e = .returned v ∧ GrowsC w l v n w' := by
  obtain ⟨i0, hi, hz0, hz1, hz2⟩ := info_parts info_copy
  have HN := Lib.hid hn
  have HR : Hid (∀ wr, Below w.heap.size w wr → RCop wr a l) := Lib.hid fun wr hb => hr.below hb
  have R0 : Hid (GrowsC w (l.take 0) (.slice none 0 0) 0 w) := Lib.hid (by rw [List.take_zero]; exact GrowsC.nil (Below.refl _ _))
  clear hn hr
  go_enter Tryz.func35, Tryz.ntmps35
  go_wp2_with fail
  go_loopw [4, 3] (fun i s wr => ∃ (k : Nat) (va : Option Addr) (vc : Nat), i = .int .i64 (k : Int) ∧ s = .slice va k vc ∧ k ≤ n ∧ Hid (GrowsC w (l.take k) (.slice va k vc) k wr)) (fun i _ _ => n - (Lib.intOf i).toNat)
  case atStart => exact ⟨0, _, _, rfl, rfl, Nat.zero_le _, R0⟩
  case round =>
    obtain ⟨k, va, vc, rfl, rfl, hk, hat⟩ := hrel
    by_cases hlt : k < n
    · have d1 : decide ((k : Int) < (n : Int)) = true := by simp; omega
      have d2 : decide (k < n) = true := by simp; omega
      have b1 : (0 : Int) ≤ (k : Int) := by omega
      have b2 : (k : Int) < (n : Int) := by omega
      have hw1 : IntKind.i64.wrap ((k : Int) + 1) = ((k + 1 : Nat) : Int) := by rw [IntWalk.i64_in _ (by omega)]; rfl
      obtain ⟨x, hx⟩ : ∃ x, l[k]? = some x := ⟨l[k]'(by have := HN.out; omega), List.getElem?_eq_getElem _⟩
      obtain ⟨g0, off, hab, hgl, hc⟩ := (HR.out wr hat.out.below) (fun e => by rw [e] at hx; simp at hx)
      subst hab
      obtain ⟨c0, c1⟩ := hc k x hx
      have hal : Below wr.heap.size wr (wr.alloc (.cells #[.int .i64 x.1, .string (Om.B x.2)] 84)).drew := ((Below.refl _ _).alloc (Nat.le_refl _) _).drew
      have OWN : Hid ((wr.alloc (.cells #[.int .i64 x.1, .string (Om.B x.2)] 84)).drew.ownsRow 0 84 2 (.slice va k vc) k (ccells (l.take k))) := Dsk.own_same hat.out.row fun j hj => hal.block j (by obtain ⟨cur, hcc⟩ := Dsk.own_block hat.out.row j hj; exact Dsk.lt_of_heap hcc)
      have NEWS := Lib.hid (cp_new wr x.1 (Om.B x.2))
      have ONE := Lib.hid (cp_one x.1 (Om.B x.2))
      have HX := Lib.hid hx
      clear hx hc hgl hal
      go_wp2_with fail
      go_region_law (refine step_append_lies _ rfl (.tmp 11) (.tmp 23) 91 rfl 0 84 i0 _ 2 24 Tryz.underlying91 hi hz0 hz1 hz2 rfl (by decide) (.slice va k vc) k (ccells (l.take k)) (by simp [Act.eval]) OWN.out ⟨wr.heap.size, 0, none⟩ 1 1 [.int .i64 x.1, .string (Om.B x.2)] (by simp [Act.eval]) rfl NEWS.out ONE.out (by omega) (by unfold maxLen; omega) (by omega) (Nat.zero_le _) (wr.heap.size + 1) (by simp) ?_; intro g cap w2 hown2 hg2 hat2 hlt2; have NXT := Lib.hid (GrowsC.next hat.out HX.out hown2 hg2 hat2); clear hown2 hg2 hat2 hlt2)
      all_goals
        go_wp2_with fail
        go_roundw
        case rel => exact ⟨k + 1, _, _, rfl, rfl, by omega, NXT⟩
        case measure => simp [Lib.intOf]; omega
    · obtain rfl : k = n := by omega
      have d1 : decide ((k : Int) < (k : Int)) = false := by simp
      have d2 : decide (k < k) = false := by simp
      have FIN : Hid (GrowsC w l (.slice va k vc) k wr) := Lib.hid (by
        have := hat.out
        rw [List.take_of_length_le (by rw [← HN.out]; exact Nat.le_refl _)] at this
        exact this)
      go_wp2_with fail
      go_ret
      exact ⟨_, rfl, FIN.out⟩
end So
end Go.Proofs.YtbmabcddciibfaaGreat
namespace Go.Proofs.YtbmabcddciibfaaGreat
namespace So
open Go.RowKit
set_option maxRecDepth 100000
set_option linter.unusedVariables false
theorem eq_head (x0 x1 x2 y0 y1 y2 : Int) (w : World) : (binOp .eql 105 (.agg #[.int .u32 x0, .int .i64 x1, .int .i64 x2, .bool false]) (.agg #[.int .u32 y0, .int .i64 y1, .int .i64 y2, .bool false])).run Tryz.prog w = .ok (.bool ((x0 == y0) && ((x1 == y1) && (x2 == y2)))) w := by
  cases h0 : (x0 == y0) <;> cases h1 : (x1 == y1) <;> cases h2 : (x2 == y2) <;> simp [go_sem, h0, h1, h2]
theorem results_head1 {fn : Func} {p : Tmp} (h : fn.results = #[.cell p 105]) (tmps : Array Value) (w : World) (g : Nat) (x y z u : Value)
    (hp : tmps.getD p undef = .pointer (some ⟨g, 0, none⟩)) (hg : w.heap[g]? = some (.cells #[x, y, z, u] 105 (0, 0))) :
    (results fn tmps).run Tryz.prog w = .ok (.agg #[x, y, z, u]) w := by
  have hp' : tmps[p]?.getD undef = .pointer (some ⟨g, 0, none⟩) := by simpa using hp
  have c0 : w.cell? ⟨g, 0, none⟩ = some x := by rw [cell_of_row _ _ _ _ _ _ hg]; rfl
  have c1 : w.cell? ⟨g, 1, none⟩ = some y := by rw [cell_of_row _ _ _ _ _ _ hg]; rfl
  have c2 : w.cell? ⟨g, 2, none⟩ = some z := by rw [cell_of_row _ _ _ _ _ _ hg]; rfl
  have c3 : w.cell? ⟨g, 3, none⟩ = some u := by rw [cell_of_row _ _ _ _ _ _ hg]; rfl
  simp [results, h, hp', asAddr, Result.andThen, go_sem, c0, c1, c2, c3]
theorem pass {P : Program} {ops : Array Oper} {Q : Exit → Act → World → Prop} {md : Region.Mode} {S : World → Prop} {i d : Nat} {oi : Oper} {fuel : Nat} {listed : Array Bool} {a : Act} {w : World} (hi : ops[i]? = some oi) (hd : oi.dst = some d)
    (hs : Region.noSelect ops = true) (hf : Region.free md ops listed i = true) (hr : (Region.ready md ops listed).contains i = true)
    (hQ : ∀ c a w, Q (.panic c) (a.put oi.dst undef) w → Q (.panic c) a w) (hw : Region.wanted oi (yielded ops a.tmps) = false) (hS : S w)
    (h : wpAnyH P md ops Q S fuel (listed.setIfInBounds i true) (a.put (some d) undef) w) : wpAnyH P md ops Q S (fuel + 1) listed a w := by
  refine wpAnyH_take hi hs hf hr hQ (.inr ⟨hw, rfl⟩) hS ?_
  rw [hd]
  exact h
end So
end Go.Proofs.YtbmabcddciibfaaGreat
namespace Go.Proofs.YtbmabcddciibfaaGreat
namespace Skip
variable {P : Program} {ops : Array Oper} {Q : Exit → Act → World → Prop} {md : Region.Mode} {S : World → Prop}
theorem over {i d : Nat} {oi : Oper} {fuel : Nat} {listed : Array Bool} {a : Act} {w : World} (hi : ops[i]? = some oi) (hd : oi.dst = some d) (hu : a.tmps.setIfInBounds d undef = a.tmps)
    (hs : Region.noSelect ops = true) (hf : Region.free md ops listed i = true) (hr : (Region.ready md ops listed).contains i = true)
    (hQ : ∀ c a w, Q (.panic c) (a.put oi.dst undef) w → Q (.panic c) a w) (hw : Region.wanted oi (yielded ops a.tmps) = false) (hS : S w)
    (h : wpAnyH P md ops Q S fuel (listed.setIfInBounds i true) a w) : wpAnyH P md ops Q S (fuel + 1) listed a w := by
  refine wpAnyH_take hi hs hf hr hQ (.inr ⟨hw, rfl⟩) hS ?_
  have e : a.put oi.dst undef = a := by
    rw [hd]
    show { a with tmps := a.tmps.setIfInBounds d undef } = a
    rw [hu]
  rw [e]
  exact h
theorem take {i : Nat} (d : Nat) {oi : Oper} (v : Value) {fuel : Nat} {listed : Array Bool} {a : Act} {w : World} (hi : ops[i]? = some oi) (hd : oi.dst = some d)
    (hs : Region.noSelect ops = true) (hf : Region.free md ops listed i = true) (hr : (Region.ready md ops listed).contains i = true)
    (hQ : ∀ c a w, Q (.panic c) (a.put oi.dst v) w → Q (.panic c) a w) (hw : Region.wanted oi (yielded ops a.tmps) = true) (hy : ∀ w, S w → (execOp a.eval oi).run P w = .ok (.value v) w) (hS : S w)
    (h : wpAnyH P md ops Q S fuel (listed.setIfInBounds i true) (a.put (some d) v) w) : wpAnyH P md ops Q S (fuel + 1) listed a w := by
  refine wpAnyH_take hi hs hf hr hQ (.inl ⟨hw, hy⟩) hS ?_
  rw [hd]
  exact h
end Skip
end Go.Proofs.YtbmabcddciibfaaGreat
