/- Part 7 of the contracts and of the plain mathematics that the proof of the law rests on: TabHeap, TabHeap2, TabMath2, TabSmall. -/
import Derived.Test.YtbmabcddciibfaaGreatWr06
import Derived.LoopTactic
import Derived.Lib.Agree
import Derived.WalkSpells
import Derived.Deep.QuietTactic
import Derived.BigQuiet
import Derived.RegionTactic
namespace Go.Proofs.YtbmabcddciibfaaGreat
namespace Tb
open Go.RowKit Dsk
set_option linter.unusedVariables false
set_option maxRecDepth 100000
theorem lead_push (F : Nat) (a : Addr) (w : World) : (method (F + 1) 181 (.pointer (some a)) "Push").run Tryz.prog w = .ok (237, .pointer (some a)) w := by kernel_rfl
theorem lead_pop (F : Nat) (a : Addr) (w : World) : (method (F + 1) 181 (.pointer (some a)) "Pop").run Tryz.prog w = .ok (236, .pointer (some a)) w := by kernel_rfl
theorem nil_chk (ts : Array TypeId) (t : TypeId) (a : Addr) (x y : String) (w : World) : (Builtin.ssaWrapNilChk_ ts t #[.pointer (some a), strVal x, strVal y]).run Tryz.prog w = .ok (.pointer (some a)) w := rfl
theorem lead_val (F : Nat) {p : Nat} {gv : Value} (w : World) (h : w.cell? ⟨p, 3, none⟩ = some gv) (name : String) (f : FuncId)
    (hm : (Tryz.prog.info? 181).bind (fun i => (i.methods.find? (fun x => x.name == name)).map fun m => (m.path.toList, m.path.isEmpty, m.func)) = some ([], true, some (f, false))) :
    (method (F + 1) 181 (.pointer (some ⟨p, 3, none⟩)) name).run Tryz.prog w = .ok (f, gv) w := by
  obtain ⟨i0, hi, h1⟩ := Option.bind_eq_some_iff.1 hm
  obtain ⟨m, h2, h3⟩ := Option.map_eq_some_iff.1 h1
  simp only [Prod.mk.injEq] at h3
  obtain ⟨h4, h5, h6⟩ := h3
  have h5' : m.path = #[] := by simpa using h5
  have h4' : m.path.toList = [] := h4
  have hag := Tryz.isAgg153
  simp [method, typeInfo, hi, h2, h5', h6, follow, receiverAt, Place.get, go_sem, run_underlying Tryz.underlying181, nil_chk, asAddr, Result.andThen, hag, h]
theorem lead_len (F : Nat) {p : Nat} {gv : Value} (w : World) (h : w.cell? ⟨p, 3, none⟩ = some gv) : (method (F + 1) 181 (.pointer (some ⟨p, 3, none⟩)) "Len").run Tryz.prog w = .ok (233, gv) w := lead_val F w h "Len" _ (by kernel_rfl)
theorem lead_less (F : Nat) {p : Nat} {gv : Value} (w : World) (h : w.cell? ⟨p, 3, none⟩ = some gv) : (method (F + 1) 181 (.pointer (some ⟨p, 3, none⟩)) "Less").run Tryz.prog w = .ok (234, gv) w := lead_val F w h "Less" _ (by kernel_rfl)
theorem lead_swap (F : Nat) {p : Nat} {gv : Value} (w : World) (h : w.cell? ⟨p, 3, none⟩ = some gv) : (method (F + 1) 181 (.pointer (some ⟨p, 3, none⟩)) "Swap").run Tryz.prog w = .ok (235, gv) w := lead_val F w h "Swap" _ (by kernel_rfl)
def Turned (p : Nat) (v0 v1 v2 gv : Value) (g g' : List Int) (w w' : World) : Prop := Gh w' p v0 v1 v2 gv g' ∧ g'.Perm g ∧ Gs p gv gv w w'
theorem Turned.below {p : Nat} {v0 v1 v2 gv : Value} {g g' : List Int} {w w1 w2 : World} (h : Turned p v0 v1 v2 gv g g' w w1) (hb : Below w1.heap.size w1 w2) : Turned p v0 v1 v2 gv g g' w w2 := by
  obtain ⟨a, b, c⟩ := h
  exact ⟨a.below hb, b, c.fr.trans (Fr.of_below (F := fun _ => False) hb) (fun _ _ e => e.elim), c.own⟩
theorem Turned.swap {p : Nat} {v0 v1 v2 gv : Value} {g g' : List Int} {w w1 w2 : World} (h : Turned p v0 v1 v2 gv g g' w w1) (i j : Nat) (hi : i < g'.length) (hj : j < g'.length) (hr : Ints w2 gv (Hp.swap g' i j)) (hf : Fr (fun k => gv.ownBlock = some k) w1 w2) : Turned p v0 v1 v2 gv g (Hp.swap g' i j) w w2 := by
  obtain ⟨a, b, c⟩ := h
  exact ⟨⟨(hf.block p a.lt a.ne).trans a.head, hr⟩, (Hp.swap_perm g' i j hi hj).trans b, c.fr.trans hf (fun _ _ e => .inr e), c.own⟩
set_option maxHeartbeats 1000000 in
theorem up_any {w : World} {p : Nat} {v0 v1 v2 gv : Value} {g : List Int} (h : Gh w p v0 v1 v2 gv g) (j : Nat) (hu : Hp.Up g j) (hg : g.length ≤ 1048577) :
    Calls Tryz.prog 158 #[.iface 181 (.pointer (some ⟨p, 3, none⟩)), .int .i64 (j : Int)] w fun e w' => e = .returned (.tuple #[]) ∧ ∃ g', Turned p v0 v1 v2 gv g g' w w' ∧ Hp.Heap g' := by
  have H := Lib.hid h
  have HU := Lib.hid hu
  clear h hu
  go_enter Tryz.func158, Tryz.ntmps158
  go_wp2
  go_loopw [1] (fun v wr => ∃ (k : Nat) (g' : List Int), v = .int .i64 (k : Int) ∧ Hid (Hp.Up g' k) ∧ Hid (Turned p v0 v1 v2 gv g g' w wr) ∧ k ≤ 1048576) (fun v _ => (Lib.intOf v).toNat)
  case atStart => exact ⟨j, g, rfl, HU, Lib.hid ⟨H.out, List.Perm.refl _, Gs.refl _ _ _⟩, by have := HU.out.1; omega⟩
  case round =>
    obtain ⟨k, g', rfl, hup, ht, hk⟩ := hrel
    have hkl := hup.out.1
    have hgl : g'.length = g.length := ht.out.2.1.length_eq
    by_cases h0 : k = 0
    · subst h0
      clear hkl hgl
      go_wp2
      go_end0
      exact ⟨rfl, g', ht.out, Hp.up_done hup.out (.inl rfl)⟩
    · obtain ⟨q, hq⟩ : ∃ q, q = Hp.par k := ⟨_, rfl⟩
      have hqk : q < k := by rw [hq]; unfold Hp.par; omega
      have hw1 : IntKind.i64.wrap ((k : Int) - 1) = (k : Int) - 1 := by rw [IntWalk.i64_in _ (by omega)]
      have hw2 : ((k : Int) - 1).tdiv 2 = (q : Int) := by rw [Int.tdiv_eq_ediv_of_nonneg (by omega), hq]; unfold Hp.par; omega
      have hw3 : ((k : Int) - 1) / 2 = (q : Int) := by rw [hq]; unfold Hp.par; omega
      have d1 : ((q : Int) == (k : Int)) = false := by simp; omega
      have d2 : (q == k) = false := by simp; omega
      obtain ⟨gh, hp, hs⟩ := ht.out
      obtain ⟨a, c, hav⟩ := ints_slice gh.row
      subst hav
      have hm := fun F => lead_less F wr gh.cell
      have LE := Lib.hid (gap_less gh.row k q hkl (by omega) (by omega))
      have GH := Lib.hid gh
      have HQ := Lib.hid hq
      have HGL := Lib.hid hgl
      clear gh hp hs hq hgl
      cases hd : decide (Hp.at_ g' k < Hp.at_ g' q) with
      | false =>
        rw [hd] at LE
        go_wp2_with (go_at_call 234; refine LE.out.mono ?_; rintro e w' ⟨rfl, hb⟩)
        go_end0
        have hd' : Hp.at_ g' q ≤ Hp.at_ g' k := by have := of_decide_eq_false hd; omega
        rw [HQ.out] at hd'
        exact ⟨rfl, g', ht.out.below hb, Hp.up_done hup.out (.inr hd')⟩
      | true =>
        rw [hd] at LE
        have HD := Lib.hid (of_decide_eq_true hd)
        clear hd
        go_wp2_with (first
          | (go_at_call 234; refine LE.out.mono ?_; rintro e w' ⟨rfl, hb⟩; have GH2 := Lib.hid (GH.out.below hb); have hm2 := fun F => lead_swap F w' GH2.out.cell; have SW := Lib.hid (gap_swap GH2.out.row q k (by omega) hkl (by have := HGL.out; omega)); have HB := Lib.hid hb; clear hb hm)
          | (go_at_call 235; refine SW.out.mono ?_; rintro e w2 ⟨rfl, hi2, hf2⟩; have HI2 := Lib.hid hi2; have HF2 := Lib.hid hf2; clear hi2 hf2 hm2))
        go_roundw
        case rel =>
          refine ⟨q, Hp.swap g' q k, rfl, ?_, ?_, by omega⟩
          · have := Hp.up_step hup.out (by omega) (by rw [← HQ.out]; exact HD.out)
            rw [← HQ.out] at this
            exact Lib.hid this
          · exact Lib.hid ((ht.out.below HB.out).swap q k (by omega) hkl HI2.out HF2.out)
        case measure => simp [Lib.intOf]; omega
set_option maxHeartbeats 2000000 in
theorem down_any {w : World} {p : Nat} {v0 v1 v2 gv : Value} {g : List Int} (h : Gh w p v0 v1 v2 gv g) (n : Nat) (hu : Hp.Down g 0 n) (hg : g.length ≤ 1048577) :
    Calls Tryz.prog 173 #[.iface 181 (.pointer (some ⟨p, 3, none⟩)), .int .i64 0, .int .i64 (n : Int)] w fun e w' => ∃ v, e = .returned (.bool v) ∧ ∃ g', Turned p v0 v1 v2 gv g g' w w' ∧ Hp.HeapN g' n ∧ ∀ k, n ≤ k → Hp.at_ g' k = Hp.at_ g k := by
  have H := Lib.hid h
  have HU := Lib.hid hu
  have hn : n ≤ 1048577 := by have := hu.1; omega
  clear h hu
  go_enter Tryz.func173, Tryz.ntmps173
  go_wp2
  go_loopw [7] (fun v wr => ∃ (k : Nat) (g' : List Int), v = .int .i64 (k : Int) ∧ Hid (Hp.Down g' k n) ∧ Hid (Turned p v0 v1 v2 gv g g' w wr) ∧ Hid (∀ i, n ≤ i → Hp.at_ g' i = Hp.at_ g i) ∧ (k = 0 ∨ k < n)) (fun v _ => n - (Lib.intOf v).toNat)
  case atStart => exact ⟨0, g, rfl, HU, Lib.hid ⟨H.out, List.Perm.refl _, Gs.refl _ _ _⟩, Lib.hid fun _ _ => rfl, .inl rfl⟩
  case round =>
    obtain ⟨k, g', rfl, hup, ht, hat, hk⟩ := hrel
    have hgl : g'.length = g.length := ht.out.2.1.length_eq
    have hnl : n ≤ g'.length := hup.out.1
    have hk2 : k ≤ 1048577 := by omega
    have hw1 : IntKind.i64.wrap (2 * (k : Int)) = 2 * (k : Int) := by rw [IntWalk.i64_in _ (by omega)]
    have hw2 : IntKind.i64.wrap (2 * (k : Int) + 1) = ((2 * k + 1 : Nat) : Int) := by rw [IntWalk.i64_in _ (by omega)]; try omega
    obtain ⟨j, hj⟩ : ∃ j, j = 2 * k + 1 := ⟨_, rfl⟩
    rw [← hj] at hw2
    have hw3 : IntKind.i64.wrap ((j : Int) + 1) = ((j + 1 : Nat) : Int) := by rw [IntWalk.i64_in _ (by omega)]; try omega
    obtain ⟨j2, hj2⟩ : ∃ j2, j2 = j + 1 := ⟨_, rfl⟩
    rw [← hj2] at hw3
    have d0 : decide ((j : Int) < 0) = false := by simp; try omega
    obtain ⟨gh, hp, hs⟩ := ht.out
    obtain ⟨a, c, hav⟩ := ints_slice gh.row
    subst hav
    have GH := Lib.hid gh
    have HGL := Lib.hid hgl
    have bl : g'.length ≤ 1048577 := by omega
    clear gh hp hs hgl
    by_cases hjn : j < n
    · have d1 : decide ((n : Int) ≤ (j : Int)) = false := by simp; omega
      have d2 : decide (n ≤ j) = false := by simp; omega
      have hm := fun F => lead_less F wr GH.out.cell
      have b1 : j < g'.length := by omega
      have b2 : k < g'.length := by omega
      have fin : ∀ (i : Nat) (w2 : World), Hp.Least g' k i n → Below wr.heap.size wr w2 → ¬ Hp.at_ g' i < Hp.at_ g' k → ∃ g'_1, Turned p v0 v1 v2 (.slice a g'.length c) g g'_1 w w2 ∧ Hp.HeapN g'_1 n ∧ ∀ i, n ≤ i → Hp.at_ g'_1 i = Hp.at_ g i :=
        fun i w2 hl hb hd => ⟨g', ht.out.below hb, Hp.down_done hup.out hl (by omega), hat.out⟩
      have step : ∀ (i : Nat) (w1 w2 : World), Hp.Least g' k i n → Below wr.heap.size wr w1 → Hp.at_ g' i < Hp.at_ g' k → Ints w2 (.slice a g'.length c) (Hp.swap g' k i) → Fr (fun x => (Value.slice a g'.length c).ownBlock = some x) w1 w2 →
          Hid (Hp.Down (Hp.swap g' k i) i n) ∧ Hid (Turned p v0 v1 v2 (.slice a g'.length c) g (Hp.swap g' k i) w w2) ∧ Hid (∀ x, n ≤ x → Hp.at_ (Hp.swap g' k i) x = Hp.at_ g x) ∧ (i = 0 ∨ i < n) := by
        intro i w1 w2 hl hb hd hr hf
        have hi := hl.1
        refine ⟨Lib.hid (Hp.down_step hup.out hl hd), Lib.hid ((ht.out.below hb).swap k i b2 (by omega) hr hf), Lib.hid fun x hx => ?_, .inr hi⟩
        rw [Hp.at_swap _ _ _ _ b2 (by omega), if_neg (by omega), if_neg (by omega)]
        exact hat.out x hx
      have FIN := Lib.hid fin
      have STEP := Lib.hid step
      clear fin step
      -- which child
      by_cases hch : j2 < n ∧ Hp.at_ g' j2 < Hp.at_ g' j
      · have d3 : decide ((j2 : Int) < (n : Int)) = true := by simp; omega
        have d4 : decide (j2 < n) = true := by simp; omega
        have b3 : j2 < g'.length := by omega
        have b4 : n - j2 < n - k := by omega
        have L1 := Lib.hid (gap_less GH.out.row j2 j b3 b1 (by omega))
        rw [decide_eq_true hch.2] at L1
        have LST : Hid (Hp.Least g' k j2 n) := Lib.hid (by have := Hp.least_two (g := g') (i := k) (n := n) (by omega) (by rw [show 2 * k + 2 = j2 by omega, show 2 * k + 1 = j by omega]; exact hch.2); rwa [show 2 * k + 2 = j2 by omega] at this)
        cases hd : decide (Hp.at_ g' j2 < Hp.at_ g' k) with
        | false =>
          have HD := Lib.hid (of_decide_eq_false hd)
          have HDD := Lib.hid hd
          clear hd hch hj hj2 STEP
          go_wp2_with (first
            | (go_at_call 234; refine L1.out.mono ?_; rintro e w1 ⟨rfl, hb1⟩; have GH1 := Lib.hid (GH.out.below hb1); have hm1 := fun F => lead_less F w1 GH1.out.cell; have L2 := Lib.hid (gap_less GH1.out.row j2 k b3 b2 (by omega)); rw [HDD.out] at L2; have HB1 := Lib.hid hb1; clear L1 hm hb1)
            | (go_at_call 234; refine L2.out.mono ?_; rintro e w2 ⟨rfl, hb2⟩; have HB2 := Lib.hid hb2; clear hb2))
          go_ret
          exact ⟨_, rfl, FIN.out _ _ LST.out (HB1.out.trans (HB2.out.mono HB1.out.size)) HD.out⟩
        | true =>
          have HD := Lib.hid (of_decide_eq_true hd)
          have HDD := Lib.hid hd
          clear hd hch hj hj2 FIN
          go_wp2_with (first
            | (go_at_call 234; refine L1.out.mono ?_; rintro e w1 ⟨rfl, hb1⟩; have GH1 := Lib.hid (GH.out.below hb1); have hm1 := fun F => lead_less F w1 GH1.out.cell; have L2 := Lib.hid (gap_less GH1.out.row j2 k b3 b2 (by omega)); rw [HDD.out] at L2; have HB1 := Lib.hid hb1; clear L1 hm hb1)
            | (go_at_call 234; refine L2.out.mono ?_; rintro e w2 ⟨rfl, hb2⟩; have GH2 := Lib.hid (GH1.out.below hb2); have hm2 := fun F => lead_swap F w2 GH2.out.cell; have SW := Lib.hid (gap_swap GH2.out.row k j2 b2 b3 (by omega)); have HB2 := Lib.hid (HB1.out.trans (hb2.mono HB1.out.size)); clear hb2 hm1 L2)
            | (go_at_call 235; refine SW.out.mono ?_; rintro e w3 ⟨rfl, hi3, hf3⟩; have ST := Lib.hid (STEP.out _ _ _ LST.out HB2.out HD.out hi3 hf3); clear hi3 hf3 hm2))
          go_roundw
          case rel => exact ⟨j2, Hp.swap g' k j2, rfl, ST.out⟩
          case measure => simp [Lib.intOf]; omega
      · have LST : Hid (Hp.Least g' k j n) := Lib.hid (by
          have := Hp.least_one (g := g') (i := k) (n := n) (by omega) (by
            rcases Nat.lt_or_ge j2 n with h2 | h2
            · right
              rw [show 2 * k + 2 = j2 by omega, show 2 * k + 1 = j by omega]
              have := fun c => hch ⟨h2, c⟩
              omega
            · left; omega)
          rwa [show 2 * k + 1 = j by omega] at this)
        have b4 : n - j < n - k := by omega
        by_cases h2 : j2 < n
        · have d3 : decide ((j2 : Int) < (n : Int)) = true := by simp; omega
          have d4 : decide (j2 < n) = true := by simp; omega
          have b3 : j2 < g'.length := by omega
          have L1 := Lib.hid (gap_less GH.out.row j2 j b3 b1 (by omega))
          rw [decide_eq_false (fun c => hch ⟨h2, c⟩)] at L1
          cases hd : decide (Hp.at_ g' j < Hp.at_ g' k) with
          | false =>
            have HD := Lib.hid (of_decide_eq_false hd)
            have HDD := Lib.hid hd
            clear hd hch hj hj2 STEP
            go_wp2_with (first
              | (go_at_call 234; refine L1.out.mono ?_; rintro e w1 ⟨rfl, hb1⟩; have GH1 := Lib.hid (GH.out.below hb1); have hm1 := fun F => lead_less F w1 GH1.out.cell; have L2 := Lib.hid (gap_less GH1.out.row j k b1 b2 (by omega)); rw [HDD.out] at L2; have HB1 := Lib.hid hb1; clear L1 hm hb1)
              | (go_at_call 234; refine L2.out.mono ?_; rintro e w2 ⟨rfl, hb2⟩; have HB2 := Lib.hid hb2; clear hb2))
            go_ret
            exact ⟨_, rfl, FIN.out _ _ LST.out (HB1.out.trans (HB2.out.mono HB1.out.size)) HD.out⟩
          | true =>
            have HD := Lib.hid (of_decide_eq_true hd)
            have HDD := Lib.hid hd
            clear hd hch hj hj2 FIN
            go_wp2_with (first
              | (go_at_call 234; refine L1.out.mono ?_; rintro e w1 ⟨rfl, hb1⟩; have GH1 := Lib.hid (GH.out.below hb1); have hm1 := fun F => lead_less F w1 GH1.out.cell; have L2 := Lib.hid (gap_less GH1.out.row j k b1 b2 (by omega)); rw [HDD.out] at L2; have HB1 := Lib.hid hb1; clear L1 hm hb1)
              | (go_at_call 234; refine L2.out.mono ?_; rintro e w2 ⟨rfl, hb2⟩; have GH2 := Lib.hid (GH1.out.below hb2); have hm2 := fun F => lead_swap F w2 GH2.out.cell; have SW := Lib.hid (gap_swap GH2.out.row k j b2 b1 (by omega)); have HB2 := Lib.hid (HB1.out.trans (hb2.mono HB1.out.size)); clear hb2 hm1 L2)
              | (go_at_call 235; refine SW.out.mono ?_; rintro e w3 ⟨rfl, hi3, hf3⟩; have ST := Lib.hid (STEP.out _ _ _ LST.out HB2.out HD.out hi3 hf3); clear hi3 hf3 hm2))
            go_roundw
            case rel => exact ⟨j, Hp.swap g' k j, rfl, ST.out⟩
            case measure => simp [Lib.intOf]; omega
        · have d3 : decide ((j2 : Int) < (n : Int)) = false := by simp; omega
          have d4 : decide (j2 < n) = false := by simp; omega
          cases hd : decide (Hp.at_ g' j < Hp.at_ g' k) with
          | false =>
            have HD := Lib.hid (of_decide_eq_false hd)
            have L2 := Lib.hid (gap_less GH.out.row j k b1 b2 (by omega))
            rw [hd] at L2
            clear hd hch hj hj2 STEP
            go_wp2_with (go_at_call 234; refine L2.out.mono ?_; rintro e w2 ⟨rfl, hb2⟩; have HB2 := Lib.hid hb2; clear hb2)
            go_ret
            exact ⟨_, rfl, FIN.out _ _ LST.out HB2.out HD.out⟩
          | true =>
            have HD := Lib.hid (of_decide_eq_true hd)
            have L2 := Lib.hid (gap_less GH.out.row j k b1 b2 (by omega))
            rw [hd] at L2
            clear hd hch hj hj2 FIN
            go_wp2_with (first
              | (go_at_call 234; refine L2.out.mono ?_; rintro e w2 ⟨rfl, hb2⟩; have GH2 := Lib.hid (GH.out.below hb2); have hm2 := fun F => lead_swap F w2 GH2.out.cell; have SW := Lib.hid (gap_swap GH2.out.row k j b2 b1 (by omega)); have HB2 := Lib.hid hb2; clear hb2 hm L2)
              | (go_at_call 235; refine SW.out.mono ?_; rintro e w3 ⟨rfl, hi3, hf3⟩; have ST := Lib.hid (STEP.out _ _ _ LST.out HB2.out HD.out hi3 hf3); clear hi3 hf3 hm2))
            go_roundw
            case rel => exact ⟨j, Hp.swap g' k j, rfl, ST.out⟩
            case measure => simp [Lib.intOf]; omega
    · have d1 : decide ((n : Int) ≤ (j : Int)) = true := by simp; omega
      have d2 : decide (n ≤ j) = true := by simp; omega
      have LEAF := Lib.hid (Hp.down_leaf hup.out (by omega))
      clear hj hj2
      go_wp2
      go_ret
      exact ⟨_, rfl, g', ht.out, LEAF.out, hat.out⟩
end Tb
end Go.Proofs.YtbmabcddciibfaaGreat
namespace Go.Proofs.YtbmabcddciibfaaGreat
namespace Tb
open Go.RowKit Dsk
set_option linter.unusedVariables false
set_option maxRecDepth 100000
theorem hpush_any {w : World} {p : Nat} {v0 v1 v2 gv : Value} {g : List Int} (h : Gh w p v0 v1 v2 gv g) (x : Int) (hh : Hp.Heap g) (hg : g.length ≤ 1048576) :
    Calls Tryz.prog 135 #[.iface 181 (.pointer (some ⟨p, 3, none⟩)), .iface 3 (.int .i64 x)] w fun e w' => e = .returned (.tuple #[]) ∧ ∃ g' gv', Gh w' p v0 v1 v2 gv' g' ∧ g'.Perm (g ++ [x]) ∧ Hp.Heap g' ∧ Gs p gv gv' w w' := by
  have C1 := Lib.hid (gap_push h x hg)
  have hm := lead_push
  have H := Lib.hid h
  have HH := Lib.hid hh
  obtain ⟨n, hn⟩ : ∃ n, n = g.length := ⟨_, rfl⟩
  have hn1 : n ≤ 1048576 := by omega
  have k2 : IntKind.i64.wrap (((n + 1 : Nat) : Int) - 1) = (n : Int) := by rw [IntWalk.i64_in _ (by omega)]; omega
  have HN := Lib.hid hn
  clear h hh hn
  go_enter Tryz.func135, Tryz.ntmps135
  go_wp2_with (first
    | (go_at_call 237; refine C1.out.mono ?_; rintro e w1 ⟨rfl, gv1, h1, hs1⟩; have H1 := Lib.hid h1; have S1 := Lib.hid hs1; obtain ⟨a, c, hav⟩ := ints_slice h1.row; rw [List.length_append, List.length_singleton, ← HN.out] at hav; subst hav; have hm1 := fun F => lead_len F w1 h1.cell; have UP := Lib.hid (up_any h1 n (by have := Hp.up_start HH.out x; rw [← HN.out] at this; exact this) (by simp; omega)); clear h1 hs1 hm C1)
    | (go_at_call 233; refine (gap_len _ _ _).mono ?_; rintro e w2 ⟨rfl, rfl⟩)
    | (go_at_call 158; refine UP.out.mono ?_; rintro e w2 ⟨rfl, g2, ht2, hh2⟩; have T2 := Lib.hid ht2; have HH2 := Lib.hid hh2; clear ht2 hh2))
  go_end0
  obtain ⟨a1, a2, a3⟩ := T2.out
  exact ⟨rfl, g2, _, a1, a2, HH2.out, S1.out.trans a3 H.out.lt⟩
theorem pop_swap {w w1 : World} {p : Nat} {v0 v1 v2 : Value} {a : Option Addr} {c n : Nat} {g : List Int} (h : Gh w p v0 v1 v2 (.slice a g.length c) g) (hn : g.length = n + 1) (hi : Ints w1 (.slice a (n + 1) c) (Hp.swap g 0 n)) (hf : Fr (fun k => (Value.slice a (n + 1) c).ownBlock = some k) w w1) :
    Turned p v0 v1 v2 (.slice a (n + 1) c) g (Hp.swap g 0 n) w w1 := by
  rw [hn] at h
  have h0 : Turned p v0 v1 v2 (.slice a (n + 1) c) g g w w := ⟨h, List.Perm.refl _, Gs.refl _ _ _⟩
  exact h0.swap 0 n (by omega) (by omega) hi hf
theorem pop_first {g g2 : List Int} {n : Nat} (hn : g.length = n + 1) (h : Hp.at_ g2 n = Hp.at_ (Hp.swap g 0 n) n) : Hp.at_ g2 n = Hp.at_ g 0 := by
  rw [h, Hp.at_swap _ _ _ _ (by omega) (by omega), if_pos rfl]
theorem pop_length {w w1 w2 : World} {p : Nat} {v0 v1 v2 gv : Value} {n : Nat} {g g1 g2 : List Int} (hn : g.length = n + 1) (h1 : Turned p v0 v1 v2 gv g g1 w w1) (h2 : Turned p v0 v1 v2 gv g1 g2 w1 w2) : g2.length = n + 1 := by
  rw [h2.2.1.length_eq, h1.2.1.length_eq, hn]
theorem hpop_any {w : World} {p : Nat} {v0 v1 v2 gv : Value} {g : List Int} (h : Gh w p v0 v1 v2 gv g) (n : Nat) (hn : g.length = n + 1) (hh : Hp.Heap g) (hg : n + 1 ≤ 1048576) :
    Calls Tryz.prog 154 #[.iface 181 (.pointer (some ⟨p, 3, none⟩))] w fun e w' => e = .returned (.iface 3 (.int .i64 (Hp.at_ g 0))) ∧ ∃ g' gv', Gh w' p v0 v1 v2 gv' g' ∧ (Hp.at_ g 0 :: g').Perm g ∧ Hp.Heap g' ∧ Gs p gv gv' w w' := by
  obtain ⟨a, c, rfl⟩ := ints_slice h.row
  have hm := fun F => lead_len F w h.cell
  have hm0 := fun F => lead_swap F w h.cell
  have SW := Lib.hid (gap_swap h.row 0 n (by omega) (by omega) (by omega))
  have H := Lib.hid h
  have HH := Lib.hid hh
  have HN := Lib.hid hn
  rw [hn] at hm hm0 SW
  rw [hn]
  have k2 : IntKind.i64.wrap (((n + 1 : Nat) : Int) - 1) = (n : Int) := by rw [IntWalk.i64_in _ (by omega)]; omega
  clear h hh hn
  go_enter Tryz.func154, Tryz.ntmps154
  go_wp2_with (first
    | (go_at_call 233; refine (gap_len _ _ _).mono ?_; rintro e w2 ⟨rfl, rfl⟩)
    | (go_at_call 235; refine SW.out.mono ?_; rintro e w1 ⟨rfl, hi1, hf1⟩; have T1 := Lib.hid (pop_swap H.out HN.out hi1 hf1); clear hi1 hf1 hm hm0; have DN := Lib.hid (down_any T1.out.1 n (Hp.down_start HH.out n HN.out) (by rw [Hp.swap_length, HN.out]; omega)))
    | (go_at_call 173; refine DN.out.mono ?_; rintro e w2 ⟨v, rfl, g2, ht2, hh2, hat2⟩; have T2 := Lib.hid ht2; have HH2 := Lib.hid hh2; have HA2 := Lib.hid (pop_first HN.out (hat2 n (Nat.le_refl _))); have hm2 := lead_pop; have PL := Lib.hid (pop_length HN.out T1.out T2.out); have PP := Lib.hid (gap_pop T2.out.1 n PL.out (by rw [PL.out]; omega)); rw [HA2.out] at PP; clear ht2 hh2 hat2)
    | (go_at_call 236; refine PP.out.mono ?_; rintro e w3 ⟨rfl, gv3, h3, hs3⟩; have H3 := Lib.hid h3; have S3 := Lib.hid hs3; clear h3 hs3))
  go_ret
  refine ⟨rfl, g2.take n, gv3, H3.out, ?_, Hp.heap_take HH2.out (by rw [PL.out]; omega), (T1.out.2.2.trans T2.out.2.2 H.out.lt).trans S3.out H.out.lt⟩
  have e := Hp.take_last PL.out
  rw [HA2.out] at e
  have hp : g2.Perm g := T2.out.2.1.trans T1.out.2.1
  rw [e] at hp
  exact (List.perm_append_comm (l₁ := [Hp.at_ g 0]) (l₂ := g2.take n)).trans hp
end Tb
end Go.Proofs.YtbmabcddciibfaaGreat
namespace Go.Proofs.YtbmabcddciibfaaGreat
namespace Tb
set_option linter.unusedVariables false
def keys (m : List Int) : List Int := (used m).mergeSort (fun x y => decide (x ≤ y))
def entry (m : List Int) (k : Int) : Int × Int := (k, (((find m k).getD 0 : Nat) : Int))
def all (m : List Int) : List (Int × Int) := (keys m).map (entry m)
theorem keys_mem {m : List Int} {x : Int} : x ∈ keys m ↔ x ∈ m ∧ 0 ≤ x := by unfold keys; rw [(List.mergeSort_perm _ _).mem_iff, used_mem]
theorem keys_length (m : List Int) : (keys m).length = (used m).length := (List.mergeSort_perm _ _).length_eq
theorem all_length (m : List Int) : (all m).length = (used m).length := by simp [all, keys_length]
def pagesN (n : Nat) : Nat := (n + 12) / 13
def page (m : List Int) (i : Nat) : List Int := (List.range 13).map fun k => (m[13 * i + k]?).getD (-1)
theorem page_length (m : List Int) (i : Nat) : (page m i).length = 13 := by simp [page]
theorem page_get (m : List Int) (i k : Nat) (h : k < 13) : (page m i)[k]? = some ((m[13 * i + k]?).getD (-1)) := by simp [page, h]
theorem page_full {n : Nat} {c : List Int} (i : Nat) : page (full n c) i = page c i := by
  unfold page
  refine List.map_congr_left fun k _ => ?_
  by_cases h : 13 * i + k < c.length
  · rw [full_left h]
  · by_cases h2 : 13 * i + k < n
    · rw [full_right (by omega) h2, List.getElem?_eq_none (by omega)]; rfl
    · have e1 : (full n c)[13 * i + k]? = none := List.getElem?_eq_none (by unfold full; rw [List.length_append, List.length_replicate]; omega)
      have e2 : c[13 * i + k]? = none := List.getElem?_eq_none (by omega)
      rw [e1, e2]
def flat (m : List Int) (q : Nat) : List Int := (List.range q).flatMap (page m)
theorem flat_succ (m : List Int) (q : Nat) : flat m (q + 1) = flat m q ++ page m q := by simp [flat, List.range_succ]
theorem flat_length (m : List Int) (q : Nat) : (flat m q).length = 13 * q := by
  induction q with
  | zero => rfl
  | succ q ih => rw [flat_succ, List.length_append, ih, page_length]; omega
theorem flat_get (m : List Int) (q j : Nat) (h : j < 13 * q) : (flat m q)[j]? = some ((m[j]?).getD (-1)) := by
  induction q with
  | zero => omega
  | succ q ih =>
    rw [flat_succ]
    by_cases hj : j < 13 * q
    · rw [List.getElem?_append_left (by rw [flat_length]; exact hj)]; exact ih hj
    · rw [List.getElem?_append_right (by rw [flat_length]; omega), flat_length, page_get _ _ _ (by omega), show 13 * q + (j - 13 * q) = j by omega]
def badB (n : Nat) (l : List Int) (i : Nat) : Bool := match l[i]? with
  | some x => decide (x ≠ -1) && (!(decide (0 ≤ x ∧ x ≤ 2147483646)) || decide (n ≤ i) || (l.take i).contains x)
  | none => false
theorem bad_iff {n : Nat} {l : List Int} {i : Nat} {x : Int} (h : l[i]? = some x) : badB n l i = true ↔ x ≠ -1 ∧ (¬ (0 ≤ x ∧ x ≤ 2147483646) ∨ n ≤ i ∨ x ∈ l.take i) := by
  unfold badB
  rw [h]
  simp only [Bool.and_eq_true, Bool.or_eq_true, Bool.not_eq_true', decide_eq_true_eq, decide_eq_false_iff_not, List.contains_iff_mem]
  simp [or_assoc]
def badAny (n : Nat) (l : List Int) : Bool := (List.range l.length).any (badB n l)
def loadE (p : Int) (l : List Int) : Int := if p < 0 ∨ p > 1048576 ∨ l.length ≠ pagesN p.toNat * 13 then 1 else if badAny p.toNat l then 165 else 0
theorem badAny_true {n : Nat} {l : List Int} {i : Nat} (hi : i < l.length) (h : badB n l i = true) : badAny n l = true := List.any_eq_true.2 ⟨i, List.mem_range.2 hi, h⟩
theorem badAny_false {n : Nat} {l : List Int} (h : ∀ i, i < l.length → badB n l i = false) : badAny n l = false := by
  unfold badAny
  rw [List.any_eq_false]
  intro i hi
  rw [h i (List.mem_range.1 hi)]
  decide
def pad (n : Nat) (s : List Int) : List Int := full n (s.take n)
theorem pad_all {n : Nat} {l : List Int} (h : n ≤ l.length) : pad n l = l.take n := by
  unfold pad full
  rw [List.length_take, Nat.min_eq_left h, Nat.sub_self]
  simp
theorem take_snoc {l : List Int} {k : Nat} {x : Int} (h : l[k]? = some x) : l.take (k + 1) = l.take k ++ [x] := by
  rw [List.take_add_one, h]; rfl
theorem take_short {l : List Int} {k n : Nat} (h : k ≤ n) : (l.take k).take n = l.take k := by rw [List.take_take, Nat.min_eq_right h]
theorem pad_free {n : Nat} {l : List Int} {k : Nat} (h : l[k]? = some (-1)) : pad n (l.take (k + 1)) = pad n (l.take k) := by
  have hk := (List.getElem?_eq_some_iff.1 h).1
  have e : (l.take k).length = k := by rw [List.length_take]; omega
  unfold pad
  by_cases hn : k < n
  · rw [take_short hn, take_short (Nat.le_of_lt hn), take_snoc h, full_more (by omega)]
  · rw [List.take_take, List.take_take, Nat.min_eq_left (by omega), Nat.min_eq_left (by omega)]
theorem pad_set {n : Nat} {l : List Int} {k : Nat} {x : Int} (h : l[k]? = some x) (hn : k < n) : pad n (l.take (k + 1)) = (pad n (l.take k)).set k x := by
  have hk := (List.getElem?_eq_some_iff.1 h).1
  have e : (l.take k).length = k := by rw [List.length_take]; omega
  unfold pad
  rw [take_short hn, take_short (Nat.le_of_lt hn), take_snoc h, ← full_snoc x (by omega), e]
theorem pad_mem {n : Nat} {l : List Int} {k : Nat} {x : Int} (h0 : 0 ≤ x) (hgood : ∀ j, j < k → badB n l j = false) : x ∈ pad n (l.take k) ↔ x ∈ l.take k := by
  unfold pad
  rw [full_mem h0]
  constructor
  · exact fun h => List.mem_of_mem_take h
  · intro h
    obtain ⟨j, hj⟩ := List.getElem?_of_mem h
    have hjk : j < k := by have := (List.getElem?_eq_some_iff.1 hj).1; simp at this; omega
    rw [List.getElem?_take, if_pos hjk] at hj
    have hb := hgood j hjk
    have hjn : j < n := by
      rcases Nat.lt_or_ge j n with h' | h'
      · exact h'
      · rw [(bad_iff hj).2 ⟨by omega, .inr (.inl h')⟩] at hb; cases hb
    exact List.mem_of_getElem? (i := j) (by rw [List.getElem?_take, if_pos hjn, List.getElem?_take, if_pos hjk]; exact hj)
theorem flat_take {m : List Int} : (flat m (pagesN m.length)).take m.length = m := by
  apply List.ext_getElem?
  intro j
  rw [List.getElem?_take]
  by_cases h : j < m.length
  · rw [if_pos h, flat_get _ _ _ (by unfold pagesN; omega), List.getElem?_eq_getElem h]; rfl
  · rw [if_neg h, List.getElem?_eq_none (by omega)]
theorem flat_good {m : List Int} (h : Ok m) : loadE (m.length : Int) (flat m (pagesN m.length)) = 0 := by
  have hf := h.few
  unfold loadE
  rw [if_neg (by
    rintro (h1 | h1 | h1)
    · omega
    · omega
    · exact h1 (by rw [flat_length, Int.toNat_natCast]; omega))]
  rw [if_neg]
  rw [Int.toNat_natCast, badAny_false]
  · decide
  intro i hi
  rw [flat_length] at hi
  have hg := flat_get m (pagesN m.length) i hi
  rw [Bool.eq_false_iff]
  intro hb
  obtain ⟨h1, h2⟩ := (bad_iff hg).1 hb
  by_cases hl : i < m.length
  · rw [List.getElem?_eq_getElem hl] at h1 h2 hg
    simp only [Option.getD_some] at h1 h2 hg
    have hv := h.vals m[i] (List.getElem_mem hl)
    rcases h2 with h2 | h2 | h2
    · exact h2 ⟨by omega, hv.2⟩
    · omega
    · obtain ⟨j, hj⟩ := List.getElem?_of_mem h2
      have hjl := (List.getElem?_eq_some_iff.1 hj).1
      rw [List.length_take, flat_length] at hjl
      rw [List.getElem?_take, if_pos (by omega), flat_get _ _ _ (by omega), List.getElem?_eq_getElem (by omega)] at hj
      simp only [Option.getD_some] at hj
      have := h.uni j i m[i] (by rw [List.getElem?_eq_getElem (by omega)]; exact hj) (List.getElem?_eq_getElem hl) (by omega)
      omega
  · rw [List.getElem?_eq_none (by omega)] at h1
    exact h1 rfl
end Tb
end Go.Proofs.YtbmabcddciibfaaGreat
namespace Go.Proofs.YtbmabcddciibfaaGreat
namespace Tb
open Go.RowKit Dsk Go.Maps
set_option linter.unusedVariables false
theorem int_law : Keyed Tryz.prog 3 := int_keyed Tryz.underlying3
theorem zero_int (w : World) : (zeroValue 3).run Tryz.prog w = .ok (.int .i64 0) w := Tryz.zeroValue3 w
theorem int_key (k : Int) (h : (Lit.int .i64 k).wf = true) : keyOf Tryz.prog 3 (.int .i64 k) = some (.int .i64 k) := keyOf_int_mk Tryz.underlying3 h
theorem mayhave_any (n : Int) (w : World) : Calls Tryz.prog 122 #[.int .i64 n] w fun e w' => e = .returned (.bool (decide (0 ≤ n) && decide (n ≤ 1048576))) ∧ w = w' := by
  by_cases h : 0 ≤ n
  · have d : decide (0 ≤ n) = true := decide_eq_true h
    go_enter Tryz.func122, Tryz.ntmps122
    go_wp2
    go_ret
    exact ⟨by rw [d]; rfl, rfl⟩
  · have d : decide (0 ≤ n) = false := decide_eq_false h
    go_enter Tryz.func122, Tryz.ntmps122
    go_wp2
    go_ret
    exact ⟨rfl, rfl⟩
theorem ischunk_any (n : Int) (w : World) : Calls Tryz.prog 127 #[.int .i64 n] w fun e w' => e = .returned (.bool (decide (0 ≤ n ∧ n ≤ 2147483646))) ∧ w = w' := by
  by_cases h : 0 ≤ n
  · have d : decide (0 ≤ n) = true := decide_eq_true h
    have e1 : decide (0 ≤ n ∧ n ≤ 2147483646) = decide (n ≤ 2147483646) := by simp [h]
    rw [e1]
    clear h e1
    go_enter Tryz.func127, Tryz.ntmps127
    go_wp2
    go_ret
    exact ⟨rfl, rfl⟩
  · have d : decide (0 ≤ n) = false := decide_eq_false h
    have e1 : decide (0 ≤ n ∧ n ≤ 2147483646) = false := by simp; omega
    rw [e1]
    clear h e1
    go_enter Tryz.func127, Tryz.ntmps127
    go_wp2
    go_ret
    exact ⟨rfl, rfl⟩
theorem pages_any (n : Nat) (w : World) (h : n ≤ 1048576) : Calls Tryz.prog 126 #[.int .i64 (n : Int)] w fun e w' => e = .returned (.int .i64 (pagesN n : Int)) ∧ w = w' := by
  have k1 : IntKind.i64.wrap ((n : Int) + 13) = (n : Int) + 13 := by rw [IntWalk.i64_in _ (by omega)]
  have k2 : IntKind.i64.wrap ((n : Int) + 13 - 1) = (n : Int) + 12 := by rw [IntWalk.i64_in _ (by omega)]; omega
  have HQ : Hid (((n : Int) + 12) / 13 = (pagesN n : Int)) := Lib.hid (by unfold pagesN; omega)
  have HT : Hid (((n : Int) + 12).tdiv 13 = (pagesN n : Int)) := Lib.hid (by rw [Int.tdiv_eq_ediv_of_nonneg (by omega)]; unfold pagesN; omega)
  have hq := HQ.out
  have ht := HT.out
  go_enter Tryz.func126, Tryz.ntmps126
  go_wp2
  go_ret
  exact ⟨by first | rfl | (rw [← HQ.out]; first | rfl | (congr 2; omega)), rfl⟩
theorem find_any {w : World} {o : Ob} {m : List Int} (h : Tm w o m) (k : Int) (hk : (Lit.int .i64 k).wf = true) : Calls Tryz.prog 68 #[.pointer (some ⟨o.p, 0, none⟩), .int .i64 k] w fun e w' => e = .returned (.tuple #[.int .i64 (((find m k).getD 0 : Nat) : Int), .bool (find m k).isSome]) ∧ w = w' := by
  obtain ⟨n, c, g, ht, rfl⟩ := h
  obtain ⟨_, h1, _, _, _⟩ := ht.reads
  obtain ⟨D, hown, hm⟩ := ht.placeOf
  have hK : Hid (keyOf Tryz.prog 3 (.int .i64 k) = some (.int .i64 k)) := Lib.hid (int_key k hk)
  have HO := Lib.hid hown
  have hres : Hid (Maps.has D (.int .i64 k) = (find (full n c) k).isSome ∧ D.atKey (.int .i64 k) (.lit (.int .i64 0)) = .lit (.int .i64 (((find (full n c) k).getD 0 : Nat) : Int))) := by
    refine Lib.hid ?_
    cases hf : find (full n c) k with
    | none =>
      have hh : Maps.has D (.int .i64 k) = false := by
        rw [Bool.eq_false_iff]
        intro e
        obtain ⟨h0, hc⟩ := (hm.2.1 k).1 e
        exact find_none.1 hf h0 ((full_mem h0).2 hc)
      exact ⟨hh, by rw [Maps.atKey_of_not_has hh]; rfl⟩
    | some i =>
      obtain ⟨h0, hi, _⟩ := find_some.1 hf
      have hc := full_used hi h0
      exact ⟨(hm.2.1 k).2 ⟨h0, List.mem_of_getElem? hc⟩, hm.2.2 i k hc h0 _⟩
  clear ht hown hm hk
  go_enter Tryz.func68, Tryz.ntmps68
  go_wp2_with (at_lookup; refine wpList_lookup_own_ok_int _ rfl _ _ 96 rfl 3 3 .i64 int_law Tryz.underlying96 Tryz.underlying3 (zero_int _) o.mb (Maps.size D) D rfl HO.out _ (.int .i64 k) rfl hK.out ?_; intro x hatx hwx; have HA := Lib.hid hatx; clear hatx hwx)
  go_ret2
  obtain ⟨e1, e2⟩ := hres.out
  have e3 := HA.out.symm.trans e2
  injection e3 with e3
  injection e3 with _ e3
  exact ⟨by rw [e1, e3]; rfl, rfl⟩
theorem left_any {w : World} {o : Ob} {m : List Int} (h : Tm w o m) : Calls Tryz.prog 67 #[.pointer (some ⟨o.p, 0, none⟩)] w fun e w' => e = .returned (.int .i64 ((m.length - (used m).length : Nat) : Int)) ∧ Below w.heap.size w w' := by
  obtain ⟨n, c, g, ht, rfl⟩ := h
  obtain ⟨h0, h1, _, _, _⟩ := ht.reads
  obtain ⟨D, hown, hk⟩ := ht.placeOf
  have hnd := used_nodup ht.pr.ok
  have hle : (used (full n c)).length ≤ (full n c).length := used_length_le _
  rw [full_length ht.pr.len] at hle ⊢
  rw [used_full] at hnd hle ⊢
  obtain ⟨_, hsz⟩ := size_used hown hk hnd
  have hfew := ht.pr.few
  have HO := Lib.hid hown
  obtain ⟨s, hs⟩ : ∃ s, s = (used c).length := ⟨_, rfl⟩
  rw [← hs] at hsz hle ⊢
  have k1 : IntKind.i64.wrap ((n : Int) - (s : Int)) = ((n - s : Nat) : Int) := by rw [IntWalk.i64_in _ (by omega)]; omega
  have k2 : (n : Int) - (s : Int) = ((n - s : Nat) : Int) := by omega
  have hlen : ∀ W : World, (∀ k : Nat, W.heap[k]? = w.heap[k]?) → (Builtin.len_ #[96] 3 #[.map (some o.mb)]).run Tryz.prog W = .ok (.int .i64 (s : Int)) W := by
    intro W hW
    have := (map_same HO.out (hW o.mb)).len Tryz.underlying96 3
    rwa [hsz] at this
  have l0 := hlen w (fun _ => rfl)
  have l1 := hlen w.drew (fun _ => rfl)
  clear ht hown hk hnd hs hsz hlen
  go_enter Tryz.func67, Tryz.ntmps67
  go_wp2
  go_region
  all_goals
    go_wp2
    go_ret
    exact ⟨by first | rfl | (rw [← k2]; rfl), by first | exact Below.refl _ _ | exact (Below.refl _ _).drew⟩
end Tb
end Go.Proofs.YtbmabcddciibfaaGreat
