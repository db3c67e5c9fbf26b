/- container/heap's up, down, Push and Pop at gaps. -/
import Derived.Test.YtibemiiflibnaaaTabPush
import Derived.LoopTactic
namespace Go.Proofs.Ytibemiiflibnaaa
namespace Tb
open Go.RowKit Dsk
set_option linter.unusedVariables false
set_option maxRecDepth 100000

/-- What an interface leads to: a method of the pointer; one of what it points to. -/
theorem lead_push (F : Nat) (a : Addr) (w : World) : (method (F + 1) 70 (.pointer (some a)) "Push").run Try.prog w = .ok (96, .pointer (some a)) w := by kernel_rfl
theorem lead_pop (F : Nat) (a : Addr) (w : World) : (method (F + 1) 70 (.pointer (some a)) "Pop").run Try.prog w = .ok (95, .pointer (some a)) w := by kernel_rfl
theorem load_gaps {p : Nat} {gv : Value} {w : World} (h : w.cell? ⟨p, 3, none⟩ = some gv) : (loadVar 58 ⟨p, 3, none⟩).run Try.prog w = .ok gv w := by
  simp [loadVar, go_sem, h]
theorem nil_chk (ts : Array TypeId) (t : TypeId) (a : Addr) (x y : String) (w : World) : (Builtin.ssaWrapNilChk_ ts t #[.pointer (some a), strVal x, strVal y]).run Try.prog w = .ok (.pointer (some a)) w := rfl
theorem lead_val (F : Nat) {p : Nat} {gv : Value} (w : World) (h : w.cell? ⟨p, 3, none⟩ = some gv) (name : String) (f : FuncId)
    (hm : (Try.prog.info? 70).bind (fun i => (i.methods.find? (fun x => x.name == name)).map fun m => (m.path.toList, m.path.isEmpty, m.func)) = some ([], true, some (f, false))) :
    (method (F + 1) 70 (.pointer (some ⟨p, 3, none⟩)) name).run Try.prog w = .ok (f, gv) w := by
  obtain ⟨i0, hi, h1⟩ := Option.bind_eq_some_iff.1 hm
  obtain ⟨m, h2, h3⟩ := Option.map_eq_some_iff.1 h1
  simp only [Prod.mk.injEq] at h3
  obtain ⟨h4, h5, h6⟩ := h3
  have h5' : m.path = #[] := by simpa using h5
  have h4' : m.path.toList = [] := h4
  have hag := Try.isAgg58
  simp [method, typeInfo, hi, h2, h5', h6, follow, receiverAt, Place.get, go_sem, run_underlying Try.underlying70, nil_chk, asAddr, Result.andThen, hag, h]
theorem lead_len (F : Nat) {p : Nat} {gv : Value} (w : World) (h : w.cell? ⟨p, 3, none⟩ = some gv) : (method (F + 1) 70 (.pointer (some ⟨p, 3, none⟩)) "Len").run Try.prog w = .ok (92, gv) w := lead_val F w h "Len" _ (by kernel_rfl)
theorem lead_less (F : Nat) {p : Nat} {gv : Value} (w : World) (h : w.cell? ⟨p, 3, none⟩ = some gv) : (method (F + 1) 70 (.pointer (some ⟨p, 3, none⟩)) "Less").run Try.prog w = .ok (93, gv) w := lead_val F w h "Less" _ (by kernel_rfl)
theorem lead_swap (F : Nat) {p : Nat} {gv : Value} (w : World) (h : w.cell? ⟨p, 3, none⟩ = some gv) : (method (F + 1) 70 (.pointer (some ⟨p, 3, none⟩)) "Swap").run Try.prog w = .ok (94, gv) w := lead_val F w h "Swap" _ (by kernel_rfl)

/-- What stands behind the heap's own calls: other numbers in the same row. -/
def Turned (p : Nat) (v0 v1 v2 gv : Value) (g g' : List Int) (w w' : World) : Prop := Gh w' p v0 v1 v2 gv g' ∧ g'.Perm g ∧ Gs p gv gv w w'

theorem Turned.below {p : Nat} {v0 v1 v2 gv : Value} {g g' : List Int} {w w1 w2 : World} (h : Turned p v0 v1 v2 gv g g' w w1) (hb : Below w1.heap.size w1 w2) : Turned p v0 v1 v2 gv g g' w w2 := by
  obtain ⟨a, b, c⟩ := h
  exact ⟨a.below hb, b, c.fr.trans (Fr.of_below (F := fun _ => False) hb) (fun _ _ e => e.elim), c.own⟩
theorem Turned.swap {p : Nat} {v0 v1 v2 gv : Value} {g g' : List Int} {w w1 w2 : World} (h : Turned p v0 v1 v2 gv g g' w w1) (i j : Nat) (hi : i < g'.length) (hj : j < g'.length) (hr : Ints w2 gv (Hp.swap g' i j)) (hf : Fr (fun k => gv.ownBlock = some k) w1 w2) : Turned p v0 v1 v2 gv g (Hp.swap g' i j) w w2 := by
  obtain ⟨a, b, c⟩ := h
  exact ⟨⟨(hf.block p a.lt a.ne).trans a.head, hr⟩, (Hp.swap_perm g' i j hi hj).trans b, c.fr.trans hf (fun _ _ e => .inr e), c.own⟩
set_option maxHeartbeats 1000000 in
theorem up_any {w : World} {p : Nat} {v0 v1 v2 gv : Value} {g : List Int} (h : Gh w p v0 v1 v2 gv g) (j : Nat) (hu : Hp.Up g j) (hg : g.length ≤ 1048577) :
    Calls Try.prog 47 #[.iface 70 (.pointer (some ⟨p, 3, none⟩)), .int .i64 (j : Int)] w fun e w' => e = .returned (.tuple #[]) ∧ ∃ g', Turned p v0 v1 v2 gv g g' w w' ∧ Hp.Heap g' := by
  have H := Lib.hid h
  have HU := Lib.hid hu
  clear h hu
  go_enter Try.func47, Try.ntmps47
  go_wp2
  go_loopw [1] (fun v wr => ∃ (k : Nat) (g' : List Int), v = .int .i64 (k : Int) ∧ Hid (Hp.Up g' k) ∧ Hid (Turned p v0 v1 v2 gv g g' w wr) ∧ k ≤ 1048576) (fun v _ => (Lib.intOf v).toNat)
  case atStart => exact ⟨j, g, rfl, HU, Lib.hid ⟨H.out, List.Perm.refl _, Gs.refl _ _ _⟩, by have := HU.out.1; omega⟩
  case round =>
    obtain ⟨k, g', rfl, hup, ht, hk⟩ := hrel
    have hkl := hup.out.1
    have hgl : g'.length = g.length := ht.out.2.1.length_eq
    by_cases h0 : k = 0
    · subst h0
      clear hkl hgl
      go_wp2
      go_end0
      exact ⟨rfl, g', ht.out, Hp.up_done hup.out (.inl rfl)⟩
    · obtain ⟨q, hq⟩ : ∃ q, q = Hp.par k := ⟨_, rfl⟩
      have hqk : q < k := by rw [hq]; unfold Hp.par; omega
      have hw1 : IntKind.i64.wrap ((k : Int) - 1) = (k : Int) - 1 := by rw [IntWalk.i64_in _ (by omega)]
      have hw2 : ((k : Int) - 1).tdiv 2 = (q : Int) := by rw [Int.tdiv_eq_ediv_of_nonneg (by omega), hq]; unfold Hp.par; omega
      have hw3 : ((k : Int) - 1) / 2 = (q : Int) := by rw [hq]; unfold Hp.par; omega
      have d1 : ((q : Int) == (k : Int)) = false := by simp; omega
      have d2 : (q == k) = false := by simp; omega
      obtain ⟨gh, hp, hs⟩ := ht.out
      obtain ⟨a, c, hav⟩ := ints_slice gh.row
      subst hav
      have hm := fun F => lead_less F wr gh.cell
      have LE := Lib.hid (gap_less gh.row k q hkl (by omega) (by omega))
      have GH := Lib.hid gh
      have HQ := Lib.hid hq
      have HGL := Lib.hid hgl
      clear gh hp hs hq hgl
      cases hd : decide (Hp.at_ g' k < Hp.at_ g' q) with
      | false =>
        rw [hd] at LE
        go_wp2_with (go_at_call 93; refine LE.out.mono ?_; rintro e w' ⟨rfl, hb⟩)
        go_end0
        have hd' : Hp.at_ g' q ≤ Hp.at_ g' k := by have := of_decide_eq_false hd; omega
        rw [HQ.out] at hd'
        exact ⟨rfl, g', ht.out.below hb, Hp.up_done hup.out (.inr hd')⟩
      | true =>
        rw [hd] at LE
        have HD := Lib.hid (of_decide_eq_true hd)
        clear hd
        go_wp2_with (first
          | (go_at_call 93; refine LE.out.mono ?_; rintro e w' ⟨rfl, hb⟩; have GH2 := Lib.hid (GH.out.below hb); have hm2 := fun F => lead_swap F w' GH2.out.cell; have SW := Lib.hid (gap_swap GH2.out.row q k (by omega) hkl (by have := HGL.out; omega)); have HB := Lib.hid hb; clear hb hm)
          | (go_at_call 94; refine SW.out.mono ?_; rintro e w2 ⟨rfl, hi2, hf2⟩; have HI2 := Lib.hid hi2; have HF2 := Lib.hid hf2; clear hi2 hf2 hm2))
        go_roundw
        case rel =>
          refine ⟨q, Hp.swap g' q k, rfl, ?_, ?_, by omega⟩
          · have := Hp.up_step hup.out (by omega) (by rw [← HQ.out]; exact HD.out)
            rw [← HQ.out] at this
            exact Lib.hid this
          · exact Lib.hid ((ht.out.below HB.out).swap q k (by omega) hkl HI2.out HF2.out)
        case measure => simp [Lib.intOf]; omega


set_option maxHeartbeats 2000000 in
theorem down_any {w : World} {p : Nat} {v0 v1 v2 gv : Value} {g : List Int} (h : Gh w p v0 v1 v2 gv g) (n : Nat) (hu : Hp.Down g 0 n) (hg : g.length ≤ 1048577) :
    Calls Try.prog 52 #[.iface 70 (.pointer (some ⟨p, 3, none⟩)), .int .i64 0, .int .i64 (n : Int)] w fun e w' => ∃ v, e = .returned (.bool v) ∧ ∃ g', Turned p v0 v1 v2 gv g g' w w' ∧ Hp.HeapN g' n ∧ ∀ k, n ≤ k → Hp.at_ g' k = Hp.at_ g k := by
  have H := Lib.hid h
  have HU := Lib.hid hu
  have hn : n ≤ 1048577 := by have := hu.1; omega
  clear h hu
  go_enter Try.func52, Try.ntmps52
  go_wp2
  go_loopw [7] (fun v wr => ∃ (k : Nat) (g' : List Int), v = .int .i64 (k : Int) ∧ Hid (Hp.Down g' k n) ∧ Hid (Turned p v0 v1 v2 gv g g' w wr) ∧ Hid (∀ i, n ≤ i → Hp.at_ g' i = Hp.at_ g i) ∧ (k = 0 ∨ k < n)) (fun v _ => n - (Lib.intOf v).toNat)
  case atStart => exact ⟨0, g, rfl, HU, Lib.hid ⟨H.out, List.Perm.refl _, Gs.refl _ _ _⟩, Lib.hid fun _ _ => rfl, .inl rfl⟩
  case round =>
    obtain ⟨k, g', rfl, hup, ht, hat, hk⟩ := hrel
    have hgl : g'.length = g.length := ht.out.2.1.length_eq
    have hnl : n ≤ g'.length := hup.out.1
    have hk2 : k ≤ 1048577 := by omega
    have hw1 : IntKind.i64.wrap (2 * (k : Int)) = 2 * (k : Int) := by rw [IntWalk.i64_in _ (by omega)]
    have hw2 : IntKind.i64.wrap (2 * (k : Int) + 1) = ((2 * k + 1 : Nat) : Int) := by rw [IntWalk.i64_in _ (by omega)]; try omega
    obtain ⟨j, hj⟩ : ∃ j, j = 2 * k + 1 := ⟨_, rfl⟩
    rw [← hj] at hw2
    have hw3 : IntKind.i64.wrap ((j : Int) + 1) = ((j + 1 : Nat) : Int) := by rw [IntWalk.i64_in _ (by omega)]; try omega
    obtain ⟨j2, hj2⟩ : ∃ j2, j2 = j + 1 := ⟨_, rfl⟩
    rw [← hj2] at hw3
    have d0 : decide ((j : Int) < 0) = false := by simp; try omega
    obtain ⟨gh, hp, hs⟩ := ht.out
    obtain ⟨a, c, hav⟩ := ints_slice gh.row
    subst hav
    have GH := Lib.hid gh
    have HGL := Lib.hid hgl
    have bl : g'.length ≤ 1048577 := by omega
    clear gh hp hs hgl
    by_cases hjn : j < n
    · have d1 : decide ((n : Int) ≤ (j : Int)) = false := by simp; omega
      have d2 : decide (n ≤ j) = false := by simp; omega
      have hm := fun F => lead_less F wr GH.out.cell
      have b1 : j < g'.length := by omega
      have b2 : k < g'.length := by omega
      have fin : ∀ (i : Nat) (w2 : World), Hp.Least g' k i n → Below wr.heap.size wr w2 → ¬ Hp.at_ g' i < Hp.at_ g' k → ∃ g'_1, Turned p v0 v1 v2 (.slice a g'.length c) g g'_1 w w2 ∧ Hp.HeapN g'_1 n ∧ ∀ i, n ≤ i → Hp.at_ g'_1 i = Hp.at_ g i :=
        fun i w2 hl hb hd => ⟨g', ht.out.below hb, Hp.down_done hup.out hl (by omega), hat.out⟩
      have step : ∀ (i : Nat) (w1 w2 : World), Hp.Least g' k i n → Below wr.heap.size wr w1 → Hp.at_ g' i < Hp.at_ g' k → Ints w2 (.slice a g'.length c) (Hp.swap g' k i) → Fr (fun x => (Value.slice a g'.length c).ownBlock = some x) w1 w2 →
          Hid (Hp.Down (Hp.swap g' k i) i n) ∧ Hid (Turned p v0 v1 v2 (.slice a g'.length c) g (Hp.swap g' k i) w w2) ∧ Hid (∀ x, n ≤ x → Hp.at_ (Hp.swap g' k i) x = Hp.at_ g x) ∧ (i = 0 ∨ i < n) := by
        intro i w1 w2 hl hb hd hr hf
        have hi := hl.1
        refine ⟨Lib.hid (Hp.down_step hup.out hl hd), Lib.hid ((ht.out.below hb).swap k i b2 (by omega) hr hf), Lib.hid fun x hx => ?_, .inr hi⟩
        rw [Hp.at_swap _ _ _ _ b2 (by omega), if_neg (by omega), if_neg (by omega)]
        exact hat.out x hx
      have FIN := Lib.hid fin
      have STEP := Lib.hid step
      clear fin step
      -- which child
      by_cases hch : j2 < n ∧ Hp.at_ g' j2 < Hp.at_ g' j
      · have d3 : decide ((j2 : Int) < (n : Int)) = true := by simp; omega
        have d4 : decide (j2 < n) = true := by simp; omega
        have b3 : j2 < g'.length := by omega
        have b4 : n - j2 < n - k := by omega
        have L1 := Lib.hid (gap_less GH.out.row j2 j b3 b1 (by omega))
        rw [decide_eq_true hch.2] at L1
        have LST : Hid (Hp.Least g' k j2 n) := Lib.hid (by have := Hp.least_two (g := g') (i := k) (n := n) (by omega) (by rw [show 2 * k + 2 = j2 by omega, show 2 * k + 1 = j by omega]; exact hch.2); rwa [show 2 * k + 2 = j2 by omega] at this)
        cases hd : decide (Hp.at_ g' j2 < Hp.at_ g' k) with
        | false =>
          have HD := Lib.hid (of_decide_eq_false hd)
          have HDD := Lib.hid hd
          clear hd hch hj hj2 STEP
          go_wp2_with (first
            | (go_at_call 93; refine L1.out.mono ?_; rintro e w1 ⟨rfl, hb1⟩; have GH1 := Lib.hid (GH.out.below hb1); have hm1 := fun F => lead_less F w1 GH1.out.cell; have L2 := Lib.hid (gap_less GH1.out.row j2 k b3 b2 (by omega)); rw [HDD.out] at L2; have HB1 := Lib.hid hb1; clear L1 hm hb1)
            | (go_at_call 93; refine L2.out.mono ?_; rintro e w2 ⟨rfl, hb2⟩; have HB2 := Lib.hid hb2; clear hb2))
          go_ret
          exact ⟨_, rfl, FIN.out _ _ LST.out (HB1.out.trans (HB2.out.mono HB1.out.size)) HD.out⟩
        | true =>
          have HD := Lib.hid (of_decide_eq_true hd)
          have HDD := Lib.hid hd
          clear hd hch hj hj2 FIN
          go_wp2_with (first
            | (go_at_call 93; refine L1.out.mono ?_; rintro e w1 ⟨rfl, hb1⟩; have GH1 := Lib.hid (GH.out.below hb1); have hm1 := fun F => lead_less F w1 GH1.out.cell; have L2 := Lib.hid (gap_less GH1.out.row j2 k b3 b2 (by omega)); rw [HDD.out] at L2; have HB1 := Lib.hid hb1; clear L1 hm hb1)
            | (go_at_call 93; refine L2.out.mono ?_; rintro e w2 ⟨rfl, hb2⟩; have GH2 := Lib.hid (GH1.out.below hb2); have hm2 := fun F => lead_swap F w2 GH2.out.cell; have SW := Lib.hid (gap_swap GH2.out.row k j2 b2 b3 (by omega)); have HB2 := Lib.hid (HB1.out.trans (hb2.mono HB1.out.size)); clear hb2 hm1 L2)
            | (go_at_call 94; refine SW.out.mono ?_; rintro e w3 ⟨rfl, hi3, hf3⟩; have ST := Lib.hid (STEP.out _ _ _ LST.out HB2.out HD.out hi3 hf3); clear hi3 hf3 hm2))
          go_roundw
          case rel => exact ⟨j2, Hp.swap g' k j2, rfl, ST.out⟩
          case measure => simp [Lib.intOf]; omega
      · have LST : Hid (Hp.Least g' k j n) := Lib.hid (by
          have := Hp.least_one (g := g') (i := k) (n := n) (by omega) (by
            rcases Nat.lt_or_ge j2 n with h2 | h2
            · right
              rw [show 2 * k + 2 = j2 by omega, show 2 * k + 1 = j by omega]
              have := fun c => hch ⟨h2, c⟩
              omega
            · left; omega)
          rwa [show 2 * k + 1 = j by omega] at this)
        have b4 : n - j < n - k := by omega
        by_cases h2 : j2 < n
        · have d3 : decide ((j2 : Int) < (n : Int)) = true := by simp; omega
          have d4 : decide (j2 < n) = true := by simp; omega
          have b3 : j2 < g'.length := by omega
          have L1 := Lib.hid (gap_less GH.out.row j2 j b3 b1 (by omega))
          rw [decide_eq_false (fun c => hch ⟨h2, c⟩)] at L1
          cases hd : decide (Hp.at_ g' j < Hp.at_ g' k) with
          | false =>
            have HD := Lib.hid (of_decide_eq_false hd)
            have HDD := Lib.hid hd
            clear hd hch hj hj2 STEP
            go_wp2_with (first
              | (go_at_call 93; refine L1.out.mono ?_; rintro e w1 ⟨rfl, hb1⟩; have GH1 := Lib.hid (GH.out.below hb1); have hm1 := fun F => lead_less F w1 GH1.out.cell; have L2 := Lib.hid (gap_less GH1.out.row j k b1 b2 (by omega)); rw [HDD.out] at L2; have HB1 := Lib.hid hb1; clear L1 hm hb1)
              | (go_at_call 93; refine L2.out.mono ?_; rintro e w2 ⟨rfl, hb2⟩; have HB2 := Lib.hid hb2; clear hb2))
            go_ret
            exact ⟨_, rfl, FIN.out _ _ LST.out (HB1.out.trans (HB2.out.mono HB1.out.size)) HD.out⟩
          | true =>
            have HD := Lib.hid (of_decide_eq_true hd)
            have HDD := Lib.hid hd
            clear hd hch hj hj2 FIN
            go_wp2_with (first
              | (go_at_call 93; refine L1.out.mono ?_; rintro e w1 ⟨rfl, hb1⟩; have GH1 := Lib.hid (GH.out.below hb1); have hm1 := fun F => lead_less F w1 GH1.out.cell; have L2 := Lib.hid (gap_less GH1.out.row j k b1 b2 (by omega)); rw [HDD.out] at L2; have HB1 := Lib.hid hb1; clear L1 hm hb1)
              | (go_at_call 93; refine L2.out.mono ?_; rintro e w2 ⟨rfl, hb2⟩; have GH2 := Lib.hid (GH1.out.below hb2); have hm2 := fun F => lead_swap F w2 GH2.out.cell; have SW := Lib.hid (gap_swap GH2.out.row k j b2 b1 (by omega)); have HB2 := Lib.hid (HB1.out.trans (hb2.mono HB1.out.size)); clear hb2 hm1 L2)
              | (go_at_call 94; refine SW.out.mono ?_; rintro e w3 ⟨rfl, hi3, hf3⟩; have ST := Lib.hid (STEP.out _ _ _ LST.out HB2.out HD.out hi3 hf3); clear hi3 hf3 hm2))
            go_roundw
            case rel => exact ⟨j, Hp.swap g' k j, rfl, ST.out⟩
            case measure => simp [Lib.intOf]; omega
        · have d3 : decide ((j2 : Int) < (n : Int)) = false := by simp; omega
          have d4 : decide (j2 < n) = false := by simp; omega
          cases hd : decide (Hp.at_ g' j < Hp.at_ g' k) with
          | false =>
            have HD := Lib.hid (of_decide_eq_false hd)
            have L2 := Lib.hid (gap_less GH.out.row j k b1 b2 (by omega))
            rw [hd] at L2
            clear hd hch hj hj2 STEP
            go_wp2_with (go_at_call 93; refine L2.out.mono ?_; rintro e w2 ⟨rfl, hb2⟩; have HB2 := Lib.hid hb2; clear hb2)
            go_ret
            exact ⟨_, rfl, FIN.out _ _ LST.out HB2.out HD.out⟩
          | true =>
            have HD := Lib.hid (of_decide_eq_true hd)
            have L2 := Lib.hid (gap_less GH.out.row j k b1 b2 (by omega))
            rw [hd] at L2
            clear hd hch hj hj2 FIN
            go_wp2_with (first
              | (go_at_call 93; refine L2.out.mono ?_; rintro e w2 ⟨rfl, hb2⟩; have GH2 := Lib.hid (GH.out.below hb2); have hm2 := fun F => lead_swap F w2 GH2.out.cell; have SW := Lib.hid (gap_swap GH2.out.row k j b2 b1 (by omega)); have HB2 := Lib.hid hb2; clear hb2 hm L2)
              | (go_at_call 94; refine SW.out.mono ?_; rintro e w3 ⟨rfl, hi3, hf3⟩; have ST := Lib.hid (STEP.out _ _ _ LST.out HB2.out HD.out hi3 hf3); clear hi3 hf3 hm2))
            go_roundw
            case rel => exact ⟨j, Hp.swap g' k j, rfl, ST.out⟩
            case measure => simp [Lib.intOf]; omega
    · have d1 : decide ((n : Int) ≤ (j : Int)) = true := by simp; omega
      have d2 : decide (n ≤ j) = true := by simp; omega
      have LEAF := Lib.hid (Hp.down_leaf hup.out (by omega))
      clear hj hj2
      go_wp2
      go_ret
      exact ⟨_, rfl, g', ht.out, LEAF.out, hat.out⟩
end Tb
end Go.Proofs.Ytibemiiflibnaaa
