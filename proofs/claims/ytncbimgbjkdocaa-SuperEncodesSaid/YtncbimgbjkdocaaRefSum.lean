/- Contracts of the document's own sum: its bits, its terms, the dividing bit by bit. -/
import Derived.Test.YtncbimgbjkdocaaRefSumMath
import Derived.Test.YtncbimgbjkdocaaOctetPut
import Derived.Outline
import Derived.Laws.AppendOwn
namespace Go.Proofs.Ytncbimgbjkdocaa
open Go.RowKit
set_option maxRecDepth 100000
set_option linter.unusedVariables false

/-- A row of truths. -/
def bools (f : Nat → Bool) (n : Nat) : List Value := (List.range n).map fun j => Value.bool (f j)
theorem bools_succ (f : Nat → Bool) (n : Nat) : bools f (n + 1) = bools f n ++ [.bool (f n)] := by simp [bools, List.range_succ]
theorem bools_get (f : Nat → Bool) (n k : Nat) (h : k < n) : (bools f n)[k]? = some (.bool (f k)) := by simp [bools, h]
theorem bools_set (f : Nat → Bool) (n k : Nat) (b : Bool) : (bools f n).set k (.bool b) = bools (Cm.put1 f k b) n := by
  apply List.ext_getElem
  · simp [bools]
  · intro i h1 h2
    rw [List.getElem_set]
    simp only [bools, List.getElem_map, List.getElem_range, Cm.put1]
    by_cases e : k = i
    · subst e; simp
    · rw [if_neg e, if_neg (fun c => e c.symm)]
theorem info_bool : (Try.prog.info? 4).map (fun i => (i.zero, i.size, i.bytes)) = some (some (.bool false), 1, 1) := by kernel_rfl
theorem obit_in (l : List UInt8) (k m : Nat) (hm : m < 8) (hk : k < (Om.B l).size) : ((((Om.B l)[k].toNat / 2 ^ m : Nat) : Int) % 2 == 1) = Cm.obit l (8 * k + m) := by
  have hk' : k < l.length := hk
  unfold Cm.obit
  rw [show (8 * k + m) / 8 = k by omega, show (8 * k + m) % 8 = m by omega, List.getD_eq_getElem?_getD, List.getElem?_eq_getElem hk', Nat.testBit_eq_decide_div_mod_eq]
  show _ = decide ((l[k]).toNat / 2 ^ m % 2 = 1)
  rw [show (Om.B l)[k] = l[k]'hk' from rfl]
  generalize (l[k]).toNat / 2 ^ m = x
  by_cases h : x % 2 = 1
  · rw [decide_eq_true h, beq_iff_eq]; omega
  · rw [decide_eq_false h, beq_eq_false_iff_ne]; omega

theorem form_of {w : World} {base : Nat} {t : TypeId} {v : Value} {n : Nat} {xs : List Value} (h : w.ownsRow base t 1 v n xs) (hn : 0 < n) : ∃ g c, v = .slice (some ⟨g, 0, none⟩) n c ∧ base ≤ g ∧ g < w.heap.size := by
  rcases h.2 with ⟨_, h0⟩ | ⟨g, c, cur, hv, hb, hg, _⟩
  · omega
  · exact ⟨g, c, hv, hb, (Array.getElem?_eq_some_iff.1 hg).1⟩

set_option maxHeartbeats 800000 in
theorem rbits_any (l : List UInt8) (w : World) (hl : l.length ≤ 1048576) :
    Calls Try.prog 55 #[.string (Om.B l)] w fun e w' => ∃ g c, e = .returned (.slice (some ⟨g, 0, none⟩) (8 * l.length + 32) c) ∧ w'.ownsRow w.heap.size 4 1 (.slice (some ⟨g, 0, none⟩) (8 * l.length + 32) c) (8 * l.length + 32) (bools (Cm.first l) (8 * l.length + 32)) ∧ w.heap.size ≤ g ∧ Below w.heap.size w w' := by
  obtain ⟨i0, hi, hz0, hz1, hz2⟩ := info_parts info_bool
  have hs : (Om.B l).size = l.length := rfl
  obtain ⟨n, hn⟩ : ∃ n, n = (Om.B l).size := ⟨_, rfl⟩
  rw [← hs, ← hn]
  have hn' : n ≤ 1048576 := by omega
  have HN := Lib.hid hn
  have HS := Lib.hid hs
  clear hs hl
  go_enter Try.func55, Try.ntmps55
  go_wp2
  go_loopw [3, 4] (fun v i wr => ∃ k : Nat, k ≤ n ∧ i = .int .i64 k ∧ wr.ownsRow w.heap.size 4 1 v (8 * k) (bools (Cm.obit l) (8 * k)) ∧ Below w.heap.size w wr) (fun _ i _ => n - (intOf i).toNat)
  case atStart => exact ⟨0, Nat.zero_le _, rfl, World.ownsRow_nil _ _ _ _, Below.refl _ _⟩
  case round =>
    obtain ⟨k, hk, rfl, hown, hbel⟩ := hrel
    obtain ⟨wo, rfl⟩ : ∃ wo : World, wo = wr := ⟨_, rfl⟩
    by_cases hlt : k < n
    · have hks : k < (Om.B l).size := by omega
      have hbit := fun m hm => obit_in l k m hm hks
      obtain ⟨b, hb⟩ : ∃ b, b = (Om.B l)[k].toNat := ⟨_, rfl⟩
      have hb8 : b < 256 := by rw [hb]; exact UInt8.toNat_lt _
      rw [← hb] at hbit
      have HBIT := Lib.hid hbit
      have HOWN := Lib.hid hown
      have HBEL := Lib.hid hbel
      have hd : decide ((k : Int) < ((Om.B l).size : Int)) = true := by simp; omega
      clear hbit hown hbel
      go_wp2
      go_loopw [3, 5, 6] (fun v c i wr => ∃ m : Nat, m ≤ 8 ∧ i = .int .i64 m ∧ c = .int .u8 ((b / 2 ^ m : Nat) : Int) ∧ wr.ownsRow w.heap.size 4 1 v (8 * k + m) (bools (Cm.obit l) (8 * k + m)) ∧ Below w.heap.size w wr) (fun _ _ i _ => 8 - (intOf i).toNat)
      case atStart => exact ⟨0, Nat.zero_le _, rfl, by rw [Nat.pow_zero, Nat.div_one, hb], HOWN.out, HBEL.out⟩
      case round =>
        obtain ⟨m, hm, rfl, rfl, hown, hbel⟩ := hrel
        by_cases hmlt : m < 8
        · have hbm := HBIT.out m hmlt
          have hnx : b / 2 ^ (m + 1) = b / 2 ^ m / 2 := by rw [Nat.pow_succ, Nat.div_div_eq_div_mul]
          have hx8 : b / 2 ^ m < 256 := Nat.lt_of_le_of_lt (Nat.div_le_self _ _) hb8
          obtain ⟨x, hx⟩ : ∃ x, x = b / 2 ^ m := ⟨_, rfl⟩
          rw [← hx] at hbm hnx hx8 ⊢
          have HNX := Lib.hid hnx
          have HB := Lib.hid hbel
          have hsz := hbel.size
          clear hnx hx hbel
          go_wp2_with (first | (at_builtin; refine wpList_append_own _ rfl _ _ 92 rfl w.heap.size 4 i0 (.bool false) 1 1 Try.underlying92 hi hz0 hz1 hz2 rfl (by decide) _ _ _ rfl (hown.alloc _) ⟨wr.heap.size, 0, none⟩ 1 1 [.bool (Cm.obit l (8 * k + m))] rfl rfl ?c1 ?c2 ?c3 ?c4 ?c5 ?_))
          case c1 =>
            intro q u hq
            match q, hq with
            | 0, hq => simp at hq; subst hq; simp [Addr.add]
          case c2 => intro u hu; simp at hu; subst hu; rfl
          case c3 => unfold maxLen; omega
          case c4 => omega
          case c5 => simp; omega
          intro v' w1 hown' hgrow _
          have hbel1 : Below w.heap.size w w1 := (HB.out.alloc hsz _).grown hgrow (by simp; omega) (fun q hq => (hown.lt q hq).1)
          rw [← bools_succ] at hown'
          have HB1 := Lib.hid hbel1
          have HO1 := Lib.hid hown'
          clear hgrow hown hbel1 hown'
          go_wp2
          go_roundw
          case rel => exact ⟨m + 1, by omega, by go_num, by rw [HNX.out]; go_num, HO1.out, HB1.out⟩
          case measure => simp [intOf]; omega
        · obtain rfl : m = 8 := by omega
          have HO := Lib.hid hown
          have HB := Lib.hid hbel
          clear hown hbel
          go_wp2
          go_roundw
          case rel => exact ⟨k + 1, by omega, by go_num, HO.out, HB.out⟩
          case measure => simp [intOf]; omega
    · obtain rfl : k = n := by omega
      have HOWN := Lib.hid hown
      have HBEL := Lib.hid hbel
      have hdn : ¬ k < (Om.B l).size := by omega
      clear hown hbel hlt hn
      go_wp2
      go_loopw [3, 7] (fun v i wr => ∃ m : Nat, m ≤ 32 ∧ i = .int .i64 m ∧ wr.ownsRow w.heap.size 4 1 v (8 * k + m) (bools (Cm.obit l) (8 * k + m)) ∧ Below w.heap.size w wr) (fun _ i _ => 32 - (intOf i).toNat)
      case atStart => exact ⟨0, Nat.zero_le _, rfl, HOWN.out, HBEL.out⟩
      case round =>
        obtain ⟨m, hm, rfl, hown, hbel⟩ := hrel
        by_cases hmlt : m < 32
        · have hob : Cm.obit l (8 * k + m) = false := Cm.obit_out l _ (by have := HN.out; have := HS.out; omega)
          have HOB := Lib.hid hob
          have HB := Lib.hid hbel
          have hsz := hbel.size
          clear hob hbel
          go_wp2_with (first | (at_builtin; refine wpList_append_own _ rfl _ _ 92 rfl w.heap.size 4 i0 (.bool false) 1 1 Try.underlying92 hi hz0 hz1 hz2 rfl (by decide) _ _ _ rfl (hown.alloc _) ⟨wr.heap.size, 0, none⟩ 1 1 [.bool false] rfl rfl ?c1 ?c2 ?c3 ?c4 ?c5 ?_))
          case c1 =>
            intro q u hq
            match q, hq with
            | 0, hq => simp at hq; subst hq; simp [Addr.add]
          case c2 => intro u hu; simp at hu; subst hu; rfl
          case c3 => unfold maxLen; omega
          case c4 => omega
          case c5 => simp; omega
          intro v' w1 hown' hgrow _
          have hbel1 : Below w.heap.size w w1 := (HB.out.alloc hsz _).grown hgrow (by simp; omega) (fun q hq => (hown.lt q hq).1)
          rw [← HOB.out, ← bools_succ] at hown'
          have HB1 := Lib.hid hbel1
          have HO1 := Lib.hid hown'
          clear hgrow hown hbel1 hown'
          go_wp2
          go_roundw
          case rel => exact ⟨m + 1, by omega, by go_num, HO1.out, HB1.out⟩
          case measure => simp [intOf]; omega
        · obtain rfl : m = 32 := by omega
          obtain ⟨g, c, rfl, hbg, hgl⟩ := form_of hown (by omega)
          have hfst : bools (Cm.obit l) (8 * k + 32) = bools (fun j => Cm.obit l j ^^ decide (j < 0)) (8 * k + 32) := by simp
          rw [hfst] at hown
          have HO := Lib.hid hown
          have HB := Lib.hid hbel
          obtain ⟨N, hN⟩ : ∃ N, N = 8 * k + 32 := ⟨_, rfl⟩
          have hN32 : 32 ≤ N := by omega
          rw [← hN] at HO ⊢
          have HNE := Lib.hid hN
          clear hown hbel hfst hN
          go_wp2
          go_loopw [8] (fun i wr => ∃ m : Nat, m ≤ 32 ∧ i = .int .i64 m ∧ wr.ownsRow w.heap.size 4 1 (.slice (some ⟨g, 0, none⟩) N c) N (bools (fun j => Cm.obit l j ^^ decide (j < m)) N) ∧ Below w.heap.size w wr) (fun i _ => 32 - (intOf i).toNat)
          case atStart => exact ⟨0, Nat.zero_le _, rfl, HO.out, HB.out⟩
          case round =>
            obtain ⟨m, hm, rfl, hown, hbel⟩ := hrel
            by_cases hmlt : m < 32
            · have hcell : wr.cell? ⟨g, m, none⟩ = some (.bool (Cm.obit l m)) := by
                rw [hown.cellAt m (by omega), bools_get _ _ _ (by omega)]
                simp
              have hfz := hown.frozenAt m
              have hst := hown.stored m (.bool (!Cm.obit l m))
              have hnew : bools (Cm.put1 (fun j => Cm.obit l j ^^ decide (j < m)) m (!Cm.obit l m)) N = bools (fun j => Cm.obit l j ^^ decide (j < m + 1)) N := by
                congr 1
                funext j
                unfold Cm.put1
                by_cases e : j = m
                · rw [if_pos e, e]; simp
                · rw [if_neg e]
                  have : (j < m) ↔ (j < m + 1) := by omega
                  simp only [this]
              rw [bools_set, hnew] at hst
              have HS := Lib.hid hst
              have HB1 := Lib.hid hbel
              obtain ⟨o, ho⟩ : ∃ o, o = Cm.obit l m := ⟨_, rfl⟩
              rw [← ho] at hcell HS
              clear hst hown hnew hbel ho
              go_wp2
              go_roundw
              case rel => exact ⟨m + 1, by omega, by go_num, HS.out.1, HB1.out.setCell (p := ⟨g, m, none⟩) hbg _⟩
              case measure => simp [intOf]; omega
            · obtain rfl : m = 32 := by omega
              have HO1 := Lib.hid hown
              have HB1 := Lib.hid hbel
              clear hown hbel
              go_wp2
              go_ret
              exact ⟨g, c, by rw [← HNE.out]; rfl, by rw [← HNE.out]; exact HO1.out, hbg, HB1.out⟩

/-- The terms' cells. -/
def termCells : Array Value := (Cm.termL.map fun (x : Nat) => Value.int .i64 (x : Int)).toArray
theorem termCells_at (k : Nat) (h : k < 14) : termCells[k]? = some (.int .i64 (Cm.term k : Int)) := by
  have : ∀ k : Fin 14, termCells[k.val]? = some (.int .i64 (Cm.term k.val : Int)) := by
    intro k
    unfold termCells Cm.term
    rw [List.getElem?_toArray, List.getElem?_map, List.getD_eq_getElem?_getD, List.getElem?_eq_getElem (show k.val < Cm.termL.length from k.isLt)]
    rfl
  exact this ⟨k, h⟩
theorem rterms_any (w : World) : Calls Try.prog 56 #[] w fun e w' => e = .returned (.slice (some ⟨w.heap.size, 0, none⟩) 14 14) ∧ w' = w.alloc (.cells termCells 3) := by
  go_enter Try.func56, Try.ntmps56
  go_wp2
  go_ret
  exact ⟨rfl, rfl⟩

set_option maxHeartbeats 800000 in
theorem rsum_any (l : List UInt8) (w : World) (hl : l.length ≤ 1048576) :
    Calls Try.prog 44 #[.string (Om.B l)] w fun e w' => e = .returned (.int .u32 (Cm.sum l : Int)) ∧ Below w.heap.size w w' := by
  obtain ⟨N8, hN8⟩ : ∃ n, n = 8 * l.length := ⟨_, rfl⟩
  obtain ⟨N, hN⟩ : ∃ n, n = 8 * l.length + 32 := ⟨_, rfl⟩
  have hbits := rbits_any l w hl
  have hsum := Cm.sum_bit l
  have hs := Cm.sum_lt l
  rw [← hN8] at hsum
  rw [← hN] at hbits
  have hNN : N = N8 + 32 := by omega
  have hNle : N ≤ 8388640 := by omega
  obtain ⟨s, hse⟩ : ∃ s, s = Cm.sum l := ⟨_, rfl⟩
  rw [← hse] at hs hsum ⊢
  have C := Lib.hid hbits
  have HSUM := Lib.hid hsum
  clear hbits hsum hN8 hN hl hse
  go_enter Try.func44, Try.ntmps44
  go_wp2_with fail
  refine C.out.mono ?_
  rintro e w1 ⟨g, c, rfl, hown, hbg, hb1⟩
  have HO1 := Lib.hid hown
  have HB1 := Lib.hid hb1
  have hgw := (hown.lt g rfl).2
  clear hown hb1
  go_wp2_with fail
  refine (rterms_any _).mono ?_
  rintro e w2 ⟨rfl, hw2⟩
  obtain ⟨T, hT⟩ : ∃ T, T = w1.heap.size := ⟨_, rfl⟩
  have hgT : g < T := by omega
  have hown2 : w2.ownsRow w.heap.size 4 1 (.slice (some ⟨g, 0, none⟩) N c) N (bools (Cm.gone (Cm.first l) 0) N) := by rw [hw2]; exact HO1.out.alloc _
  have hbel2 : Below w.heap.size w w2 := by rw [hw2]; exact HB1.out.alloc HB1.out.size _
  have hterm2 : ∀ m, m < 14 → w2.cell? ⟨T, m, none⟩ = some (.int .i64 (Cm.term m : Int)) := fun m hm => by
    rw [hw2, hT, ← termCells_at m hm]
    simp
  have HO2 := Lib.hid hown2
  have HB2 := Lib.hid hbel2
  have HT2 := Lib.hid hterm2
  rw [← hT]
  clear hown2 hbel2 hterm2 hw2 hT HO1 HB1 hgw
  go_wp2
  go_loopw [5] (fun i wr => ∃ k : Nat, k ≤ N8 ∧ i = .int .i64 k ∧ wr.ownsRow w.heap.size 4 1 (.slice (some ⟨g, 0, none⟩) N c) N (bools (Cm.gone (Cm.first l) k) N) ∧ Below w.heap.size w wr ∧ Hid (∀ m, m < 14 → wr.cell? ⟨T, m, none⟩ = some (.int .i64 (Cm.term m : Int)))) (fun i _ => N8 - (intOf i).toNat)
  case atStart => exact ⟨0, Nat.zero_le _, rfl, HO2.out, HB2.out, HT2⟩
  case round =>
    obtain ⟨k, hk, rfl, hown, hbel, HT⟩ := hrel
    obtain ⟨wo, rfl⟩ : ∃ wo : World, wo = wr := ⟨_, rfl⟩
    by_cases hlt : k < N8
    · have hcell : wo.cell? ⟨g, k, none⟩ = some (.bool (Cm.gone (Cm.first l) k k)) := by rw [hown.cellAt k (by omega), bools_get _ _ _ (by omega)]
      have hd : decide ((k : Int) + 32 < (N : Int)) = true := by simp; omega
      have hkN : k < N := by omega
      cases hgb : Cm.gone (Cm.first l) k k with
      | false =>
        have hnx : Cm.gone (Cm.first l) (k + 1) = Cm.gone (Cm.first l) k := by rw [Cm.gone, hgb]; rfl
        rw [hgb] at hcell
        have HNX := Lib.hid hnx
        have HO := Lib.hid hown
        have HB := Lib.hid hbel
        clear hnx hgb hown hbel
        go_wp2
        go_roundw
        case rel => exact ⟨k + 1, by omega, by go_num, by rw [HNX.out]; exact HO.out, HB.out, HT⟩
        case measure => simp [intOf]; omega
      | true =>
        have hnx : Cm.gone (Cm.first l) (k + 1) = Cm.flips (Cm.put1 (Cm.gone (Cm.first l) k) k false) k 14 := by rw [Cm.gone, hgb]; rfl
        rw [hgb] at hcell
        have hfz := hown.frozenAt k
        have hst := hown.stored k (.bool false)
        rw [bools_set] at hst
        obtain ⟨f0, hf0⟩ : ∃ f0, f0 = Cm.put1 (Cm.gone (Cm.first l) k) k false := ⟨_, rfl⟩
        rw [← hf0] at hst hnx
        have hb1 := hbel.setCell (p := ⟨g, k, none⟩) hbg (.bool false)
        have ht1 : ∀ m, m < 14 → (wo.setCell ⟨g, k, none⟩ (.bool false)).cell? ⟨T, m, none⟩ = some (.int .i64 (Cm.term m : Int)) := fun m hm => by
          rw [World.cell?_setCell_other wo _ _ _ (by intro c; injection c; omega), HT.out m hm]
        have HNX := Lib.hid hnx
        have HO := Lib.hid hst.1
        have HB := Lib.hid hb1
        have HT1 := Lib.hid ht1
        clear hnx hgb hown hbel hst hb1 ht1 hf0
        go_wp2
        go_loopw [6] (fun i wr => ∃ m : Nat, m ≤ 14 ∧ i = .int .i64 m ∧ wr.ownsRow w.heap.size 4 1 (.slice (some ⟨g, 0, none⟩) N c) N (bools (Cm.flips f0 k m) N) ∧ Below w.heap.size w wr ∧ Hid (∀ m, m < 14 → wr.cell? ⟨T, m, none⟩ = some (.int .i64 (Cm.term m : Int)))) (fun i _ => 14 - (intOf i).toNat)
        case atStart => exact ⟨0, Nat.zero_le _, rfl, HO.out, HB.out, HT1⟩
        case round =>
          obtain ⟨m, hm, rfl, hown, hbel, HT⟩ := hrel
          by_cases hmlt : m < 14
          · have htc := HT.out m hmlt
            have htl := Cm.term_le m
            obtain ⟨J, hJ⟩ : ∃ J : Nat, J = k + 32 - Cm.term m := ⟨_, rfl⟩
            have hnx : Cm.flips f0 k (m + 1) = Cm.flip (Cm.flips f0 k m) J := by rw [Cm.flips, hJ]
            have hJi : (k : Int) + 32 - (Cm.term m : Int) = (J : Int) := by omega
            have hJN : J < N := by omega
            have hcJ : wr.cell? ⟨g, J, none⟩ = some (.bool (Cm.flips f0 k m J)) := by rw [hown.cellAt J (by omega), bools_get _ _ _ hJN]
            have hfJ := hown.frozenAt J
            have hst := hown.stored J (.bool (!Cm.flips f0 k m J))
            rw [bools_set, Cm.flip_put, ← hnx] at hst
            obtain ⟨o, ho⟩ : ∃ o, o = Cm.flips f0 k m J := ⟨_, rfl⟩
            rw [← ho] at hst hcJ
            have hb1 := hbel.setCell (p := ⟨g, J, none⟩) hbg (.bool (!o))
            have ht1 : ∀ m, m < 14 → (wr.setCell ⟨g, J, none⟩ (.bool (!o))).cell? ⟨T, m, none⟩ = some (.int .i64 (Cm.term m : Int)) := fun m hm => by
              rw [World.cell?_setCell_other wr _ _ _ (by intro c; injection c; omega), HT.out m hm]
            have HO := Lib.hid hst.1
            have HB := Lib.hid hb1
            have HT1 := Lib.hid ht1
            have hd : decide ((m : Int) < 14) = true := by simp; omega
            obtain ⟨tm, htm⟩ : ∃ tm, tm = Cm.term m := ⟨_, rfl⟩
            rw [← htm] at htc hJi htl
            clear hnx hown hbel hst hb1 ht1 ho hJ htm
            go_wp2
            go_roundw
            case rel => exact ⟨m + 1, by omega, by go_num, HO.out, HB.out, HT1⟩
            case measure => simp [intOf]; omega
          · obtain rfl : m = 14 := by omega
            have HO := Lib.hid hown
            have HB := Lib.hid hbel
            clear hown hbel
            go_wp2
            go_roundw
            case rel => exact ⟨k + 1, by omega, by go_num, by rw [HNX.out]; exact HO.out, HB.out, HT⟩
            case measure => simp [intOf]; omega
    · obtain rfl : k = N8 := by omega
      have hd : decide ((k : Int) + 32 < (N : Int)) = false := by simp; omega
      have HO := Lib.hid hown
      have HB := Lib.hid hbel
      clear hown hbel
      go_wp2
      go_loop [8, 9] (fun n i => ∃ m : Nat, m ≤ 32 ∧ i = .int .i64 ((N : Int) - 1 - (m : Int)) ∧ n = .int .u32 ((s / 2 ^ (32 - m) : Nat) : Int)) (fun _ i => (intOf i + 1 - (k : Int)).toNat)
      case atStart => exact ⟨0, Nat.zero_le _, by go_num, by rw [Nat.div_eq_of_lt (by omega)]; rfl⟩
      case round =>
        obtain ⟨m, hm, rfl, rfl⟩ := hrel
        by_cases hmlt : m < 32
        · have hnx := Cm.top_next s m hmlt
          have hbit := HSUM.out (31 - m) (by omega)
          have hlt2 : s / 2 ^ (32 - m) < 2147483648 := by
            have h1 : s / 2 ^ (32 - (m + 1)) < 4294967296 := Nat.lt_of_le_of_lt (Nat.div_le_self _ _) hs
            omega
          obtain ⟨x, hx⟩ : ∃ x, x = s / 2 ^ (32 - m) := ⟨_, rfl⟩
          obtain ⟨J, hJ⟩ : ∃ J : Nat, J = k + (31 - m) := ⟨_, rfl⟩
          have hJi : (N : Int) - 1 - (m : Int) = (J : Int) := by omega
          have hJk : (N : Int) - 32 ≤ (J : Int) := by omega
          have hJN : J < N := by omega
          have hJm : (J : Int) - 1 = (N : Int) - 1 - ((m + 1 : Nat) : Int) := by omega
          have hcJ : wo.cell? ⟨g, J, none⟩ = some (.bool (Cm.gone (Cm.first l) k J)) := by rw [HO.out.cellAt J (by omega), bools_get _ _ _ hJN]
          rw [← hJ] at hbit
          rw [← hx] at hnx hlt2 ⊢
          obtain ⟨o, ho⟩ : ∃ o, o = Cm.gone (Cm.first l) k J := ⟨_, rfl⟩
          rw [← ho] at hcJ hbit
          rw [← hbit] at hnx
          rw [hJi]
          have HNX := Lib.hid hnx
          have HJM := Lib.hid hJm
          clear hbit hnx hJi ho hx hJ hJm
          cases o with
          | true =>
            go_wp2
            go_round
            case rel => exact ⟨m + 1, by omega, by rw [← HJM.out], by rw [HNX.out]; go_num⟩
            case measure => simp [intOf]; omega
          | false =>
            go_wp2
            go_round
            case rel => exact ⟨m + 1, by omega, by rw [← HJM.out], by rw [HNX.out]; go_num⟩
            case measure => simp [intOf]; omega
        · obtain rfl : m = 32 := by omega
          go_wp2
          go_ret
          exact ⟨by simp, HB.out⟩
end Go.Proofs.Ytncbimgbjkdocaa
