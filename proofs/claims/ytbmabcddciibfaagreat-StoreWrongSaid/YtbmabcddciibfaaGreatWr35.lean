/- Part 35 of the contracts and of the plain mathematics that the proof of the law rests on: RefSum, OctetRPut, OctetRPad, RefSeal, OctetRJoin, SecRef, HeadRef. -/
import Derived.Test.YtbmabcddciibfaaGreatWr10
import Derived.Test.YtbmabcddciibfaaGreatWr11
import Derived.Test.YtbmabcddciibfaaGreatWr26
import Derived.Test.YtbmabcddciibfaaGreatWr27
import Derived.Test.YtbmabcddciibfaaGreatWr34
import Derived.Outline
import Derived.Laws.AppendOwn
import Derived.Deep.RegionHeld3
import Derived.Deep.QuietTactic
import Derived.BigQuiet
namespace Go.Proofs.YtbmabcddciibfaaGreat
open Go.RowKit
set_option maxRecDepth 100000
set_option linter.unusedVariables false
def bools (f : Nat → Bool) (n : Nat) : List Value := (List.range n).map fun j => Value.bool (f j)
theorem bools_succ (f : Nat → Bool) (n : Nat) : bools f (n + 1) = bools f n ++ [.bool (f n)] := by simp [bools, List.range_succ]
theorem bools_get (f : Nat → Bool) (n k : Nat) (h : k < n) : (bools f n)[k]? = some (.bool (f k)) := by simp [bools, h]
theorem bools_set (f : Nat → Bool) (n k : Nat) (b : Bool) : (bools f n).set k (.bool b) = bools (Cm.put1 f k b) n := by
  apply List.ext_getElem
  · simp [bools]
  · intro i h1 h2
    rw [List.getElem_set]
    simp only [bools, List.getElem_map, List.getElem_range, Cm.put1]
    by_cases e : k = i
    · subst e; simp
    · rw [if_neg e, if_neg (fun c => e c.symm)]
theorem info_bool : (Tryz.prog.info? 4).map (fun i => (i.zero, i.size, i.bytes)) = some (some (.bool false), 1, 1) := by kernel_rfl
theorem obit_in (l : List UInt8) (k m : Nat) (hm : m < 8) (hk : k < (Om.B l).size) : ((((Om.B l)[k].toNat / 2 ^ m : Nat) : Int) % 2 == 1) = Cm.obit l (8 * k + m) := by
  have hk' : k < l.length := hk
  unfold Cm.obit
  rw [show (8 * k + m) / 8 = k by omega, show (8 * k + m) % 8 = m by omega, List.getD_eq_getElem?_getD, List.getElem?_eq_getElem hk', Nat.testBit_eq_decide_div_mod_eq]
  show _ = decide ((l[k]).toNat / 2 ^ m % 2 = 1)
  rw [show (Om.B l)[k] = l[k]'hk' from rfl]
  generalize (l[k]).toNat / 2 ^ m = x
  by_cases h : x % 2 = 1
  · rw [decide_eq_true h, beq_iff_eq]; omega
  · rw [decide_eq_false h, beq_eq_false_iff_ne]; omega
theorem form_of {w : World} {base : Nat} {t : TypeId} {v : Value} {n : Nat} {xs : List Value} (h : w.ownsRow base t 1 v n xs) (hn : 0 < n) : ∃ g c, v = .slice (some ⟨g, 0, none⟩) n c ∧ base ≤ g ∧ g < w.heap.size := by
  rcases h.2 with ⟨_, h0⟩ | ⟨g, c, cur, hv, hb, hg, _⟩
  · omega
  · exact ⟨g, c, hv, hb, (Array.getElem?_eq_some_iff.1 hg).1⟩
set_option maxHeartbeats 800000 in
theorem rbits_any (l : List UInt8) (w : World) (hl : l.length ≤ 1048576) :
    Calls Tryz.prog 167 #[.string (Om.B l)] w fun e w' => ∃ g c, e = .returned (.slice (some ⟨g, 0, none⟩) (8 * l.length + 32) c) ∧ w'.ownsRow w.heap.size 4 1 (.slice (some ⟨g, 0, none⟩) (8 * l.length + 32) c) (8 * l.length + 32) (bools (Cm.first l) (8 * l.length + 32)) ∧ w.heap.size ≤ g ∧ Below w.heap.size w w' := by
  obtain ⟨i0, hi, hz0, hz1, hz2⟩ := info_parts info_bool
  have hs : (Om.B l).size = l.length := rfl
  obtain ⟨n, hn⟩ : ∃ n, n = (Om.B l).size := ⟨_, rfl⟩
  rw [← hs, ← hn]
  have hn' : n ≤ 1048576 := by omega
  have HN := Lib.hid hn
  have HS := Lib.hid hs
  clear hs hl
  go_enter Tryz.func167, Tryz.ntmps167
  go_wp2
  go_loopw [3, 4] (fun v i wr => ∃ k : Nat, k ≤ n ∧ i = .int .i64 k ∧ wr.ownsRow w.heap.size 4 1 v (8 * k) (bools (Cm.obit l) (8 * k)) ∧ Below w.heap.size w wr) (fun _ i _ => n - (Go.RowKit.intOf i).toNat)
  case atStart => exact ⟨0, Nat.zero_le _, rfl, World.ownsRow_nil _ _ _ _, Below.refl _ _⟩
  case round =>
    obtain ⟨k, hk, rfl, hown, hbel⟩ := hrel
    obtain ⟨wo, rfl⟩ : ∃ wo : World, wo = wr := ⟨_, rfl⟩
    by_cases hlt : k < n
    · have hks : k < (Om.B l).size := by omega
      have hbit := fun m hm => obit_in l k m hm hks
      obtain ⟨b, hb⟩ : ∃ b, b = (Om.B l)[k].toNat := ⟨_, rfl⟩
      have hb8 : b < 256 := by rw [hb]; exact UInt8.toNat_lt _
      rw [← hb] at hbit
      have HBIT := Lib.hid hbit
      have HOWN := Lib.hid hown
      have HBEL := Lib.hid hbel
      have hd : decide ((k : Int) < ((Om.B l).size : Int)) = true := by simp; omega
      clear hbit hown hbel
      go_wp2
      go_loopw [3, 5, 6] (fun v c i wr => ∃ m : Nat, m ≤ 8 ∧ i = .int .i64 m ∧ c = .int .u8 ((b / 2 ^ m : Nat) : Int) ∧ wr.ownsRow w.heap.size 4 1 v (8 * k + m) (bools (Cm.obit l) (8 * k + m)) ∧ Below w.heap.size w wr) (fun _ _ i _ => 8 - (Go.RowKit.intOf i).toNat)
      case atStart => exact ⟨0, Nat.zero_le _, rfl, by rw [Nat.pow_zero, Nat.div_one, hb], HOWN.out, HBEL.out⟩
      case round =>
        obtain ⟨m, hm, rfl, rfl, hown, hbel⟩ := hrel
        by_cases hmlt : m < 8
        · have hbm := HBIT.out m hmlt
          have hnx : b / 2 ^ (m + 1) = b / 2 ^ m / 2 := by rw [Nat.pow_succ, Nat.div_div_eq_div_mul]
          have hx8 : b / 2 ^ m < 256 := Nat.lt_of_le_of_lt (Nat.div_le_self _ _) hb8
          obtain ⟨x, hx⟩ : ∃ x, x = b / 2 ^ m := ⟨_, rfl⟩
          rw [← hx] at hbm hnx hx8 ⊢
          have HNX := Lib.hid hnx
          have HB := Lib.hid hbel
          have hsz := hbel.size
          clear hnx hx hbel
          go_wp2_with (first | (at_builtin; refine wpList_append_own _ rfl _ _ 32 rfl w.heap.size 4 i0 (.bool false) 1 1 Tryz.underlying32 hi hz0 hz1 hz2 rfl (by decide) _ _ _ rfl (hown.alloc _) ⟨wr.heap.size, 0, none⟩ 1 1 [.bool (Cm.obit l (8 * k + m))] rfl rfl ?c1 ?c2 ?c3 ?c4 ?c5 ?_))
          case c1 =>
            intro q u hq
            match q, hq with
            | 0, hq => simp at hq; subst hq; simp [Addr.add]
          case c2 => intro u hu; simp at hu; subst hu; rfl
          case c3 => unfold maxLen; omega
          case c4 => omega
          case c5 => simp; omega
          intro v' w1 hown' hgrow _
          have hbel1 : Below w.heap.size w w1 := (HB.out.alloc hsz _).grown hgrow (by simp; omega) (fun q hq => (hown.lt q hq).1)
          rw [← bools_succ] at hown'
          have HB1 := Lib.hid hbel1
          have HO1 := Lib.hid hown'
          clear hgrow hown hbel1 hown'
          go_wp2
          go_roundw
          case rel => exact ⟨m + 1, by omega, by go_num, by rw [HNX.out]; go_num, HO1.out, HB1.out⟩
          case measure => simp [Go.RowKit.intOf]; omega
        · obtain rfl : m = 8 := by omega
          have HO := Lib.hid hown
          have HB := Lib.hid hbel
          clear hown hbel
          go_wp2
          go_roundw
          case rel => exact ⟨k + 1, by omega, by go_num, HO.out, HB.out⟩
          case measure => simp [Go.RowKit.intOf]; omega
    · obtain rfl : k = n := by omega
      have HOWN := Lib.hid hown
      have HBEL := Lib.hid hbel
      have hdn : ¬ k < (Om.B l).size := by omega
      clear hown hbel hlt hn
      go_wp2
      go_loopw [3, 7] (fun v i wr => ∃ m : Nat, m ≤ 32 ∧ i = .int .i64 m ∧ wr.ownsRow w.heap.size 4 1 v (8 * k + m) (bools (Cm.obit l) (8 * k + m)) ∧ Below w.heap.size w wr) (fun _ i _ => 32 - (Go.RowKit.intOf i).toNat)
      case atStart => exact ⟨0, Nat.zero_le _, rfl, HOWN.out, HBEL.out⟩
      case round =>
        obtain ⟨m, hm, rfl, hown, hbel⟩ := hrel
        by_cases hmlt : m < 32
        · have hob : Cm.obit l (8 * k + m) = false := Cm.obit_out l _ (by have := HN.out; have := HS.out; omega)
          have HOB := Lib.hid hob
          have HB := Lib.hid hbel
          have hsz := hbel.size
          clear hob hbel
          go_wp2_with (first | (at_builtin; refine wpList_append_own _ rfl _ _ 32 rfl w.heap.size 4 i0 (.bool false) 1 1 Tryz.underlying32 hi hz0 hz1 hz2 rfl (by decide) _ _ _ rfl (hown.alloc _) ⟨wr.heap.size, 0, none⟩ 1 1 [.bool false] rfl rfl ?c1 ?c2 ?c3 ?c4 ?c5 ?_))
          case c1 =>
            intro q u hq
            match q, hq with
            | 0, hq => simp at hq; subst hq; simp [Addr.add]
          case c2 => intro u hu; simp at hu; subst hu; rfl
          case c3 => unfold maxLen; omega
          case c4 => omega
          case c5 => simp; omega
          intro v' w1 hown' hgrow _
          have hbel1 : Below w.heap.size w w1 := (HB.out.alloc hsz _).grown hgrow (by simp; omega) (fun q hq => (hown.lt q hq).1)
          rw [← HOB.out, ← bools_succ] at hown'
          have HB1 := Lib.hid hbel1
          have HO1 := Lib.hid hown'
          clear hgrow hown hbel1 hown'
          go_wp2
          go_roundw
          case rel => exact ⟨m + 1, by omega, by go_num, HO1.out, HB1.out⟩
          case measure => simp [Go.RowKit.intOf]; omega
        · obtain rfl : m = 32 := by omega
          obtain ⟨g, c, rfl, hbg, hgl⟩ := form_of hown (by omega)
          have hfst : bools (Cm.obit l) (8 * k + 32) = bools (fun j => Cm.obit l j ^^ decide (j < 0)) (8 * k + 32) := by simp
          rw [hfst] at hown
          have HO := Lib.hid hown
          have HB := Lib.hid hbel
          obtain ⟨N, hN⟩ : ∃ N, N = 8 * k + 32 := ⟨_, rfl⟩
          have hN32 : 32 ≤ N := by omega
          rw [← hN] at HO ⊢
          have HNE := Lib.hid hN
          clear hown hbel hfst hN
          go_wp2
          go_loopw [8] (fun i wr => ∃ m : Nat, m ≤ 32 ∧ i = .int .i64 m ∧ wr.ownsRow w.heap.size 4 1 (.slice (some ⟨g, 0, none⟩) N c) N (bools (fun j => Cm.obit l j ^^ decide (j < m)) N) ∧ Below w.heap.size w wr) (fun i _ => 32 - (Go.RowKit.intOf i).toNat)
          case atStart => exact ⟨0, Nat.zero_le _, rfl, HO.out, HB.out⟩
          case round =>
            obtain ⟨m, hm, rfl, hown, hbel⟩ := hrel
            by_cases hmlt : m < 32
            · have hcell : wr.cell? ⟨g, m, none⟩ = some (.bool (Cm.obit l m)) := by
                rw [hown.cellAt m (by omega), bools_get _ _ _ (by omega)]
                simp
              have hfz := hown.frozenAt m
              have hst := hown.stored m (.bool (!Cm.obit l m))
              have hnew : bools (Cm.put1 (fun j => Cm.obit l j ^^ decide (j < m)) m (!Cm.obit l m)) N = bools (fun j => Cm.obit l j ^^ decide (j < m + 1)) N := by
                congr 1
                funext j
                unfold Cm.put1
                by_cases e : j = m
                · rw [if_pos e, e]; simp
                · rw [if_neg e]
                  have : (j < m) ↔ (j < m + 1) := by omega
                  simp only [this]
              rw [bools_set, hnew] at hst
              have HS := Lib.hid hst
              have HB1 := Lib.hid hbel
              obtain ⟨o, ho⟩ : ∃ o, o = Cm.obit l m := ⟨_, rfl⟩
              rw [← ho] at hcell HS
              clear hst hown hnew hbel ho
              go_wp2
              go_roundw
              case rel => exact ⟨m + 1, by omega, by go_num, HS.out.1, HB1.out.setCell (p := ⟨g, m, none⟩) hbg _⟩
              case measure => simp [Go.RowKit.intOf]; omega
            · obtain rfl : m = 32 := by omega
              have HO1 := Lib.hid hown
              have HB1 := Lib.hid hbel
              clear hown hbel
              go_wp2
              go_ret
              exact ⟨g, c, by rw [← HNE.out]; rfl, by rw [← HNE.out]; exact HO1.out, hbg, HB1.out⟩
def termCells : Array Value := (Cm.termL.map fun (x : Nat) => Value.int .i64 (x : Int)).toArray
theorem termCells_at (k : Nat) (h : k < 14) : termCells[k]? = some (.int .i64 (Cm.term k : Int)) := by
  have : ∀ k : Fin 14, termCells[k.val]? = some (.int .i64 (Cm.term k.val : Int)) := by
    intro k
    unfold termCells Cm.term
    rw [List.getElem?_toArray, List.getElem?_map, List.getD_eq_getElem?_getD, List.getElem?_eq_getElem (show k.val < Cm.termL.length from k.isLt)]
    rfl
  exact this ⟨k, h⟩
theorem rterms_any (w : World) : Calls Tryz.prog 168 #[] w fun e w' => e = .returned (.slice (some ⟨w.heap.size, 0, none⟩) 14 14) ∧ w' = w.alloc (.cells termCells 3) := by
  go_enter Tryz.func168, Tryz.ntmps168
  go_wp2
  go_ret
  exact ⟨rfl, rfl⟩
set_option maxHeartbeats 800000 in
theorem rsum_any (l : List UInt8) (w : World) (hl : l.length ≤ 1048576) :
    Calls Tryz.prog 144 #[.string (Om.B l)] w fun e w' => e = .returned (.int .u32 (Cm.sum l : Int)) ∧ Below w.heap.size w w' := by
  obtain ⟨N8, hN8⟩ : ∃ n, n = 8 * l.length := ⟨_, rfl⟩
  obtain ⟨N, hN⟩ : ∃ n, n = 8 * l.length + 32 := ⟨_, rfl⟩
  have hbits := rbits_any l w hl
  have hsum := Cm.sum_bit l
  have hs := Cm.sum_lt l
  rw [← hN8] at hsum
  rw [← hN] at hbits
  have hNN : N = N8 + 32 := by omega
  have hNle : N ≤ 8388640 := by omega
  obtain ⟨s, hse⟩ : ∃ s, s = Cm.sum l := ⟨_, rfl⟩
  rw [← hse] at hs hsum ⊢
  have C := Lib.hid hbits
  have HSUM := Lib.hid hsum
  clear hbits hsum hN8 hN hl hse
  go_enter Tryz.func144, Tryz.ntmps144
  go_wp2_with fail
  refine C.out.mono ?_
  rintro e w1 ⟨g, c, rfl, hown, hbg, hb1⟩
  have HO1 := Lib.hid hown
  have HB1 := Lib.hid hb1
  have hgw := (hown.lt g rfl).2
  clear hown hb1
  go_wp2_with fail
  refine (rterms_any _).mono ?_
  rintro e w2 ⟨rfl, hw2⟩
  obtain ⟨T, hT⟩ : ∃ T, T = w1.heap.size := ⟨_, rfl⟩
  have hgT : g < T := by omega
  have hown2 : w2.ownsRow w.heap.size 4 1 (.slice (some ⟨g, 0, none⟩) N c) N (bools (Cm.gone (Cm.first l) 0) N) := by rw [hw2]; exact HO1.out.alloc _
  have hbel2 : Below w.heap.size w w2 := by rw [hw2]; exact HB1.out.alloc HB1.out.size _
  have hterm2 : ∀ m, m < 14 → w2.cell? ⟨T, m, none⟩ = some (.int .i64 (Cm.term m : Int)) := fun m hm => by
    rw [hw2, hT, ← termCells_at m hm]
    simp
  have HO2 := Lib.hid hown2
  have HB2 := Lib.hid hbel2
  have HT2 := Lib.hid hterm2
  rw [← hT]
  clear hown2 hbel2 hterm2 hw2 hT HO1 HB1 hgw
  go_wp2
  go_loopw [5] (fun i wr => ∃ k : Nat, k ≤ N8 ∧ i = .int .i64 k ∧ wr.ownsRow w.heap.size 4 1 (.slice (some ⟨g, 0, none⟩) N c) N (bools (Cm.gone (Cm.first l) k) N) ∧ Below w.heap.size w wr ∧ Hid (∀ m, m < 14 → wr.cell? ⟨T, m, none⟩ = some (.int .i64 (Cm.term m : Int)))) (fun i _ => N8 - (Go.RowKit.intOf i).toNat)
  case atStart => exact ⟨0, Nat.zero_le _, rfl, HO2.out, HB2.out, HT2⟩
  case round =>
    obtain ⟨k, hk, rfl, hown, hbel, HT⟩ := hrel
    obtain ⟨wo, rfl⟩ : ∃ wo : World, wo = wr := ⟨_, rfl⟩
    by_cases hlt : k < N8
    · have hcell : wo.cell? ⟨g, k, none⟩ = some (.bool (Cm.gone (Cm.first l) k k)) := by rw [hown.cellAt k (by omega), bools_get _ _ _ (by omega)]
      have hd : decide ((k : Int) + 32 < (N : Int)) = true := by simp; omega
      have hkN : k < N := by omega
      cases hgb : Cm.gone (Cm.first l) k k with
      | false =>
        have hnx : Cm.gone (Cm.first l) (k + 1) = Cm.gone (Cm.first l) k := by rw [Cm.gone, hgb]; rfl
        rw [hgb] at hcell
        have HNX := Lib.hid hnx
        have HO := Lib.hid hown
        have HB := Lib.hid hbel
        clear hnx hgb hown hbel
        go_wp2
        go_roundw
        case rel => exact ⟨k + 1, by omega, by go_num, by rw [HNX.out]; exact HO.out, HB.out, HT⟩
        case measure => simp [Go.RowKit.intOf]; omega
      | true =>
        have hnx : Cm.gone (Cm.first l) (k + 1) = Cm.flips (Cm.put1 (Cm.gone (Cm.first l) k) k false) k 14 := by rw [Cm.gone, hgb]; rfl
        rw [hgb] at hcell
        have hfz := hown.frozenAt k
        have hst := hown.stored k (.bool false)
        rw [bools_set] at hst
        obtain ⟨f0, hf0⟩ : ∃ f0, f0 = Cm.put1 (Cm.gone (Cm.first l) k) k false := ⟨_, rfl⟩
        rw [← hf0] at hst hnx
        have hb1 := hbel.setCell (p := ⟨g, k, none⟩) hbg (.bool false)
        have ht1 : ∀ m, m < 14 → (wo.setCell ⟨g, k, none⟩ (.bool false)).cell? ⟨T, m, none⟩ = some (.int .i64 (Cm.term m : Int)) := fun m hm => by
          rw [World.cell?_setCell_other wo _ _ _ (by intro c; injection c; omega), HT.out m hm]
        have HNX := Lib.hid hnx
        have HO := Lib.hid hst.1
        have HB := Lib.hid hb1
        have HT1 := Lib.hid ht1
        clear hnx hgb hown hbel hst hb1 ht1 hf0
        go_wp2
        go_loopw [6] (fun i wr => ∃ m : Nat, m ≤ 14 ∧ i = .int .i64 m ∧ wr.ownsRow w.heap.size 4 1 (.slice (some ⟨g, 0, none⟩) N c) N (bools (Cm.flips f0 k m) N) ∧ Below w.heap.size w wr ∧ Hid (∀ m, m < 14 → wr.cell? ⟨T, m, none⟩ = some (.int .i64 (Cm.term m : Int)))) (fun i _ => 14 - (Go.RowKit.intOf i).toNat)
        case atStart => exact ⟨0, Nat.zero_le _, rfl, HO.out, HB.out, HT1⟩
        case round =>
          obtain ⟨m, hm, rfl, hown, hbel, HT⟩ := hrel
          by_cases hmlt : m < 14
          · have htc := HT.out m hmlt
            have htl := Cm.term_le m
            obtain ⟨J, hJ⟩ : ∃ J : Nat, J = k + 32 - Cm.term m := ⟨_, rfl⟩
            have hnx : Cm.flips f0 k (m + 1) = Cm.flip (Cm.flips f0 k m) J := by rw [Cm.flips, hJ]
            have hJi : (k : Int) + 32 - (Cm.term m : Int) = (J : Int) := by omega
            have hJN : J < N := by omega
            have hcJ : wr.cell? ⟨g, J, none⟩ = some (.bool (Cm.flips f0 k m J)) := by rw [hown.cellAt J (by omega), bools_get _ _ _ hJN]
            have hfJ := hown.frozenAt J
            have hst := hown.stored J (.bool (!Cm.flips f0 k m J))
            rw [bools_set, Cm.flip_put, ← hnx] at hst
            obtain ⟨o, ho⟩ : ∃ o, o = Cm.flips f0 k m J := ⟨_, rfl⟩
            rw [← ho] at hst hcJ
            have hb1 := hbel.setCell (p := ⟨g, J, none⟩) hbg (.bool (!o))
            have ht1 : ∀ m, m < 14 → (wr.setCell ⟨g, J, none⟩ (.bool (!o))).cell? ⟨T, m, none⟩ = some (.int .i64 (Cm.term m : Int)) := fun m hm => by
              rw [World.cell?_setCell_other wr _ _ _ (by intro c; injection c; omega), HT.out m hm]
            have HO := Lib.hid hst.1
            have HB := Lib.hid hb1
            have HT1 := Lib.hid ht1
            have hd : decide ((m : Int) < 14) = true := by simp; omega
            obtain ⟨tm, htm⟩ : ∃ tm, tm = Cm.term m := ⟨_, rfl⟩
            rw [← htm] at htc hJi htl
            clear hnx hown hbel hst hb1 ht1 ho hJ htm
            go_wp2
            go_roundw
            case rel => exact ⟨m + 1, by omega, by go_num, HO.out, HB.out, HT1⟩
            case measure => simp [Go.RowKit.intOf]; omega
          · obtain rfl : m = 14 := by omega
            have HO := Lib.hid hown
            have HB := Lib.hid hbel
            clear hown hbel
            go_wp2
            go_roundw
            case rel => exact ⟨k + 1, by omega, by go_num, by rw [HNX.out]; exact HO.out, HB.out, HT⟩
            case measure => simp [Go.RowKit.intOf]; omega
    · obtain rfl : k = N8 := by omega
      have hd : decide ((k : Int) + 32 < (N : Int)) = false := by simp; omega
      have HO := Lib.hid hown
      have HB := Lib.hid hbel
      clear hown hbel
      go_wp2
      go_loop [8, 9] (fun n i => ∃ m : Nat, m ≤ 32 ∧ i = .int .i64 ((N : Int) - 1 - (m : Int)) ∧ n = .int .u32 ((s / 2 ^ (32 - m) : Nat) : Int)) (fun _ i => (Go.RowKit.intOf i + 1 - (k : Int)).toNat)
      case atStart => exact ⟨0, Nat.zero_le _, by go_num, by rw [Nat.div_eq_of_lt (by omega)]; rfl⟩
      case round =>
        obtain ⟨m, hm, rfl, rfl⟩ := hrel
        by_cases hmlt : m < 32
        · have hnx := Cm.top_next s m hmlt
          have hbit := HSUM.out (31 - m) (by omega)
          have hlt2 : s / 2 ^ (32 - m) < 2147483648 := by
            have h1 : s / 2 ^ (32 - (m + 1)) < 4294967296 := Nat.lt_of_le_of_lt (Nat.div_le_self _ _) hs
            omega
          obtain ⟨x, hx⟩ : ∃ x, x = s / 2 ^ (32 - m) := ⟨_, rfl⟩
          obtain ⟨J, hJ⟩ : ∃ J : Nat, J = k + (31 - m) := ⟨_, rfl⟩
          have hJi : (N : Int) - 1 - (m : Int) = (J : Int) := by omega
          have hJk : (N : Int) - 32 ≤ (J : Int) := by omega
          have hJN : J < N := by omega
          have hJm : (J : Int) - 1 = (N : Int) - 1 - ((m + 1 : Nat) : Int) := by omega
          have hcJ : wo.cell? ⟨g, J, none⟩ = some (.bool (Cm.gone (Cm.first l) k J)) := by rw [HO.out.cellAt J (by omega), bools_get _ _ _ hJN]
          rw [← hJ] at hbit
          rw [← hx] at hnx hlt2 ⊢
          obtain ⟨o, ho⟩ : ∃ o, o = Cm.gone (Cm.first l) k J := ⟨_, rfl⟩
          rw [← ho] at hcJ hbit
          rw [← hbit] at hnx
          rw [hJi]
          have HNX := Lib.hid hnx
          have HJM := Lib.hid hJm
          clear hbit hnx hJi ho hx hJ hJm
          cases o with
          | true =>
            go_wp2
            go_round
            case rel => exact ⟨m + 1, by omega, by rw [← HJM.out], by rw [HNX.out]; go_num⟩
            case measure => simp [Go.RowKit.intOf]; omega
          | false =>
            go_wp2
            go_round
            case rel => exact ⟨m + 1, by omega, by rw [← HJM.out], by rw [HNX.out]; go_num⟩
            case measure => simp [Go.RowKit.intOf]; omega
        · obtain rfl : m = 32 := by omega
          go_wp2
          go_ret
          exact ⟨by simp, HB.out⟩
end Go.Proofs.YtbmabcddciibfaaGreat
namespace Go.Proofs.YtbmabcddciibfaaGreat
open Go.RowKit
set_option linter.unusedVariables false
set_option maxHeartbeats 400000 in
theorem rput_any (n k : Nat) (w : World) (h : k ≤ 8) (hn : n < 18446744073709551616) : Calls Tryz.prog 116 #[.int .u64 (n : Int), .int .i64 (k : Int)] w fun e w' => e = .returned (.tuple #[.string (Om.B (putS n k)), .int .i64 (putE n k)]) ∧ Below w.heap.size w w' := by
  have hk0 : decide ((k : Int) < 0) = false := by simp
  have hk8 : decide (8 < (k : Int)) = false := by simp; omega
  go_enter Tryz.func116, Tryz.ntmps116
  go_wp2
  go_loopw [0, 6, 7] (fun m s i wr => ∃ j : Nat, j ≤ k ∧ i = .int .i64 j ∧ m = .int .u64 (Om.sh n j : Int) ∧ s = .string (Om.B (Om.low n j)) ∧ Below w.heap.size w wr) (fun _ _ i _ => k - (Go.RowKit.intOf i).toNat)
  case atStart => exact ⟨0, Nat.zero_le _, rfl, by simp [Om.sh], rfl, Below.refl _ _⟩
  case round =>
    obtain ⟨j, hj, rfl, rfl, rfl, hbel⟩ := hrel
    by_cases hlt : j < k
    · have hso := str_one wr (Om.sh n j)
      have hcat := no_over (Om.low n j) [UInt8.ofNat (Om.sh n j)] (by rw [Om.low_length]; simp; omega)
      have hshn : Om.sh n j < 18446744073709551616 := Nat.lt_of_le_of_lt (Nat.div_le_self _ _) hn
      go_wp2
      go_roundw
      case rel =>
        refine ⟨j + 1, by omega, by go_num, ?_, ?_, hbel.alloc hbel.size _⟩
        · rw [← sh_next]; go_num
        · rw [Om.low_succ, Om.B_append]; rfl
      case measure => simp [Go.RowKit.intOf]; omega
    · obtain rfl : j = k := by omega
      by_cases hf : n < 256 ^ j
      · have h1 : ¬ 0 < Om.sh n j := by rw [Om.sh_zero n j hf]; omega
        have HF := Lib.hid hf
        clear hf
        go_wp2
        go_ret2
        exact ⟨by unfold putS putE; rw [if_pos HF.out, if_pos HF.out]; rfl, hbel⟩
      · have h1 : 0 < Om.sh n j := Om.sh_pos n j hf
        have HF := Lib.hid hf
        clear hf
        go_wp2
        go_ret2
        exact ⟨by unfold putS putE; rw [if_neg HF.out, if_neg HF.out]; rfl, hbel⟩
end Go.Proofs.YtbmabcddciibfaaGreat
namespace Go.Proofs.YtbmabcddciibfaaGreat
open Go.RowKit
set_option maxRecDepth 100000
set_option linter.unusedVariables false
theorem rpad_ok (l : List UInt8) (k : Nat) (w : World) (h : l.length ≤ k) (hk : k ≤ 1048576) :
    Calls Tryz.prog 143 #[.string (Om.B l), .int .i64 (k : Int)] w fun e w' => e = .returned (.tuple #[.string (Om.B (padTo l k)), .int .i64 0]) ∧ w = w' := by
  have h1 : decide (1048576 < (k : Int)) = false := by simp; omega
  have h2 : decide (k < (Om.B l).size) = false := by rw [Om.B_size]; simp; omega
  have h0 : padTo l l.length = l := by simp [padTo]
  have H0 := Lib.hid h0
  clear h0
  go_enter Tryz.func143, Tryz.ntmps143
  go_wp2
  go_loop [0] (fun s => ∃ j : Nat, l.length ≤ j ∧ j ≤ k ∧ s = .string (Om.B (padTo l j))) (fun s => match s with | .string b => k - b.size | _ => 0)
  case atStart => exact ⟨l.length, Nat.le_refl _, h, by rw [H0.out]⟩
  case round =>
    obtain ⟨j, hlj, hj, rfl⟩ := hrel
    have hsz : (Om.B (padTo l j)).size = j := by rw [Om.B_size, padTo_length l j hlj]
    by_cases hlt : j < k
    · have hcat : ¬ 9223372036854775807 < (Om.B (padTo l j)).size + (⟨#[0]⟩ : ByteArray).size := by rw [hsz]; have : (⟨#[0]⟩ : ByteArray).size = 1 := rfl; omega
      have hlt' : (Om.B (padTo l j)).size < k := by rw [hsz]; exact hlt
      have HSZ := Lib.hid hsz
      clear hsz
      go_wp2
      have hstep : Om.B (padTo l j) ++ (⟨#[0]⟩ : ByteArray) = Om.B (padTo l (j + 1)) := by
        rw [show (⟨#[0]⟩ : ByteArray) = Om.B [0] from rfl, Om.B_append]
        unfold padTo
        rw [show j + 1 - l.length = (j - l.length) + 1 from by omega, List.replicate_succ', List.append_assoc]
      refine ⟨⟨j + 1, by omega, by omega, by rw [hstep]⟩, ?_⟩
      show k - (Om.B (padTo l j) ++ (⟨#[0]⟩ : ByteArray)).size < k - (Om.B (padTo l j)).size
      rw [hstep, HSZ.out, Om.B_size, padTo_length l (j + 1) (by omega)]
      omega
    · obtain rfl : j = k := by omega
      have hlt' : ¬ (Om.B (padTo l j)).size < j := by rw [hsz]; exact hlt
      clear hsz
      go_wp2
      go_ret2
      exact ⟨rfl, rfl⟩
end Go.Proofs.YtbmabcddciibfaaGreat
namespace Go.Proofs.YtbmabcddciibfaaGreat
open Go.RowKit
set_option maxRecDepth 100000
set_option linter.unusedVariables false
theorem rfour_any (l : List UInt8) (w : World) : Calls Tryz.prog 116 #[.int .u64 (Cm.sum l : Int), .int .i64 4] w fun e w' => e = .returned (.tuple #[.string (Om.B (Cm.four l)), .int .i64 0]) ∧ Below w.heap.size w w' := by
  have hs := Cm.sum_lt l
  have h := rput_any (Cm.sum l) 4 w (by omega) (by omega)
  unfold putS putE at h
  rw [if_pos (by omega), if_pos (by omega)] at h
  exact h
theorem rseal_ok (l : List UInt8) (k : Nat) (w : World) (hk : k + 4 ≤ 4096) (h : l.length ≤ k) :
    Calls Tryz.prog 117 #[.string (Om.B l), .int .i64 ((k + 4 : Nat) : Int)] w fun e w' => e = .returned (.tuple #[.string (Om.B (sealed l k)), .int .i64 0]) ∧ Below w.heap.size w w' := by
  have d1 : decide (((k + 4 : Nat) : Int) < 4) = false := by simp; omega
  have d2 : decide (4096 < ((k + 4 : Nat) : Int)) = false := by simp; omega
  have hz : ((k + 4 : Nat) : Int) - 4 = (k : Int) := by omega
  obtain ⟨z, hze⟩ : ∃ z : Int, z = ((k + 4 : Nat) : Int) := ⟨_, rfl⟩
  rw [← hze] at d1 d2 hz ⊢
  have hz1 : 4 ≤ z := by omega
  have hz2 : z ≤ 4096 := by omega
  have HZ := Lib.hid hz
  have hlen := padTo_length l k h
  have hcat := no_over (padTo l k) (Cm.four (padTo l k)) (by rw [hlen, Cm.four_length]; omega)
  have hs := Cm.sum_lt (padTo l k)
  have HLEN := Lib.hid hlen
  clear hze hz hlen
  go_enter Tryz.func117, Tryz.ntmps117
  go_wp2_with fail
  rw [HZ.out]
  refine (rpad_ok l k _ h (by omega)).mono ?_
  rintro e w1 ⟨rfl, rfl⟩
  go_wp2_with fail
  refine (rsum_any (padTo l k) _ (by rw [HLEN.out]; omega)).mono ?_
  rintro e w2 ⟨rfl, hb2⟩
  have HB2 := Lib.hid hb2
  clear hb2
  go_wp2_with fail
  refine (rfour_any (padTo l k) _).mono ?_
  rintro e w3 ⟨rfl, hb3⟩
  have HB3 := Lib.hid (HB2.out.trans (hb3.mono HB2.out.size))
  clear hb3
  go_wp2
  go_ret2
  exact ⟨by unfold sealed; rw [← Om.B_append]; rfl, HB3.out⟩
end Go.Proofs.YtbmabcddciibfaaGreat
namespace Go.Proofs.YtbmabcddciibfaaGreat
open Go.RowKit
set_option maxRecDepth 100000
set_option linter.unusedVariables false
theorem rjoin_any (zs : List Int) (ls : List Nat) (B : Nat) (a c : Option Addr) (n m cap cap' : Nat) (w : World) (hl : zs.length = n) (hm : ls.length = m) (hn : n ≤ 1099511627776) (hn' : m ≤ 1099511627776) (hB : B ≤ w.heap.size)
    (hr : Row w B a n (szs zs)) (hq : Row w B c m (nbs ls)) (hu : ∀ i, ls.getD i 0 < 18446744073709551616) :
    Calls Tryz.prog 142 #[.slice a n cap, .slice c m cap'] w fun e w' => e = .returned (.tuple #[.string (Om.B (joinS zs ls)), .int .i64 (joinE zs ls)]) ∧ Below w.heap.size w w' := by
  by_cases hnm : n = m
  · subst hnm
    have hne : (((n : Nat) : Int) != (n : Int)) = false := by simp
    have HL := Lib.hid hl
    have HM := Lib.hid hm
    have HR := Lib.hid hr
    have HQ := Lib.hid hq
    have HU := Lib.hid hu
    clear hl hm hr hq hu
    go_enter Tryz.func142, Tryz.ntmps142
    go_wp2
    go_loop [6] (fun i => ∃ k : Nat, k ≤ n ∧ i = .int .i64 k ∧ Hid (∀ i, i < k → Om.sizeOk (zs.getD i 0) = true)) (fun i => n - (Go.RowKit.intOf i).toNat)
    case atStart => exact ⟨0, Nat.zero_le _, rfl, Lib.hid (fun i hi => absurd hi (by omega))⟩
    case round =>
      obtain ⟨k, hk, rfl, hall⟩ := hrel
      by_cases hlt : k < n
      · obtain ⟨b, off, rfl, hb, hc⟩ := HR.out (by omega)
        have hcell := hc k hlt
        unfold szs at hcell
        clear hc
        obtain ⟨x, hx⟩ : ∃ x, x = zs.getD k 0 := ⟨_, rfl⟩
        rw [← hx] at hcell
        by_cases hz : 0 ≤ x ∧ x ≤ 8
        · have HX := Lib.hid hx
          have hx0 : decide (x < 0) = false := by simp; omega
          have hx8 : decide (8 < x) = false := by simp; omega
          clear hx
          go_wp2
          go_round
          case rel => exact ⟨k + 1, by omega, by go_num, Lib.hid (fun i hi => by
            by_cases e : i = k
            · subst e; rw [← HX.out, Om.sizeOk_iff]; exact hz
            · exact hall.out i (by omega))⟩
          case measure => simp [Go.RowKit.intOf]; omega
        · have hno : Om.sizesOk zs = false := sizesOk_not zs k (by rw [HL.out]; exact hlt) (by rw [← hx]; exact hz)
          obtain ⟨hS, hE⟩ := join_sizes zs ls hno
          have HS := Lib.hid hS
          have HE := Lib.hid hE
          clear hno hx hS hE
          by_cases hx0 : x < 0
          · have hx0' : decide (x < 0) = true := by simpa using hx0
            clear hz
            go_wp2
            go_ret2
            exact ⟨by rw [HS.out, HE.out]; rfl, Below.refl _ _⟩
          · have hx0' : decide (x < 0) = false := by simpa using hx0
            have hx8 : decide (8 < x) = true := by simp; omega
            clear hz
            go_wp2
            go_ret2
            exact ⟨by rw [HS.out, HE.out]; rfl, Below.refl _ _⟩
      · obtain rfl : k = n := by omega
        have hyes : Om.sizesOk zs = true := sizesOk_of zs (fun i hi => hall.out i (by rw [HL.out] at hi; exact hi))
        have HOK := Lib.hid hyes
        clear hyes hall
        go_wp2
        go_loopw [7, 8] (fun s i wr => ∃ j : Nat, j ≤ k ∧ i = .int .i64 j ∧ s = .string (Om.B (Om.joined zs ls j)) ∧ Below w.heap.size w wr ∧ Hid (∀ i, i < j → ls.getD i 0 < 256 ^ (zs.getD i 0).toNat)) (fun _ i _ => k - (Go.RowKit.intOf i).toNat)
        case atStart => exact ⟨0, Nat.zero_le _, rfl, rfl, Below.refl _ _, Lib.hid (fun i hi => absurd hi (by omega))⟩
        case round =>
          obtain ⟨j, hj, rfl, rfl, hbel, hall⟩ := hrel
          have HB := Lib.hid hbel
          clear hbel
          by_cases hlt' : j < k
          · obtain ⟨ab, ao, rfl, hab, hac⟩ := HR.out (by omega)
            obtain ⟨cb, co, rfl, hcb, hcc⟩ := HQ.out (by omega)
            obtain ⟨d, hd⟩ : ∃ d : Nat, zs.getD j 0 = (d : Int) := Int.eq_ofNat_of_zero_le (Om.sizes_at zs HOK.out j).1
            have hd8 : d ≤ 8 := by have := (Om.sizes_at zs HOK.out j).2; omega
            obtain ⟨y, hy⟩ : ∃ y, y = ls.getD j 0 := ⟨_, rfl⟩
            have hy64 : y < 18446744073709551616 := by rw [hy]; exact HU.out j
            have hcz : wr.cell? ⟨ab, ao + j, none⟩ = some (.int .i64 (d : Int)) := by
              rw [HB.out.cell (p := ⟨ab, ao + j, none⟩) (Nat.lt_of_lt_of_le hab hB), hac j hlt', szs, hd]
            have hcn : wr.cell? ⟨cb, co + j, none⟩ = some (.int .u64 (y : Int)) := by
              rw [HB.out.cell (p := ⟨cb, co + j, none⟩) (Nat.lt_of_lt_of_le hcb hB), hcc j hlt', nbs, hy]
            have hz1 : ab < wr.heap.size := Nat.lt_of_lt_of_le hab (Nat.le_trans hB HB.out.size)
            have hz2 : cb < wr.heap.size := Nat.lt_of_lt_of_le hcb (Nat.le_trans hB HB.out.size)
            have HY := Lib.hid hy
            have HD := Lib.hid hd
            have hj0 : (0 : Int) ≤ (j : Int) := by omega
            have hj1 : (j : Int) < (k : Int) := by omega
            clear hac hcc hy hd
            by_cases hf : y < 256 ^ d
            · have hE0 : (putE y d != 0) = false := by unfold putE; rw [if_pos hf]; rfl
              have hcat := no_over (Om.joined zs ls j) (putS y d) (by
                have h1 := Om.joined_length zs ls j (by rw [HL.out]; exact hj)
                have h2 := Om.off_le zs HOK.out j
                have h3 : (putS y d).length ≤ 8 := by unfold putS; rw [if_pos hf, Om.low_length]; exact hd8
                omega)
              have hS1 : Om.joined zs ls j ++ putS y d = Om.joined zs ls (j + 1) := by unfold putS; rw [if_pos hf, Om.joined_succ, HY.out, HD.out, Int.toNat_natCast]
              have HS1 := Lib.hid hS1
              have HF := Lib.hid hf
              clear hf hS1
              go_wp2
              go_region_held3 (fun w' => w'.cell? ⟨cb, co + j, none⟩ = some (.int .u64 (y : Int)) ∧ w'.cell? ⟨ab, ao + j, none⟩ = some (.int .i64 (d : Int)))
                (first | go_keep | (refine ⟨(hb1.cell (p := ⟨cb, co + j, none⟩) (by simpa using hz2)).trans hcn, (hb1.cell (p := ⟨ab, ao + j, none⟩) (by simpa using hz1)).trans hcz⟩))
                (first | (go_at_call 116; refine (rput_any y d _ hd8 hy64).mono ?_; rintro e w1 ⟨rfl, hb1⟩))
              have hbel1 : Below w.heap.size w w1 := HB.out.trans ⟨hb1.os, hb1.tape, hb1.output, hb1.size, fun q hq => hb1.block q (Nat.lt_of_lt_of_le hq HB.out.size)⟩
              have HB1 := Lib.hid hbel1
              clear hbel1 hb1 hcz hcn
              go_wp2
              go_roundw
              case rel => exact ⟨j + 1, by omega, by go_num, by rw [Om.B_append, HS1.out], HB1.out, Lib.hid (fun i hi => by
                by_cases e : i = j
                · subst e; rw [← HY.out, HD.out, Int.toNat_natCast]; exact HF.out
                · exact hall.out i (by omega))⟩
              case measure => simp [Go.RowKit.intOf]; omega
            · have hE0 : (putE y d != 0) = true := by unfold putE; rw [if_neg hf]; rfl
              obtain ⟨hS, hE⟩ := join_big zs ls j (by rw [HL.out, HM.out]) HOK.out (by rw [HM.out]; exact hlt') (by rw [← HY.out, HD.out, Int.toNat_natCast]; exact hf)
              have HS := Lib.hid hS
              have HE := Lib.hid hE
              have hE2 : putE y d = 2 := by unfold putE; rw [if_neg hf]
              have HE2 := Lib.hid hE2
              clear hf hS hE hE2
              go_wp2
              go_region_held3 (fun w' => w'.cell? ⟨cb, co + j, none⟩ = some (.int .u64 (y : Int)) ∧ w'.cell? ⟨ab, ao + j, none⟩ = some (.int .i64 (d : Int)))
                (first | go_keep | (refine ⟨(hb1.cell (p := ⟨cb, co + j, none⟩) (by simpa using hz2)).trans hcn, (hb1.cell (p := ⟨ab, ao + j, none⟩) (by simpa using hz1)).trans hcz⟩))
                (first | (go_at_call 116; refine (rput_any y d _ hd8 hy64).mono ?_; rintro e w1 ⟨rfl, hb1⟩))
              have hbel1 : Below w.heap.size w w1 := HB.out.trans ⟨hb1.os, hb1.tape, hb1.output, hb1.size, fun q hq => hb1.block q (Nat.lt_of_lt_of_le hq HB.out.size)⟩
              have HB1 := Lib.hid hbel1
              clear hbel1 hb1 hcz hcn
              go_wp2
              go_ret2
              exact ⟨by rw [HS.out, HE.out, ← HE2.out]; rfl, HB1.out⟩
          · obtain rfl : j = k := by omega
            obtain ⟨hS, hE⟩ := join_ok zs ls (by rw [HL.out, HM.out]) HOK.out (fitAll_of zs ls _ (by rw [HM.out]; exact hall.out))
            have HS := Lib.hid hS
            have HE := Lib.hid hE
            clear hS hE
            go_wp2
            go_ret2
            exact ⟨by rw [HS.out, HE.out, HM.out]; rfl, HB.out⟩
  · have hne : ((n : Int) != (m : Int)) = true := by rw [bne_iff_ne]; omega
    obtain ⟨hS, hE⟩ := join_len zs ls (by omega)
    rw [hS, hE]
    clear hS hE hl hm hr hq hu hnm
    go_enter Tryz.func142, Tryz.ntmps142
    go_wp2
    go_ret2
    exact ⟨rfl, Below.refl _ _⟩
end Go.Proofs.YtbmabcddciibfaaGreat
namespace Go.Proofs.YtbmabcddciibfaaGreat
open Go.RowKit
set_option maxRecDepth 100000
set_option linter.unusedVariables false
theorem seal64_ref (l : List UInt8) (w : World) (h : l.length ≤ 60) :
    Calls Tryz.prog 117 #[.string (Om.B l), .int .i64 64] w fun e w' => e = .returned (.tuple #[.string (Om.B (sealed l 60)), .int .i64 0]) ∧ Below w.heap.size w w' := rseal_ok l 60 w (by omega) h
theorem rsealed_any {t : List UInt8} {zs : List Int} (L : Sc.Lay t zs) (ns : List Nat) (B : Nat) (a c : Option Addr) (n cap cap' : Nat) (w : World) (hl : zs.length = n) (hm : ns.length = n) (hn : n ≤ 1099511627776) (hB : B ≤ w.heap.size)
    (hr : Row w B a n (szs zs)) (hq : Row w B c n (nbs ns)) (hu : ∀ i, ns.getD i 0 < 18446744073709551616) (hf : Om.fitAll zs ns zs.length = true) :
    Calls Tryz.prog 112 #[.string (Om.B t), .slice a n cap, .slice c n cap'] w fun e w' => e = .returned (.string (Om.B (Sc.sector t zs ns))) ∧ Below w.heap.size w w' := by
  have J := rjoin_any zs ns B a c n n cap cap' w hl hm hn hn hB hr hq hu
  have hj := join_ok zs ns (by rw [hl, hm]) L.sizes (by rw [hm, ← hl]; exact hf)
  rw [hj.1, hj.2] at J
  have hs : Sc.sector t zs ns = sealed (t ++ Om.joined zs ns ns.length) 60 := by unfold Sc.sector Sc.front; rw [hm, hl]
  have hle : (t ++ Om.joined zs ns ns.length).length ≤ 60 := by
    have := Sc.front_le L ns
    unfold Sc.front at this
    rw [hl] at this
    rw [hm]; exact this
  have hcat := no_over t (Om.joined zs ns ns.length) (by rw [List.length_append] at hle; omega)
  obtain ⟨l, hll⟩ : ∃ l, l = Om.joined zs ns ns.length := ⟨_, rfl⟩
  rw [hs]
  rw [← hll] at J hle hcat ⊢
  have JJ := Lib.hid J
  have S := Lib.hid (fun w1 => seal64_ref (t ++ l) w1 hle)
  have hap := Om.B_append t l
  clear J hj hs hle hll hr hq hu hf L hl hm
  go_enter Tryz.func112, Tryz.ntmps112
  go_wp2_with fail
  refine JJ.out.mono ?_
  rintro e w1 ⟨rfl, hb1⟩
  have HB1 := Lib.hid hb1
  clear hb1
  go_wp2_with fail
  refine (S.out _).mono ?_
  rintro e w2 ⟨rfl, hb2⟩
  have HB2 := Lib.hid (HB1.out.trans (hb2.mono HB1.out.size))
  clear hb2
  go_wp2
  go_ret
  exact ⟨rfl, HB2.out⟩
end Go.Proofs.YtbmabcddciibfaaGreat
namespace Go.Proofs.YtbmabcddciibfaaGreat
open Go.RowKit
set_option linter.unusedVariables false
theorem rhenc_no (g : Nat) (c p : Int) (b : Bool) (w : World) (hok : Hm.okH g c p = false) :
    Calls Tryz.prog 75 #[Hv g c p b] w fun e w' => e = .returned (.tuple #[.string (Om.B []), .int .i64 1]) ∧ Below w.heap.size w w' := by
  have R := Lib.hid (fun w1 => rhright_any g c p b w1)
  rw [hok] at R
  have HB : Hid (Below w.heap.size w (w.alloc (.cells #[.int .u32 (g : Int), .int .i64 c, .int .i64 p, .bool b] 105))) := (Below.refl _ w).alloc (Nat.le_refl _) _
  have BX := Lib.hid (bx_alloc w g c p b 105)
  obtain ⟨_, a0, a1, a2, a3⟩ := BX.out
  unfold Hv at R ⊢
  clear hok
  go_enter Tryz.func75, Tryz.ntmps75
  go_wp2_with fail
  refine (R.out _).mono ?_
  rintro e w1 ⟨rfl, hb⟩
  have HB1 := Lib.hid (HB.out.trans (hb.mono HB.out.size))
  clear hb
  go_wp2
  go_ret2
  exact ⟨rfl, HB1.out⟩
theorem rheads_at (w : World) : Calls Tryz.prog 113 #[] w fun e w' => ∃ k, e = .returned (.slice (some ⟨k, 0, none⟩) 4 4) ∧ Row w' w'.heap.size (some ⟨k, 0, none⟩) 4 (szs Hm.zs) ∧ Below w.heap.size w w' :=
  (rheads_any w).mono fun e w' h => ⟨w.heap.size, h⟩
theorem rhsealed_at (g c p : Nat) (b : Bool) (hg : g < 4294967296) (hok : Hm.okH g c p = true) (W : World) (ks : Nat) (hr : Row W W.heap.size (some ⟨ks, 0, none⟩) 4 (szs Hm.zs)) :
    Calls Tryz.prog 112 #[.string ⟨#[79, 65, 75, 72]⟩, .slice (some ⟨ks, 0, none⟩) 4 4, .slice (some ⟨W.heap.size, 0, none⟩) 4 4] (W.alloc (ncell g c p b)) fun e w' => e = .returned (.string (Om.B (Hm.sector g c p b))) ∧ Below W.heap.size W w' := by
  obtain ⟨k1, k2, k3, k4, k5⟩ := (Hm.okH_iff _ _ _).1 hok
  have hb : Below W.heap.size W (W.alloc (ncell g c p b)) := (Below.refl _ W).alloc (Nat.le_refl _) _
  have hl : (Hm.nums g c p b).length = 4 := rfl
  refine (rsealed_any Hm.lay (Hm.nums g c p b) _ _ _ 4 4 4 _ rfl hl (by omega) (Nat.le_refl _) ((hr.below hb).more hb.size) (nums_row g c p b W hg (by omega) (by omega)) (nums_lt g c p b hg (by omega) (by omega)) (Hm.fit g c p b hg hok)).mono ?_
  rintro e w' ⟨he, hb'⟩
  exact ⟨he, hb.trans (hb'.mono hb.size)⟩
set_option maxHeartbeats 800000 in
theorem rhenc_ok (g c p : Nat) (b : Bool) (w : World) (hg : g < 4294967296) (hok : Hm.okH g c p = true) :
    Calls Tryz.prog 75 #[Hv g c p b] w fun e w' => e = .returned (.tuple #[.string (Om.B (Hm.sector g c p b)), .int .i64 0]) ∧ Below w.heap.size w w' := by
  obtain ⟨k1, k2, k3, k4, k5⟩ := (Hm.okH_iff _ _ _).1 hok
  have R := Lib.hid (fun w1 => rhright_any g c p b w1)
  rw [hok] at R
  have BX0 := Lib.hid (bx_alloc w g c p b 105)
  have HB : Hid (Below w.heap.size w (w.alloc (.cells #[.int .u32 (g : Int), .int .i64 (c : Int), .int .i64 (p : Int), .bool b] 105))) := (Below.refl _ w).alloc (Nat.le_refl _) _
  obtain ⟨W0, hW0⟩ : ∃ W0, w.alloc (.cells #[.int .u32 (g : Int), .int .i64 (c : Int), .int .i64 (p : Int), .bool b] 105) = W0 := ⟨_, rfl⟩
  rw [hW0] at HB BX0
  obtain ⟨lt0, a0, a1, a2, a3⟩ := BX0.out
  have SZ := Lib.hid rheads_at
  have J := Lib.hid (rhsealed_at g c p b hg hok)
  unfold ncell at J
  unfold Hv at R ⊢
  clear hok
  go_enter Tryz.func75, Tryz.ntmps75
  go_wp2_with fail
  clear hW0
  refine (R.out _).mono ?_
  rintro e w1 ⟨rfl, hb⟩
  have HB1 := Lib.hid (HB.out.trans (hb.mono HB.out.size))
  have BX1 := Lib.hid (BX0.out.next hb)
  clear hb a0 a1 a2 a3 lt0
  obtain ⟨lt1, a0, a1, a2, a3⟩ := BX1.out
  go_wp2
  go_region_held3 (fun w' => w'.cell? ⟨w.heap.size, 0, none⟩ = some (.int .u32 (g : Int)) ∧ w'.cell? ⟨w.heap.size, 1, none⟩ = some (.int .i64 (c : Int)) ∧ w'.cell? ⟨w.heap.size, 2, none⟩ = some (.int .i64 (p : Int)) ∧ w'.cell? ⟨w.heap.size, 3, none⟩ = some (.bool b))
    (first | go_keep | (refine ⟨?_, ?_, ?_, ?_⟩ <;> assumption) | (exact ⟨(BX.out.cell (p := ⟨w.heap.size, 0, none⟩) lt1).trans a0, (BX.out.cell (p := ⟨w.heap.size, 1, none⟩) lt1).trans a1, (BX.out.cell (p := ⟨w.heap.size, 2, none⟩) lt1).trans a2, (BX.out.cell (p := ⟨w.heap.size, 3, none⟩) lt1).trans a3⟩))
    (first | (go_at_call 113; refine (SZ.out _).mono ?_; rintro e w2 ⟨ks, rfl, hr2, hb2⟩; have BX : Hid (Below w1.heap.size w1 w2) := (Below.refl _ _).drew.trans hb2; have HR2 := Lib.hid hr2; clear hb2 hr2) | (go_at_call 114; refine (flag_any b _).mono ?_; rintro e w3 ⟨rfl, rfl⟩) | (go_at_call 112; refine (J.out _ _ HR2.out).mono ?_; rintro e w4 ⟨rfl, hb4⟩; have BY := BX; have BX : Hid (Below w1.heap.size w1 w4) := BY.out.trans (hb4.mono BY.out.size); clear hb4))
  clear a0 a1 a2 a3
  go_wp2
  go_ret2
  exact ⟨rfl, HB1.out.trans (BX.out.mono HB1.out.size)⟩
theorem rhenc_any (g : Nat) (c p : Int) (b : Bool) (w : World) (hg : g < 4294967296) :
    Calls Tryz.prog 75 #[Hv g c p b] w fun e w' => e = .returned (.tuple #[.string (Om.B (Hm.encS g c p b)), .int .i64 (Hm.encE g c p)]) ∧ Below w.heap.size w w' := by
  cases hok : Hm.okH g c p with
  | false =>
    rw [(Hm.enc_no b hok).1, (Hm.enc_no b hok).2]
    exact rhenc_no g c p b w hok
  | true =>
    rw [(Hm.enc_ok b hok).1, (Hm.enc_ok b hok).2]
    obtain ⟨k1, k2, k3, k4, k5⟩ := (Hm.okH_iff _ _ _).1 hok
    obtain ⟨c', rfl⟩ : ∃ n : Nat, c = (n : Int) := ⟨c.toNat, by omega⟩
    obtain ⟨p', rfl⟩ : ∃ n : Nat, p = (n : Int) := ⟨p.toNat, by omega⟩
    exact rhenc_ok g c' p' b w hg hok
end Go.Proofs.YtbmabcddciibfaaGreat
