/- The contract of crc's Sum. -/
import Derived.Test.YtncbimgbjkdocaaCrcStep
namespace Go.Proofs.Ytncbimgbjkdocaa
open Go.RowKit
set_option maxRecDepth 100000
set_option linter.unusedVariables false

theorem take_flat (ls : List (List UInt8)) (k : Nat) (h : k < ls.length) : (ls.take (k + 1)).flatten = (ls.take k).flatten ++ ls.getD k [] := by
  rw [List.take_succ_eq_append_getElem h, List.flatten_append]
  simp [List.getElem?_eq_getElem h]
theorem run_take (c : Nat) (l : List UInt8) (m : Nat) (h : m < l.length) : Cm.run c (l.take (m + 1)) = Cm.byte (Cm.run c (l.take m)) l[m] := by
  rw [List.take_succ_eq_append_getElem h, Cm.run_append]; rfl
theorem mix_int (c : Nat) (b : UInt8) (h : c < 4294967296) : bits .xor .u32 (c : Int) ((b.toNat : Int) % 4294967296) = ((c ^^^ b.toNat : Nat) : Int) := by
  have hb := b.toNat_lt
  rw [show (b.toNat : Int) % 4294967296 = (b.toNat : Int) by omega]
  exact u32_xor_nat _ _ h (by omega)
theorem half_int (x : Nat) (h : x < 4294967296) : bits .xor .u32 ((x : Int) / 16) (Cm.tbl (x % 16) : Int) = (Cm.half x : Int) := u32_xor_nat (x / 16) _ (by omega) (Cm.tbl_lt _ (by omega))

/-- The cells of a slice of texts. -/
def txs (ls : List (List UInt8)) (i : Nat) : Value := .string (Om.B (ls.getD i []))

theorem sum_any (ls : List (List UInt8)) (B : Nat) (a : Option Addr) (n cap : Nat) (w : World) (hl : ls.length = n) (hn : n ≤ 9223372036854775807) (hB : B ≤ w.heap.size) (hr : Row w B a n (txs ls)) (hs : ∀ i, (ls.getD i []).length ≤ 4611686018427387904) :
    Calls Try.prog 41 #[.slice a n cap] w fun e w' => e = .returned (.int .u32 (Cm.sum ls.flatten : Int)) ∧ Below w.heap.size w w' := by
  have hinfo : (Try.prog.info? 90).map (·.size) = some (remCells 16).size := by rw [remCells_size]; kernel_rfl
  have hsz := remCells_size 16
  have HSZ := Lib.hid hsz
  have HR := Lib.hid hr
  have HL := Lib.hid hl
  have HSS := Lib.hid hs
  clear hsz hr hl hs
  go_enter Try.func41, Try.ntmps41
  go_wp2_with fail
  refine (rem_any _).mono ?_
  rintro e w1 ⟨rfl, hb1⟩
  have HB1 := Lib.hid hb1
  clear hb1
  go_wp2_with (refine wpList_store_row rfl 90 _ _ rfl w1.heap.size (remCells 16) rfl rfl 90 _ (heap_alloc_new _ _) hinfo HSZ.out.symm (remCells_one 16) ?_)
  go_loopw [4, 11] (fun left i wr => ∃ k : Nat, k ≤ n ∧ i = .int .i64 k ∧ left = .int .u32 (Cm.run 4294967295 (ls.take k).flatten : Int) ∧ wr.heap[w1.heap.size]? = some (.cells (remCells 16) 90 (0, 0)) ∧ Below w.heap.size w wr) (fun _ i _ => n - (intOf i).toNat)
  case atStart =>
    refine ⟨0, Nat.zero_le _, rfl, rfl, setRow_heap _ _ _ _ _ _ (heap_alloc_new _ _), below_setRow (HB1.out.alloc HB1.out.size _) HB1.out.size _⟩
  case round =>
    obtain ⟨k, hk, rfl, rfl, hrow, hbel⟩ := hrel
    obtain ⟨wo, rfl⟩ : ∃ wo : World, wo = wr := ⟨_, rfl⟩
    by_cases hlt : k < n
    · obtain ⟨ab, ao, rfl, hab, hac⟩ := HR.out (by omega)
      have hcell : wo.cell? ⟨ab, ao + k, none⟩ = some (.string (Om.B (ls.getD k []))) := by
        rw [hbel.cell (p := ⟨ab, ao + k, none⟩) (Nat.lt_of_lt_of_le hab hB), hac k hlt, txs]
      have hc := Cm.run_lt 4294967295 (ls.take k).flatten (by omega)
      have hnext : Cm.run 4294967295 (ls.take (k + 1)).flatten = Cm.run (Cm.run 4294967295 (ls.take k).flatten) (ls.getD k []) := by
        rw [take_flat ls k (by rw [HL.out]; exact hlt), Cm.run_append]
      have hll := HSS.out k
      obtain ⟨l, hl⟩ : ∃ l, l = ls.getD k [] := ⟨_, rfl⟩
      obtain ⟨c, hce⟩ : ∃ c, c = Cm.run 4294967295 (ls.take k).flatten := ⟨_, rfl⟩
      rw [← hl] at hcell hnext hll
      rw [← hce] at hc hnext ⊢
      have HNX := Lib.hid hnext
      have HROW := Lib.hid hrow
      have HB := Lib.hid hbel
      clear hnext hl hce hrow hbel hac
      have hsl : (Om.B l).size = l.length := rfl
      have hls : (Om.B l).size ≤ 4611686018427387904 := hll
      clear hsl hll
      have hd : decide ((k : Int) < (n : Int)) = true := by simp; omega
      go_wp2
      go_loop [4, 17] (fun left i => ∃ m : Nat, m ≤ (Om.B l).size ∧ i = .int .i64 m ∧ left = .int .u32 (Cm.run c (l.take m) : Int)) (fun _ i => (Om.B l).size - (intOf i).toNat)
      case atStart => exact ⟨0, Nat.zero_le _, rfl, rfl⟩
      case round =>
        obtain ⟨m, hm, rfl, rfl⟩ := hrel
        by_cases hmlt : m < (Om.B l).size
        · have hdm : decide ((m : Int) < ((Om.B l).size : Int)) = true := by simp; omega
          have hcm := Cm.run_lt c (l.take m) hc
          have hmix := mix_int (Cm.run c (l.take m)) (Om.B l)[m] hcm
          have hbyte : Cm.run c (l.take (m + 1)) = Cm.halves 2 (Cm.run c (l.take m) ^^^ (Om.B l)[m].toNat) := run_take c l m hmlt
          have hx0 := Cm.mix_lt (Cm.run c (l.take m)) (Om.B l)[m] hcm
          obtain ⟨x, hx⟩ : ∃ x, x = Cm.run c (l.take m) ^^^ (Om.B l)[m].toNat := ⟨_, rfl⟩
          rw [← hx] at hmix hbyte hx0
          have HMIX := Lib.hid hmix
          have HBY := Lib.hid hbyte
          clear hmix hbyte hx
          go_wp2
          go_loop [4, 26] (fun left i => ∃ d : Nat, d ≤ 2 ∧ i = .int .i64 d ∧ left = .int .u32 (Cm.halves d x : Int)) (fun _ i => 2 - (intOf i).toNat)
          case atStart => exact ⟨0, Nat.zero_le _, rfl, by rw [HMIX.out]; rfl⟩
          case round =>
            obtain ⟨d, hdd, rfl, rfl⟩ := hrel
            by_cases hdlt : d < 2
            · have hy := Cm.halves_lt d x hx0
              have hsucc : Cm.halves (d + 1) x = Cm.half (Cm.halves d x) := rfl
              obtain ⟨y, hye⟩ : ∃ y, y = Cm.halves d x := ⟨_, rfl⟩
              rw [← hye] at hy hsucc ⊢
              have hhalf := half_int y hy
              have htab : wo.cell? ⟨w1.heap.size, y % 16, none⟩ = some (.int .u32 (Cm.tbl (y % 16) : Int)) := by
                rw [cell_of_row _ _ _ _ _ _ HROW.out, remCells_get _ (by omega)]
              have HH := Lib.hid hhalf
              have HSU := Lib.hid hsucc
              clear hhalf hsucc hye
              go_wp2
              go_round
              case rel => exact ⟨d + 1, by omega, by go_num, by rw [HSU.out, ← HH.out]⟩
              case measure => simp [intOf]; omega
            · obtain rfl : d = 2 := by omega
              go_wp2
              go_round
              case rel => exact ⟨m + 1, by omega, by go_num, by rw [HBY.out]⟩
              case measure => simp [intOf]; omega
        · obtain rfl : m = (Om.B l).size := by omega
          go_wp2
          go_roundw
          case rel => exact ⟨k + 1, by omega, by go_num, by rw [HNX.out, show l.take (Om.B l).size = l from List.take_length], HROW.out, HB.out⟩
          case measure => simp [intOf]; omega
    · obtain rfl : k = n := by omega
      have hc := Cm.run_lt 4294967295 (ls.take k).flatten (by omega)
      have hfin : bits .xor .u32 IntKind.u32.max (Cm.run 4294967295 (ls.take k).flatten : Int) = (Cm.sum ls.flatten : Int) := by
        have e : ls.take k = ls := by rw [← HL.out]; exact List.take_length
        unfold Cm.sum
        rw [show IntKind.u32.max = ((4294967295 : Nat) : Int) from by decide, u32_xor_nat _ _ (by omega) hc, ← Cm.not_eq _ hc, e]
      have HF := Lib.hid hfin
      have HB := Lib.hid hbel
      clear hrow hbel hfin
      go_wp2
      go_ret
      exact ⟨by rw [← HF.out]; rfl, HB.out⟩

theorem below_call {w w1 : World} {o : Obj} (h : Below (w.alloc o).heap.size (w.alloc o) w1) : Below w.heap.size w w1 := by
  have h0 : Below w.heap.size w (w.alloc o) := (Below.refl _ _).alloc (Nat.le_refl _) _
  exact h0.trans (h.mono h0.size)
/-- One text. -/
theorem sum_one (l : List UInt8) (b : Nat) (w : World) (hl : l.length ≤ 4611686018427387904) (hc : w.cell? ⟨b, 0, none⟩ = some (.string (Om.B l))) :
    Calls Try.prog 41 #[.slice (some ⟨b, 0, none⟩) 1 1] w fun e w' => e = .returned (.int .u32 (Cm.sum l : Int)) ∧ Below w.heap.size w w' := by
  have h := sum_any [l] w.heap.size (some ⟨b, 0, none⟩) 1 1 w rfl (by omega) (Nat.le_refl _) (fun _ => ⟨b, 0, rfl, lt_of_cell hc, fun i hi => by
    obtain rfl : i = 0 := by omega
    rw [hc]; rfl⟩) (fun i => by
      cases i with
      | zero => exact hl
      | succ i => simp)
  simpa using h

theorem seal_any (l : List UInt8) (w : World) (hl : l.length ≤ 4611686018427387904) :
    Calls Try.prog 27 #[.string (Om.B l)] w fun e w' => e = .returned (.string (Om.B (Cm.four l))) ∧ Below w.heap.size w w' := by
  have hs := Cm.sum_lt l
  go_enter Try.func27, Try.ntmps27
  go_wp2_with fail
  refine (sum_one l _ _ hl (by simp)).mono ?_
  rintro e w1 ⟨rfl, hb1⟩
  have HB1 := Lib.hid hb1
  clear hb1
  go_wp2_with fail
  refine (put_ok (Cm.sum l) 4 _ (by omega) (by omega)).mono ?_
  rintro e w2 ⟨rfl, hb2⟩
  have HB2 := Lib.hid hb2
  clear hb2
  go_wp2
  go_ret
  exact ⟨rfl, below_call HB1.out |>.trans (HB2.out.mono (below_call HB1.out).size)⟩
end Go.Proofs.Ytncbimgbjkdocaa
