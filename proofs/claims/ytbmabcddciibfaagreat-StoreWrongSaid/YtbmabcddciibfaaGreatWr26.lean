/- Part 26 of the contracts and of the plain mathematics that the proof of the law rests on: OctetGet, OctetGet2, HeadRead, CutPrefix. -/
import Derived.Test.YtbmabcddciibfaaGreatWr10
import Derived.Test.YtbmabcddciibfaaGreatWr11
import Derived.Test.YtbmabcddciibfaaGreatWr14
import Derived.Test.YtbmabcddciibfaaGreatWr15
import Derived.Test.YtbmabcddciibfaaGreatWr25
import Derived.Deep.QuietTactic
import Derived.BigQuiet
import Derived.Outline
import Derived.IntWalk
import Derived.Laws.BitsAllLaws
import Derived.WalkSpells
import Derived.Defers
import Derived.Recover
import Derived.Laws.Pointers
namespace Go.Proofs.YtbmabcddciibfaaGreat
open Go.RowKit
set_option linter.unusedVariables false
theorem first_cut (l : List UInt8) (d : Nat) (w : World) (h : l.length < d) (hd : d ≤ 8) :
    Calls Tryz.prog 193 #[.string (Om.B l), .int .i64 (d : Int)] w fun e w' => e = .panicked [{ v := .iface 213 (.agg #[]), recovered := false }] ∧ w = w' := by
  have hs : (Om.B l).size < d := by rw [Om.B_size]; exact h
  go_enter Tryz.func193, Tryz.ntmps193
  go_wp2
  exact ⟨rfl, rfl, rfl⟩
theorem or_step (a b j : Nat) (ha : a < 256 ^ j) (hb : b < 256) (hj : j ≤ 7) : bits .or .u64 (a : Int) (IntKind.u64.wrap (IntKind.u64.wrap (b : Int) * 2 ^ (8 * j))) = ((a + 256 ^ j * b : Nat) : Int) := by
  have e1 : (256 : Nat) ^ j = 2 ^ (8 * j) := by rw [Nat.pow_mul]
  have h7 : 256 ^ j ≤ 256 ^ 7 := Nat.pow_le_pow_right (by omega) hj
  have hle : 256 ^ j * b ≤ 256 ^ 7 * 255 := Nat.mul_le_mul h7 (by omega)
  have w1 : IntKind.u64.wrap (b : Int) = (b : Int) := IntWalk.u64_in _ (by omega)
  have e2 : (b : Int) * 2 ^ (8 * j) = ((256 ^ j * b : Nat) : Int) := by
    rw [e1, Int.natCast_mul, Int.natCast_pow, Int.mul_comm]; rfl
  have w2 : IntKind.u64.wrap ((256 ^ j * b : Nat) : Int) = ((256 ^ j * b : Nat) : Int) := IntWalk.u64_in _ (by omega)
  rw [w1, e2, w2, u64_or_nat _ _ (by omega) (by omega)]
  congr 1
  have h := Nat.shiftLeft_add_eq_or_of_lt (a := b) (b := a) (i := 8 * j) (by rw [← e1]; exact ha)
  rw [Nat.shiftLeft_eq, ← e1] at h
  rw [Nat.or_comm, Nat.mul_comm, ← h]
  omega
theorem B_at (l : List UInt8) (j : Nat) (h : j < (Om.B l).size) : (Om.B l)[j] = l[j]'h := rfl
theorem first_any (l : List UInt8) (d : Nat) (w : World) (h : d ≤ l.length) (hd : d ≤ 8) :
    Calls Tryz.prog 193 #[.string (Om.B l), .int .i64 (d : Int)] w fun e w' => e = .returned (.tuple #[.int .u64 (Om.num (l.take d) : Int), .string (Om.B (l.drop d))]) ∧ ∃ m, w' = w.drewN m := by
  have hs : ¬ (Om.B l).size < d := by rw [Om.B_size]; omega
  go_enter Tryz.func193, Tryz.ntmps193
  go_wp2
  go_loop [4, 14] (fun n i => ∃ j : Nat, j ≤ d ∧ i = .int .i64 j ∧ n = .int .u64 (Om.num (l.take j) : Int)) (fun _ i => d - (Go.RowKit.intOf i).toNat)
  case atStart => exact ⟨0, Nat.zero_le _, rfl, rfl⟩
  case round =>
    obtain ⟨j, hj, rfl, rfl⟩ := hrel
    by_cases hlt : j < d
    · have hls : j < (Om.B l).size := by rw [Om.B_size]; omega
      have hnum : Om.num (l.take (j + 1)) = Om.num (l.take j) + 256 ^ j * ((Om.B l)[j]).toNat := by
        rw [List.take_succ_eq_append_getElem (by omega), Om.num_snoc, List.length_take, Nat.min_eq_left (by omega), B_at]; rfl
      have hor := or_step (Om.num (l.take j)) ((Om.B l)[j]).toNat j (by
        have := Om.num_lt (l.take j)
        rw [List.length_take, Nat.min_eq_left (by omega)] at this
        exact this) (UInt8.toNat_lt _) (by omega)
      rw [← hnum] at hor
      have HOR := Lib.hid hor
      clear hor hnum
      go_wp2
      go_round
      case rel => exact ⟨j + 1, by omega, by go_num, by rw [HOR.out]⟩
      case measure => simp [Go.RowKit.intOf]; omega
    · obtain rfl : j = d := by omega
      go_wp2
      go_quiet (fail)
      go_wp2
      go_ret2
      exact ⟨by rw [← Om.L_B l, ← Om.extract_end, Om.L_B]; rfl, _, rfl⟩
def nums (l : List UInt8) (zs : List Int) (n k : Nat) : List Value := (List.range k).map (fun i => Value.int .u64 (Om.at_ l zs i : Int)) ++ List.replicate (n - k) (.int .u64 0)
theorem nums_at (l : List UInt8) (zs : List Int) (n k : Nat) (h : k < n) : (nums l zs n k)[k]? = some (.int .u64 0) := by
  unfold nums
  rw [List.getElem?_append_right (by simp), List.getElem?_replicate, if_pos (by simp; omega)]
theorem nums_succ (l : List UInt8) (zs : List Int) (n k : Nat) (h : k < n) : (nums l zs n k).set k (.int .u64 (Om.at_ l zs k : Int)) = nums l zs n (k + 1) := by
  unfold nums
  obtain ⟨m, hm⟩ : ∃ m, n - k = m + 1 := ⟨n - k - 1, by omega⟩
  have hm' : n - (k + 1) = m := by omega
  rw [hm, hm', List.set_append_right _ _ (by simp), List.range_succ, List.map_append, List.replicate_succ]
  simp
theorem nums_full (l : List UInt8) (zs : List Int) (n i : Nat) (h : i < n) : (nums l zs n n)[i]? = some (.int .u64 (Om.at_ l zs i : Int)) := by
  unfold nums
  rw [List.getElem?_append_left (by simpa using h)]
  simp [h]
def ReadOk (l : List UInt8) (zs : List Int) (n : Nat) (w : World) (e : Ending) (w' : World) : Prop :=
  (Om.off zs n ≤ l.length ∧ e = .returned (.tuple #[.slice (some ⟨w.heap.size, 0, none⟩) n n, .string (Om.B (l.drop (Om.off zs n)))]) ∧ w'.ownsRow w.heap.size 166 1 (.slice (some ⟨w.heap.size, 0, none⟩) n n) n (nums l zs n n) ∧ Below w.heap.size w w') ∨
  (¬ Om.off zs n ≤ l.length ∧ e = .panicked [{ v := .iface 213 (.agg #[]), recovered := false }] ∧ Below w.heap.size w w')
set_option maxHeartbeats 800000 in
theorem read_any (l : List UInt8) (zs : List Int) (B : Nat) (a : Option Addr) (n cap : Nat) (w : World) (hl : zs.length = n) (hn : n ≤ 1099511627776) (hB : B ≤ w.heap.size) (hr : Row w B a n (szs zs)) (hok : Om.sizesOk zs = true) :
    Calls Tryz.prog 172 #[.string (Om.B l), .slice a n cap] w (ReadOk l zs n w) := by
  obtain ⟨i0, hi, hz0, hz1, hz2⟩ := info_parts info_u64
  have hc := areSizes_any zs B a n cap w hl (by omega) hr
  rw [hok] at hc
  have HC := Lib.hid hc
  have HOK := Lib.hid hok
  have HL := Lib.hid hl
  have HR := Lib.hid hr
  clear hok hl hr hc
  go_enter Tryz.func172, Tryz.ntmps172
  go_wp2_with fail
  refine HC.out.mono ?_
  rintro e w' ⟨rfl, rfl⟩
  go_wp2_with (refine wpList_make_full _ rfl _ _ 168 rfl w.heap.size 166 i0 (.int .u64 0) 1 Tryz.underlying168 hi hz0 hz1 .i64 .i64 _ _ n rfl rfl rfl rfl ?c1 ?c2 ?c3 ?_)
  case c1 => rw [hz2]; omega
  case c2 => unfold maxLen; omega
  case c3 => exact Nat.le_refl _
  intro w1 hown hgrow
  have hown0 : w1.ownsRow w.heap.size 166 1 (.slice (some ⟨w.heap.size, 0, none⟩) n n) n (nums l zs n 0) := by
    rw [toList_madeCells_one] at hown
    have e : nums l zs n 0 = List.replicate n (.int .u64 0) := by simp [nums]
    rw [e]
    exact hown
  have hbel0 : Below w.heap.size w w1 := (Below.refl _ _).grown hgrow (Nat.le_refl _) (fun j hj => by cases hj)
  clear hown hgrow
  go_wp2
  go_loopw [0, 19] (fun s i wr => ∃ k : Nat, k ≤ n ∧ i = .int .i64 k ∧ s = .string (Om.B (l.drop (Om.off zs k))) ∧ Om.off zs k ≤ l.length ∧ wr.ownsRow w.heap.size 166 1 (.slice (some ⟨w.heap.size, 0, none⟩) n n) n (nums l zs n k) ∧ Below w.heap.size w wr) (fun _ i _ => n - (Go.RowKit.intOf i).toNat)
  case atStart => exact ⟨0, Nat.zero_le _, rfl, by rw [Om.off_zero]; rfl, by rw [Om.off_zero]; omega, hown0, hbel0⟩
  case round =>
    obtain ⟨k, hk, rfl, rfl, hoff, hown, hbel⟩ := hrel
    have HO := Lib.hid hown
    have HB := Lib.hid hbel
    have HOFF := Lib.hid hoff
    clear hown0 hbel0 hown hbel hoff
    by_cases hlt : k < n
    · obtain ⟨ab, ao, rfl, hab, hac⟩ := HR.out (by omega)
      obtain ⟨d, hd⟩ : ∃ d : Nat, zs.getD k 0 = (d : Int) := Int.eq_ofNat_of_zero_le (Om.sizes_at zs HOK.out k).1
      have hd8 : d ≤ 8 := by have := (Om.sizes_at zs HOK.out k).2; omega
      have hcz : wr.cell? ⟨ab, ao + k, none⟩ = some (.int .i64 (d : Int)) := by
        rw [HB.out.cell (p := ⟨ab, ao + k, none⟩) (Nat.lt_of_lt_of_le hab hB), hac k hlt, szs, hd]
      have hos : Om.off zs (k + 1) = Om.off zs k + d := by rw [Om.off_succ zs k (by rw [HL.out]; exact hlt), hd, Int.toNat_natCast]
      have hat : Om.at_ l zs k = Om.num ((l.drop (Om.off zs k)).take d) := by unfold Om.at_; rw [hd, Int.toNat_natCast]
      have HOS := Lib.hid hos
      have HAT := Lib.hid hat
      clear hac hd hos hat
      by_cases hf : d ≤ (l.drop (Om.off zs k)).length
      · have hcell : wr.cell? ⟨w.heap.size, k, none⟩ = some (.int .u64 0) := by rw [HO.out.cellAt k (by omega), nums_at l zs n k hlt]
        have hfz := HO.out.frozenAt k
        have hst := HO.out.stored k (.int .u64 (Om.at_ l zs k : Int))
        rw [nums_succ l zs n k hlt, HAT.out] at hst
        have HS := Lib.hid hst
        have HF := Lib.hid hf
        clear hst hf
        go_wp2_with fail
        refine (first_any (l.drop (Om.off zs k)) d _ HF.out hd8).mono ?_
        rintro e w2 ⟨rfl, m, rfl⟩
        go_wp2
        go_roundw
        case rel =>
          refine ⟨k + 1, by omega, by go_num, by rw [HOS.out], ?_, HS.out.1, ?_⟩
          · have := HF.out
            rw [List.length_drop] at this
            have := HOFF.out
            rw [HOS.out]
            omega
          · exact below_drewN (HB.out.setCell (p := ⟨w.heap.size, k, none⟩) (Nat.le_refl _) _) m
        case measure => simp [Go.RowKit.intOf]; omega
      · have hbad : ¬ Om.off zs n ≤ l.length := by
          have h1 := Om.off_mono zs (k + 1) n (by omega)
          have h2 := HOS.out
          rw [List.length_drop] at hf
          omega
        have HBAD := Lib.hid hbad
        have HF := Lib.hid hf
        clear hbad hf
        go_wp2_with fail
        refine (first_cut (l.drop (Om.off zs k)) d _ (by have := HF.out; omega) hd8).mono ?_
        rintro e w2 ⟨rfl, rfl⟩
        go_wp2
        exact ⟨rfl, .inr ⟨HBAD.out, rfl, HB.out⟩⟩
    · obtain rfl : k = n := by omega
      go_wp2
      go_ret2
      exact .inl ⟨HOFF.out, rfl, HO.out, HB.out⟩
end Go.Proofs.YtbmabcddciibfaaGreat
namespace Go.Proofs.YtbmabcddciibfaaGreat
open Go.RowKit
set_option linter.unusedVariables false
theorem ta_nil (t : TypeId) (w : World) (h : t = 212 ∨ t = 213) : (Instr.typeAssert .nilIface 20 t true).run Tryz.prog w = .ok (.tuple #[.agg #[], .bool false]) w := by
  rcases h with rfl | rfl <;> kernel_rfl
theorem catch_none (p : Addr) (w : World) :
    CallsD Tryz.prog 171 #[.pointer (some p)] .returning w fun e u' w' =>
      e = .returned (.tuple #[]) ∧ u' = .returning ∧ w' = w := by
  have h1 := fun w => ta_nil 212 w (.inl rfl)
  have h2 := fun w => ta_nil 213 w (.inr rfl)
  refine callsD_of_wpS Tryz.func171 rfl fun c₀ cs hu => ?_
  apply wpS_seq
  apply wpS_region
  simp [wpOpsS, go_sem, recoverD, hu, Tryz.ntmps171, Exit.thenS]
  rw [show (#[Value.pointer (some p)] ++ (Array.replicate 7 undef).setIfInBounds 0 .nilIface) = #[.pointer (some p), .nilIface, undef, undef, undef, undef, undef, undef] from rfl]
  refine wpS_of_wp ?_
  go_wp2
  cases c₀
  simp_all [bodyPostS, results, Tryz.results171]
theorem read_ok (l : List UInt8) (zs : List Int) (B : Nat) (a : Option Addr) (n cap : Nat) (w : World) (hl : zs.length = n) (hn : n ≤ 1099511627776) (hB : B ≤ w.heap.size) (hr : Row w B a n (szs zs)) (hok : Om.sizesOk zs = true) (ho : Om.off zs n ≤ l.length) :
    Calls Tryz.prog 172 #[.string (Om.B l), .slice a n cap] w fun e w' => e = .returned (.tuple #[.slice (some ⟨w.heap.size, 0, none⟩) n n, .string (Om.B (l.drop (Om.off zs n)))]) ∧ w'.ownsRow w.heap.size 166 1 (.slice (some ⟨w.heap.size, 0, none⟩) n n) n (nums l zs n n) ∧ Below w.heap.size w w' :=
  (read_any l zs B a n cap w hl hn hB hr hok).mono fun e w' h => by
    rcases h with h | h
    · exact h.2
    · exact absurd ho h.1
theorem err_cell {w w1 : World} (h : Below (w.heap.size + 1) (w.alloc (.cells #[.int .i64 0] 41)) w1) : w1.cell? ⟨w.heap.size, 0, none⟩ = some (.int .i64 0) ∧ w1.frozen? ⟨w.heap.size, 0, none⟩ = false ∧ Below w.heap.size w w1 := by
  refine ⟨?_, ?_, ?_⟩
  · rw [h.cell (p := ⟨w.heap.size, 0, none⟩) (by simp)]; simp
  · rw [h.frozen (p := ⟨w.heap.size, 0, none⟩) (by simp)]; simp
  · exact ((Below.refl _ _).alloc (Nat.le_refl _) _).trans (h.mono (by omega))
def GetFull (l : List UInt8) (zs : List Int) (n : Nat) (w : World) (e : Ending) (w' : World) : Prop :=
  ∃ b : Nat, e = .returned (.tuple #[.slice (some ⟨b, 0, none⟩) n n, .string (Om.B (l.drop (Om.off zs n))), .int .i64 0]) ∧ w.heap.size ≤ b ∧ b < w'.heap.size ∧ (∀ i, i < n → w'.cell? ⟨b, i, none⟩ = some (.int .u64 (Om.at_ l zs i : Int))) ∧ Below w.heap.size w w'
theorem get_full (l : List UInt8) (zs : List Int) (B : Nat) (a : Option Addr) (n cap : Nat) (w : World) (hl : zs.length = n) (hn : n ≤ 1099511627776) (hB : B ≤ w.heap.size) (hr : Row w B a n (szs zs)) (hok : Om.sizesOk zs = true) (ho : Om.off zs n ≤ l.length) :
    Calls Tryz.prog 149 #[.string (Om.B l), .slice a n cap] w (GetFull l zs n w) := by
  have hmf : ∀ (fn : Fn) (first cap : Array Value) (w : World), (Instr.makeFunc fn first cap).run Tryz.prog w = .ok (.func fn first cap) w := fun _ _ _ _ => rfl
  have hc := read_ok l zs B a n cap (w.alloc (.cells #[.int .i64 0] 41)) hl hn (by simp; omega) (hr.below ((Below.refl _ _).alloc hB _)) hok ho
  have HC := Lib.hid hc
  clear hok hl hr hc ho
  go_enter_defers Tryz.func149, Tryz.ntmps149
  go_wp2_with fail
  refine HC.out.mono ?_
  rintro e w1 ⟨rfl, hown, hb⟩
  have hb' : Below (w.heap.size + 1) (w.alloc (.cells #[.int .i64 0] 41)) w1 := by simpa using hb
  have hown' : w1.ownsRow (w.heap.size + 1) 166 1 (.slice (some ⟨w.heap.size + 1, 0, none⟩) n n) n (nums l zs n n) := by simpa using hown
  have HO := Lib.hid hown'
  obtain ⟨h1, h2, h3⟩ := err_cell hb'
  have H3 := Lib.hid h3
  clear hb hb' hown hown' h3
  go_wp2
  refine leaves_cons (f := 171) (args := #[.pointer (some ⟨w.heap.size, 0, none⟩)]) (by simp) (by simp [go_sem]) ?_
  refine (catch_none ⟨w.heap.size, 0, none⟩ _).mono ?_
  rintro e u' w'' ⟨rfl, rfl, rfl⟩
  have h4 := H3.out.setCell (p := ⟨w.heap.size, 0, none⟩) (Nat.le_refl _) (.int .i64 0)
  have h5 : (w1.setCell ⟨w.heap.size, 0, none⟩ (.int .i64 0)).cell? ⟨w.heap.size, 0, none⟩ = some (.int .i64 0) := World.cell?_setCell_same w1 _ _ h1
  simp [Leaves, settle, results, Tryz.results149, go_sem, h5]
  refine ⟨w.heap.size + 1, rfl, by omega, ?_, fun i hi => ?_, h4⟩
  · rcases HO.out.2 with ⟨hv, _⟩ | ⟨g, c, cur, hv, _, hg, _⟩
    · cases hv
    · injection hv with ha
      injection ha with ha
      injection ha with ha
      have := (Array.getElem?_eq_some_iff.1 hg).1
      rw [← ha] at this
      simpa using this
  · rw [World.cell?_setCell_other w1 _ _ _ (by simp), HO.out.cellAt i (by omega), nums_full l zs n i hi]
end Go.Proofs.YtbmabcddciibfaaGreat
namespace Go.Proofs.YtbmabcddciibfaaGreat
open Go.RowKit
set_option linter.unusedVariables false
theorem results_four {fn : Func} {p u : Tmp} (h : fn.results = #[.cell p 105, .tmp u]) (tmps : Array Value) (w : World) (g : Nat) (x0 x1 x2 x3 v : Value)
    (hp : tmps.getD p undef = .pointer (some ⟨g, 0, none⟩)) (hu : tmps.getD u undef = v) (hg : w.heap[g]? = some (.cells #[x0, x1, x2, x3] 105 (0, 0))) :
    (results fn tmps).run Tryz.prog w = .ok (.tuple #[.agg #[x0, x1, x2, x3], v]) w := by
  have hi : (Tryz.prog.info? 105).map (·.size) = some (#[x0, x1, x2, x3] : Array Value).size := by kernel_rfl
  rw [results_cell_tmp h, hp, hu]
  simp [asAddr, run_loadVar_row w g 105 105 #[x0, x1, x2, x3] (0, 0) _ hg Tryz.underlying105 rfl hi, Result.andThen]
def GetH (r : List UInt8) (n0 n1 n2 n3 : Nat) (w : World) (e : Ending) (w' : World) : Prop :=
  ∃ nb : Nat, e = .returned (.tuple #[.slice (some ⟨nb, 0, none⟩) 4 4, .string (Om.B r), .int .i64 0]) ∧ nb < w'.heap.size ∧
    w'.cell? ⟨nb, 0, none⟩ = some (.int .u64 (n0 : Int)) ∧ w'.cell? ⟨nb, 1, none⟩ = some (.int .u64 (n1 : Int)) ∧ w'.cell? ⟨nb, 2, none⟩ = some (.int .u64 (n2 : Int)) ∧ w'.cell? ⟨nb, 3, none⟩ = some (.int .u64 (n3 : Int)) ∧ Below w.heap.size w w'
theorem geth (q : List UInt8) (h : 11 ≤ q.length) (a : Option Addr) (cap : Nat) (w : World) (hr : Row w w.heap.size a 4 (szs Hm.zs)) :
    Calls Tryz.prog 149 #[.string (Om.B q), .slice a 4 cap] w (GetH (q.drop 11) (Om.at_ q Hm.zs 0) (Om.at_ q Hm.zs 1) (Om.at_ q Hm.zs 2) (Om.at_ q Hm.zs 3) w) := by
  refine (get_full q Hm.zs w.heap.size a 4 cap w rfl (by omega) (Nat.le_refl _) hr (by decide) (by rw [show Om.off Hm.zs 4 = 11 by decide]; exact h)).mono ?_
  rintro e w' ⟨nb, he, _, h2, hc, hb⟩
  rw [show Om.off Hm.zs 4 = 11 by decide] at he
  exact ⟨nb, he, h2, hc 0 (by omega), hc 1 (by omega), hc 2 (by omega), hc 3 (by omega), hb⟩
theorem mark_true (w : World) : Calls Tryz.prog 162 #[.bool true] w fun e w' => e = .returned (.int .u64 1) ∧ w = w' := mark_any true w
set_option maxHeartbeats 800000 in
theorem hread_rest (q : List UInt8) (w : World) (h : 11 ≤ q.length) (hl : q.length ≤ 60) (hz : allZero (q.drop 11) = false) :
    Calls Tryz.prog 148 #[.string (Om.B q)] w fun e w' => e = .returned (.tuple #[Hv 0 0 0 false, .bool false]) ∧ Below w.heap.size w w' := by
  have SZ := Lib.hid hsizes_at
  have G := Lib.hid (geth q h)
  have Z := Lib.hid (fun w1 => zero_any (q.drop 11) w1 (by rw [List.length_drop]; omega))
  rw [hz] at Z
  unfold GetH at G
  have HB : Hid (Below w.heap.size w (w.alloc (.cells #[.int .u32 0, .int .i64 0, .int .i64 0, .bool false] 105))) := (Below.refl _ w).alloc (Nat.le_refl _) _
  have hw0 := heap_alloc_new w (.cells #[.int .u32 0, .int .i64 0, .int .i64 0, .bool false] 105)
  obtain ⟨W0, hW0⟩ : ∃ W0, w.alloc (.cells #[.int .u32 0, .int .i64 0, .int .i64 0, .bool false] 105) = W0 := ⟨_, rfl⟩
  rw [hW0] at HB hw0
  have H0 := Lib.hid hw0
  have LT := Lib.hid (Array.getElem?_eq_some_iff.1 hw0).1
  unfold Hv
  clear h hl hz hw0
  go_enter Tryz.func148, Tryz.ntmps148
  go_wp2_with fail
  clear hW0
  refine (SZ.out _).mono ?_
  rintro e w1 ⟨ks, rfl, hr1, hb1⟩
  have HR1 := Lib.hid hr1
  have B1 := Lib.hid hb1
  clear hr1 hb1
  go_wp2_with fail
  refine (G.out _ _ _ HR1.out).mono ?_
  rintro e w2 ⟨nb, rfl, _, _, _, _, _, hb2⟩
  have B2 := Lib.hid (B1.out.trans (hb2.mono B1.out.size))
  clear hb2
  go_wp2_with fail
  refine (Z.out _).mono ?_
  rintro e w3 ⟨rfl, rfl⟩
  have h3 := (B2.out.block _ LT.out).trans H0.out
  have H3 := Lib.hid h3
  have HB2 := Lib.hid (HB.out.trans (B2.out.mono HB.out.size))
  have z0 : w2.cell? ⟨w.heap.size, 0, none⟩ = some (.int .u32 0) := by rw [cell_of_row _ _ _ _ _ _ h3]; rfl
  have z1 : w2.cell? ⟨w.heap.size, 1, none⟩ = some (.int .i64 0) := by rw [cell_of_row _ _ _ _ _ _ h3]; rfl
  have z2 : w2.cell? ⟨w.heap.size, 2, none⟩ = some (.int .i64 0) := by rw [cell_of_row _ _ _ _ _ _ h3]; rfl
  have z3 : w2.cell? ⟨w.heap.size, 3, none⟩ = some (.bool false) := by rw [cell_of_row _ _ _ _ _ _ h3]; rfl
  have zf := fun j => frozen_of_row (j := j) _ _ _ _ h3
  clear h3
  go_wp2
  refine bodyPost_ret (results_four (p := 2) (u := 3) rfl _ _ w.heap.size _ _ _ _ _ rfl rfl (four_set H3.out _ _ _ _)) rfl ⟨rfl, ?_⟩
  exact below_four HB2.out (Nat.le_refl _) _ _ _ _
def rdV (good : Bool) (g : Nat) (c p : Int) (b : Bool) : Value := if good = true then Hv g c p b else Hv 0 0 0 false
theorem rdV_no (g : Nat) (c p : Int) (b : Bool) : rdV false g c p b = Hv 0 0 0 false := rfl
theorem rdV_yes (g : Nat) (c p : Int) (b : Bool) : rdV true g c p b = Hv g c p b := rfl
theorem read_cases (ok : Bool) (n : Nat) :
    (ok = false ∧ (ok && decide (n ≤ 1)) = false) ∨ (ok = true ∧ ((n : Int) != ((Hm.bit ((n : Int) == 1) : Nat) : Int)) = true ∧ (ok && decide (n ≤ 1)) = false) ∨ (ok = true ∧ ((n : Int) != ((Hm.bit ((n : Int) == 1) : Nat) : Int)) = false ∧ (ok && decide (n ≤ 1)) = true) := by
  cases ok with
  | false => exact .inl ⟨rfl, rfl⟩
  | true =>
    refine .inr ?_
    by_cases h : n ≤ 1
    · refine .inr ⟨rfl, ?_, by simpa using h⟩
      by_cases h1 : n = 1
      · subst h1; rfl
      · obtain rfl : n = 0 := by omega
        rfl
    · refine .inl ⟨rfl, ?_, by simpa using h⟩
      have : ((n : Int) == 1) = false := by rw [beq_eq_false_iff_ne]; omega
      rw [this]
      show ((n : Int) != 0) = true
      rw [bne_iff_ne]; omega
set_option maxHeartbeats 800000 in
theorem hread_f (q r : List UInt8) (n0 n1 n2 n3 m3 : Nat) (x3 : Bool) (w : World) (h0 : n0 < 4294967296) (h1 : n1 < 65536) (h2 : n2 < 4294967296) (h3 : n3 < 256)
    (hx3 : ((n3 : Int) == 1) = x3) 
    (G : Hid (∀ a cap w1, Row w1 w1.heap.size a 4 (szs Hm.zs) → Calls Tryz.prog 149 #[.string (Om.B q), .slice a 4 cap] w1 (GetH r n0 n1 n2 n3 w1)))
    (Z : Hid (∀ w1, Calls Tryz.prog 152 #[.string (Om.B r)] w1 fun e w' => e = .returned (.bool true) ∧ w1 = w'))
    (R : Hid (∀ w1, Calls Tryz.prog 159 #[Hv n0 n1 n2 x3] w1 fun e w' => e = .returned (.bool false) ∧ Below w1.heap.size w1 w'))
    (M : Hid (∀ w1, Calls Tryz.prog 162 #[.bool x3] w1 fun e w' => e = .returned (.int .u64 (m3 : Int)) ∧ w1 = w')) :
    Calls Tryz.prog 148 #[.string (Om.B q)] w fun e w' => e = .returned (.tuple #[Hv 0 0 0 false, .bool false]) ∧ Below w.heap.size w w' := by
  have SZ := Lib.hid hsizes_at
  unfold GetH at G
  have HB : Hid (Below w.heap.size w (w.alloc (.cells #[.int .u32 0, .int .i64 0, .int .i64 0, .bool false] 105))) := (Below.refl _ w).alloc (Nat.le_refl _) _
  have hw0 := heap_alloc_new w (.cells #[.int .u32 0, .int .i64 0, .int .i64 0, .bool false] 105)
  obtain ⟨W0, hW0⟩ : ∃ W0, w.alloc (.cells #[.int .u32 0, .int .i64 0, .int .i64 0, .bool false] 105) = W0 := ⟨_, rfl⟩
  rw [hW0] at HB hw0
  have H0 := Lib.hid hw0
  have LT := Lib.hid (Array.getElem?_eq_some_iff.1 hw0).1
  have e0 : IntKind.u32.wrap (n0 : Int) = (n0 : Int) := IntWalk.u32_in _ (by omega)
  have e1 : IntKind.i64.wrap (n1 : Int) = (n1 : Int) := IntWalk.i64_in _ (by omega)
  have e2 : IntKind.i64.wrap (n2 : Int) = (n2 : Int) := IntWalk.i64_in _ (by omega)
  unfold Hv at R ⊢
  clear hw0
  go_enter Tryz.func148, Tryz.ntmps148
  go_wp2_with fail
  clear hW0
  refine (SZ.out _).mono ?_
  rintro e w1 ⟨ks, rfl, hr1, hb1⟩
  have HR1 := Lib.hid hr1
  have B1 := Lib.hid hb1
  clear hr1 hb1
  go_wp2_with fail
  refine (G.out _ _ _ HR1.out).mono ?_
  rintro e w2 ⟨nb, rfl, hnb, c0, c1, c2, c3, hb2⟩
  have B2 := Lib.hid (B1.out.trans (hb2.mono B1.out.size))
  clear hb2
  go_wp2_with fail
  refine (Z.out _).mono ?_
  rintro e w3 ⟨rfl, rfl⟩
  go_wp2
  go_region_held3 (fun w' => w'.cell? ⟨nb, 0, none⟩ = some (.int .u64 (n0 : Int)) ∧ w'.cell? ⟨nb, 1, none⟩ = some (.int .u64 (n1 : Int)) ∧ w'.cell? ⟨nb, 2, none⟩ = some (.int .u64 (n2 : Int)) ∧ w'.cell? ⟨nb, 3, none⟩ = some (.int .u64 (n3 : Int)))
    (first | go_keep | (refine ⟨?_, ?_, ?_, ?_⟩ <;> assumption))
    (first | (go_at_call 162; refine (mark_true _).mono ?_; rintro e w3 ⟨rfl, rfl⟩))
  all_goals
    obtain ⟨W3, hW3⟩ : ∃ W3, (w2.alloc (.cells #[.int .u32 (n0 : Int), .int .i64 (n1 : Int), .int .i64 (n2 : Int), .bool x3] 105)).drew = W3 := ⟨_, rfl⟩
    have hb3 : Below w2.heap.size w2 W3 := by rw [← hW3]; exact ((Below.refl _ _).alloc (Nat.le_refl _) _).drew
    have bx3 : Bx W3 w2.heap.size n0 n1 n2 x3 := by rw [← hW3]; exact bx_row (heap_alloc_new w2 _)
    rw [hW3]
    have d3 := (hb3.cell (p := ⟨nb, 3, none⟩) hnb).trans c3
    have hnb3 := Nat.lt_of_lt_of_le hnb hb3.size
    have B3 := Lib.hid (B2.out.trans (hb3.mono B2.out.size))
    clear hW3 c0 c1 c2 c3 hnb hb3 B2
    obtain ⟨lt3, b0, b1, b2, b3⟩ := bx3
    have hsz : w.heap.size < W3.heap.size := Nat.lt_of_lt_of_le LT.out B3.out.size
    go_wp2_with fail
    refine wp_region_held_drew (S := (fun w' => w'.cell? ⟨w2.heap.size, 0, none⟩ = some (.int .u32 (n0 : Int)) ∧ w'.cell? ⟨w2.heap.size, 1, none⟩ = some (.int .i64 (n1 : Int)) ∧ w'.cell? ⟨w2.heap.size, 2, none⟩ = some (.int .i64 (n2 : Int)) ∧ w'.cell? ⟨w2.heap.size, 3, none⟩ = some (.bool x3))) (by kernel_rfl) ⟨b0, b1, b2, b3⟩ (fun hHeld => ?_)
    refine Skip.take (i := 0) 41 (.agg #[.int .u32 (n0 : Int), .int .i64 (n1 : Int), .int .i64 (n2 : Int), .bool x3]) rfl rfl (by kernel_rfl) (by kernel_rfl) (by kernel_rfl) (fun _ _ _ h => h) (by rfl) ?_ (by assumption) ?_
    · intro w' hSw
      (try dsimp only at hSw)
      go_simp
    try simp only [Act.put, List.setIfInBounds_toArray, List.set_cons_zero, List.set_cons_succ]
    refine wpAnyH_ready (rs := [1]) (by kernel_rfl) (by simp) ?_
    refine AllReadyH.cons rfl (fun K hK => ?_) AllReadyH.nil
    go_simp
    go_at_call 159
    refine (R.out _).mono ?_
    rintro e w4 ⟨rfl, hb⟩
    have BX : Hid (Below W3.heap.size W3 w4) := (Below.refl _ _).drew.trans hb
    clear hb
    refine hK.out _ _ ⟨(BX.out.cell (p := ⟨w2.heap.size, 0, none⟩) lt3).trans b0, (BX.out.cell (p := ⟨w2.heap.size, 1, none⟩) lt3).trans b1, (BX.out.cell (p := ⟨w2.heap.size, 2, none⟩) lt3).trans b2, (BX.out.cell (p := ⟨w2.heap.size, 3, none⟩) lt3).trans b3⟩ (fun hHeld => ?_)
    clear hK
    try simp only [Act.put, List.setIfInBounds_toArray, List.set_cons_zero, List.set_cons_succ]
    refine Skip.take (i := 2) 43 (.bool true) rfl rfl (by kernel_rfl) (by kernel_rfl) (by kernel_rfl) (fun _ _ _ h => h) (by rfl) ?_ (by assumption) ?_
    · intro w' hSw
      (try dsimp only at hSw)
      go_simp
    try simp only [Act.put, List.setIfInBounds_toArray, List.set_cons_zero, List.set_cons_succ]
    refine Skip.take (i := 3) 44 (.bool true) rfl rfl (by kernel_rfl) (by kernel_rfl) (by kernel_rfl) (fun _ _ _ h => h) (by rfl) ?_ (by assumption) ?_
    · intro w' hSw
      (try dsimp only at hSw)
      go_simp
    try simp only [Act.put, List.setIfInBounds_toArray, List.set_cons_zero, List.set_cons_succ]
    refine Skip.over (i := 4) (d := 45) rfl rfl rfl (by kernel_rfl) (by kernel_rfl) (by kernel_rfl) (fun _ _ _ h => h) (by rfl) (by assumption) ?_
    refine Skip.over (i := 5) (d := 46) rfl rfl rfl (by kernel_rfl) (by kernel_rfl) (by kernel_rfl) (fun _ _ _ h => h) (by rfl) (by assumption) ?_
    refine Skip.over (i := 6) (d := 47) rfl rfl rfl (by kernel_rfl) (by kernel_rfl) (by kernel_rfl) (fun _ _ _ h => h) (by rfl) (by assumption) ?_
    refine Skip.over (i := 7) (d := 48) rfl rfl rfl (by kernel_rfl) (by kernel_rfl) (by kernel_rfl) (fun _ _ _ h => h) (by rfl) (by assumption) ?_
    refine Skip.over (i := 8) (d := 49) rfl rfl rfl (by kernel_rfl) (by kernel_rfl) (by kernel_rfl) (fun _ _ _ h => h) (by rfl) (by assumption) ?_
    refine Skip.over (i := 9) (d := 50) rfl rfl rfl (by kernel_rfl) (by kernel_rfl) (by kernel_rfl) (fun _ _ _ h => h) (by rfl) (by assumption) ?_
    refine Skip.over (i := 10) (d := 51) rfl rfl rfl (by kernel_rfl) (by kernel_rfl) (by kernel_rfl) (fun _ _ _ h => h) (by rfl) (by assumption) ?_
    refine Skip.take (i := 11) 52 (.bool true) rfl rfl (by kernel_rfl) (by kernel_rfl) (by kernel_rfl) (fun _ _ _ h => h) (by rfl) ?_ (by assumption) ?_
    · intro w' hSw
      (try dsimp only at hSw)
      go_simp
    try simp only [Act.put, List.setIfInBounds_toArray, List.set_cons_zero, List.set_cons_succ]
    refine wpAnyH_done (by kernel_rfl) ?_ _
    have h4 := (BX.out.block _ hsz).trans ((B3.out.block _ LT.out).trans H0.out)
    have H4 := Lib.hid h4
    have HB4 := Lib.hid (HB.out.trans ((B3.out.trans (BX.out.mono B3.out.size)).mono HB.out.size))
    have z0 : w4.cell? ⟨w.heap.size, 0, none⟩ = some (.int .u32 0) := by rw [cell_of_row _ _ _ _ _ _ h4]; rfl
    have z1 : w4.cell? ⟨w.heap.size, 1, none⟩ = some (.int .i64 0) := by rw [cell_of_row _ _ _ _ _ _ h4]; rfl
    have z2 : w4.cell? ⟨w.heap.size, 2, none⟩ = some (.int .i64 0) := by rw [cell_of_row _ _ _ _ _ _ h4]; rfl
    have z3 : w4.cell? ⟨w.heap.size, 3, none⟩ = some (.bool false) := by rw [cell_of_row _ _ _ _ _ _ h4]; rfl
    have zf := fun j => frozen_of_row (j := j) _ _ _ _ h4
    clear h4 b0 b1 b2 b3 d3
    go_wp2
    refine bodyPost_ret (results_four (p := 2) (u := 3) rfl _ _ w.heap.size _ _ _ _ _ rfl rfl (four_set H4.out _ _ _ _)) rfl ⟨rfl, ?_⟩
    exact below_four HB4.out (Nat.le_refl _) _ _ _ _
set_option maxHeartbeats 800000 in
theorem hread_m (q r : List UInt8) (n0 n1 n2 n3 m3 : Nat) (x3 : Bool) (w : World) (h0 : n0 < 4294967296) (h1 : n1 < 65536) (h2 : n2 < 4294967296) (h3 : n3 < 256)
    (hx3 : ((n3 : Int) == 1) = x3) (hm : ((n3 : Int) != (m3 : Int)) = true)
    (G : Hid (∀ a cap w1, Row w1 w1.heap.size a 4 (szs Hm.zs) → Calls Tryz.prog 149 #[.string (Om.B q), .slice a 4 cap] w1 (GetH r n0 n1 n2 n3 w1)))
    (Z : Hid (∀ w1, Calls Tryz.prog 152 #[.string (Om.B r)] w1 fun e w' => e = .returned (.bool true) ∧ w1 = w'))
    (R : Hid (∀ w1, Calls Tryz.prog 159 #[Hv n0 n1 n2 x3] w1 fun e w' => e = .returned (.bool true) ∧ Below w1.heap.size w1 w'))
    (M : Hid (∀ w1, Calls Tryz.prog 162 #[.bool x3] w1 fun e w' => e = .returned (.int .u64 (m3 : Int)) ∧ w1 = w')) :
    Calls Tryz.prog 148 #[.string (Om.B q)] w fun e w' => e = .returned (.tuple #[Hv 0 0 0 false, .bool false]) ∧ Below w.heap.size w w' := by
  have SZ := Lib.hid hsizes_at
  unfold GetH at G
  have HB : Hid (Below w.heap.size w (w.alloc (.cells #[.int .u32 0, .int .i64 0, .int .i64 0, .bool false] 105))) := (Below.refl _ w).alloc (Nat.le_refl _) _
  have hw0 := heap_alloc_new w (.cells #[.int .u32 0, .int .i64 0, .int .i64 0, .bool false] 105)
  obtain ⟨W0, hW0⟩ : ∃ W0, w.alloc (.cells #[.int .u32 0, .int .i64 0, .int .i64 0, .bool false] 105) = W0 := ⟨_, rfl⟩
  rw [hW0] at HB hw0
  have H0 := Lib.hid hw0
  have LT := Lib.hid (Array.getElem?_eq_some_iff.1 hw0).1
  have e0 : IntKind.u32.wrap (n0 : Int) = (n0 : Int) := IntWalk.u32_in _ (by omega)
  have e1 : IntKind.i64.wrap (n1 : Int) = (n1 : Int) := IntWalk.i64_in _ (by omega)
  have e2 : IntKind.i64.wrap (n2 : Int) = (n2 : Int) := IntWalk.i64_in _ (by omega)
  unfold Hv at R ⊢
  clear hw0
  go_enter Tryz.func148, Tryz.ntmps148
  go_wp2_with fail
  clear hW0
  refine (SZ.out _).mono ?_
  rintro e w1 ⟨ks, rfl, hr1, hb1⟩
  have HR1 := Lib.hid hr1
  have B1 := Lib.hid hb1
  clear hr1 hb1
  go_wp2_with fail
  refine (G.out _ _ _ HR1.out).mono ?_
  rintro e w2 ⟨nb, rfl, hnb, c0, c1, c2, c3, hb2⟩
  have B2 := Lib.hid (B1.out.trans (hb2.mono B1.out.size))
  clear hb2
  go_wp2_with fail
  refine (Z.out _).mono ?_
  rintro e w3 ⟨rfl, rfl⟩
  go_wp2
  go_region_held3 (fun w' => w'.cell? ⟨nb, 0, none⟩ = some (.int .u64 (n0 : Int)) ∧ w'.cell? ⟨nb, 1, none⟩ = some (.int .u64 (n1 : Int)) ∧ w'.cell? ⟨nb, 2, none⟩ = some (.int .u64 (n2 : Int)) ∧ w'.cell? ⟨nb, 3, none⟩ = some (.int .u64 (n3 : Int)))
    (first | go_keep | (refine ⟨?_, ?_, ?_, ?_⟩ <;> assumption))
    (first | (go_at_call 162; refine (mark_true _).mono ?_; rintro e w3 ⟨rfl, rfl⟩))
  all_goals
    obtain ⟨W3, hW3⟩ : ∃ W3, (w2.alloc (.cells #[.int .u32 (n0 : Int), .int .i64 (n1 : Int), .int .i64 (n2 : Int), .bool x3] 105)).drew = W3 := ⟨_, rfl⟩
    have hb3 : Below w2.heap.size w2 W3 := by rw [← hW3]; exact ((Below.refl _ _).alloc (Nat.le_refl _) _).drew
    have bx3 : Bx W3 w2.heap.size n0 n1 n2 x3 := by rw [← hW3]; exact bx_row (heap_alloc_new w2 _)
    rw [hW3]
    have d3 := (hb3.cell (p := ⟨nb, 3, none⟩) hnb).trans c3
    have hnb3 := Nat.lt_of_lt_of_le hnb hb3.size
    have B3 := Lib.hid (B2.out.trans (hb3.mono B2.out.size))
    clear hW3 c0 c1 c2 c3 hnb hb3 B2
    obtain ⟨lt3, b0, b1, b2, b3⟩ := bx3
    have hsz : w.heap.size < W3.heap.size := Nat.lt_of_lt_of_le LT.out B3.out.size
    go_wp2_with fail
    first | (go_region_held3 (fun w' => w'.cell? ⟨w2.heap.size, 0, none⟩ = some (.int .u32 (n0 : Int)) ∧ w'.cell? ⟨w2.heap.size, 1, none⟩ = some (.int .i64 (n1 : Int)) ∧ w'.cell? ⟨w2.heap.size, 2, none⟩ = some (.int .i64 (n2 : Int)) ∧ w'.cell? ⟨w2.heap.size, 3, none⟩ = some (.bool x3) ∧ w'.cell? ⟨nb, 3, none⟩ = some (.int .u64 (n3 : Int)))
      (first | go_keep | (refine ⟨?_, ?_, ?_, ?_, ?_⟩ <;> assumption) | (exact ⟨(BX.out.cell (p := ⟨w2.heap.size, 0, none⟩) lt3).trans b0, (BX.out.cell (p := ⟨w2.heap.size, 1, none⟩) lt3).trans b1, (BX.out.cell (p := ⟨w2.heap.size, 2, none⟩) lt3).trans b2, (BX.out.cell (p := ⟨w2.heap.size, 3, none⟩) lt3).trans b3, (BX.out.cell (p := ⟨nb, 3, none⟩) hnb3).trans d3⟩))
      (first | (go_at_call 159; refine (R.out _).mono ?_; rintro e w4 ⟨rfl, hb⟩; have BX : Hid (Below W3.heap.size W3 w4) := (Below.refl _ _).drew.trans hb; clear hb) | (go_at_call 162; refine (M.out _).mono ?_; rintro e w5 ⟨rfl, rfl⟩))) | fail
    have h4 := (BX.out.block _ hsz).trans ((B3.out.block _ LT.out).trans H0.out)
    have H4 := Lib.hid h4
    have HB4 := Lib.hid (HB.out.trans ((B3.out.trans (BX.out.mono B3.out.size)).mono HB.out.size))
    have z0 : w4.cell? ⟨w.heap.size, 0, none⟩ = some (.int .u32 0) := by rw [cell_of_row _ _ _ _ _ _ h4]; rfl
    have z1 : w4.cell? ⟨w.heap.size, 1, none⟩ = some (.int .i64 0) := by rw [cell_of_row _ _ _ _ _ _ h4]; rfl
    have z2 : w4.cell? ⟨w.heap.size, 2, none⟩ = some (.int .i64 0) := by rw [cell_of_row _ _ _ _ _ _ h4]; rfl
    have z3 : w4.cell? ⟨w.heap.size, 3, none⟩ = some (.bool false) := by rw [cell_of_row _ _ _ _ _ _ h4]; rfl
    have zf := fun j => frozen_of_row (j := j) _ _ _ _ h4
    clear h4 b0 b1 b2 b3 d3
    go_wp2
    refine bodyPost_ret (results_four (p := 2) (u := 3) rfl _ _ w.heap.size _ _ _ _ _ rfl rfl (four_set H4.out _ _ _ _)) rfl ⟨rfl, ?_⟩
    exact below_four HB4.out (Nat.le_refl _) _ _ _ _
set_option maxHeartbeats 800000 in
theorem hread_t (q r : List UInt8) (n0 n1 n2 n3 m3 : Nat) (x3 : Bool) (w : World) (h0 : n0 < 4294967296) (h1 : n1 < 65536) (h2 : n2 < 4294967296) (h3 : n3 < 256)
    (hx3 : ((n3 : Int) == 1) = x3) (hm : ((n3 : Int) != (m3 : Int)) = false)
    (G : Hid (∀ a cap w1, Row w1 w1.heap.size a 4 (szs Hm.zs) → Calls Tryz.prog 149 #[.string (Om.B q), .slice a 4 cap] w1 (GetH r n0 n1 n2 n3 w1)))
    (Z : Hid (∀ w1, Calls Tryz.prog 152 #[.string (Om.B r)] w1 fun e w' => e = .returned (.bool true) ∧ w1 = w'))
    (R : Hid (∀ w1, Calls Tryz.prog 159 #[Hv n0 n1 n2 x3] w1 fun e w' => e = .returned (.bool true) ∧ Below w1.heap.size w1 w'))
    (M : Hid (∀ w1, Calls Tryz.prog 162 #[.bool x3] w1 fun e w' => e = .returned (.int .u64 (m3 : Int)) ∧ w1 = w')) :
    Calls Tryz.prog 148 #[.string (Om.B q)] w fun e w' => e = .returned (.tuple #[Hv n0 n1 n2 x3, .bool true]) ∧ Below w.heap.size w w' := by
  have SZ := Lib.hid hsizes_at
  unfold GetH at G
  have HB : Hid (Below w.heap.size w (w.alloc (.cells #[.int .u32 0, .int .i64 0, .int .i64 0, .bool false] 105))) := (Below.refl _ w).alloc (Nat.le_refl _) _
  have hw0 := heap_alloc_new w (.cells #[.int .u32 0, .int .i64 0, .int .i64 0, .bool false] 105)
  obtain ⟨W0, hW0⟩ : ∃ W0, w.alloc (.cells #[.int .u32 0, .int .i64 0, .int .i64 0, .bool false] 105) = W0 := ⟨_, rfl⟩
  rw [hW0] at HB hw0
  have H0 := Lib.hid hw0
  have LT := Lib.hid (Array.getElem?_eq_some_iff.1 hw0).1
  have e0 : IntKind.u32.wrap (n0 : Int) = (n0 : Int) := IntWalk.u32_in _ (by omega)
  have e1 : IntKind.i64.wrap (n1 : Int) = (n1 : Int) := IntWalk.i64_in _ (by omega)
  have e2 : IntKind.i64.wrap (n2 : Int) = (n2 : Int) := IntWalk.i64_in _ (by omega)
  unfold Hv at R ⊢
  clear hw0
  go_enter Tryz.func148, Tryz.ntmps148
  go_wp2_with fail
  clear hW0
  refine (SZ.out _).mono ?_
  rintro e w1 ⟨ks, rfl, hr1, hb1⟩
  have HR1 := Lib.hid hr1
  have B1 := Lib.hid hb1
  clear hr1 hb1
  go_wp2_with fail
  refine (G.out _ _ _ HR1.out).mono ?_
  rintro e w2 ⟨nb, rfl, hnb, c0, c1, c2, c3, hb2⟩
  have B2 := Lib.hid (B1.out.trans (hb2.mono B1.out.size))
  clear hb2
  go_wp2_with fail
  refine (Z.out _).mono ?_
  rintro e w3 ⟨rfl, rfl⟩
  go_wp2
  go_region_held3 (fun w' => w'.cell? ⟨nb, 0, none⟩ = some (.int .u64 (n0 : Int)) ∧ w'.cell? ⟨nb, 1, none⟩ = some (.int .u64 (n1 : Int)) ∧ w'.cell? ⟨nb, 2, none⟩ = some (.int .u64 (n2 : Int)) ∧ w'.cell? ⟨nb, 3, none⟩ = some (.int .u64 (n3 : Int)))
    (first | go_keep | (refine ⟨?_, ?_, ?_, ?_⟩ <;> assumption))
    (first | (go_at_call 162; refine (mark_true _).mono ?_; rintro e w3 ⟨rfl, rfl⟩))
  all_goals
    obtain ⟨W3, hW3⟩ : ∃ W3, (w2.alloc (.cells #[.int .u32 (n0 : Int), .int .i64 (n1 : Int), .int .i64 (n2 : Int), .bool x3] 105)).drew = W3 := ⟨_, rfl⟩
    have hb3 : Below w2.heap.size w2 W3 := by rw [← hW3]; exact ((Below.refl _ _).alloc (Nat.le_refl _) _).drew
    have bx3 : Bx W3 w2.heap.size n0 n1 n2 x3 := by rw [← hW3]; exact bx_row (heap_alloc_new w2 _)
    rw [hW3]
    have d3 := (hb3.cell (p := ⟨nb, 3, none⟩) hnb).trans c3
    have hnb3 := Nat.lt_of_lt_of_le hnb hb3.size
    have B3 := Lib.hid (B2.out.trans (hb3.mono B2.out.size))
    clear hW3 c0 c1 c2 c3 hnb hb3 B2
    obtain ⟨lt3, b0, b1, b2, b3⟩ := bx3
    have hsz : w.heap.size < W3.heap.size := Nat.lt_of_lt_of_le LT.out B3.out.size
    go_wp2_with fail
    first | (go_region_held3 (fun w' => w'.cell? ⟨w2.heap.size, 0, none⟩ = some (.int .u32 (n0 : Int)) ∧ w'.cell? ⟨w2.heap.size, 1, none⟩ = some (.int .i64 (n1 : Int)) ∧ w'.cell? ⟨w2.heap.size, 2, none⟩ = some (.int .i64 (n2 : Int)) ∧ w'.cell? ⟨w2.heap.size, 3, none⟩ = some (.bool x3) ∧ w'.cell? ⟨nb, 3, none⟩ = some (.int .u64 (n3 : Int)))
      (first | go_keep | (refine ⟨?_, ?_, ?_, ?_, ?_⟩ <;> assumption) | (exact ⟨(BX.out.cell (p := ⟨w2.heap.size, 0, none⟩) lt3).trans b0, (BX.out.cell (p := ⟨w2.heap.size, 1, none⟩) lt3).trans b1, (BX.out.cell (p := ⟨w2.heap.size, 2, none⟩) lt3).trans b2, (BX.out.cell (p := ⟨w2.heap.size, 3, none⟩) lt3).trans b3, (BX.out.cell (p := ⟨nb, 3, none⟩) hnb3).trans d3⟩))
      (first | (go_at_call 159; refine (R.out _).mono ?_; rintro e w4 ⟨rfl, hb⟩; have BX : Hid (Below W3.heap.size W3 w4) := (Below.refl _ _).drew.trans hb; clear hb) | (go_at_call 162; refine (M.out _).mono ?_; rintro e w5 ⟨rfl, rfl⟩))) | fail
    have h4 := (BX.out.block _ hsz).trans ((B3.out.block _ LT.out).trans H0.out)
    have H4 := Lib.hid h4
    have HB4 := Lib.hid (HB.out.trans ((B3.out.trans (BX.out.mono B3.out.size)).mono HB.out.size))
    have z0 : w4.cell? ⟨w.heap.size, 0, none⟩ = some (.int .u32 0) := by rw [cell_of_row _ _ _ _ _ _ h4]; rfl
    have z1 : w4.cell? ⟨w.heap.size, 1, none⟩ = some (.int .i64 0) := by rw [cell_of_row _ _ _ _ _ _ h4]; rfl
    have z2 : w4.cell? ⟨w.heap.size, 2, none⟩ = some (.int .i64 0) := by rw [cell_of_row _ _ _ _ _ _ h4]; rfl
    have z3 : w4.cell? ⟨w.heap.size, 3, none⟩ = some (.bool false) := by rw [cell_of_row _ _ _ _ _ _ h4]; rfl
    have zf := fun j => frozen_of_row (j := j) _ _ _ _ h4
    have f0 := (BX.out.cell (p := ⟨w2.heap.size, 0, none⟩) lt3).trans b0
    have f1 := (BX.out.cell (p := ⟨w2.heap.size, 1, none⟩) lt3).trans b1
    have f2 := (BX.out.cell (p := ⟨w2.heap.size, 2, none⟩) lt3).trans b2
    have f3 := (BX.out.cell (p := ⟨w2.heap.size, 3, none⟩) lt3).trans b3
    clear h4 b0 b1 b2 b3 d3
    go_wp2
    refine bodyPost_ret (results_four (p := 2) (u := 3) rfl _ _ w.heap.size _ _ _ _ _ rfl rfl (four_set H4.out _ _ _ _)) rfl ⟨rfl, ?_⟩
    exact below_four HB4.out (Nat.le_refl _) _ _ _ _
def rdOk (q : List UInt8) : Bool := allZero (q.drop 11) && Hm.okN (Om.at_ q Hm.zs 0) (Om.at_ q Hm.zs 1) (Om.at_ q Hm.zs 2) (Om.at_ q Hm.zs 3)
theorem nums_small (q : List UInt8) (i k : Nat) (h : (Hm.zs.getD i 0).toNat ≤ k) : Om.at_ q Hm.zs i < 256 ^ k := by
  unfold Om.at_
  have h1 := Om.num_lt ((q.drop (Om.off Hm.zs i)).take (Hm.zs.getD i 0).toNat)
  have h2 : 256 ^ ((q.drop (Om.off Hm.zs i)).take (Hm.zs.getD i 0).toNat).length ≤ 256 ^ k := Nat.pow_le_pow_right (by omega) (by rw [List.length_take]; exact Nat.le_trans (Nat.min_le_left _ _) h)
  omega
theorem cast_one (n : Nat) : ((n : Int) == 1) = (n == 1) := by
  by_cases h : n = 1
  · subst h; rfl
  · rw [beq_eq_false_iff_ne.2 h, beq_eq_false_iff_ne]; omega
theorem hread_any (q : List UInt8) (w : World) (h : 11 ≤ q.length) (hl : q.length ≤ 60) :
    Calls Tryz.prog 148 #[.string (Om.B q)] w fun e w' => e = .returned (.tuple #[rdV (rdOk q) (Om.at_ q Hm.zs 0) (Om.at_ q Hm.zs 1) (Om.at_ q Hm.zs 2) (Om.at_ q Hm.zs 3 == 1), .bool (rdOk q)]) ∧ Below w.heap.size w w' := by
  unfold rdOk
  cases hz : allZero (q.drop 11) with
  | false =>
    rw [Bool.false_and, rdV_no]
    exact hread_rest q w h hl hz
  | true =>
    rw [Bool.true_and]
    have h0 : Om.at_ q Hm.zs 0 < 4294967296 := nums_small q 0 4 (by decide)
    have h1 : Om.at_ q Hm.zs 1 < 65536 := nums_small q 1 2 (by decide)
    have h2 : Om.at_ q Hm.zs 2 < 4294967296 := nums_small q 2 4 (by decide)
    have h3 : Om.at_ q Hm.zs 3 < 256 := nums_small q 3 1 (by decide)
    have G := Lib.hid (geth q h)
    have Z := Lib.hid (fun w1 => zero_any (q.drop 11) w1 (by rw [List.length_drop]; omega))
    rw [hz] at Z
    rw [← cast_one]
    obtain ⟨x3, hx3⟩ : ∃ x, (((Om.at_ q Hm.zs 3 : Nat) : Int) == 1) = x := ⟨_, rfl⟩
    have R := Lib.hid (fun w1 => hright_any (Om.at_ q Hm.zs 0) (Om.at_ q Hm.zs 1) (Om.at_ q Hm.zs 2) x3 w1)
    have M := Lib.hid (fun w1 => mark_any x3 w1)
    have hcase := read_cases (Hm.okH (Om.at_ q Hm.zs 0) (Om.at_ q Hm.zs 1) (Om.at_ q Hm.zs 2)) (Om.at_ q Hm.zs 3)
    rw [hx3] at hcase ⊢
    have hg : Hm.okN (Om.at_ q Hm.zs 0) (Om.at_ q Hm.zs 1) (Om.at_ q Hm.zs 2) (Om.at_ q Hm.zs 3) = (Hm.okH (Om.at_ q Hm.zs 0) (Om.at_ q Hm.zs 1) (Om.at_ q Hm.zs 2) && decide (Om.at_ q Hm.zs 3 ≤ 1)) := rfl
    rcases hcase with ⟨hok, he⟩ | ⟨hok, hm, he⟩ | ⟨hok, hm, he⟩
    · rw [hg, he, rdV_no]
      rw [hok] at R
      exact hread_f q _ _ _ _ _ _ x3 w h0 h1 h2 h3 hx3 G Z R M
    · rw [hg, he, rdV_no]
      rw [hok] at R
      exact hread_m q _ _ _ _ _ _ x3 w h0 h1 h2 h3 hx3 hm G Z R M
    · rw [hg, he, rdV_yes]
      rw [hok] at R
      exact hread_t q _ _ _ _ _ _ x3 w h0 h1 h2 h3 hx3 hm G Z R M
end Go.Proofs.YtbmabcddciibfaaGreat
namespace Go.Proofs.YtbmabcddciibfaaGreat
open Go.RowKit
set_option maxRecDepth 100000
set_option linter.unusedVariables false
theorem B_eq {p q : List UInt8} (h : p = q) : ((Om.B p).toList == (Om.B q).toList) = true := by rw [h]; exact beq_self_eq_true _
theorem hasprefix_any (l q : List UInt8) (w : World) (h : q.length ≤ l.length) :
    Calls Tryz.prog 192 #[.string (Om.B l), .string (Om.B q)] w fun e w' => e = .returned (.bool ((Om.B (l.take q.length)).toList == (Om.B q).toList)) ∧ w = w' := by
  have d1 : decide (((Om.B q).size : Int) ≤ ((Om.B l).size : Int)) = true := by rw [Om.B_size, Om.B_size]; simp; exact h
  have hx : (Om.B l).extract 0 (Om.B q).size = Om.B (l.take q.length) := by rw [Om.extract_front, Om.L_B, Om.B_size]
  have h0 : (0 : Int) ≤ ((Om.B q).size : Int) := by omega
  have h1 : ((Om.B q).size : Int) ≤ ((Om.B l).size : Int) := by simpa using d1
  clear h
  go_enter Tryz.func192, Tryz.ntmps192
  go_wp2
  go_ret
  exact ⟨rfl, rfl⟩
theorem tail_of (l q : List UInt8) : (Om.B l).extract q.length (Om.B l).size = Om.B (l.drop q.length) := by rw [Om.extract_end, Om.L_B]
theorem lcut_yes (l q : List UInt8) (w : World) (h : q.length ≤ l.length) (he : l.take q.length = q) :
    Calls Tryz.prog 170 #[.string (Om.B l), .string (Om.B q)] w fun e w' => e = .returned (.tuple #[.string (Om.B (l.drop q.length)), .bool true]) ∧ w = w' := by
  have C := Lib.hid (fun w1 => hasprefix_any l q w1 h)
  rw [B_eq he] at C
  have hx := tail_of l q
  have hs : (Om.B q).size = q.length := rfl
  have h0 : (0 : Int) ≤ ((Om.B q).size : Int) := by omega
  have h1 : ((Om.B q).size : Int) ≤ ((Om.B l).size : Int) := by rw [Om.B_size, Om.B_size]; omega
  rw [← hs] at hx
  have hx' := hx
  obtain ⟨r, hr⟩ : ∃ r, r = Om.B (l.drop (Om.B q).size) := ⟨_, rfl⟩
  rw [← hr] at hx
  rw [show l.drop q.length = l.drop (Om.B q).size from rfl, ← hr]
  clear h he hs hx' hr
  go_enter Tryz.func170, Tryz.ntmps170
  go_wp2_with fail
  refine (C.out _).mono ?_
  rintro e w1 ⟨rfl, rfl⟩
  go_wp2
  go_ret2
  exact ⟨rfl, rfl⟩
theorem lcut_no (l q : List UInt8) (w : World) (h : q.length ≤ l.length) (he : l.take q.length ≠ q) :
    Calls Tryz.prog 170 #[.string (Om.B l), .string (Om.B q)] w fun e w' => e = .returned (.tuple #[.string (Om.B l), .bool false]) ∧ w = w' := by
  have C := Lib.hid (fun w1 => hasprefix_any l q w1 h)
  rw [B_ne he] at C
  clear h he
  go_enter Tryz.func170, Tryz.ntmps170
  go_wp2_with fail
  refine (C.out _).mono ?_
  rintro e w1 ⟨rfl, rfl⟩
  go_wp2
  go_ret2
  exact ⟨rfl, rfl⟩
theorem cut_yes (l q : List UInt8) (w : World) (h : q.length ≤ l.length) (he : l.take q.length = q) :
    Calls Tryz.prog 147 #[.string (Om.B l), .string (Om.B q)] w fun e w' => e = .returned (.tuple #[.string (Om.B (l.drop q.length)), .bool true]) ∧ w = w' := by
  have C := Lib.hid (fun w1 => lcut_yes l q w1 h he)
  clear h he
  go_enter Tryz.func147, Tryz.ntmps147
  go_wp2_with fail
  refine (C.out _).mono ?_
  rintro e w1 ⟨rfl, rfl⟩
  go_wp2
  go_ret2
  exact ⟨rfl, rfl⟩
theorem cut_no (l q : List UInt8) (w : World) (h : q.length ≤ l.length) (he : l.take q.length ≠ q) :
    Calls Tryz.prog 147 #[.string (Om.B l), .string (Om.B q)] w fun e w' => e = .returned (.tuple #[.string (Om.B l), .bool false]) ∧ w = w' := by
  have C := Lib.hid (fun w1 => lcut_no l q w1 h he)
  clear h he
  go_enter Tryz.func147, Tryz.ntmps147
  go_wp2_with fail
  refine (C.out _).mono ?_
  rintro e w1 ⟨rfl, rfl⟩
  go_wp2
  go_ret2
  exact ⟨rfl, rfl⟩
end Go.Proofs.YtbmabcddciibfaaGreat
