/- Part 10 of the contracts and of the plain mathematics that the proof of the law rests on: CrcMath, OctetMem, OctetPut, CrcStep, CrcSum, Repeat, OctetPad, CrcOpen. -/
import Derived.Test.YtbmabcddciibfaaGreatWr02
import Derived.KernelRfl
import Derived.Test.YtbmabcddciibfaaGreatProg
import Derived.WalkKit
import Derived.OwnWalk
import Derived.Laws.OwnMore
import Derived.Laws.NewBlocks
import Derived.Laws.IdiomStrings
import Derived.Lib.Hide
import Derived.Lib.UnsafeStr
import Derived.Below
import Derived.Deep.Draws
import Derived.LoopTactic
import Derived.ProofKit
import Derived.WalkLawsBesides
import Derived.Laws.BitsAllLaws
import Derived.Laws.Rows
import Derived.Outline
import Derived.Shelf.Strings.Repeat
import Derived.Deep.RegionHeld3
import Derived.RegionTactic
namespace Go.Proofs.YtbmabcddciibfaaGreat
namespace Cm
def step (x : Nat) : Nat := if x % 2 = 0 then x / 2 else x / 2 ^^^ 3988292384
theorem step_lt (x : Nat) (h : x < 4294967296) : step x < 4294967296 := by
  unfold step
  split
  · omega
  · exact Nat.xor_lt_two_pow (n := 32) (by omega) (by decide)
def steps (n x : Nat) : Nat := match n with
  | 0 => x
  | n + 1 => step (steps n x)
theorem steps_lt (n x : Nat) (h : x < 4294967296) : steps n x < 4294967296 := by
  induction n with
  | zero => exact h
  | succ n ih => exact step_lt _ ih
def tbl (h : Nat) : Nat := steps 4 h
theorem tbl_lt (h : Nat) (hh : h < 16) : tbl h < 4294967296 := steps_lt 4 h (by omega)
def half (x : Nat) : Nat := x / 16 ^^^ tbl (x % 16)
theorem half_lt (x : Nat) (h : x < 4294967296) : half x < 4294967296 :=
  Nat.xor_lt_two_pow (n := 32) (by omega) (tbl_lt _ (by omega))
def halves (n x : Nat) : Nat := match n with
  | 0 => x
  | n + 1 => half (halves n x)
theorem halves_lt (n x : Nat) (h : x < 4294967296) : halves n x < 4294967296 := by
  induction n with
  | zero => exact h
  | succ n ih => exact half_lt _ ih
def byte (c : Nat) (b : UInt8) : Nat := halves 2 (c ^^^ b.toNat)
theorem mix_lt (c : Nat) (b : UInt8) (h : c < 4294967296) : c ^^^ b.toNat < 4294967296 :=
  Nat.xor_lt_two_pow (n := 32) h (by have := b.toNat_lt; omega)
theorem byte_lt (c : Nat) (b : UInt8) (h : c < 4294967296) : byte c b < 4294967296 := halves_lt 2 _ (mix_lt c b h)
def run (c : Nat) (l : List UInt8) : Nat := l.foldl byte c
theorem run_lt (c : Nat) (l : List UInt8) (h : c < 4294967296) : run c l < 4294967296 := by
  induction l generalizing c with
  | nil => exact h
  | cons b r ih => exact ih _ (byte_lt c b h)
theorem run_append (c : Nat) (a b : List UInt8) : run c (a ++ b) = run (run c a) b := List.foldl_append
theorem run_cons (c : Nat) (b : UInt8) (r : List UInt8) : run c (b :: r) = run (byte c b) r := rfl
def sum (l : List UInt8) : Nat := 4294967295 - run 4294967295 l
theorem sum_lt (l : List UInt8) : sum l < 4294967296 := by unfold sum; omega
theorem not_eq (x : Nat) (h : x < 4294967296) : 4294967295 - x = 4294967295 ^^^ x := by
  have e := @BitVec.toNat_not 32 (BitVec.ofNat 32 x)
  rw [← BitVec.xor_allOnes, BitVec.xor_comm, BitVec.toNat_xor, BitVec.toNat_allOnes, BitVec.toNat_ofNat, Nat.mod_eq_of_lt (by omega)] at e
  exact e.symm
theorem xor4 (a b c d : Nat) : (a ^^^ b) ^^^ (c ^^^ d) = (a ^^^ c) ^^^ (b ^^^ d) := by
  rw [Nat.xor_assoc, ← Nat.xor_assoc b c d, Nat.xor_comm b c, Nat.xor_assoc c b d, ← Nat.xor_assoc]
theorem step_eq (x : Nat) : step x = x / 2 ^^^ (x % 2 * 3988292384) := by
  unfold step
  split
  · next h => rw [h]; simp
  · next h => rw [show x % 2 = 1 by omega, Nat.one_mul]
theorem mul_xor (a b k : Nat) (ha : a < 2) (hb : b < 2) : (a ^^^ b) * k = a * k ^^^ b * k := by
  have : a = 0 ∨ a = 1 := by omega
  have : b = 0 ∨ b = 1 := by omega
  rcases ‹a = 0 ∨ a = 1› with rfl | rfl <;> rcases ‹b = 0 ∨ b = 1› with rfl | rfl <;> simp
theorem step_xor (a b : Nat) : step (a ^^^ b) = step a ^^^ step b := by
  rw [step_eq, step_eq, step_eq, xor4]
  have h1 : (a ^^^ b) / 2 = a / 2 ^^^ b / 2 := Nat.xor_div_two
  have h2 : (a ^^^ b) % 2 = a % 2 ^^^ b % 2 := Nat.xor_mod_two_pow (n := 1)
  rw [h1, h2, mul_xor _ _ _ (by omega) (by omega)]
theorem steps_xor (n a b : Nat) : steps n (a ^^^ b) = steps n a ^^^ steps n b := by
  induction n with
  | zero => rfl
  | succ n ih => rw [steps, ih, step_xor]; rfl
theorem half_xor (a b : Nat) : half (a ^^^ b) = half a ^^^ half b := by
  unfold half tbl
  have h1 : (a ^^^ b) / 16 = a / 16 ^^^ b / 16 := Nat.xor_div_two_pow (n := 4)
  have h2 : (a ^^^ b) % 16 = a % 16 ^^^ b % 16 := Nat.xor_mod_two_pow (n := 4)
  rw [h1, h2, steps_xor, xor4]
theorem tbl_high (h : Nat) (hh : h < 16) (h0 : h ≠ 0) : 268435456 ≤ tbl h := by
  have : ∀ k : Fin 16, k.val ≠ 0 → 268435456 ≤ tbl k.val := by decide
  exact this ⟨h, hh⟩ h0
theorem eq_of_xor {a b : Nat} (h : a ^^^ b = 0) : a = b := by
  have e : (a ^^^ b) ^^^ b = b := by rw [h, Nat.zero_xor]
  rwa [Nat.xor_assoc, Nat.xor_self, Nat.xor_zero] at e
theorem half_zero (x : Nat) (hx : x < 4294967296) (h : half x = 0) : x = 0 := by
  have e := eq_of_xor h
  by_cases h0 : x % 16 = 0
  · rw [h0] at e
    have : tbl 0 = 0 := by decide
    omega
  · have := tbl_high (x % 16) (by omega) h0
    omega
theorem half_inj (a b : Nat) (ha : a < 4294967296) (hb : b < 4294967296) (h : half a = half b) : a = b := by
  apply eq_of_xor
  apply half_zero _ (Nat.xor_lt_two_pow (n := 32) ha hb)
  rw [half_xor, h, Nat.xor_self]
theorem halves_inj (n a b : Nat) (ha : a < 4294967296) (hb : b < 4294967296) (h : halves n a = halves n b) : a = b := by
  induction n with
  | zero => exact h
  | succ n ih => exact ih (half_inj _ _ (halves_lt n a ha) (halves_lt n b hb) h)
theorem xor_left {a b c : Nat} (h : a ^^^ b = a ^^^ c) : b = c := by
  have e : a ^^^ (a ^^^ b) = a ^^^ (a ^^^ c) := by rw [h]
  rwa [← Nat.xor_assoc, ← Nat.xor_assoc, Nat.xor_self, Nat.zero_xor, Nat.zero_xor] at e
theorem byte_inj (c d : Nat) (b : UInt8) (hc : c < 4294967296) (hd : d < 4294967296) (h : byte c b = byte d b) : c = d := by
  have e := halves_inj 2 _ _ (mix_lt c b hc) (mix_lt d b hd) h
  rw [Nat.xor_comm c, Nat.xor_comm d] at e
  exact xor_left e
theorem byte_inj2 (c : Nat) (a b : UInt8) (hc : c < 4294967296) (h : byte c a = byte c b) : a = b :=
  UInt8.toNat_inj.1 (xor_left (halves_inj 2 _ _ (mix_lt c a hc) (mix_lt c b hc) h))
theorem run_inj (l : List UInt8) (c d : Nat) (hc : c < 4294967296) (hd : d < 4294967296) (h : run c l = run d l) : c = d := by
  induction l generalizing c d with
  | nil => exact h
  | cons b r ih => exact byte_inj c d b hc hd (ih _ _ (byte_lt c b hc) (byte_lt d b hd) h)
theorem sum_set (l : List UInt8) (k : Nat) (b : UInt8) (hk : k < l.length) (h : sum (l.set k b) = sum l) : l.set k b = l := by
  have e : l = l.take k ++ l[k] :: l.drop (k + 1) := by rw [List.getElem_cons_drop, List.take_append_drop]
  have e' : l.set k b = l.take k ++ b :: l.drop (k + 1) := by rw [List.set_eq_take_append_cons_drop, if_pos hk]
  have hF : ∀ l, run 4294967295 l < 4294967296 := fun l => run_lt _ l (by omega)
  have h1 := hF (l.set k b)
  have h2 := hF l
  have hr : run 4294967295 (l.set k b) = run 4294967295 l := by unfold sum at h; omega
  rw [e', show run 4294967295 l = run 4294967295 (l.take k ++ l[k] :: l.drop (k + 1)) from congrArg _ e, run_append, run_append, run_cons, run_cons] at hr
  have hx := hF (l.take k)
  have hb := byte_inj2 _ _ _ hx (run_inj _ _ _ (byte_lt _ _ hx) (byte_lt _ _ hx) hr)
  rw [e', hb]
  exact e.symm
def four (l : List UInt8) : List UInt8 := Om.low (sum l) 4
theorem four_length (l : List UInt8) : (four l).length = 4 := Om.low_length _ _
theorem four_inj (a b : List UInt8) (h : four a = four b) : sum a = sum b := by
  have e : Om.num (four a) = Om.num (four b) := by rw [h]
  unfold four at e
  rw [Om.num_low, Om.num_low, Nat.mod_eq_of_lt (sum_lt a), Nat.mod_eq_of_lt (sum_lt b)] at e
  exact e
def good (l : List UInt8) : Bool := l.drop (l.length - 4) == four (l.take (l.length - 4))
theorem good_sealed (p : List UInt8) : good (p ++ four p) = true := by
  unfold good
  have : (p ++ four p).length - 4 = p.length := by rw [List.length_append, four_length]; omega
  rw [this, List.drop_left, List.take_left]
  exact beq_self_eq_true _
theorem good_set (p : List UInt8) (k : Nat) (b : UInt8) (hk : k < p.length + 4) (h : good ((p ++ four p).set k b) = true) : (p ++ four p).set k b = p ++ four p := by
  have hl : ((p ++ four p).set k b).length - 4 = p.length := by rw [List.length_set, List.length_append, four_length]; omega
  unfold good at h
  rw [hl, beq_iff_eq] at h
  by_cases hp : k < p.length
  · rw [List.set_append_left _ _ hp] at h ⊢
    have e1 : (p.set k b ++ four p).take p.length = p.set k b := by
      have := List.take_left (l₁ := p.set k b) (l₂ := four p)
      rwa [List.length_set] at this
    have e2 : (p.set k b ++ four p).drop p.length = four p := by
      have := List.drop_left (l₁ := p.set k b) (l₂ := four p)
      rwa [List.length_set] at this
    rw [e1, e2] at h
    rw [sum_set p k b hp (four_inj _ _ h).symm]
  · rw [List.set_append_right _ _ (by omega)] at h ⊢
    rw [List.drop_left, List.take_left] at h
    rw [h]
end Cm
end Go.Proofs.YtbmabcddciibfaaGreat
namespace Go.Proofs.YtbmabcddciibfaaGreat
open Go.RowKit
def Row (w : World) (B : Nat) (a : Option Addr) (n : Nat) (f : Nat → Value) : Prop :=
  0 < n → ∃ b off, a = some ⟨b, off, none⟩ ∧ b < B ∧ ∀ i, i < n → w.cell? ⟨b, off + i, none⟩ = some (f i)
theorem Row.empty (w : World) (B : Nat) (a : Option Addr) (f : Nat → Value) : Row w B a 0 f := fun h => absurd h (by omega)
theorem Row.keep {w w' : World} {B : Nat} {a : Option Addr} {n : Nat} {f : Nat → Value} (h : Row w B a n f) (hk : ∀ p : Addr, p.block < B → w'.cell? p = w.cell? p) : Row w' B a n f := fun hn => by
  obtain ⟨b, off, e, hb, hc⟩ := h hn
  exact ⟨b, off, e, hb, fun i hi => (hk ⟨b, off + i, none⟩ hb).trans (hc i hi)⟩
theorem Row.below {w w' : World} {B : Nat} {a : Option Addr} {n : Nat} {f : Nat → Value} (h : Row w B a n f) (hb : Below B w w') : Row w' B a n f := h.keep fun _ hp => hb.cell hp
theorem Row.more {w : World} {B B' : Nat} {a : Option Addr} {n : Nat} {f : Nat → Value} (h : Row w B a n f) (hB : B ≤ B') : Row w B' a n f := fun hn => by
  obtain ⟨b, off, e, hb, hc⟩ := h hn
  exact ⟨b, off, e, by omega, hc⟩
theorem Row.own {w : World} {base : Nat} {t : TypeId} {a : Option Addr} {n c : Nat} {xs : List Value} {f : Nat → Value} (h : w.ownsRow base t 1 (.slice a n c) n xs) (hf : ∀ i, i < n → xs[i]? = some (f i)) : Row w w.heap.size a n f := fun hn => by
  rcases h.2 with ⟨_, h0⟩ | ⟨g, cap, cur, hv, _, hg, _⟩
  · omega
  · injection hv with ha _ hc
    subst ha
    subst hc
    have hlt : g < w.heap.size := by
      rcases Nat.lt_or_ge g w.heap.size with h' | h'
      · exact h'
      · rw [Array.getElem?_eq_none h'] at hg; cases hg
    exact ⟨g, 0, rfl, hlt, fun i hi => by rw [Nat.zero_add, h.cellAt i (by omega)]; exact hf i hi⟩
theorem grown_of_below {a w : World} (h : Below a.heap.size a w) (row : Option Nat) : a.grownBy w row := ⟨h.os, h.tape, h.output, h.size, fun i hi _ => h.block i hi⟩
theorem own_below {w w' : World} {base : Nat} {t : TypeId} {sz : Nat} {v : Value} {n : Nat} {xs : List Value} (h : w.ownsRow base t sz v n xs) (hb : Below w.heap.size w w') : w'.ownsRow base t sz v n xs := by
  refine h.kept (grown_of_below hb none) ?_
  cases v.ownBlock <;> simp
theorem below_drewN {B : Nat} {a w : World} (h : Below B a w) (n : Nat) : Below B a (w.drewN n) := ⟨h.os, h.tape, h.output, h.size, h.block⟩
theorem lt_of_cell {w : World} {a : Addr} {v : Value} (h : w.cell? a = some v) : a.block < w.heap.size := by
  unfold World.cell? at h
  by_cases hb : a.block < w.heap.size
  · exact hb
  · rw [Array.getElem?_eq_none (by omega)] at h
    simp at h
theorem info_u8 : (Tryz.prog.info? 5).map (fun i => (i.zero, i.size, i.bytes)) = some (some (.int .u8 0), 1, 1) := by kernel_rfl
theorem info_u64 : (Tryz.prog.info? 166).map (fun i => (i.zero, i.size, i.bytes)) = some (some (.int .u64 0), 1, 8) := by kernel_rfl
end Go.Proofs.YtbmabcddciibfaaGreat
namespace Go.Proofs.YtbmabcddciibfaaGreat
open Go.RowKit
set_option linter.unusedVariables false
theorem isSize_yes (z : Int) (w : World) (h : 0 ≤ z) (h8 : z ≤ 8) : Calls Tryz.prog 200 #[.int .i64 z] w fun e w' => e = .returned (.bool true) ∧ w = w' := by
  go_enter Tryz.func200, Tryz.ntmps200
  go_wp2
  go_ret
  exact ⟨rfl, rfl⟩
theorem isSize_no (z : Int) (w : World) (h : ¬ (0 ≤ z ∧ z ≤ 8)) : Calls Tryz.prog 200 #[.int .i64 z] w fun e w' => e = .returned (.bool false) ∧ w = w' := by
  by_cases h0 : 0 ≤ z
  · have h8 : ¬ z ≤ 8 := fun h8 => h ⟨h0, h8⟩
    clear h
    go_enter Tryz.func200, Tryz.ntmps200
    go_wp2
    go_ret
    exact ⟨rfl, rfl⟩
  · clear h
    go_enter Tryz.func200, Tryz.ntmps200
    go_wp2
    go_ret
    exact ⟨rfl, rfl⟩
theorem put_arg (n z : Int) (w : World) (h : ¬ (0 ≤ z ∧ z ≤ 8)) : Calls Tryz.prog 186 #[.int .u64 n, .int .i64 z] w fun e w' => e = .returned (.tuple #[.string (Om.B []), .int .i64 1]) ∧ w = w' := by
  go_enter Tryz.func186, Tryz.ntmps186
  go_wp2_with fail
  refine (isSize_no z _ h).mono ?_
  rintro e w' ⟨rfl, rfl⟩
  go_wp2
  go_ret2
  exact ⟨rfl, rfl⟩
theorem put_big (n k : Nat) (w : World) (h : k ≤ 8) (hf : ¬ n < 256 ^ k) : Calls Tryz.prog 186 #[.int .u64 (n : Int), .int .i64 (k : Int)] w fun e w' => e = .returned (.tuple #[.string (Om.B []), .int .i64 2]) ∧ w = w' := by
  have h1 := Om.sh_int n k
  have h2 : ((Om.sh n k : Int) != 0) = true := by have := Om.sh_pos n k hf; rw [bne_iff_ne]; omega
  clear hf
  go_enter Tryz.func186, Tryz.ntmps186
  go_wp2_with fail
  refine (isSize_yes _ _ (by omega) (by omega)).mono ?_
  rintro e w' ⟨rfl, rfl⟩
  go_wp2
  go_ret2
  exact ⟨rfl, rfl⟩
def bts (n z k : Nat) : List Value := Lib.byteCells (Om.low n k) ++ List.replicate (z - k) (.int .u8 0)
theorem bts_at (n z k : Nat) (h : k < z) : (bts n z k)[k]? = some (.int .u8 0) := by
  unfold bts
  rw [List.getElem?_append_right (by rw [Lib.byteCells_length, Om.low_length]; exact Nat.le_refl _), Lib.byteCells_length, Om.low_length, List.getElem?_replicate, if_pos (by omega)]
theorem bts_succ (n z k : Nat) (h : k < z) : (bts n z k).set k (.int .u8 ((UInt8.ofNat (Om.sh n k)).toNat : Int)) = bts n z (k + 1) := by
  unfold bts
  obtain ⟨m, hm⟩ : ∃ m, z - k = m + 1 := ⟨z - k - 1, by omega⟩
  have hm' : z - (k + 1) = m := by omega
  rw [hm, hm', List.set_append_right _ _ (by rw [Lib.byteCells_length, Om.low_length]; exact Nat.le_refl _), Lib.byteCells_length, Om.low_length, Om.low_succ, Lib.byteCells_append, Nat.sub_self, List.replicate_succ]
  simp [Lib.byteCells, Om.sh]
set_option maxHeartbeats 400000 in
theorem put_ok (n k : Nat) (w : World) (h : k ≤ 8) (hf : n < 256 ^ k) : Calls Tryz.prog 186 #[.int .u64 (n : Int), .int .i64 (k : Int)] w fun e w' => e = .returned (.tuple #[.string (Om.B (Om.low n k)), .int .i64 0]) ∧ Below w.heap.size w w' := by
  obtain ⟨i0, hi, hz0, hz1, hz2⟩ := info_parts info_u8
  have h1 := Om.sh_int n k
  have h2 : ((Om.sh n k : Int) != 0) = false := by rw [Om.sh_zero n k hf]; rfl
  clear hf
  go_enter Tryz.func186, Tryz.ntmps186
  go_wp2_with fail
  refine (isSize_yes _ _ (by omega) (by omega)).mono ?_
  rintro e w' ⟨rfl, rfl⟩
  go_wp2_with (refine wpList_make_full _ rfl _ _ 65 rfl w.heap.size 5 i0 (.int .u8 0) 1 Tryz.underlying65 hi hz0 hz1 .i64 .i64 _ _ k rfl rfl rfl rfl ?c1 ?c2 ?c3 ?_)
  case c1 => rw [hz2]; omega
  case c2 => unfold maxLen; omega
  case c3 => exact Nat.le_refl _
  intro w1 hown hgrow
  have hown0 : w1.ownsRow w.heap.size 5 1 (.slice (some ⟨w.heap.size, 0, none⟩) k k) k (bts n k 0) := by
    rw [toList_madeCells_one] at hown
    have e : bts n k 0 = List.replicate k (.int .u8 0) := by simp [bts, Om.low, Lib.byteCells]
    rw [e]
    exact hown
  have hbel0 : Below w.heap.size w w1 := (Below.refl _ _).grown hgrow (Nat.le_refl _) (fun j hj => by cases hj)
  clear hown hgrow h1 h2
  go_wp2
  go_loopw [20] (fun i wr => ∃ j : Nat, j ≤ k ∧ i = .int .i64 j ∧ wr.ownsRow w.heap.size 5 1 (.slice (some ⟨w.heap.size, 0, none⟩) k k) k (bts n k j) ∧ Below w.heap.size w wr) (fun i _ => k - (Go.RowKit.intOf i).toNat)
  case atStart => exact ⟨0, Nat.zero_le _, rfl, hown0, hbel0⟩
  case round =>
    obtain ⟨j, hj, rfl, hown, hbel⟩ := hrel
    clear hown0 hbel0
    by_cases hlt : j < k
    · have h1 := Om.sh_int n j
      have hcell : wr.cell? ⟨w.heap.size, j, none⟩ = some (.int .u8 0) := by rw [hown.cellAt j (by omega), bts_at n k j hlt]
      have hfz := hown.frozenAt j
      have hst := hown.stored j (.int .u8 ((UInt8.ofNat (Om.sh n j)).toNat : Int))
      rw [bts_succ n k j hlt] at hst
      have HS := Lib.hid hst
      clear hst hown
      go_wp2
      go_roundw
      case rel =>
        refine ⟨j + 1, by omega, by go_num, ?_, ?_⟩
        · exact HS.out.1
        · exact hbel.setCell (p := ⟨w.heap.size, j, none⟩) (Nat.le_refl _) _
      case measure => simp [Go.RowKit.intOf]; omega
    · obtain rfl : j = k := by omega
      have hcv : (convert 65 9 (.slice (some ⟨w.heap.size, 0, none⟩) j j)).run Tryz.prog wr = .ok (.string (Om.B (Om.low n j))) wr := by
        have h := run_convert_bytes_back (P := Tryz.prog) wr 65 9 5 ⟨w.heap.size, 0, none⟩ j (Om.low n j) Tryz.underlying65 Tryz.underlying5 Tryz.underlying9 (fun i hi => by
          rw [Om.low_length] at hi
          rw [show (⟨w.heap.size, 0, none⟩ : Addr).add i = ⟨w.heap.size, i, none⟩ from by unfold Addr.add; split <;> simp_all, hown.cellAt i (by omega)]
          simp [bts, Lib.byteCells, Om.low_length, hi])
        rw [Om.low_length] at h
        exact h
      clear hown hlt
      go_wp2
      go_ret2
      exact ⟨rfl, hbel⟩
theorem str_one (W : World) (x : Nat) : (convert 65 9 (.slice (some ⟨W.heap.size, 0, none⟩) 1 1)).run Tryz.prog (W.alloc (.cells #[.int .u8 ((x : Int) % 256)] 5)) = .ok (.string (Om.B [UInt8.ofNat x])) (W.alloc (.cells #[.int .u8 ((x : Int) % 256)] 5)) := by
  have e : (x : Int) % 256 = ((UInt8.ofNat x).toNat : Int) := by rw [UInt8.toNat_ofNat']; omega
  rw [e]
  have h := run_convert_bytes_back (P := Tryz.prog) (W.alloc (.cells #[.int .u8 ((UInt8.ofNat x).toNat : Int)] 5)) 65 9 5 ⟨W.heap.size, 0, none⟩ 1 [UInt8.ofNat x] Tryz.underlying65 Tryz.underlying5 Tryz.underlying9 (fun i hi => by
    have : i = 0 := by simpa using hi
    subst this
    simp [Addr.add])
  exact h
theorem sh_next (n j : Nat) : Om.sh n j / 256 = Om.sh n (j + 1) := by
  unfold Om.sh; rw [Nat.div_div_eq_div_mul, Nat.pow_succ]
theorem no_over (a b : List UInt8) (h : a.length + b.length < 4611686018427387904) : ¬ 9223372036854775807 < (Om.B a).size + (Om.B b).size := by
  rw [Om.B_size, Om.B_size]; omega
def putS (n k : Nat) : List UInt8 := if n < 256 ^ k then Om.low n k else []
def putE (n k : Nat) : Int := if n < 256 ^ k then 0 else 2
end Go.Proofs.YtbmabcddciibfaaGreat
namespace Go.Proofs.YtbmabcddciibfaaGreat
open Go.RowKit
set_option maxRecDepth 100000
set_option linter.unusedVariables false
theorem step_any (x : Nat) (w : World) (h : x < 4294967296) : Calls Tryz.prog 211 #[.int .u32 (x : Int)] w fun e w' => e = .returned (.int .u32 (Cm.step x : Int)) ∧ w = w' := by
  by_cases h0 : x % 2 = 0
  · have h1 : ((x : Int) % 2 == 0) = true := by rw [beq_iff_eq]; omega
    have hs : (Cm.step x : Int) = (x : Int) / 2 := by unfold Cm.step; rw [if_pos h0]; omega
    have HS := Lib.hid hs
    clear hs
    go_enter Tryz.func211, Tryz.ntmps211
    go_wp2
    go_ret
    exact ⟨by rw [HS.out]; rfl, rfl⟩
  · have h1 : ((x : Int) % 2 == 0) = false := by rw [beq_eq_false_iff_ne]; omega
    have hs : (Cm.step x : Int) = bits .xor .u32 ((x : Int) / 2) 3988292384 := by
      unfold Cm.step
      rw [if_neg h0]
      exact (u32_xor_nat (x / 2) 3988292384 (by omega) (by omega)).symm
    have HS := Lib.hid hs
    clear hs
    go_enter Tryz.func211, Tryz.ntmps211
    go_wp2
    go_ret
    exact ⟨by rw [HS.out]; rfl, rfl⟩
def remCells (k : Nat) : Array Value := ((List.range 16).map fun i => Value.int .u32 (if i < k then (Cm.tbl i : Int) else 0)).toArray
theorem remCells_size (k : Nat) : (remCells k).size = 16 := by simp [remCells]
theorem remCells_at (k : Nat) (h : k < 16) : (remCells k)[k]? = some (.int .u32 0) := by simp [remCells, h]
theorem remCells_get (h : Nat) (hh : h < 16) : (remCells 16)[h]? = some (.int .u32 (Cm.tbl h : Int)) := by simp [remCells, hh]
theorem remCells_succ (k : Nat) (h : k < 16) : (remCells k).setIfInBounds k (.int .u32 (Cm.tbl k : Int)) = remCells (k + 1) := by
  apply Array.ext
  · simp [remCells]
  · intro i h1 h2
    rw [Array.getElem_setIfInBounds]
    by_cases e : k = i
    · subst e; simp [remCells]
    · simp only [e, if_false, remCells, List.getElem_toArray, List.getElem_map, List.getElem_range]
      have : (i < k) ↔ (i < k + 1) := by omega
      simp only [this]
    · simpa [remCells] using h2
theorem remCells_one (k : Nat) : (remCells k).all (·.oneCell') = true := by
  simp [remCells, Value.oneCell']
theorem below_setRow {B g : Nat} {a w : World} (h : Below B a w) (hg : B ≤ g) (cs : Array Value) : Below B a (w.setRow g cs) :=
  ⟨h.os, h.tape, h.output, by rw [size_setRow]; exact h.size, fun k hk => (setRow_other w g k cs (by omega)).trans (h.block k hk)⟩
theorem rem_any (w : World) : Calls Tryz.prog 205 #[] w fun e w' => e = .returned (.agg (remCells 16)) ∧ Below w.heap.size w w' := by
  have hinfo : (Tryz.prog.info? 252).map (·.size) = some (remCells 16).size := by rw [remCells_size]; kernel_rfl
  go_enter Tryz.func205, Tryz.ntmps205
  go_wp2
  go_loopw [3] (fun i wr => ∃ k : Nat, k ≤ 16 ∧ i = .int .i64 k ∧ wr.heap[w.heap.size]? = some (.cells (remCells k) 252 (0, 0)) ∧ Below w.heap.size w wr) (fun i _ => 16 - (Go.RowKit.intOf i).toNat)
  case atStart => exact ⟨0, by omega, rfl, heap_alloc_new _ _, (Below.refl _ _).alloc (Nat.le_refl _) _⟩
  case round =>
    obtain ⟨k, hk, rfl, hrow, hbel⟩ := hrel
    obtain ⟨wo, rfl⟩ : ∃ wo : World, wo = wr := ⟨_, rfl⟩
    by_cases hlt : k < 16
    · have hcell : wo.cell? ⟨w.heap.size, k, none⟩ = some (.int .u32 0) := by rw [cell_of_row _ _ _ _ _ _ hrow, remCells_at k hlt]
      have hfz := frozen_of_row wo w.heap.size k _ _ hrow
      have hnew := heap_setCell_same wo w.heap.size k _ _ (.int .u32 (Cm.tbl k : Int)) hrow
      rw [remCells_succ k hlt] at hnew
      have HN := Lib.hid hnew
      have HB := Lib.hid hbel
      clear hnew hrow hbel
      have hd : decide ((k : Int) < 16) = true := by simp; omega
      go_wp2
      go_loop [2, 8] (fun v j => ∃ m : Nat, m ≤ 4 ∧ j = .int .i64 m ∧ v = .int .u32 (Cm.steps m k : Int)) (fun _ j => 4 - (Go.RowKit.intOf j).toNat)
      case atStart => exact ⟨0, by omega, rfl, rfl⟩
      case round =>
        obtain ⟨m, hm, rfl, rfl⟩ := hrel
        by_cases hmlt : m < 4
        · have hx := Cm.steps_lt m k (by omega)
          go_wp2_with fail
          refine (step_any _ _ hx).mono ?_
          rintro e w' ⟨rfl, rfl⟩
          go_wp2
          go_round
          case rel => exact ⟨m + 1, by omega, by go_num, rfl⟩
          case measure => simp [Go.RowKit.intOf]; omega
        · obtain rfl : m = 4 := by omega
          go_wp2
          go_roundw
          case rel => exact ⟨k + 1, by omega, by go_num, HN.out, HB.out.setCell (p := ⟨w.heap.size, k, none⟩) (Nat.le_refl _) _⟩
          case measure => simp [Go.RowKit.intOf]; omega
    · obtain rfl : k = 16 := by omega
      have HR := Lib.hid hrow
      have hset := setRow_heap wo w.heap.size _ (remCells 16) _ _ hrow
      have HS := Lib.hid hset
      have HB := Lib.hid hbel
      clear hrow hset hbel
      go_wp2_with (first | (refine wpList_load_row rfl 252 _ rfl w.heap.size rfl 252 (remCells 16) (0, 0) _ HR.out Tryz.underlying252 rfl hinfo ?_) | (refine wpList_store_row rfl 252 _ _ rfl w.heap.size (remCells 16) rfl rfl 252 (remCells 16) HR.out hinfo rfl (remCells_one 16) ?_))
      refine bodyPost_ret (results_cell_row (p := 0) (ty := 252) rfl _ _ w.heap.size 252 (remCells 16) (0, 0) _ rfl HS.out Tryz.underlying252 rfl hinfo) rfl ⟨rfl, below_setRow HB.out (Nat.le_refl _) _⟩
end Go.Proofs.YtbmabcddciibfaaGreat
namespace Go.Proofs.YtbmabcddciibfaaGreat
open Go.RowKit
set_option maxRecDepth 100000
set_option linter.unusedVariables false
theorem take_flat (ls : List (List UInt8)) (k : Nat) (h : k < ls.length) : (ls.take (k + 1)).flatten = (ls.take k).flatten ++ ls.getD k [] := by
  rw [List.take_succ_eq_append_getElem h, List.flatten_append]
  simp [List.getElem?_eq_getElem h]
theorem run_take (c : Nat) (l : List UInt8) (m : Nat) (h : m < l.length) : Cm.run c (l.take (m + 1)) = Cm.byte (Cm.run c (l.take m)) l[m] := by
  rw [List.take_succ_eq_append_getElem h, Cm.run_append]; rfl
theorem mix_int (c : Nat) (b : UInt8) (h : c < 4294967296) : bits .xor .u32 (c : Int) ((b.toNat : Int) % 4294967296) = ((c ^^^ b.toNat : Nat) : Int) := by
  have hb := b.toNat_lt
  rw [show (b.toNat : Int) % 4294967296 = (b.toNat : Int) by omega]
  exact u32_xor_nat _ _ h (by omega)
theorem half_int (x : Nat) (h : x < 4294967296) : bits .xor .u32 ((x : Int) / 16) (Cm.tbl (x % 16) : Int) = (Cm.half x : Int) := u32_xor_nat (x / 16) _ (by omega) (Cm.tbl_lt _ (by omega))
def txs (ls : List (List UInt8)) (i : Nat) : Value := .string (Om.B (ls.getD i []))
theorem sum_any (ls : List (List UInt8)) (B : Nat) (a : Option Addr) (n cap : Nat) (w : World) (hl : ls.length = n) (hn : n ≤ 9223372036854775807) (hB : B ≤ w.heap.size) (hr : Row w B a n (txs ls)) (hs : ∀ i, (ls.getD i []).length ≤ 4611686018427387904) :
    Calls Tryz.prog 191 #[.slice a n cap] w fun e w' => e = .returned (.int .u32 (Cm.sum ls.flatten : Int)) ∧ Below w.heap.size w w' := by
  have hinfo : (Tryz.prog.info? 252).map (·.size) = some (remCells 16).size := by rw [remCells_size]; kernel_rfl
  have hsz := remCells_size 16
  have HSZ := Lib.hid hsz
  have HR := Lib.hid hr
  have HL := Lib.hid hl
  have HSS := Lib.hid hs
  clear hsz hr hl hs
  go_enter Tryz.func191, Tryz.ntmps191
  go_wp2_with fail
  refine (rem_any _).mono ?_
  rintro e w1 ⟨rfl, hb1⟩
  have HB1 := Lib.hid hb1
  clear hb1
  go_wp2_with (refine wpList_store_row rfl 252 _ _ rfl w1.heap.size (remCells 16) rfl rfl 252 _ (heap_alloc_new _ _) hinfo HSZ.out.symm (remCells_one 16) ?_)
  go_loopw [4, 11] (fun left i wr => ∃ k : Nat, k ≤ n ∧ i = .int .i64 k ∧ left = .int .u32 (Cm.run 4294967295 (ls.take k).flatten : Int) ∧ wr.heap[w1.heap.size]? = some (.cells (remCells 16) 252 (0, 0)) ∧ Below w.heap.size w wr) (fun _ i _ => n - (Go.RowKit.intOf i).toNat)
  case atStart =>
    refine ⟨0, Nat.zero_le _, rfl, rfl, setRow_heap _ _ _ _ _ _ (heap_alloc_new _ _), below_setRow (HB1.out.alloc HB1.out.size _) HB1.out.size _⟩
  case round =>
    obtain ⟨k, hk, rfl, rfl, hrow, hbel⟩ := hrel
    obtain ⟨wo, rfl⟩ : ∃ wo : World, wo = wr := ⟨_, rfl⟩
    by_cases hlt : k < n
    · obtain ⟨ab, ao, rfl, hab, hac⟩ := HR.out (by omega)
      have hcell : wo.cell? ⟨ab, ao + k, none⟩ = some (.string (Om.B (ls.getD k []))) := by
        rw [hbel.cell (p := ⟨ab, ao + k, none⟩) (Nat.lt_of_lt_of_le hab hB), hac k hlt, txs]
      have hc := Cm.run_lt 4294967295 (ls.take k).flatten (by omega)
      have hnext : Cm.run 4294967295 (ls.take (k + 1)).flatten = Cm.run (Cm.run 4294967295 (ls.take k).flatten) (ls.getD k []) := by
        rw [take_flat ls k (by rw [HL.out]; exact hlt), Cm.run_append]
      have hll := HSS.out k
      obtain ⟨l, hl⟩ : ∃ l, l = ls.getD k [] := ⟨_, rfl⟩
      obtain ⟨c, hce⟩ : ∃ c, c = Cm.run 4294967295 (ls.take k).flatten := ⟨_, rfl⟩
      rw [← hl] at hcell hnext hll
      rw [← hce] at hc hnext ⊢
      have HNX := Lib.hid hnext
      have HROW := Lib.hid hrow
      have HB := Lib.hid hbel
      clear hnext hl hce hrow hbel hac
      have hsl : (Om.B l).size = l.length := rfl
      have hls : (Om.B l).size ≤ 4611686018427387904 := hll
      clear hsl hll
      have hd : decide ((k : Int) < (n : Int)) = true := by simp; omega
      go_wp2
      go_loop [4, 17] (fun left i => ∃ m : Nat, m ≤ (Om.B l).size ∧ i = .int .i64 m ∧ left = .int .u32 (Cm.run c (l.take m) : Int)) (fun _ i => (Om.B l).size - (Go.RowKit.intOf i).toNat)
      case atStart => exact ⟨0, Nat.zero_le _, rfl, rfl⟩
      case round =>
        obtain ⟨m, hm, rfl, rfl⟩ := hrel
        by_cases hmlt : m < (Om.B l).size
        · have hdm : decide ((m : Int) < ((Om.B l).size : Int)) = true := by simp; omega
          have hcm := Cm.run_lt c (l.take m) hc
          have hmix := mix_int (Cm.run c (l.take m)) (Om.B l)[m] hcm
          have hbyte : Cm.run c (l.take (m + 1)) = Cm.halves 2 (Cm.run c (l.take m) ^^^ (Om.B l)[m].toNat) := run_take c l m hmlt
          have hx0 := Cm.mix_lt (Cm.run c (l.take m)) (Om.B l)[m] hcm
          obtain ⟨x, hx⟩ : ∃ x, x = Cm.run c (l.take m) ^^^ (Om.B l)[m].toNat := ⟨_, rfl⟩
          rw [← hx] at hmix hbyte hx0
          have HMIX := Lib.hid hmix
          have HBY := Lib.hid hbyte
          clear hmix hbyte hx
          go_wp2
          go_loop [4, 26] (fun left i => ∃ d : Nat, d ≤ 2 ∧ i = .int .i64 d ∧ left = .int .u32 (Cm.halves d x : Int)) (fun _ i => 2 - (Go.RowKit.intOf i).toNat)
          case atStart => exact ⟨0, Nat.zero_le _, rfl, by rw [HMIX.out]; rfl⟩
          case round =>
            obtain ⟨d, hdd, rfl, rfl⟩ := hrel
            by_cases hdlt : d < 2
            · have hy := Cm.halves_lt d x hx0
              have hsucc : Cm.halves (d + 1) x = Cm.half (Cm.halves d x) := rfl
              obtain ⟨y, hye⟩ : ∃ y, y = Cm.halves d x := ⟨_, rfl⟩
              rw [← hye] at hy hsucc ⊢
              have hhalf := half_int y hy
              have htab : wo.cell? ⟨w1.heap.size, y % 16, none⟩ = some (.int .u32 (Cm.tbl (y % 16) : Int)) := by
                rw [cell_of_row _ _ _ _ _ _ HROW.out, remCells_get _ (by omega)]
              have HH := Lib.hid hhalf
              have HSU := Lib.hid hsucc
              clear hhalf hsucc hye
              go_wp2
              go_round
              case rel => exact ⟨d + 1, by omega, by go_num, by rw [HSU.out, ← HH.out]⟩
              case measure => simp [Go.RowKit.intOf]; omega
            · obtain rfl : d = 2 := by omega
              go_wp2
              go_round
              case rel => exact ⟨m + 1, by omega, by go_num, by rw [HBY.out]⟩
              case measure => simp [Go.RowKit.intOf]; omega
        · obtain rfl : m = (Om.B l).size := by omega
          go_wp2
          go_roundw
          case rel => exact ⟨k + 1, by omega, by go_num, by rw [HNX.out, show l.take (Om.B l).size = l from List.take_length], HROW.out, HB.out⟩
          case measure => simp [Go.RowKit.intOf]; omega
    · obtain rfl : k = n := by omega
      have hc := Cm.run_lt 4294967295 (ls.take k).flatten (by omega)
      have hfin : bits .xor .u32 IntKind.u32.max (Cm.run 4294967295 (ls.take k).flatten : Int) = (Cm.sum ls.flatten : Int) := by
        have e : ls.take k = ls := by rw [← HL.out]; exact List.take_length
        unfold Cm.sum
        rw [show IntKind.u32.max = ((4294967295 : Nat) : Int) from by decide, u32_xor_nat _ _ (by omega) hc, ← Cm.not_eq _ hc, e]
      have HF := Lib.hid hfin
      have HB := Lib.hid hbel
      clear hrow hbel hfin
      go_wp2
      go_ret
      exact ⟨by rw [← HF.out]; rfl, HB.out⟩
theorem below_call {w w1 : World} {o : Obj} (h : Below (w.alloc o).heap.size (w.alloc o) w1) : Below w.heap.size w w1 := by
  have h0 : Below w.heap.size w (w.alloc o) := (Below.refl _ _).alloc (Nat.le_refl _) _
  exact h0.trans (h.mono h0.size)
theorem sum_one (l : List UInt8) (b : Nat) (w : World) (hl : l.length ≤ 4611686018427387904) (hc : w.cell? ⟨b, 0, none⟩ = some (.string (Om.B l))) :
    Calls Tryz.prog 191 #[.slice (some ⟨b, 0, none⟩) 1 1] w fun e w' => e = .returned (.int .u32 (Cm.sum l : Int)) ∧ Below w.heap.size w w' := by
  have h := sum_any [l] w.heap.size (some ⟨b, 0, none⟩) 1 1 w rfl (by omega) (Nat.le_refl _) (fun _ => ⟨b, 0, rfl, lt_of_cell hc, fun i hi => by
    obtain rfl : i = 0 := by omega
    rw [hc]; rfl⟩) (fun i => by
      cases i with
      | zero => exact hl
      | succ i => simp)
  simpa using h
theorem seal_any (l : List UInt8) (w : World) (hl : l.length ≤ 4611686018427387904) :
    Calls Tryz.prog 169 #[.string (Om.B l)] w fun e w' => e = .returned (.string (Om.B (Cm.four l))) ∧ Below w.heap.size w w' := by
  have hs := Cm.sum_lt l
  go_enter Tryz.func169, Tryz.ntmps169
  go_wp2_with fail
  refine (sum_one l _ _ hl (by simp)).mono ?_
  rintro e w1 ⟨rfl, hb1⟩
  have HB1 := Lib.hid hb1
  clear hb1
  go_wp2_with fail
  refine (put_ok (Cm.sum l) 4 _ (by omega) (by omega)).mono ?_
  rintro e w2 ⟨rfl, hb2⟩
  have HB2 := Lib.hid hb2
  clear hb2
  go_wp2
  go_ret
  exact ⟨rfl, below_call HB1.out |>.trans (HB2.out.mono (below_call HB1.out).size)⟩
end Go.Proofs.YtbmabcddciibfaaGreat
namespace Go.Proofs.YtbmabcddciibfaaGreat
set_option maxRecDepth 100000
open Go.Shelf Go.RowKit
def rep_ren : Go.Shelf.Ren := ⟨fun | 99 => 208 | 105 => 202 | 165 => 209 | 166 => 187 | 169 => 188 | 170 => 210 | 206 => 192 | 212 => 190 | 240 => 201 | 241 => 212 | 263 => 203 | 264 => 204 | 276 => 207 | 277 => 213 | n => n, fun | 0 => 0 | 3 => 3 | 4 => 4 | 5 => 5 | 9 => 9 | 20 => 20 | 37 => 65 | 46 => 202 | 51 => 26 | 53 => 166 | 70 => 227 | 72 => 229 | 75 => 231 | 76 => 232 | 80 => 64 | 109 => 234 | 127 => 246 | 146 => 248 | 148 => 250 | 164 => 257 | n => n, fun | n => n⟩
theorem lay105 : Go.Proofs.Lays.n105 Tryz.prog rep_ren := {
  mixed := by kernel_rfl
  f99 := Tryz.func208.trans (congrArg some (by kernel_rfl))
  f105 := Tryz.func202.trans (congrArg some (by kernel_rfl))
  f165 := Tryz.func209.trans (congrArg some (by kernel_rfl))
  f166 := Tryz.func187.trans (congrArg some (by kernel_rfl))
  f169 := Tryz.func188.trans (congrArg some (by kernel_rfl))
  f170 := Tryz.func210.trans (congrArg some (by kernel_rfl))
  f206 := Tryz.func192.trans (congrArg some (by kernel_rfl))
  f212 := Tryz.func190.trans (congrArg some (by kernel_rfl))
  f240 := Tryz.func201.trans (congrArg some (by kernel_rfl))
  f241 := Tryz.func212.trans (congrArg some (by kernel_rfl))
  f263 := Tryz.func203.trans (congrArg some (by kernel_rfl))
  f264 := Tryz.func204.trans (congrArg some (by kernel_rfl))
  f276 := Tryz.func207.trans (congrArg some (by kernel_rfl))
  f277 := Tryz.func213.trans (congrArg some (by kernel_rfl))
  t0 := Tryz.underlying0
  a0 := Tryz.isAgg0
  z0 := Tryz.sizeOf0
  v0 := Tryz.zeroValue0
  t3 := Tryz.underlying3
  a3 := Tryz.isAgg3
  z3 := Tryz.sizeOf3
  v3 := Tryz.zeroValue3
  t4 := Tryz.underlying4
  a4 := Tryz.isAgg4
  z4 := Tryz.sizeOf4
  v4 := Tryz.zeroValue4
  t5 := Tryz.underlying5
  a5 := Tryz.isAgg5
  z5 := Tryz.sizeOf5
  v5 := Tryz.zeroValue5
  t9 := Tryz.underlying9
  a9 := Tryz.isAgg9
  z9 := Tryz.sizeOf9
  v9 := Tryz.zeroValue9
  t20 := Tryz.underlying20
  a20 := Tryz.isAgg20
  z20 := Tryz.sizeOf20
  v20 := Tryz.zeroValue20
  t37 := Tryz.underlying65
  a37 := Tryz.isAgg65
  z37 := Tryz.sizeOf65
  v37 := Tryz.zeroValue65
  t46 := Tryz.underlying202
  a46 := Tryz.isAgg202
  z46 := Tryz.sizeOf202
  v46 := Tryz.zeroValue202
  t51 := Tryz.underlying26
  a51 := Tryz.isAgg26
  z51 := Tryz.sizeOf26
  v51 := Tryz.zeroValue26
  t53 := Tryz.underlying166
  a53 := Tryz.isAgg166
  z53 := Tryz.sizeOf166
  v53 := Tryz.zeroValue166
  t70 := Tryz.underlying227
  a70 := Tryz.isAgg227
  z70 := Tryz.sizeOf227
  v70 := Tryz.zeroValue227
  t72 := Tryz.underlying229
  a72 := Tryz.isAgg229
  z72 := Tryz.sizeOf229
  v72 := Tryz.zeroValue229
  t75 := Tryz.underlying231
  a75 := Tryz.isAgg231
  z75 := Tryz.sizeOf231
  v75 := Tryz.zeroValue231
  t76 := Tryz.underlying232
  a76 := Tryz.isAgg232
  z76 := Tryz.sizeOf232
  v76 := Tryz.zeroValue232
  t109 := Tryz.underlying234
  a109 := Tryz.isAgg234
  z109 := Tryz.sizeOf234
  v109 := Tryz.zeroValue234
  t127 := Tryz.underlying246
  a127 := Tryz.isAgg246
  z127 := Tryz.sizeOf246
  v127 := Tryz.zeroValue246
  t146 := Tryz.underlying248
  a146 := Tryz.isAgg248
  z146 := Tryz.sizeOf248
  v146 := Tryz.zeroValue248
  t148 := Tryz.underlying250
  a148 := Tryz.isAgg250
  z148 := Tryz.sizeOf250
  v148 := Tryz.zeroValue250
  t164 := Tryz.underlying257
  a164 := Tryz.isAgg257
  z164 := Tryz.sizeOf257
  v164 := Tryz.zeroValue257 }
theorem rep_extra : Builder.Extra Tryz.prog rep_ren := {
  sizeBuilder := by kernel_rfl
  liesBuilder := by kernel_rfl
  t5 := Tryz.underlying5
  a5 := Tryz.isAgg5
  z5 := Tryz.sizeOf5
  v5 := Tryz.zeroValue5
  infoByte := by kernel_rfl
  cellsByte := by kernel_rfl
  sizeByte := by kernel_rfl
  neB5 := by decide }
theorem rep_list (c : Nat) : Lib.repeatL [0] c = List.replicate c 0 := by
  induction c with
  | zero => rfl
  | succ c ih => rw [Lib.repeatL, ih, List.replicate_succ]; rfl
theorem repeat_any (c : Nat) (w : World) (hc : c ≤ 140737488355328) :
    Calls Tryz.prog 202 #[.string ⟨#[0]⟩, .int .i64 (c : Int)] w fun e w' => e = .returned (.string (Om.B (List.replicate c 0))) ∧ Below w.heap.size w w' := by
  have h := Any.strings_Repeat lay105 rep_extra ⟨#[0]⟩ c w (by omega) (by
    have : (⟨#[0]⟩ : ByteArray).size = 1 := rfl
    rw [this]; omega)
  have e : (⟨#[0]⟩ : ByteArray).data.toList = [0] := rfl
  rw [e, rep_list] at h
  exact h
end Go.Proofs.YtbmabcddciibfaaGreat
namespace Go.Proofs.YtbmabcddciibfaaGreat
open Go.RowKit
set_option maxRecDepth 100000
set_option linter.unusedVariables false
def padTo (l : List UInt8) (k : Nat) : List UInt8 := l ++ List.replicate (k - l.length) 0
theorem padTo_length (l : List UInt8) (k : Nat) (h : l.length ≤ k) : (padTo l k).length = k := by simp [padTo]; omega
theorem pad_ok (l : List UInt8) (k : Nat) (w : World) (h : l.length ≤ k) (hk : k ≤ 1048576) :
    Calls Tryz.prog 189 #[.string (Om.B l), .int .i64 (k : Int)] w fun e w' => e = .returned (.tuple #[.string (Om.B (padTo l k)), .int .i64 0]) ∧ Below w.heap.size w w' := by
  have h1 : decide (1048576 < (k : Int)) = false := by simp; omega
  have h2 : decide (k < (Om.B l).size) = false := by rw [Om.B_size]; simp; omega
  have h3 : (Om.B l).size ≤ k := by rw [Om.B_size]; exact h
  have hcat := no_over l (List.replicate (k - l.length) 0) (by simp; omega)
  have hs : (Om.B l).size = l.length := rfl
  have HS := Lib.hid hs
  clear h hs
  go_enter Tryz.func189, Tryz.ntmps189
  go_wp2_with fail
  rw [show ((k : Int) - ((Om.B l).size : Int)) = ((k - l.length : Nat) : Int) from by have := HS.out; omega]
  refine (repeat_any (k - l.length) _ (by omega)).mono ?_
  rintro e w' ⟨rfl, hb⟩
  have HB := Lib.hid hb
  clear hb
  go_wp2
  go_ret2
  exact ⟨by unfold padTo; rw [← Om.B_append]; rfl, HB.out⟩
end Go.Proofs.YtbmabcddciibfaaGreat
namespace Go.Proofs.YtbmabcddciibfaaGreat
open Go.RowKit
set_option maxRecDepth 100000
set_option linter.unusedVariables false
def sealed (l : List UInt8) (k : Nat) : List UInt8 := padTo l k ++ Cm.four (padTo l k)
theorem seal_ok (l : List UInt8) (k : Nat) (w : World) (hk : k + 4 ≤ 4096) (h : l.length ≤ k) :
    Calls Tryz.prog 163 #[.string (Om.B l), .int .i64 ((k + 4 : Nat) : Int)] w fun e w' => e = .returned (.tuple #[.string (Om.B (sealed l k)), .int .i64 0]) ∧ Below w.heap.size w w' := by
  have d1 : decide (((k + 4 : Nat) : Int) < 4) = false := by simp; omega
  have d2 : decide (4096 < ((k + 4 : Nat) : Int)) = false := by simp; omega
  have hz : ((k + 4 : Nat) : Int) - 4 = (k : Int) := by omega
  obtain ⟨z, hze⟩ : ∃ z : Int, z = ((k + 4 : Nat) : Int) := ⟨_, rfl⟩
  rw [← hze] at d1 d2 hz ⊢
  have hz1 : 4 ≤ z := by omega
  have hz2 : z ≤ 4096 := by omega
  have HZ := Lib.hid hz
  have hlen := padTo_length l k h
  have hcat := no_over (padTo l k) (Cm.four (padTo l k)) (by rw [hlen, Cm.four_length]; omega)
  have HLEN := Lib.hid hlen
  clear hze hz hlen
  go_enter Tryz.func163, Tryz.ntmps163
  go_wp2_with fail
  rw [HZ.out]
  refine (pad_ok l k _ h (by omega)).mono ?_
  rintro e w1 ⟨rfl, hb1⟩
  have HB1 := Lib.hid hb1
  clear hb1
  go_wp2_with fail
  refine (seal_any (padTo l k) _ (by rw [HLEN.out]; omega)).mono ?_
  rintro e w2 ⟨rfl, hb2⟩
  have HB2 := Lib.hid hb2
  clear hb2
  go_wp2
  go_ret2
  exact ⟨by unfold sealed; rw [← Om.B_append]; rfl, HB1.out.trans (HB2.out.mono HB1.out.size)⟩
theorem open_parts (p q : List UInt8) (hq : q.length = 4) : ∃ s n, s = Om.B (p ++ q) ∧ n = p.length ∧ s.size = n + 4 ∧ s.extract n (n + 4) = Om.B q ∧ s.extract 0 n = Om.B p := by
  have hsz : (Om.B (p ++ q)).size = p.length + 4 := by rw [Om.B_size, List.length_append, hq]
  refine ⟨_, _, rfl, rfl, hsz, ?_, ?_⟩
  · rw [← hsz, Om.extract_end, Om.L_B, List.drop_left]
  · rw [Om.extract_front, Om.L_B, List.take_left]
theorem B_ne {p q : List UInt8} (h : p ≠ q) : ((Om.B p).toList == (Om.B q).toList) = false := by
  rw [beq_eq_false_iff_ne, Lib.toList_data, Lib.toList_data]
  intro c
  exact h (by rw [← Om.L_B p, ← Om.L_B q]; exact c)
theorem open_ok (p q : List UInt8) (w : World) (hq : q.length = 4) (hp : p.length ≤ 1048576) (hg : q = Cm.four p) :
    Calls Tryz.prog 146 #[.string (Om.B (p ++ q))] w fun e w' => e = .returned (.tuple #[.string (Om.B p), .int .i64 0]) ∧ Below w.heap.size w w' := by
  obtain ⟨s, n, hs, hn, hsz, he1, he2⟩ := open_parts p q hq
  rw [← hs]
  have hd : decide ((n : Int) + 4 < 4) = false := by simp; omega
  have hp' : n ≤ 1048576 := by omega
  have hpl : p.length ≤ 4611686018427387904 := by omega
  rw [hg] at he1
  have hi0 : (0 : Int) ≤ (n : Int) := by omega
  have hi1 : (n : Int) ≤ (n : Int) + 4 := by omega
  clear hs hn hq hg hp
  go_enter Tryz.func146, Tryz.ntmps146
  go_wp2
  go_region_held3 (fun _ => True) (first | go_keep | trivial) (first | (go_at_call 169; refine (seal_any p _ hpl).mono ?_; rintro e w1 ⟨rfl, hb1⟩))
  have hbel : Below w.heap.size w w1 := ⟨hb1.os, hb1.tape, hb1.output, hb1.size, hb1.block⟩
  have HB := Lib.hid hbel
  clear hbel hb1
  go_wp2
  go_ret2
  exact ⟨rfl, HB.out⟩
theorem open_bad (p q : List UInt8) (w : World) (hq : q.length = 4) (hp : p.length ≤ 1048576) (hg : q ≠ Cm.four p) :
    Calls Tryz.prog 146 #[.string (Om.B (p ++ q))] w fun e w' => e = .returned (.tuple #[.string (Om.B []), .int .i64 31]) ∧ Below w.heap.size w w' := by
  obtain ⟨s, n, hs, hn, hsz, he1, he2⟩ := open_parts p q hq
  rw [← hs]
  have hd : decide ((n : Int) + 4 < 4) = false := by simp; omega
  have hp' : n ≤ 1048576 := by omega
  have hpl : p.length ≤ 4611686018427387904 := by omega
  have hi0 : (0 : Int) ≤ (n : Int) := by omega
  have hi1 : (n : Int) ≤ (n : Int) + 4 := by omega
  have hne := B_ne hg
  clear hs hn hq hg hp
  go_enter Tryz.func146, Tryz.ntmps146
  go_wp2
  go_region_held3 (fun _ => True) (first | go_keep | trivial) (first | (go_at_call 169; refine (seal_any p _ hpl).mono ?_; rintro e w1 ⟨rfl, hb1⟩))
  have hbel : Below w.heap.size w w1 := ⟨hb1.os, hb1.tape, hb1.output, hb1.size, hb1.block⟩
  have HB := Lib.hid hbel
  clear hbel hb1
  go_wp2
  go_ret2
  exact ⟨rfl, HB.out⟩
theorem open_any (l : List UInt8) (w : World) (h4 : 4 ≤ l.length) (hl : l.length ≤ 1048576) :
    Calls Tryz.prog 146 #[.string (Om.B l)] w fun e w' => (if Cm.good l then e = .returned (.tuple #[.string (Om.B (l.take (l.length - 4))), .int .i64 0]) else e = .returned (.tuple #[.string (Om.B []), .int .i64 31])) ∧ Below w.heap.size w w' := by
  have hq : (l.drop (l.length - 4)).length = 4 := by rw [List.length_drop]; omega
  have hp : (l.take (l.length - 4)).length ≤ 1048576 := by rw [List.length_take]; omega
  have e : l.take (l.length - 4) ++ l.drop (l.length - 4) = l := List.take_append_drop _ _
  by_cases hg : l.drop (l.length - 4) = Cm.four (l.take (l.length - 4))
  · have h := open_ok _ _ w hq hp hg
    rw [e] at h
    have hgood : Cm.good l = true := by unfold Cm.good; rw [beq_iff_eq]; exact hg
    rw [hgood]
    exact h
  · have h := open_bad _ _ w hq hp hg
    rw [e] at h
    have hgood : Cm.good l = false := by unfold Cm.good; rw [beq_eq_false_iff_ne]; exact hg
    rw [hgood]
    exact h
end Go.Proofs.YtbmabcddciibfaaGreat
