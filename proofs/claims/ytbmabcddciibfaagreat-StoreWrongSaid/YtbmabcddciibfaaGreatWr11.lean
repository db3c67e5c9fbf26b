/- Part 11 of the contracts and of the plain mathematics that the proof of the law rests on: Builder, OctetJoin, OctetZero, SecMath, HeadMath, PageMath, SuperOk. -/
import Derived.Test.YtbmabcddciibfaaGreatWr01
import Derived.Test.YtbmabcddciibfaaGreatWr10
import Derived.Shelf.Strings.Builder1
import Derived.Test.YtbmabcddciibfaaGreatProg
import Derived.LoopTactic
import Derived.Outline
import Derived.WalkLawsBesides
namespace Go.Proofs.YtbmabcddciibfaaGreat
open Go.Shelf Go.RowKit
def bld_ren : Go.Shelf.Ren := ⟨fun | 166 => 187 | 169 => 188 | 240 => 201 | 276 => 207 | n => n, fun | 0 => 0 | 3 => 3 | 4 => 4 | 5 => 5 | 9 => 9 | 20 => 20 | 37 => 65 | 70 => 227 | 72 => 229 | 75 => 231 | 80 => 64 | 127 => 246 | 164 => 257 | n => n, fun | n => n⟩
theorem lay166 : Go.Proofs.Lays.n166 Tryz.prog bld_ren := {
  mixed := by kernel_rfl
  f166 := Tryz.func187.trans (congrArg some (by kernel_rfl))
  f240 := Tryz.func201.trans (congrArg some (by kernel_rfl))
  f276 := Tryz.func207.trans (congrArg some (by kernel_rfl))
  t0 := Tryz.underlying0
  a0 := Tryz.isAgg0
  z0 := Tryz.sizeOf0
  v0 := Tryz.zeroValue0
  t3 := Tryz.underlying3
  a3 := Tryz.isAgg3
  z3 := Tryz.sizeOf3
  v3 := Tryz.zeroValue3
  t4 := Tryz.underlying4
  a4 := Tryz.isAgg4
  z4 := Tryz.sizeOf4
  v4 := Tryz.zeroValue4
  t9 := Tryz.underlying9
  a9 := Tryz.isAgg9
  z9 := Tryz.sizeOf9
  v9 := Tryz.zeroValue9
  t20 := Tryz.underlying20
  a20 := Tryz.isAgg20
  z20 := Tryz.sizeOf20
  v20 := Tryz.zeroValue20
  t37 := Tryz.underlying65
  a37 := Tryz.isAgg65
  z37 := Tryz.sizeOf65
  v37 := Tryz.zeroValue65
  t70 := Tryz.underlying227
  a70 := Tryz.isAgg227
  z70 := Tryz.sizeOf227
  v70 := Tryz.zeroValue227
  t72 := Tryz.underlying229
  a72 := Tryz.isAgg229
  z72 := Tryz.sizeOf229
  v72 := Tryz.zeroValue229
  t75 := Tryz.underlying231
  a75 := Tryz.isAgg231
  z75 := Tryz.sizeOf231
  v75 := Tryz.zeroValue231
  t164 := Tryz.underlying257
  a164 := Tryz.isAgg257
  z164 := Tryz.sizeOf257
  v164 := Tryz.zeroValue257 }
theorem lay169 : Go.Proofs.Lays.n169 Tryz.prog bld_ren := {
  mixed := by kernel_rfl
  f169 := Tryz.func188.trans (congrArg some (by kernel_rfl))
  t0 := Tryz.underlying0
  a0 := Tryz.isAgg0
  z0 := Tryz.sizeOf0
  v0 := Tryz.zeroValue0
  t3 := Tryz.underlying3
  a3 := Tryz.isAgg3
  z3 := Tryz.sizeOf3
  v3 := Tryz.zeroValue3
  t9 := Tryz.underlying9
  a9 := Tryz.isAgg9
  z9 := Tryz.sizeOf9
  v9 := Tryz.zeroValue9
  t37 := Tryz.underlying65
  a37 := Tryz.isAgg65
  z37 := Tryz.sizeOf65
  v37 := Tryz.zeroValue65
  t70 := Tryz.underlying227
  a70 := Tryz.isAgg227
  z70 := Tryz.sizeOf227
  v70 := Tryz.zeroValue227
  t72 := Tryz.underlying229
  a72 := Tryz.isAgg229
  z72 := Tryz.sizeOf229
  v72 := Tryz.zeroValue229
  t127 := Tryz.underlying246
  a127 := Tryz.isAgg246
  z127 := Tryz.sizeOf246
  v127 := Tryz.zeroValue246 }
theorem bld_extra : Builder.Extra Tryz.prog bld_ren := {
  sizeBuilder := by kernel_rfl
  liesBuilder := by kernel_rfl
  t5 := Tryz.underlying5
  a5 := Tryz.isAgg5
  z5 := Tryz.sizeOf5
  v5 := Tryz.zeroValue5
  infoByte := by kernel_rfl
  cellsByte := by kernel_rfl
  sizeByte := by kernel_rfl
  neB5 := by decide }
def Built (B b : Nat) (l : List UInt8) (w : World) : Prop := Lib.IsBuilder 229 5 B b (Lib.byteCells l) w
theorem Built.below {B b : Nat} {l : List UInt8} {w w' : World} (h : Built B b l w) (hb : Below w.heap.size w w') : Built B b l w' := by
  have key : ∀ p, Lib.BuilderAt 229 5 B b p (Lib.byteCells l) w → Lib.BuilderAt 229 5 B b p (Lib.byteCells l) w' := fun p k => by
    have hlt := k.lt
    obtain ⟨h1, v, h2, h3, h4⟩ := k
    exact ⟨h1, v, (hb.block b hlt).trans h2, own_below h3 hb, h4⟩
  rcases h with h | h
  · exact .inl (key _ h)
  · exact .inr (key _ h)
theorem Built.lt {B b : Nat} {l : List UInt8} {w : World} (h : Built B b l w) : b < w.heap.size := by
  rcases h with h | h
  · exact h.lt
  · exact h.lt
theorem Built.new (w : World) (B : Nat) (hB : B ≤ w.heap.size) : Built B w.heap.size [] (w.alloc (.cells #[.pointer none, .slice none 0 0] 229)) := by
  refine .inl ⟨hB, .slice none 0 0, heap_alloc_new w _, World.ownsRow_nil _ _ _ _, ?_⟩
  simp [Value.ownBlock]
theorem write_any (B b : Nat) (l m : List UInt8) (w : World) (h : Built B b l w) (hl : l.length + m.length ≤ 140737488355328) (hB : B ≤ w.heap.size) :
    Calls Tryz.prog 187 #[.pointer (some ⟨b, 0, none⟩), .string (Om.B m)] w fun e w' => e = .returned (.tuple #[.int .i64 (m.length : Int), .nilIface]) ∧ Built B b (l ++ m) w' ∧ Below B w w' := by
  refine (Any.Builder_WriteString lay166 bld_extra B b (Lib.byteCells l) (Om.B m) w h (by rw [Lib.byteCells_length]; exact hl) hB).mono ?_
  rintro e w' ⟨he, hb, hw⟩
  refine ⟨he, .inr ?_, hw⟩
  rw [Lib.byteCells_append]
  exact hb
theorem string_any (B b : Nat) (l : List UInt8) (w : World) (h : Built B b l w) (hB : B ≤ w.heap.size) :
    Calls Tryz.prog 188 #[.pointer (some ⟨b, 0, none⟩)] w fun e w' => e = .returned (.string (Om.B l)) ∧ Below B w w' :=
  Any.Builder_String_any lay169 bld_extra B b l w h hB
end Go.Proofs.YtbmabcddciibfaaGreat
namespace Go.Proofs.YtbmabcddciibfaaGreat
open Go.RowKit
set_option linter.unusedVariables false
def szs (zs : List Int) (i : Nat) : Value := .int .i64 (zs.getD i 0)
def nbs (ls : List Nat) (i : Nat) : Value := .int .u64 ((ls.getD i 0 : Nat) : Int)
theorem sizesOk_of (zs : List Int) (h : ∀ i, i < zs.length → Om.sizeOk (zs.getD i 0) = true) : Om.sizesOk zs = true := by
  unfold Om.sizesOk
  rw [List.all_eq_true]
  intro x hx
  obtain ⟨i, hi, rfl⟩ := List.mem_iff_getElem.1 hx
  have := h i hi
  simpa [List.getElem?_eq_getElem hi] using this
theorem sizesOk_not (zs : List Int) (i : Nat) (hi : i < zs.length) (h : ¬ (0 ≤ zs.getD i 0 ∧ zs.getD i 0 ≤ 8)) : Om.sizesOk zs = false := by
  cases hc : Om.sizesOk zs
  · rfl
  · exact absurd (Om.sizes_at zs hc i) h
theorem areSizes_any (zs : List Int) (B : Nat) (a : Option Addr) (n cap : Nat) (w : World) (hl : zs.length = n) (hn : n ≤ 9223372036854775807) (hr : Row w B a n (szs zs)) :
    Calls Tryz.prog 185 #[.slice a n cap] w fun e w' => e = .returned (.bool (Om.sizesOk zs)) ∧ w = w' := by
  have HL := Lib.hid hl
  have HR := Lib.hid hr
  clear hl hr
  go_enter Tryz.func185, Tryz.ntmps185
  go_wp2
  go_loop [7] (fun i => ∃ k : Nat, k ≤ n ∧ i = .int .i64 k ∧ Hid (∀ i, i < k → Om.sizeOk (zs.getD i 0) = true)) (fun i => n - (Go.RowKit.intOf i).toNat)
  case atStart => exact ⟨0, Nat.zero_le _, rfl, Lib.hid (fun i hi => absurd hi (by omega))⟩
  case round =>
    obtain ⟨k, hk, rfl, hall⟩ := hrel
    by_cases hlt : k < n
    · obtain ⟨b, off, rfl, hb, hc⟩ := HR.out (by omega)
      have hcell := hc k hlt
      unfold szs at hcell
      clear hc
      obtain ⟨x, hx⟩ : ∃ x, x = zs.getD k 0 := ⟨_, rfl⟩
      rw [← hx] at hcell
      by_cases hz : 0 ≤ x ∧ x ≤ 8
      · have HX := Lib.hid hx
        clear hx
        go_wp2_with fail
        refine (isSize_yes x _ hz.1 hz.2).mono ?_
        rintro e w' ⟨rfl, rfl⟩
        go_wp2
        go_round
        case rel => exact ⟨k + 1, by omega, by go_num, Lib.hid (fun i hi => by
          by_cases e : i = k
          · subst e; rw [← HX.out, Om.sizeOk_iff]; exact hz
          · exact hall.out i (by omega))⟩
        case measure => simp [Go.RowKit.intOf]; omega
      · have hno : Om.sizesOk zs = false := sizesOk_not zs k (by rw [HL.out]; exact hlt) (by rw [← hx]; exact hz)
        have HN := Lib.hid hno
        clear hno hx
        go_wp2_with fail
        refine (isSize_no x _ hz).mono ?_
        rintro e w' ⟨rfl, rfl⟩
        go_wp2
        go_ret
        exact ⟨by rw [HN.out]; rfl, rfl⟩
    · obtain rfl : k = n := by omega
      have hyes : Om.sizesOk zs = true := sizesOk_of zs (fun i hi => hall.out i (by rw [HL.out] at hi; exact hi))
      have HY := Lib.hid hyes
      clear hyes
      go_wp2
      go_ret
      exact ⟨by rw [HY.out]; rfl, rfl⟩
def joinS (zs : List Int) (ls : List Nat) : List UInt8 := if zs.length = ls.length ∧ Om.sizesOk zs = true ∧ Om.fitAll zs ls ls.length = true then Om.joined zs ls ls.length else []
def joinE (zs : List Int) (ls : List Nat) : Int := if zs.length = ls.length ∧ Om.sizesOk zs = true then if Om.fitAll zs ls ls.length = true then 0 else 2 else 1
theorem join_len (zs : List Int) (ls : List Nat) (h : ¬ zs.length = ls.length) : joinS zs ls = [] ∧ joinE zs ls = 1 := by
  unfold joinS joinE; rw [if_neg (fun c => h c.1), if_neg (fun c => h c.1)]; exact ⟨rfl, rfl⟩
theorem join_sizes (zs : List Int) (ls : List Nat) (h : Om.sizesOk zs = false) : joinS zs ls = [] ∧ joinE zs ls = 1 := by
  unfold joinS joinE; rw [if_neg (fun c => by rw [h] at c; exact absurd c.2.1 (by decide)), if_neg (fun c => by rw [h] at c; exact absurd c.2 (by decide))]; exact ⟨rfl, rfl⟩
theorem join_ok (zs : List Int) (ls : List Nat) (hl : zs.length = ls.length) (hs : Om.sizesOk zs = true) (hf : Om.fitAll zs ls ls.length = true) : joinS zs ls = Om.joined zs ls ls.length ∧ joinE zs ls = 0 := by
  unfold joinS joinE; rw [if_pos ⟨hl, hs, hf⟩, if_pos ⟨hl, hs⟩, if_pos hf]; exact ⟨rfl, rfl⟩
theorem join_big (zs : List Int) (ls : List Nat) (i : Nat) (hl : zs.length = ls.length) (hs : Om.sizesOk zs = true) (hi : i < ls.length) (hf : ¬ ls.getD i 0 < 256 ^ (zs.getD i 0).toNat) : joinS zs ls = [] ∧ joinE zs ls = 2 := by
  have h : ¬ Om.fitAll zs ls ls.length = true := fun c => hf ((Om.fitAll_iff zs ls ls.length).1 c i hi)
  unfold joinS joinE; rw [if_neg (fun c => h c.2.2), if_pos ⟨hl, hs⟩, if_neg h]; exact ⟨rfl, rfl⟩
theorem fitAll_of (zs : List Int) (ls : List Nat) (n : Nat) (h : ∀ i, i < n → ls.getD i 0 < 256 ^ (zs.getD i 0).toNat) : Om.fitAll zs ls n = true := (Om.fitAll_iff zs ls n).2 h
theorem put_any (n k : Nat) (w : World) (h : k ≤ 8) : Calls Tryz.prog 186 #[.int .u64 (n : Int), .int .i64 (k : Int)] w fun e w' => e = .returned (.tuple #[.string (Om.B (putS n k)), .int .i64 (putE n k)]) ∧ Below w.heap.size w w' := by
  unfold putS putE
  by_cases hf : n < 256 ^ k
  · rw [if_pos hf, if_pos hf]
    exact put_ok n k w h hf
  · rw [if_neg hf, if_neg hf]
    exact (put_big n k w h hf).mono fun e w' ⟨he, hw⟩ => ⟨he, hw ▸ Below.refl _ _⟩
theorem join_any (zs : List Int) (ls : List Nat) (B : Nat) (a c : Option Addr) (n m cap cap' : Nat) (w : World) (hl : zs.length = n) (hm : ls.length = m) (hn : n ≤ 1099511627776) (hn' : m ≤ 1099511627776) (hB : B ≤ w.heap.size)
    (hr : Row w B a n (szs zs)) (hq : Row w B c m (nbs ls)) (hu : ∀ i, ls.getD i 0 < 18446744073709551616) :
    Calls Tryz.prog 160 #[.slice a n cap, .slice c m cap'] w fun e w' => e = .returned (.tuple #[.string (Om.B (joinS zs ls)), .int .i64 (joinE zs ls)]) ∧ Below w.heap.size w w' := by
  by_cases hnm : n = m
  · subst hnm
    have hne : (((n : Nat) : Int) != (n : Int)) = false := by simp
    cases hok : Om.sizesOk zs with
    | false =>
      obtain ⟨hS, hE⟩ := join_sizes zs ls hok
      rw [hS, hE]
      have hc := areSizes_any zs B a n cap w hl (by omega) hr
      rw [hok] at hc
      have HC := Lib.hid hc
      clear hS hE hok hl hm hr hq hu hc
      go_enter Tryz.func160, Tryz.ntmps160
      go_wp2_with fail
      refine HC.out.mono ?_
      rintro e w' ⟨rfl, rfl⟩
      go_wp2
      go_ret2
      exact ⟨rfl, Below.refl _ _⟩
    | true =>
      have hc := areSizes_any zs B a n cap w hl (by omega) hr
      rw [hok] at hc
      have HC := Lib.hid hc
      have HOK := Lib.hid hok
      have HL := Lib.hid hl
      have HM := Lib.hid hm
      have HR := Lib.hid hr
      have HQ := Lib.hid hq
      have HU := Lib.hid hu
      clear hok hl hm hr hq hu hc
      go_enter Tryz.func160, Tryz.ntmps160
      go_wp2_with fail
      refine HC.out.mono ?_
      rintro e w' ⟨rfl, rfl⟩
      go_wp2
      go_loopw [23] (fun i wr => ∃ k : Nat, k ≤ n ∧ i = .int .i64 k ∧ Built w.heap.size w.heap.size (Om.joined zs ls k) wr ∧ Below w.heap.size w wr ∧ Hid (∀ i, i < k → ls.getD i 0 < 256 ^ (zs.getD i 0).toNat)) (fun i _ => n - (Go.RowKit.intOf i).toNat)
      case atStart => exact ⟨0, Nat.zero_le _, rfl, Built.new w _ (Nat.le_refl _), (Below.refl _ _).alloc (Nat.le_refl _) _, Lib.hid (fun i hi => absurd hi (by omega))⟩
      case round =>
        obtain ⟨k, hk, rfl, hbu, hbel, hall⟩ := hrel
        have HBU := Lib.hid hbu
        have HB := Lib.hid hbel
        clear hbu hbel
        by_cases hlt : k < n
        · obtain ⟨ab, ao, rfl, hab, hac⟩ := HR.out (by omega)
          obtain ⟨cb, co, rfl, hcb, hcc⟩ := HQ.out (by omega)
          obtain ⟨d, hd⟩ : ∃ d : Nat, zs.getD k 0 = (d : Int) := Int.eq_ofNat_of_zero_le (Om.sizes_at zs HOK.out k).1
          have hd8 : d ≤ 8 := by have := (Om.sizes_at zs HOK.out k).2; omega
          obtain ⟨y, hy⟩ : ∃ y, y = ls.getD k 0 := ⟨_, rfl⟩
          have hcz : wr.cell? ⟨ab, ao + k, none⟩ = some (.int .i64 (d : Int)) := by
            rw [HB.out.cell (p := ⟨ab, ao + k, none⟩) (Nat.lt_of_lt_of_le hab hB), hac k hlt, szs, hd]
          have hcn : wr.cell? ⟨cb, co + k, none⟩ = some (.int .u64 (y : Int)) := by
            rw [HB.out.cell (p := ⟨cb, co + k, none⟩) (Nat.lt_of_lt_of_le hcb hB), hcc k hlt, nbs, hy]
          have HY := Lib.hid hy
          have HD := Lib.hid hd
          clear hac hcc hy hd
          by_cases hf : y < 256 ^ d
          · have HF := Lib.hid hf
            clear hf
            go_wp2_with fail
            refine (put_ok y d _ hd8 HF.out).mono ?_
            rintro e w1 ⟨rfl, hb1⟩
            have HB1 := Lib.hid hb1
            clear hb1 hcz hcn
            go_wp2_with fail
            refine (write_any w.heap.size w.heap.size (Om.joined zs ls k) (Om.low y d) w1 (HBU.out.below HB1.out) (by
              rw [Om.low_length, Om.joined_length zs ls k (by rw [HL.out]; exact hk)]
              have := Om.off_le zs HOK.out k
              omega) (Nat.le_trans HB.out.size HB1.out.size)).mono ?_
            rintro e w2 ⟨rfl, hbu2, hb2⟩
            have hbel2 : Below w.heap.size w w2 := (HB.out.trans (HB1.out.mono HB.out.size)).trans hb2
            rw [show Om.joined zs ls k ++ Om.low y d = Om.joined zs ls (k + 1) from by rw [Om.joined_succ, HY.out, HD.out, Int.toNat_natCast]] at hbu2
            have HBU2 := Lib.hid hbu2
            have HBEL2 := Lib.hid hbel2
            clear hbu2 hbel2 hb2
            go_wp2
            go_roundw
            case rel => exact ⟨k + 1, by omega, by go_num, HBU2.out, HBEL2.out, Lib.hid (fun i hi => by
              by_cases e : i = k
              · subst e; rw [← HY.out, HD.out, Int.toNat_natCast]; exact HF.out
              · exact hall.out i (by omega))⟩
            case measure => simp [Go.RowKit.intOf]; omega
          · obtain ⟨hS, hE⟩ := join_big zs ls k (by rw [HL.out, HM.out]) HOK.out (by rw [HM.out]; exact hlt) (by rw [← HY.out, HD.out, Int.toNat_natCast]; exact hf)
            have HS := Lib.hid hS
            have HE := Lib.hid hE
            have HF := Lib.hid hf
            clear hf hS hE
            go_wp2_with fail
            refine (put_big y d _ hd8 HF.out).mono ?_
            rintro e w1 ⟨rfl, rfl⟩
            go_wp2
            go_ret2
            exact ⟨by rw [HS.out, HE.out]; rfl, HB.out⟩
        · obtain rfl : k = n := by omega
          obtain ⟨hS, hE⟩ := join_ok zs ls (by rw [HL.out, HM.out]) HOK.out (fitAll_of zs ls _ (by rw [HM.out]; exact hall.out))
          have HS := Lib.hid hS
          have HE := Lib.hid hE
          clear hS hE
          go_wp2_with fail
          refine (string_any w.heap.size w.heap.size (Om.joined zs ls k) wr HBU.out HB.out.size).mono ?_
          rintro e w1 ⟨rfl, hb1⟩
          have HB1 := Lib.hid hb1
          clear hb1
          go_wp2
          go_ret2
          exact ⟨by rw [HS.out, HE.out, HM.out]; rfl, HB.out.trans HB1.out⟩
  · have hne : ((n : Int) != (m : Int)) = true := by rw [bne_iff_ne]; omega
    obtain ⟨hS, hE⟩ := join_len zs ls (by omega)
    rw [hS, hE]
    clear hS hE hl hm hr hq hu hnm
    go_enter Tryz.func160, Tryz.ntmps160
    go_wp2
    go_ret2
    exact ⟨rfl, Below.refl _ _⟩
end Go.Proofs.YtbmabcddciibfaaGreat
namespace Go.Proofs.YtbmabcddciibfaaGreat
open Go.RowKit
set_option linter.unusedVariables false
def allZero (l : List UInt8) : Bool := l.all (· == 0)
theorem allZero_not (l : List UInt8) (j : Nat) (hj : j < l.length) (h : l[j] ≠ 0) : allZero l = false := by
  cases hc : allZero l
  · rfl
  · exact absurd (by simpa using List.all_eq_true.1 hc _ (List.getElem_mem hj)) h
theorem allZero_of (l : List UInt8) (h : ∀ j (hj : j < l.length), l[j] = 0) : allZero l = true := by
  unfold allZero
  rw [List.all_eq_true]
  intro x hx
  obtain ⟨j, hj, rfl⟩ := List.mem_iff_getElem.1 hx
  simpa using h j hj
theorem zero_any (l : List UInt8) (w : World) (hl : l.length ≤ 4611686018427387904) :
    Calls Tryz.prog 152 #[.string (Om.B l)] w fun e w' => e = .returned (.bool (allZero l)) ∧ w = w' := by
  have hs : (Om.B l).size ≤ 4611686018427387904 := hl
  go_enter Tryz.func152, Tryz.ntmps152
  go_wp2
  go_loop [6] (fun i => ∃ k : Nat, k ≤ (Om.B l).size ∧ i = .int .i64 k ∧ Hid (∀ j (hj : j < l.length), j < k → l[j] = 0)) (fun i => (Om.B l).size - (Go.RowKit.intOf i).toNat)
  case atStart => exact ⟨0, Nat.zero_le _, rfl, Lib.hid (fun j _ hj => absurd hj (by omega))⟩
  case round =>
    obtain ⟨k, hk, rfl, hall⟩ := hrel
    by_cases hlt : k < (Om.B l).size
    · by_cases hz : l[k]'hlt = 0
      · have h1 : ((((Om.B l)[k]).toNat : Int) != 0) = false := by
          rw [show (Om.B l)[k] = l[k]'hlt from rfl, hz]; rfl
        have HZ := Lib.hid hz
        clear hz
        go_wp2
        go_round
        case rel => exact ⟨k + 1, by omega, by go_num, Lib.hid (fun j hj hjk => by
          by_cases e : j = k
          · subst e; exact HZ.out
          · exact hall.out j hj (by omega))⟩
        case measure => simp [Go.RowKit.intOf]; omega
      · have h1 : ((((Om.B l)[k]).toNat : Int) != 0) = true := by
          rw [show (Om.B l)[k] = l[k]'hlt from rfl, bne_iff_ne]
          intro c
          apply hz
          apply UInt8.toNat_inj.1
          rw [show (0 : UInt8).toNat = 0 from rfl]
          omega
        have hno := allZero_not l k hlt hz
        have HN := Lib.hid hno
        clear hz hno
        go_wp2
        go_ret
        exact ⟨by rw [HN.out]; rfl, rfl⟩
    · have hyes := allZero_of l (fun j hj => hall.out j hj (Nat.lt_of_lt_of_le hj (Nat.not_lt.1 hlt)))
      have HY := Lib.hid hyes
      clear hyes hall
      obtain rfl : k = (Om.B l).size := by omega
      go_wp2
      go_ret
      exact ⟨by rw [HY.out]; rfl, rfl⟩
end Go.Proofs.YtbmabcddciibfaaGreat
namespace Go.Proofs.YtbmabcddciibfaaGreat
namespace Sc
structure Lay (t : List UInt8) (zs : List Int) : Prop where
  letters : t.length = 4
  sizes : Om.sizesOk zs = true
  few : Om.off zs zs.length ≤ 56
def front (t : List UInt8) (zs : List Int) (ns : List Nat) : List UInt8 := t ++ Om.joined zs ns zs.length
def sector (t : List UInt8) (zs : List Int) (ns : List Nat) : List UInt8 := sealed (front t zs ns) 60
theorem front_len {t : List UInt8} {zs : List Int} (L : Lay t zs) (ns : List Nat) : (front t zs ns).length = 4 + Om.off zs zs.length := by
  unfold front
  rw [List.length_append, L.letters, Om.joined_length zs ns zs.length (Nat.le_refl _)]
theorem front_le {t : List UInt8} {zs : List Int} (L : Lay t zs) (ns : List Nat) : (front t zs ns).length ≤ 60 := by
  rw [front_len L]; have := L.few; omega
theorem padded_len {t : List UInt8} {zs : List Int} (L : Lay t zs) (ns : List Nat) : (padTo (front t zs ns) 60).length = 60 := padTo_length _ _ (front_le L ns)
theorem sector_len {t : List UInt8} {zs : List Int} (L : Lay t zs) (ns : List Nat) : (sector t zs ns).length = 64 := by
  unfold sector sealed
  rw [List.length_append, padded_len L, Cm.four_length]
def opE (t : List UInt8) (zs : List Int) (s : List UInt8) : Int :=
  if s.length = 64 then if Cm.good s = true then if (s.take 60).take 4 = t then if allZero (((s.take 60).drop 4).drop (Om.off zs zs.length)) = true then 0 else 32 else 22 else 31 else 21
def numAt (zs : List Int) (s : List UInt8) (i : Nat) : Nat := Om.at_ ((s.take 60).drop 4) zs i
theorem op_cut {t : List UInt8} {zs : List Int} {s : List UInt8} (h : s.length ≠ 64) : opE t zs s = 21 := by unfold opE; rw [if_neg h]
theorem op_sum {t : List UInt8} {zs : List Int} {s : List UInt8} (h : s.length = 64) (hg : Cm.good s = false) : opE t zs s = 31 := by unfold opE; rw [if_pos h, if_neg (by rw [hg]; decide)]
theorem op_magic {t : List UInt8} {zs : List Int} {s : List UInt8} (h : s.length = 64) (hg : Cm.good s = true) (ht : (s.take 60).take 4 ≠ t) : opE t zs s = 22 := by unfold opE; rw [if_pos h, if_pos hg, if_neg ht]
theorem op_form {t : List UInt8} {zs : List Int} {s : List UInt8} (h : s.length = 64) (hg : Cm.good s = true) (ht : (s.take 60).take 4 = t) (hz : allZero (((s.take 60).drop 4).drop (Om.off zs zs.length)) = false) : opE t zs s = 32 := by
  unfold opE; rw [if_pos h, if_pos hg, if_pos ht, if_neg (by rw [hz]; decide)]
theorem op_ok {t : List UInt8} {zs : List Int} {s : List UInt8} (h : s.length = 64) (hg : Cm.good s = true) (ht : (s.take 60).take 4 = t) (hz : allZero (((s.take 60).drop 4).drop (Om.off zs zs.length)) = true) : opE t zs s = 0 := by
  unfold opE; rw [if_pos h, if_pos hg, if_pos ht, if_pos hz]
theorem op_zero {t : List UInt8} {zs : List Int} {s : List UInt8} (h : opE t zs s = 0) : s.length = 64 ∧ Cm.good s = true ∧ (s.take 60).take 4 = t ∧ allZero (((s.take 60).drop 4).drop (Om.off zs zs.length)) = true := by
  by_cases h1 : s.length = 64
  · cases h2 : Cm.good s with
    | false => rw [op_sum h1 h2] at h; cases h
    | true =>
      by_cases h3 : (s.take 60).take 4 = t
      · cases h4 : allZero (((s.take 60).drop 4).drop (Om.off zs zs.length)) with
        | false => rw [op_form h1 h2 h3 h4] at h; cases h
        | true => exact ⟨h1, rfl, h3, rfl⟩
      · rw [op_magic h1 h2 h3] at h; cases h
  · rw [op_cut h1] at h; cases h
theorem good_parts (s : List UInt8) (h : s.length = 64) (hg : Cm.good s = true) : s = s.take 60 ++ Cm.four (s.take 60) := by
  unfold Cm.good at hg
  rw [h] at hg
  have e := beq_iff_eq.1 hg
  rw [← e, List.take_append_drop]
theorem zero_all (l : List UInt8) (h : allZero l = true) : l = List.replicate l.length 0 := by
  apply List.eq_replicate_iff.2 ⟨rfl, fun b hb => ?_⟩
  simpa using List.all_eq_true.1 h b hb
theorem all_zero (n : Nat) : allZero (List.replicate n 0) = true := by
  unfold allZero
  rw [List.all_eq_true]
  intro b hb
  rw [(List.mem_replicate.1 hb).2]
  rfl
theorem sector_take {t : List UInt8} {zs : List Int} (L : Lay t zs) (ns : List Nat) : (sector t zs ns).take 60 = front t zs ns ++ List.replicate (60 - (front t zs ns).length) 0 := by
  unfold sector sealed
  have := List.take_left (l₁ := padTo (front t zs ns) 60) (l₂ := Cm.four (padTo (front t zs ns) 60))
  rw [padded_len L] at this
  rw [this]
  rfl
theorem sector_four {t : List UInt8} {zs : List Int} (L : Lay t zs) (ns : List Nat) : ((sector t zs ns).take 60).take 4 = t := by
  rw [sector_take L]
  unfold front
  rw [List.append_assoc, ← L.letters, List.take_left]
theorem sector_rest {t : List UInt8} {zs : List Int} (L : Lay t zs) (ns : List Nat) : ((sector t zs ns).take 60).drop 4 = Om.joined zs ns zs.length ++ List.replicate (60 - (front t zs ns).length) 0 := by
  rw [sector_take L]
  unfold front
  rw [List.append_assoc, ← L.letters, List.drop_left]
theorem back {t : List UInt8} {zs : List Int} (L : Lay t zs) (ns : List Nat) (hf : Om.fitAll zs ns zs.length = true) : opE t zs (sector t zs ns) = 0 ∧ ∀ i, i < zs.length → numAt zs (sector t zs ns) i = ns.getD i 0 := by
  refine ⟨op_ok (sector_len L ns) (Cm.good_sealed _) (sector_four L ns) ?_, fun i hi => ?_⟩
  · rw [sector_rest L, Om.drop_joined zs ns zs.length _ (Nat.le_refl _)]
    exact all_zero _
  · unfold numAt
    rw [sector_rest L]
    exact Om.at_joined zs ns zs.length _ (Nat.le_refl _) hf i hi
theorem again {t : List UInt8} {zs : List Int} (L : Lay t zs) (s : List UInt8) (h : opE t zs s = 0) (ns : List Nat) (hn : ∀ i, i < zs.length → ns.getD i 0 = numAt zs s i) : sector t zs ns = s := by
  obtain ⟨hl, hg, ht, hz⟩ := op_zero h
  have hbl : (s.take 60).length = 60 := by rw [List.length_take]; omega
  have hfew := L.few
  have hj : Om.joined zs ns zs.length = ((s.take 60).drop 4).take (Om.off zs zs.length) :=
    Om.joined_at ((s.take 60).drop 4) zs ns zs.length (Nat.le_refl _) (by rw [List.length_drop, hbl]; omega) hn
  have hzl : (((s.take 60).drop 4).drop (Om.off zs zs.length)).length = 56 - Om.off zs zs.length := by rw [List.length_drop, List.length_drop, hbl]
  have hz' := zero_all _ hz
  rw [hzl] at hz'
  have hpad : padTo (front t zs ns) 60 = s.take 60 := by
    show front t zs ns ++ List.replicate (60 - (front t zs ns).length) 0 = _
    rw [front_len L, show 60 - (4 + Om.off zs zs.length) = 56 - Om.off zs zs.length by omega, ← hz']
    unfold front
    rw [hj, ← ht, List.append_assoc, List.take_append_drop, List.take_append_drop]
  unfold sector sealed
  rw [hpad]
  exact (good_parts s hl hg).symm
theorem turned {t : List UInt8} {zs : List Int} (L : Lay t zs) (ns : List Nat) (k : Nat) (hk : k < 64) (b : UInt8) (hb : (sector t zs ns)[k]? ≠ some b) : opE t zs ((sector t zs ns).set k b) = 31 := by
  have hlen := sector_len L ns
  have hl : ((sector t zs ns).set k b).length = 64 := by rw [List.length_set]; exact hlen
  refine op_sum hl ?_
  cases hg : Cm.good ((sector t zs ns).set k b) with
  | false => rfl
  | true =>
    have e := Cm.good_set (padTo (front t zs ns) 60) k b (by rw [padded_len L]; omega) hg
    have e' : (sector t zs ns).set k b = sector t zs ns := e
    exfalso
    apply hb
    rw [← e', List.getElem?_set_self (by omega)]
end Sc
end Go.Proofs.YtbmabcddciibfaaGreat
namespace Go.Proofs.YtbmabcddciibfaaGreat
namespace Hm
def okH (g : Nat) (c p : Int) : Bool := decide (1 ≤ g) && decide (1 ≤ c) && decide (c ≤ 128) && decide (1 ≤ p) && decide (p ≤ 1048576)
theorem okH_iff (g : Nat) (c p : Int) : okH g c p = true ↔ 1 ≤ g ∧ 1 ≤ c ∧ c ≤ 128 ∧ 1 ≤ p ∧ p ≤ 1048576 := by
  simp only [okH, Bool.and_eq_true, decide_eq_true_eq, and_assoc]
def bit (b : Bool) : Nat := if b = true then 1 else 0
theorem bit_le (b : Bool) : bit b ≤ 1 := by cases b <;> decide
def ts : List UInt8 := [79, 65, 75, 72]
def zs : List Int := [4, 2, 4, 1]
theorem lay : Sc.Lay ts zs := ⟨rfl, by decide, by decide⟩
theorem zs_off : Om.off zs zs.length = 11 := by decide
def nums (g : Nat) (c p : Int) (b : Bool) : List Nat := [g, c.toNat, p.toNat, bit b]
theorem fit (g : Nat) (c p : Int) (b : Bool) (hg : g < 4294967296) (h : okH g c p = true) : Om.fitAll zs (nums g c p b) zs.length = true := by
  obtain ⟨h1, h2, h3, h4, h5⟩ := (okH_iff g c p).1 h
  have hb := bit_le b
  rw [Om.fitAll_iff]
  intro i hi
  have hi' : i < 4 := hi
  match i, hi' with
  | 0, _ => show g < 256 ^ 4; omega
  | 1, _ => show c.toNat < 256 ^ 2; omega
  | 2, _ => show p.toNat < 256 ^ 4; omega
  | 3, _ => show bit b < 256 ^ 1; omega
theorem join_is (g : Nat) (c p : Int) (b : Bool) (hg : g < 4294967296) (h : okH g c p = true) : joinS zs (nums g c p b) = Om.joined zs (nums g c p b) zs.length ∧ joinE zs (nums g c p b) = 0 :=
  join_ok zs (nums g c p b) rfl (by decide) (fit g c p b hg h)
def sector (g : Nat) (c p : Int) (b : Bool) : List UInt8 := Sc.sector ts zs (nums g c p b)
theorem sector_len (g : Nat) (c p : Int) (b : Bool) : (sector g c p b).length = 64 := Sc.sector_len lay _
def encS (g : Nat) (c p : Int) (b : Bool) : List UInt8 := if okH g c p = true then sector g c p b else []
def encE (g : Nat) (c p : Int) : Int := if okH g c p = true then 0 else 1
theorem enc_ok {g : Nat} {c p : Int} (b : Bool) (h : okH g c p = true) : encS g c p b = sector g c p b ∧ encE g c p = 0 := by
  unfold encS encE; rw [if_pos h, if_pos h]; exact ⟨rfl, rfl⟩
theorem enc_no {g : Nat} {c p : Int} (b : Bool) (h : okH g c p = false) : encS g c p b = [] ∧ encE g c p = 1 := by
  unfold encS encE; rw [if_neg (by rw [h]; decide), if_neg (by rw [h]; decide)]; exact ⟨rfl, rfl⟩
def okN (a b c d : Nat) : Bool := okH a b c && decide (d ≤ 1)
def decE (s : List UInt8) : Int := if Sc.opE ts zs s = 0 then if okN (Sc.numAt zs s 0) (Sc.numAt zs s 1) (Sc.numAt zs s 2) (Sc.numAt zs s 3) = true then 0 else 32 else Sc.opE ts zs s
def decG (s : List UInt8) : Nat := if decE s = 0 then Sc.numAt zs s 0 else 0
def decC (s : List UInt8) : Nat := if decE s = 0 then Sc.numAt zs s 1 else 0
def decP (s : List UInt8) : Nat := if decE s = 0 then Sc.numAt zs s 2 else 0
def decB (s : List UInt8) : Bool := if decE s = 0 then Sc.numAt zs s 3 == 1 else false
theorem dec_none (s : List UInt8) (h : decE s ≠ 0) : decG s = 0 ∧ decC s = 0 ∧ decP s = 0 ∧ decB s = false := by
  unfold decG decC decP decB; rw [if_neg h, if_neg h, if_neg h, if_neg h]; exact ⟨rfl, rfl, rfl, rfl⟩
theorem dec_off (s : List UInt8) (x : Int) (h : Sc.opE ts zs s = x) (hx : x ≠ 0) : decE s = x ∧ decG s = 0 ∧ decC s = 0 ∧ decP s = 0 ∧ decB s = false := by
  have e : decE s = x := by unfold decE; rw [h, if_neg hx]
  exact ⟨e, dec_none s (by rw [e]; exact hx)⟩
theorem dec_form (s : List UInt8) (h : Sc.opE ts zs s = 0) (ho : okN (Sc.numAt zs s 0) (Sc.numAt zs s 1) (Sc.numAt zs s 2) (Sc.numAt zs s 3) = false) : decE s = 32 ∧ decG s = 0 ∧ decC s = 0 ∧ decP s = 0 ∧ decB s = false := by
  have e : decE s = 32 := by unfold decE; rw [if_pos h, if_neg (by rw [ho]; decide)]
  exact ⟨e, dec_none s (by rw [e]; decide)⟩
theorem dec_ok (s : List UInt8) (h : Sc.opE ts zs s = 0) (ho : okN (Sc.numAt zs s 0) (Sc.numAt zs s 1) (Sc.numAt zs s 2) (Sc.numAt zs s 3) = true) :
    decE s = 0 ∧ decG s = Sc.numAt zs s 0 ∧ decC s = Sc.numAt zs s 1 ∧ decP s = Sc.numAt zs s 2 ∧ decB s = (Sc.numAt zs s 3 == 1) := by
  have e : decE s = 0 := by unfold decE; rw [if_pos h, if_pos ho]
  unfold decG decC decP decB; rw [if_pos e, if_pos e, if_pos e, if_pos e]; exact ⟨e, rfl, rfl, rfl, rfl⟩
theorem dec_zero (s : List UInt8) (h : decE s = 0) : Sc.opE ts zs s = 0 ∧ okN (Sc.numAt zs s 0) (Sc.numAt zs s 1) (Sc.numAt zs s 2) (Sc.numAt zs s 3) = true := by
  unfold decE at h
  by_cases h1 : Sc.opE ts zs s = 0
  · rw [if_pos h1] at h
    by_cases h2 : okN (Sc.numAt zs s 0) (Sc.numAt zs s 1) (Sc.numAt zs s 2) (Sc.numAt zs s 3) = true
    · exact ⟨h1, h2⟩
    · rw [if_neg h2] at h; cases h
  · rw [if_neg h1] at h; exact absurd h h1
theorem back (g : Nat) (c p : Int) (b : Bool) (hg : g < 4294967296) (h : okH g c p = true) :
    decE (sector g c p b) = 0 ∧ decG (sector g c p b) = g ∧ (decC (sector g c p b) : Int) = c ∧ (decP (sector g c p b) : Int) = p ∧ decB (sector g c p b) = b := by
  obtain ⟨h1, h2, h3, h4, h5⟩ := (okH_iff g c p).1 h
  obtain ⟨e0, en⟩ := Sc.back lay (nums g c p b) (fit g c p b hg h)
  have n0 : Sc.numAt zs (sector g c p b) 0 = g := en 0 (by decide)
  have n1 : Sc.numAt zs (sector g c p b) 1 = c.toNat := en 1 (by decide)
  have n2 : Sc.numAt zs (sector g c p b) 2 = p.toNat := en 2 (by decide)
  have n3 : Sc.numAt zs (sector g c p b) 3 = bit b := en 3 (by decide)
  have hc : ((c.toNat : Nat) : Int) = c := by omega
  have hp : ((p.toNat : Nat) : Int) = p := by omega
  have ho : okN (Sc.numAt zs (sector g c p b) 0) (Sc.numAt zs (sector g c p b) 1) (Sc.numAt zs (sector g c p b) 2) (Sc.numAt zs (sector g c p b) 3) = true := by
    rw [n0, n1, n2, n3]
    unfold okN
    rw [hc, hp, h, Bool.true_and, decide_eq_true_eq]
    exact bit_le b
  obtain ⟨d0, d1, d2, d3, d4⟩ := dec_ok (sector g c p b) e0 ho
  refine ⟨d0, by rw [d1, n0], by rw [d2, n1, hc], by rw [d3, n2, hp], ?_⟩
  rw [d4, n3]
  cases b <;> rfl
theorem again (s : List UInt8) (h : decE s = 0) : okH (decG s) (decC s) (decP s) = true ∧ sector (decG s) (decC s) (decP s) (decB s) = s := by
  obtain ⟨h1, h2⟩ := dec_zero s h
  obtain ⟨_, d1, d2, d3, d4⟩ := dec_ok s h1 h2
  have h3 := h2
  unfold okN at h3
  rw [Bool.and_eq_true, decide_eq_true_eq] at h3
  rw [d1, d2, d3, d4]
  refine ⟨h3.1, Sc.again lay s h1 _ fun i hi => ?_⟩
  have hi' : i < 4 := hi
  match i, hi' with
  | 0, _ => rfl
  | 1, _ => rfl
  | 2, _ => rfl
  | 3, _ =>
    show bit (Sc.numAt zs s 3 == 1) = Sc.numAt zs s 3
    have h4 := h3.2
    by_cases e : Sc.numAt zs s 3 = 1
    · rw [e]; rfl
    · have e' : Sc.numAt zs s 3 = 0 := by omega
      rw [e']; rfl
theorem turned (s : List UInt8) (h : decE s = 0) (k : Nat) (hk : k < 64) (b : UInt8) (hb : s[k]? ≠ some b) : decE (s.set k b) = 31 := by
  obtain ⟨_, e⟩ := again s h
  have := Sc.turned lay (nums (decG s) (decC s) (decP s) (decB s)) k hk b (by
    show (sector (decG s) (decC s) (decP s) (decB s))[k]? ≠ some b
    rw [e]; exact hb)
  have e' : Sc.sector ts zs (nums (decG s) (decC s) (decP s) (decB s)) = s := e
  rw [e'] at this
  exact (dec_off _ 31 this (by decide)).1
end Hm
end Go.Proofs.YtbmabcddciibfaaGreat
namespace Go.Proofs.YtbmabcddciibfaaGreat
namespace Pm
def okC (x : Int) : Bool := decide (-1 ≤ x) && decide (x ≤ 2147483646)
theorem okC_iff (x : Int) : okC x = true ↔ -1 ≤ x ∧ x ≤ 2147483646 := by simp [okC]
def okL (ls : List Int) : Bool := decide (ls.length = 13) && (List.range 13).all fun i => okC (ls.getD i 0)
theorem okL_iff (ls : List Int) : okL ls = true ↔ ls.length = 13 ∧ ∀ i, i < 13 → okC (ls.getD i 0) = true := by
  simp only [okL, Bool.and_eq_true, decide_eq_true_eq, List.all_eq_true, List.mem_range]
theorem okL_len (ls : List Int) (h : ls.length ≠ 13) : okL ls = false := by
  cases hc : okL ls
  · rfl
  · exact absurd ((okL_iff ls).1 hc).1 h
theorem okL_not (ls : List Int) (i : Nat) (hi : i < 13) (h : okC (ls.getD i 0) = false) : okL ls = false := by
  cases hc : okL ls
  · rfl
  · have := ((okL_iff ls).1 hc).2 i hi
    rw [h] at this
    cases this
def zs : List Int := List.replicate 14 4
theorem zs_len : zs.length = 14 := rfl
theorem zs_get (i : Nat) (h : i < 14) : zs.getD i 0 = 4 := by
  have : ∀ i : Fin 14, zs.getD i.val 0 = 4 := by decide
  exact this ⟨i, h⟩
theorem zs_ok : Om.sizesOk zs = true := by decide
theorem zs_off (k : Nat) (h : k ≤ 14) : Om.off zs k = 4 * k := by
  have : ∀ k : Fin 15, Om.off zs k.val = 4 * k.val := by decide
  exact this ⟨k, by omega⟩
def nums (g : Nat) (ls : List Int) : List Nat := g :: ls.map fun x => (x + 1).toNat
theorem nums_len (g : Nat) (ls : List Int) : (nums g ls).length = ls.length + 1 := by simp [nums]
theorem nums_zero (g : Nat) (ls : List Int) : (nums g ls).getD 0 0 = g := rfl
theorem nums_succ (g : Nat) (ls : List Int) (i : Nat) (h : i < ls.length) : (nums g ls).getD (i + 1) 0 = (ls.getD i 0 + 1).toNat := by
  simp [nums, h]
theorem nums_int (g : Nat) (ls : List Int) (i : Nat) (h : i < ls.length) (ho : okC (ls.getD i 0) = true) : (((nums g ls).getD (i + 1) 0 : Nat) : Int) = ls.getD i 0 + 1 := by
  rw [nums_succ g ls i h]
  have := (okC_iff _).1 ho
  omega
theorem nums_lt (g : Nat) (ls : List Int) (hg : g < 4294967296) (h : okL ls = true) (i : Nat) (hi : i < 14) : (nums g ls).getD i 0 < 4294967296 := by
  obtain ⟨hl, ho⟩ := (okL_iff ls).1 h
  cases i with
  | zero => exact hg
  | succ i =>
    have h1 := nums_int g ls i (by omega) (ho i (by omega))
    have h2 := (okC_iff _).1 (ho i (by omega))
    omega
theorem fit (g : Nat) (ls : List Int) (hg : g < 4294967296) (h : okL ls = true) : Om.fitAll zs (nums g ls) 14 = true := by
  rw [Om.fitAll_iff]
  intro i hi
  rw [zs_get i hi]
  exact nums_lt g ls hg h i hi
def body (g : Nat) (ls : List Int) : List UInt8 := Om.joined zs (nums g ls) 14
theorem body_len (g : Nat) (ls : List Int) : (body g ls).length = 56 := by
  unfold body
  rw [Om.joined_length zs _ 14 (by rw [zs_len]; exact Nat.le_refl _), zs_off 14 (Nat.le_refl _)]
theorem join_is (g : Nat) (ls : List Int) (hg : g < 4294967296) (h : okL ls = true) : joinS zs (nums g ls) = body g ls ∧ joinE zs (nums g ls) = 0 := by
  have hl := ((okL_iff ls).1 h).1
  have hn : (nums g ls).length = 14 := by rw [nums_len, hl]
  have := join_ok zs (nums g ls) (by rw [hn]; rfl) zs_ok (by rw [hn]; exact fit g ls hg h)
  rw [hn] at this
  exact this
def sector (g : Nat) (ls : List Int) : List UInt8 := sealed (body g ls) 60
def encS (g : Nat) (ls : List Int) : List UInt8 := if okL ls = true then sector g ls else []
def encE (ls : List Int) : Int := if okL ls = true then 0 else 1
theorem enc_ok (g : Nat) (ls : List Int) (h : okL ls = true) : encS g ls = sector g ls ∧ encE ls = 0 := by
  unfold encS encE; rw [if_pos h, if_pos h]; exact ⟨rfl, rfl⟩
theorem enc_no (g : Nat) (ls : List Int) (h : okL ls = false) : encS g ls = [] ∧ encE ls = 1 := by
  unfold encS encE; rw [if_neg (by rw [h]; decide), if_neg (by rw [h]; decide)]; exact ⟨rfl, rfl⟩
theorem padded_len (g : Nat) (ls : List Int) : (padTo (body g ls) 60).length = 60 := padTo_length _ _ (by rw [body_len]; omega)
theorem sector_len (g : Nat) (ls : List Int) : (sector g ls).length = 64 := by
  unfold sector sealed
  rw [List.length_append, padded_len, Cm.four_length]
def pat (b : List UInt8) (i : Nat) : Nat := Om.at_ b zs (i + 1)
def pgen (b : List UInt8) : Nat := Om.at_ b zs 0
theorem at_32 (b : List UInt8) (i : Nat) (h : i < 14) : Om.at_ b zs i < 4294967296 := by
  unfold Om.at_
  rw [zs_get i h]
  have h1 := Om.num_lt ((b.drop (Om.off zs i)).take (4 : Int).toNat)
  have h2 : 256 ^ ((b.drop (Om.off zs i)).take (4 : Int).toNat).length ≤ 256 ^ 4 := Nat.pow_le_pow_right (by omega) (by rw [List.length_take]; exact Nat.min_le_left _ _)
  omega
theorem pat_lt (b : List UInt8) (i : Nat) (h : i < 13) : pat b i < 4294967296 := at_32 b (i + 1) (by omega)
theorem pgen_lt (b : List UInt8) : pgen b < 4294967296 := at_32 b 0 (by omega)
def val (b : List UInt8) (i : Nat) : Int := (pat b i : Int) - 1
def vals (b : List UInt8) : List Int := (List.range 13).map (val b)
theorem vals_len (b : List UInt8) : (vals b).length = 13 := by simp [vals]
theorem vals_get (b : List UInt8) (i : Nat) (h : i < 13) : (vals b).getD i 0 = val b i := by simp [vals, h]
def okB (b : List UInt8) : Bool := okL (vals b) && allZero (b.drop 56)
def decE (s : List UInt8) : Int := if s.length = 64 then if Cm.good s = true then if okB (s.take 60) = true then 0 else 32 else 31 else 21
def decG (s : List UInt8) : Nat := if decE s = 0 then pgen (s.take 60) else 0
def decL (s : List UInt8) : List Int := if decE s = 0 then vals (s.take 60) else []
theorem dec_cut (s : List UInt8) (h : s.length ≠ 64) : decE s = 21 ∧ decG s = 0 ∧ decL s = [] := by
  have e : decE s = 21 := by unfold decE; rw [if_neg h]
  unfold decG decL; rw [e]; exact ⟨rfl, rfl, rfl⟩
theorem dec_sum (s : List UInt8) (h : s.length = 64) (hg : Cm.good s = false) : decE s = 31 ∧ decG s = 0 ∧ decL s = [] := by
  have e : decE s = 31 := by unfold decE; rw [if_pos h, if_neg (by rw [hg]; decide)]
  unfold decG decL; rw [e]; exact ⟨rfl, rfl, rfl⟩
theorem dec_form (s : List UInt8) (h : s.length = 64) (hg : Cm.good s = true) (ho : okB (s.take 60) = false) : decE s = 32 ∧ decG s = 0 ∧ decL s = [] := by
  have e : decE s = 32 := by unfold decE; rw [if_pos h, if_pos hg, if_neg (by rw [ho]; decide)]
  unfold decG decL; rw [e]; exact ⟨rfl, rfl, rfl⟩
theorem dec_ok (s : List UInt8) (h : s.length = 64) (hg : Cm.good s = true) (ho : okB (s.take 60) = true) : decE s = 0 ∧ decG s = pgen (s.take 60) ∧ decL s = vals (s.take 60) := by
  have e : decE s = 0 := by unfold decE; rw [if_pos h, if_pos hg, if_pos ho]
  unfold decG decL; rw [e]; exact ⟨rfl, rfl, rfl⟩
theorem dec_zero (s : List UInt8) (h : decE s = 0) : s.length = 64 ∧ Cm.good s = true ∧ okB (s.take 60) = true := by
  unfold decE at h
  by_cases h1 : s.length = 64
  · rw [if_pos h1] at h
    by_cases h2 : Cm.good s = true
    · rw [if_pos h2] at h
      by_cases h3 : okB (s.take 60) = true
      · exact ⟨h1, h2, h3⟩
      · rw [if_neg h3] at h; cases h
    · rw [if_neg h2] at h; cases h
  · rw [if_neg h1] at h; cases h
theorem sector_take (g : Nat) (ls : List Int) : (sector g ls).take 60 = body g ls ++ [0, 0, 0, 0] := by
  unfold sector sealed
  have := List.take_left (l₁ := padTo (body g ls) 60) (l₂ := Cm.four (padTo (body g ls) 60))
  rw [padded_len] at this
  rw [this]
  unfold padTo
  rw [body_len]
  rfl
theorem list_ext (a b : List Int) (n : Nat) (ha : a.length = n) (hb : b.length = n) (h : ∀ i, i < n → a.getD i 0 = b.getD i 0) : a = b := by
  apply List.ext_getElem
  · rw [ha, hb]
  · intro i h1 h2
    have := h i (by omega)
    simpa [h1, h2] using this
theorem back (g : Nat) (ls : List Int) (hg : g < 4294967296) (h : okL ls = true) : decE (sector g ls) = 0 ∧ decG (sector g ls) = g ∧ decL (sector g ls) = ls := by
  obtain ⟨hl, ho⟩ := (okL_iff ls).1 h
  have hgood : Cm.good (sector g ls) = true := Cm.good_sealed _
  have hat : ∀ i, i < 14 → Om.at_ ((sector g ls).take 60) zs i = (nums g ls).getD i 0 := fun i hi => by
    rw [sector_take]
    exact Om.at_joined zs (nums g ls) 14 _ (Nat.le_refl _) (fit g ls hg h) i hi
  have hv : vals ((sector g ls).take 60) = ls := list_ext _ _ 13 (vals_len _) hl fun i hi => by
    rw [vals_get _ _ hi]
    unfold val pat
    rw [hat (i + 1) (by omega), nums_int g ls i (by omega) (ho i hi)]
    omega
  have hB : okB ((sector g ls).take 60) = true := by
    unfold okB
    rw [hv, h, sector_take, ← body_len g ls, List.drop_left]
    rfl
  obtain ⟨e1, e2, e3⟩ := dec_ok _ (sector_len g ls) hgood hB
  refine ⟨e1, ?_, ?_⟩
  · rw [e2]; exact hat 0 (by omega)
  · rw [e3, hv]
theorem good_parts (s : List UInt8) (h : s.length = 64) (hg : Cm.good s = true) : s = s.take 60 ++ Cm.four (s.take 60) := by
  unfold Cm.good at hg
  rw [h] at hg
  have e := beq_iff_eq.1 hg
  rw [← e, List.take_append_drop]
theorem zero_four (l : List UInt8) (h : allZero l = true) : l = List.replicate l.length 0 := by
  apply List.eq_replicate_iff.2 ⟨rfl, fun b hb => ?_⟩
  simpa using List.all_eq_true.1 h b hb
theorem again (s : List UInt8) (h : decE s = 0) : okL (decL s) = true ∧ sector (decG s) (decL s) = s := by
  obtain ⟨hl, hg, ho⟩ := dec_zero s h
  obtain ⟨_, e2, e3⟩ := dec_ok s hl hg ho
  unfold okB at ho
  rw [Bool.and_eq_true] at ho
  obtain ⟨ho1, ho2⟩ := ho
  rw [e2, e3]
  refine ⟨ho1, ?_⟩
  have hbl : (s.take 60).length = 60 := by rw [List.length_take]; omega
  have hbody : body (pgen (s.take 60)) (vals (s.take 60)) = (s.take 60).take 56 := by
    unfold body
    have hj := Om.joined_at (s.take 60) zs (nums (pgen (s.take 60)) (vals (s.take 60))) 14 (Nat.le_refl _) (by rw [zs_off 14 (Nat.le_refl _)]; omega) (fun i hi => by
      cases i with
      | zero => rfl
      | succ i =>
        have h1 := ((okL_iff _).1 ho1).2 i (by omega)
        have h2 := nums_int (pgen (s.take 60)) (vals (s.take 60)) i (by rw [vals_len]; omega) h1
        rw [vals_get _ _ (by omega)] at h2
        unfold val pat at h2
        omega)
    rw [zs_off 14 (Nat.le_refl _)] at hj
    exact hj
  have hz := zero_four _ ho2
  have hzl : ((s.take 60).drop 56).length = 4 := by rw [List.length_drop, hbl]
  rw [hzl] at hz
  have hpad : padTo (body (pgen (s.take 60)) (vals (s.take 60))) 60 = s.take 60 := by
    unfold padTo
    rw [body_len, hbody]
    show _ ++ List.replicate 4 0 = _
    rw [← hz, List.take_append_drop]
  unfold sector sealed
  rw [hpad]
  exact (good_parts s hl hg).symm
theorem turned (g : Nat) (ls : List Int) (k : Nat) (hk : k < 64) (b : UInt8) (hb : (sector g ls)[k]? ≠ some b) : decE ((sector g ls).set k b) = 31 := by
  have hlen := sector_len g ls
  have hl : ((sector g ls).set k b).length = 64 := by rw [List.length_set]; exact hlen
  refine (dec_sum _ hl ?_).1
  cases hg : Cm.good ((sector g ls).set k b) with
  | false => rfl
  | true =>
    have e := Cm.good_set (padTo (body g ls) 60) k b (by rw [padded_len]; omega) hg
    have e' : (sector g ls).set k b = sector g ls := e
    exfalso
    apply hb
    rw [← e', List.getElem?_set_self (by omega)]
end Pm
end Go.Proofs.YtbmabcddciibfaaGreat
namespace Go.Proofs.YtbmabcddciibfaaGreat
namespace Um
def okU (a n g : Int) : Bool := Em.rightB n g && (decide (n + 17 ≤ a) && decide (a ≤ 1048576))
theorem okU_small {a n g : Int} (h : okU a n g = true) : 1 ≤ n ∧ n ≤ 1048576 ∧ 1 ≤ g ∧ g ≤ 128 ∧ n + 17 ≤ a ∧ a ≤ 1048576 := by
  unfold okU at h
  rw [Bool.and_eq_true, Bool.and_eq_true, decide_eq_true_eq, decide_eq_true_eq, Em.right_iff] at h
  omega
end Um
end Go.Proofs.YtbmabcddciibfaaGreat
