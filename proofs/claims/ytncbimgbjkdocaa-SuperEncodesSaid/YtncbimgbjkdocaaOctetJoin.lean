/- Contracts of octet's areSizes and Join, the program's and the document's. -/
import Derived.Test.YtncbimgbjkdocaaOctetPut
import Derived.Test.YtncbimgbjkdocaaBuilder
import Derived.LoopTactic
import Derived.Outline
import Derived.WalkLawsBesides
namespace Go.Proofs.Ytncbimgbjkdocaa
open Go.RowKit
set_option linter.unusedVariables false

/-- Sizes as cells. -/
def szs (zs : List Int) (i : Nat) : Value := .int .i64 (zs.getD i 0)
/-- Numbers as cells. -/
def nbs (ls : List Nat) (i : Nat) : Value := .int .u64 ((ls.getD i 0 : Nat) : Int)

theorem sizesOk_of (zs : List Int) (h : ∀ i, i < zs.length → Om.sizeOk (zs.getD i 0) = true) : Om.sizesOk zs = true := by
  unfold Om.sizesOk
  rw [List.all_eq_true]
  intro x hx
  obtain ⟨i, hi, rfl⟩ := List.mem_iff_getElem.1 hx
  have := h i hi
  simpa [List.getElem?_eq_getElem hi] using this
theorem sizesOk_not (zs : List Int) (i : Nat) (hi : i < zs.length) (h : ¬ (0 ≤ zs.getD i 0 ∧ zs.getD i 0 ≤ 8)) : Om.sizesOk zs = false := by
  cases hc : Om.sizesOk zs
  · rfl
  · exact absurd (Om.sizes_at zs hc i) h

theorem areSizes_any (zs : List Int) (B : Nat) (a : Option Addr) (n cap : Nat) (w : World) (hl : zs.length = n) (hn : n ≤ 9223372036854775807) (hr : Row w B a n (szs zs)) :
    Calls Try.prog 22 #[.slice a n cap] w fun e w' => e = .returned (.bool (Om.sizesOk zs)) ∧ w = w' := by
  have HL := Lib.hid hl
  have HR := Lib.hid hr
  clear hl hr
  go_enter Try.func22, Try.ntmps22
  go_wp2
  go_loop [7] (fun i => ∃ k : Nat, k ≤ n ∧ i = .int .i64 k ∧ Hid (∀ i, i < k → Om.sizeOk (zs.getD i 0) = true)) (fun i => n - (intOf i).toNat)
  case atStart => exact ⟨0, Nat.zero_le _, rfl, Lib.hid (fun i hi => absurd hi (by omega))⟩
  case round =>
    obtain ⟨k, hk, rfl, hall⟩ := hrel
    by_cases hlt : k < n
    · obtain ⟨b, off, rfl, hb, hc⟩ := HR.out (by omega)
      have hcell := hc k hlt
      unfold szs at hcell
      clear hc
      obtain ⟨x, hx⟩ : ∃ x, x = zs.getD k 0 := ⟨_, rfl⟩
      rw [← hx] at hcell
      by_cases hz : 0 ≤ x ∧ x ≤ 8
      · have HX := Lib.hid hx
        clear hx
        go_wp2_with fail
        refine (isSize_yes x _ hz.1 hz.2).mono ?_
        rintro e w' ⟨rfl, rfl⟩
        go_wp2
        go_round
        case rel => exact ⟨k + 1, by omega, by go_num, Lib.hid (fun i hi => by
          by_cases e : i = k
          · subst e; rw [← HX.out, Om.sizeOk_iff]; exact hz
          · exact hall.out i (by omega))⟩
        case measure => simp [intOf]; omega
      · have hno : Om.sizesOk zs = false := sizesOk_not zs k (by rw [HL.out]; exact hlt) (by rw [← hx]; exact hz)
        have HN := Lib.hid hno
        clear hno hx
        go_wp2_with fail
        refine (isSize_no x _ hz).mono ?_
        rintro e w' ⟨rfl, rfl⟩
        go_wp2
        go_ret
        exact ⟨by rw [HN.out]; rfl, rfl⟩
    · obtain rfl : k = n := by omega
      have hyes : Om.sizesOk zs = true := sizesOk_of zs (fun i hi => hall.out i (by rw [HL.out] at hi; exact hi))
      have HY := Lib.hid hyes
      clear hyes
      go_wp2
      go_ret
      exact ⟨by rw [HY.out]; rfl, rfl⟩

/-- What Join tells. -/
def joinS (zs : List Int) (ls : List Nat) : List UInt8 := if zs.length = ls.length ∧ Om.sizesOk zs = true ∧ Om.fitAll zs ls ls.length = true then Om.joined zs ls ls.length else []
def joinE (zs : List Int) (ls : List Nat) : Int := if zs.length = ls.length ∧ Om.sizesOk zs = true then if Om.fitAll zs ls ls.length = true then 0 else 2 else 1
theorem join_len (zs : List Int) (ls : List Nat) (h : ¬ zs.length = ls.length) : joinS zs ls = [] ∧ joinE zs ls = 1 := by
  unfold joinS joinE; rw [if_neg (fun c => h c.1), if_neg (fun c => h c.1)]; exact ⟨rfl, rfl⟩
theorem join_sizes (zs : List Int) (ls : List Nat) (h : Om.sizesOk zs = false) : joinS zs ls = [] ∧ joinE zs ls = 1 := by
  unfold joinS joinE; rw [if_neg (fun c => by rw [h] at c; exact absurd c.2.1 (by decide)), if_neg (fun c => by rw [h] at c; exact absurd c.2 (by decide))]; exact ⟨rfl, rfl⟩
theorem join_ok (zs : List Int) (ls : List Nat) (hl : zs.length = ls.length) (hs : Om.sizesOk zs = true) (hf : Om.fitAll zs ls ls.length = true) : joinS zs ls = Om.joined zs ls ls.length ∧ joinE zs ls = 0 := by
  unfold joinS joinE; rw [if_pos ⟨hl, hs, hf⟩, if_pos ⟨hl, hs⟩, if_pos hf]; exact ⟨rfl, rfl⟩
theorem join_big (zs : List Int) (ls : List Nat) (i : Nat) (hl : zs.length = ls.length) (hs : Om.sizesOk zs = true) (hi : i < ls.length) (hf : ¬ ls.getD i 0 < 256 ^ (zs.getD i 0).toNat) : joinS zs ls = [] ∧ joinE zs ls = 2 := by
  have h : ¬ Om.fitAll zs ls ls.length = true := fun c => hf ((Om.fitAll_iff zs ls ls.length).1 c i hi)
  unfold joinS joinE; rw [if_neg (fun c => h c.2.2), if_pos ⟨hl, hs⟩, if_neg h]; exact ⟨rfl, rfl⟩
theorem fitAll_of (zs : List Int) (ls : List Nat) (n : Nat) (h : ∀ i, i < n → ls.getD i 0 < 256 ^ (zs.getD i 0).toNat) : Om.fitAll zs ls n = true := (Om.fitAll_iff zs ls n).2 h

/-- Put at a size that may be. -/
theorem put_any (n k : Nat) (w : World) (h : k ≤ 8) : Calls Try.prog 23 #[.int .u64 (n : Int), .int .i64 (k : Int)] w fun e w' => e = .returned (.tuple #[.string (Om.B (putS n k)), .int .i64 (putE n k)]) ∧ Below w.heap.size w w' := by
  unfold putS putE
  by_cases hf : n < 256 ^ k
  · rw [if_pos hf, if_pos hf]
    exact put_ok n k w h hf
  · rw [if_neg hf, if_neg hf]
    exact (put_big n k w h hf).mono fun e w' ⟨he, hw⟩ => ⟨he, hw ▸ Below.refl _ _⟩

/-- What the sizes ask of a slice: a number of elements that is no more than 2^40. -/
theorem join_any (zs : List Int) (ls : List Nat) (B : Nat) (a c : Option Addr) (n m cap cap' : Nat) (w : World) (hl : zs.length = n) (hm : ls.length = m) (hn : n ≤ 1099511627776) (hn' : m ≤ 1099511627776) (hB : B ≤ w.heap.size)
    (hr : Row w B a n (szs zs)) (hq : Row w B c m (nbs ls)) (hu : ∀ i, ls.getD i 0 < 18446744073709551616) :
    Calls Try.prog 13 #[.slice a n cap, .slice c m cap'] w fun e w' => e = .returned (.tuple #[.string (Om.B (joinS zs ls)), .int .i64 (joinE zs ls)]) ∧ Below w.heap.size w w' := by
  by_cases hnm : n = m
  · subst hnm
    have hne : (((n : Nat) : Int) != (n : Int)) = false := by simp
    cases hok : Om.sizesOk zs with
    | false =>
      obtain ⟨hS, hE⟩ := join_sizes zs ls hok
      rw [hS, hE]
      have hc := areSizes_any zs B a n cap w hl (by omega) hr
      rw [hok] at hc
      have HC := Lib.hid hc
      clear hS hE hok hl hm hr hq hu hc
      go_enter Try.func13, Try.ntmps13
      go_wp2_with fail
      refine HC.out.mono ?_
      rintro e w' ⟨rfl, rfl⟩
      go_wp2
      go_ret2
      exact ⟨rfl, Below.refl _ _⟩
    | true =>
      have hc := areSizes_any zs B a n cap w hl (by omega) hr
      rw [hok] at hc
      have HC := Lib.hid hc
      have HOK := Lib.hid hok
      have HL := Lib.hid hl
      have HM := Lib.hid hm
      have HR := Lib.hid hr
      have HQ := Lib.hid hq
      have HU := Lib.hid hu
      clear hok hl hm hr hq hu hc
      go_enter Try.func13, Try.ntmps13
      go_wp2_with fail
      refine HC.out.mono ?_
      rintro e w' ⟨rfl, rfl⟩
      go_wp2
      go_loopw [23] (fun i wr => ∃ k : Nat, k ≤ n ∧ i = .int .i64 k ∧ Built w.heap.size w.heap.size (Om.joined zs ls k) wr ∧ Below w.heap.size w wr ∧ Hid (∀ i, i < k → ls.getD i 0 < 256 ^ (zs.getD i 0).toNat)) (fun i _ => n - (intOf i).toNat)
      case atStart => exact ⟨0, Nat.zero_le _, rfl, Built.new w _ (Nat.le_refl _), (Below.refl _ _).alloc (Nat.le_refl _) _, Lib.hid (fun i hi => absurd hi (by omega))⟩
      case round =>
        obtain ⟨k, hk, rfl, hbu, hbel, hall⟩ := hrel
        have HBU := Lib.hid hbu
        have HB := Lib.hid hbel
        clear hbu hbel
        by_cases hlt : k < n
        · obtain ⟨ab, ao, rfl, hab, hac⟩ := HR.out (by omega)
          obtain ⟨cb, co, rfl, hcb, hcc⟩ := HQ.out (by omega)
          obtain ⟨d, hd⟩ : ∃ d : Nat, zs.getD k 0 = (d : Int) := Int.eq_ofNat_of_zero_le (Om.sizes_at zs HOK.out k).1
          have hd8 : d ≤ 8 := by have := (Om.sizes_at zs HOK.out k).2; omega
          obtain ⟨y, hy⟩ : ∃ y, y = ls.getD k 0 := ⟨_, rfl⟩
          have hcz : wr.cell? ⟨ab, ao + k, none⟩ = some (.int .i64 (d : Int)) := by
            rw [HB.out.cell (p := ⟨ab, ao + k, none⟩) (Nat.lt_of_lt_of_le hab hB), hac k hlt, szs, hd]
          have hcn : wr.cell? ⟨cb, co + k, none⟩ = some (.int .u64 (y : Int)) := by
            rw [HB.out.cell (p := ⟨cb, co + k, none⟩) (Nat.lt_of_lt_of_le hcb hB), hcc k hlt, nbs, hy]
          have HY := Lib.hid hy
          have HD := Lib.hid hd
          clear hac hcc hy hd
          by_cases hf : y < 256 ^ d
          · have HF := Lib.hid hf
            clear hf
            go_wp2_with fail
            refine (put_ok y d _ hd8 HF.out).mono ?_
            rintro e w1 ⟨rfl, hb1⟩
            have HB1 := Lib.hid hb1
            clear hb1 hcz hcn
            go_wp2_with fail
            refine (write_any w.heap.size w.heap.size (Om.joined zs ls k) (Om.low y d) w1 (HBU.out.below HB1.out) (by
              rw [Om.low_length, Om.joined_length zs ls k (by rw [HL.out]; exact hk)]
              have := Om.off_le zs HOK.out k
              omega) (Nat.le_trans HB.out.size HB1.out.size)).mono ?_
            rintro e w2 ⟨rfl, hbu2, hb2⟩
            have hbel2 : Below w.heap.size w w2 := (HB.out.trans (HB1.out.mono HB.out.size)).trans hb2
            rw [show Om.joined zs ls k ++ Om.low y d = Om.joined zs ls (k + 1) from by rw [Om.joined_succ, HY.out, HD.out, Int.toNat_natCast]] at hbu2
            have HBU2 := Lib.hid hbu2
            have HBEL2 := Lib.hid hbel2
            clear hbu2 hbel2 hb2
            go_wp2
            go_roundw
            case rel => exact ⟨k + 1, by omega, by go_num, HBU2.out, HBEL2.out, Lib.hid (fun i hi => by
              by_cases e : i = k
              · subst e; rw [← HY.out, HD.out, Int.toNat_natCast]; exact HF.out
              · exact hall.out i (by omega))⟩
            case measure => simp [intOf]; omega
          · obtain ⟨hS, hE⟩ := join_big zs ls k (by rw [HL.out, HM.out]) HOK.out (by rw [HM.out]; exact hlt) (by rw [← HY.out, HD.out, Int.toNat_natCast]; exact hf)
            have HS := Lib.hid hS
            have HE := Lib.hid hE
            have HF := Lib.hid hf
            clear hf hS hE
            go_wp2_with fail
            refine (put_big y d _ hd8 HF.out).mono ?_
            rintro e w1 ⟨rfl, rfl⟩
            go_wp2
            go_ret2
            exact ⟨by rw [HS.out, HE.out]; rfl, HB.out⟩
        · obtain rfl : k = n := by omega
          obtain ⟨hS, hE⟩ := join_ok zs ls (by rw [HL.out, HM.out]) HOK.out (fitAll_of zs ls _ (by rw [HM.out]; exact hall.out))
          have HS := Lib.hid hS
          have HE := Lib.hid hE
          clear hS hE
          go_wp2_with fail
          refine (string_any w.heap.size w.heap.size (Om.joined zs ls k) wr HBU.out HB.out.size).mono ?_
          rintro e w1 ⟨rfl, hb1⟩
          have HB1 := Lib.hid hb1
          clear hb1
          go_wp2
          go_ret2
          exact ⟨by rw [HS.out, HE.out, HM.out]; rfl, HB.out.trans HB1.out⟩
  · have hne : ((n : Int) != (m : Int)) = true := by rw [bne_iff_ne]; omega
    obtain ⟨hS, hE⟩ := join_len zs ls (by omega)
    rw [hS, hE]
    clear hS hE hl hm hr hq hu hnm
    go_enter Try.func13, Try.ntmps13
    go_wp2
    go_ret2
    exact ⟨rfl, Below.refl _ _⟩
end Go.Proofs.Ytncbimgbjkdocaa
