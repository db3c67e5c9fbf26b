/- The document's Copy and Page; two rows held against each other; a row added to a row. -/
import Derived.Test.YtibemiiflibnaaaTabRPut
import Derived.Test.YtibemiiflibnaaaAppendCopy
namespace Go.Proofs.Ytibemiiflibnaaa
namespace Tb
open Go.RowKit Dsk Go.Maps
set_option linter.unusedVariables false
set_option maxRecDepth 100000

theorem _root_.Go.Proofs.Ytibemiiflibnaaa.Dsk.below_q {B : Nat} {w w1 : World} (h : Below B w w1) (n : Nat) : Below B w (w1.drewN n) := ⟨h.os, h.tape, h.output, h.size, h.block⟩
theorem rcopy_any {w : World} {a : Option Addr} {c : Nat} {m : List Int} (h : Ints w (.slice a m.length c) m) (hm : m.length ≤ 1048576) :
    Calls Try.prog 15 #[.slice a m.length c] w (MadeR m w) := by
  obtain ⟨i0, hi, hz0, hz1, hz2⟩ := info_parts info_int
  have H := Lib.hid h
  have ONE := Lib.hid (ints_one m)
  obtain ⟨n, hn⟩ : ∃ n, n = m.length := ⟨_, rfl⟩
  have OWN : Hid (w.ownsRow 0 3 1 (.slice a n c) n (nums m)) := by rw [hn]; exact h
  have HN := Lib.hid hn
  rw [← hn] at hm ⊢
  clear h hn
  go_enter Try.func15, Try.ntmps15
  go_wp2_with (at_builtin; refine wpList_append_copy rfl (.tmp 4) (.tmp 5) 27 27 rfl 3 3 i0 _ 1 8 Try.underlying27 Try.underlying27 hi hz0 hz1 hz2 rfl (by decide) (.slice a n c) n (nums m) rfl rfl OWN.out ONE.out (by unfold maxLen; omega) (by omega) ?_; intro va vc w2 h1 h2 h3; have H1 := Lib.hid h1; have H2 := Lib.hid h2; have H3 := Lib.hid h3; clear h1 h2 h3)
  go_ret
  exact ⟨_, rfl, by show World.ownsRow _ _ _ _ _ _ _; rw [← HN.out]; exact H1.out, H2.out, H3.out⟩

/-- What a call hands back beside an error: a row in new memory. -/
def MadeP (l : List Int) (x : Int) (w : World) (e : Ending) (w' : World) : Prop := ∃ v, e = .returned (.tuple #[v, .int .i64 x]) ∧ Ints w' v l ∧ (∀ k, v.ownBlock = some k → w.heap.size ≤ k) ∧ Below w.heap.size w w'
theorem page_take (m : List Int) (i j : Nat) (hj : j < 13) : (page m i).take (j + 1) = (page m i).take j ++ [(m[13 * i + j]?).getD (-1)] := by
  rw [List.take_add_one, page_get _ _ _ hj]
  rfl
set_option maxHeartbeats 1000000 in
theorem rpage_any {w : World} {a : Option Addr} {c : Nat} {m : List Int} (h : Ints w (.slice a m.length c) m) (i : Int) (hm : m.length ≤ 1048576) :
    Calls Try.prog 35 #[.slice a m.length c, .int .i64 i] w (MadeP (pageL m i) (pageE m i) w) := by
  have PG := Lib.hid (rpages_any a m.length c w hm)
  by_cases hin : 0 ≤ i ∧ i < (pagesN m.length : Int)
  · obtain ⟨k, rfl⟩ : ∃ k : Nat, i = (k : Int) := ⟨i.toNat, by omega⟩
    have hk : k < pagesN m.length := by omega
    rw [pageL_in hk, pageE_in hk]
    have H := Lib.hid h
    obtain ⟨n, hn⟩ : ∃ n, n = m.length := ⟨_, rfl⟩
    have HN := Lib.hid hn
    rw [← hn] at PG hk hm ⊢
    have hkb : k ≤ 1048576 := by unfold pagesN at hk; omega
    obtain ⟨q, hq⟩ : ∃ q, q = pagesN n := ⟨_, rfl⟩
    rw [← hq] at PG hk
    have d1 : decide ((k : Int) < 0) = false := by simp
    have d2 : decide ((q : Int) ≤ (k : Int)) = false := by simp; omega
    have d3 : decide (q ≤ k) = false := by simp; omega
    obtain ⟨K, hK⟩ : ∃ K, K = 13 * k := ⟨_, rfl⟩
    have hKb : K ≤ 13631488 := by omega
    have k1 : IntKind.i64.wrap (13 * (k : Int)) = (K : Int) := by rw [IntWalk.i64_in _ (by omega)]; omega
    have k2 : 13 * (k : Int) = (K : Int) := by omega
    have k3 : IntKind.i64.wrap (K : Int) = (K : Int) := by rw [IntWalk.i64_in _ (by omega)]
    have k4 : IntKind.i64.wrap ((K : Int) + 13) = ((K + 13 : Nat) : Int) := by rw [IntWalk.i64_in _ (by omega)]; omega
    have PT : Hid (∀ j, j < 13 → (page m k).take (j + 1) = (page m k).take j ++ [(m[K + j]?).getD (-1)]) := Lib.hid fun j hj => by rw [hK]; exact page_take m k j hj
    clear h hn hq hin hK hk
    go_enter Try.func35, Try.ntmps35
    go_wp2_with (go_at_call 34; refine PG.out.mono ?_; rintro e w' ⟨rfl, rfl⟩)
    go_loopw [7, 6] (fun x s wr => ∃ (j : Nat) (v : Value), x = .int .i64 ((K + j : Nat) : Int) ∧ s = v ∧ j ≤ 13 ∧ Hid (Grows w ((page m k).take j) v j wr)) (fun x _ _ => K + 13 - (Lib.intOf x).toNat)
    case atStart => exact ⟨0, _, rfl, rfl, by omega, Lib.hid (Grows.nil (Below.refl _ _))⟩
    case round =>
      obtain ⟨j, v, rfl, rfl, hj, hg⟩ := hrel
      obtain ⟨J, hJ⟩ : ∃ J, J = K + j := ⟨_, rfl⟩
      rw [← hJ]
      by_cases hlt : j < 13
      · have t1 : decide ((J : Int) < ((K + 13 : Nat) : Int)) = true := by simp; omega
        have t1' : decide (J < K + 13) = true := by simp; omega
        have t1'' : decide ((J : Int) < (K : Int) + 13) = true := by simp; omega
        have hw1 : IntKind.i64.wrap ((J : Int) + 1) = ((J + 1 : Nat) : Int) := by rw [IntWalk.i64_in _ (by omega)]; rfl
        obtain ⟨va, vc, hv⟩ := own_slice hg.out.row
        subst hv
        have HL := Lib.hid hg.out.len
        have hpt := PT.out j hlt
        rw [← hJ] at hpt
        have HJ := Lib.hid hJ
        have t4 : decide (j < 13) = true := by simpa using hlt
        have hjb : j ≤ 1099511627776 := by omega
        clear hJ
        by_cases hin : J < n
        · have t2 : decide ((J : Int) < (n : Int)) = true := by simp; omega
          have t3 : decide (J < n) = true := by simp; omega
          obtain ⟨b, hb, hbl, hc, _⟩ := ints_cell H.out J (by have := HN.out; omega)
          subst hb
          have hc2 := (hg.out.below.cell (p := ⟨b, J, none⟩) hbl).trans hc
          have hget := Hp.at_get m J (by have := HN.out; omega)
          rw [hget] at hpt
          obtain ⟨x, hx⟩ : ∃ x, x = Hp.at_ m J := ⟨_, rfl⟩
          rw [← hx] at hc2 hpt
          have HPT := Lib.hid hpt
          have OWN := Lib.hid (hg.out.own x)
          clear hc hget hx hpt
          go_wp2_with (at_builtin; refine wpList_addN rfl (.tmp 29) (.tmp 34) 26 Try.underlying26 rfl (.slice va j vc) j ((page m k).take j) rfl HL.out (by omega) OWN.out wr.heap.size x rfl (by simp) ?_; intro v' w2 h1 h2 h3; have G2 := Lib.hid (hg.out.add h1 h2 h3); clear h1 h2 h3)
          go_roundw
          case rel => exact ⟨j + 1, _, by rw [HJ.out]; go_num, rfl, by omega, by rw [HPT.out]; exact G2⟩
          case measure => have := HJ.out; simp [Lib.intOf]; omega
        · have t2 : decide ((J : Int) < (n : Int)) = false := by simp; omega
          have t3 : decide (J < n) = false := by simp; omega
          have hnone : m[J]? = none := List.getElem?_eq_none (by have := HN.out; omega)
          rw [hnone] at hpt
          have HPT := Lib.hid hpt
          have OWN := Lib.hid (hg.out.own (-1))
          clear hnone hpt
          go_wp2_with (at_builtin; refine wpList_addN rfl (.tmp 36) (.tmp 37) 26 Try.underlying26 rfl (.slice va j vc) j ((page m k).take j) rfl HL.out (by omega) OWN.out wr.heap.size (-1) rfl (by simp) ?_; intro v' w2 h1 h2 h3; have G2 := Lib.hid (hg.out.add h1 h2 h3); clear h1 h2 h3)
          go_roundw
          case rel => exact ⟨j + 1, _, by rw [HJ.out]; go_num, rfl, by omega, by rw [HPT.out]; exact G2⟩
          case measure => have := HJ.out; simp [Lib.intOf]; omega
      · obtain rfl : j = 13 := by omega
        subst hJ
        have t1 : decide (((K + 13 : Nat) : Int) < ((K + 13 : Nat) : Int)) = false := by simp
        have t1'' : decide ((K : Int) + 13 < (K : Int) + 13) = false := by simp
        have t1' : decide (K + 13 < K + 13) = false := by simp
        have hg2 := hg.out
        rw [List.take_of_length_le (by rw [page_length]; omega)] at hg2
        have HG := Lib.hid hg2
        clear hg2
        go_wp2
        go_ret2
        obtain ⟨v', e1, e2, e3, e4⟩ := HG.out.made
        injection e1 with e1
        subst e1
        exact ⟨_, rfl, e2, e3, e4⟩
  · have e1 : pageL m i = [] := by unfold pageL; rw [if_neg hin]
    have e2 : pageE m i = 2 := by unfold pageE; rw [if_neg hin]
    rw [e1, e2]
    obtain ⟨n, hn⟩ : ∃ n, n = m.length := ⟨_, rfl⟩
    rw [← hn] at PG hin ⊢
    obtain ⟨q, hq⟩ : ∃ q, q = pagesN n := ⟨_, rfl⟩
    rw [← hq] at PG hin
    have FIN : Hid (MadeP [] 2 w (.returned (.tuple #[.slice none 0 0, .int .i64 2])) w) := Lib.hid ⟨_, rfl, World.ownsRow_nil _ _ _ _, (fun k hk => by cases hk), Below.refl _ _⟩
    by_cases h0 : i < 0
    · have d1 : decide (i < 0) = true := by simpa using h0
      clear h hn hq hin e1 e2
      go_enter Try.func35, Try.ntmps35
      go_wp2
      go_ret2
      exact FIN.out
    · have d1 : decide (i < 0) = false := by simpa using h0
      have d2 : decide ((q : Int) ≤ i) = true := by simp; omega
      clear h hn hq hin e1 e2 h0
      go_enter Try.func35, Try.ntmps35
      go_wp2_with (go_at_call 34; refine PG.out.mono ?_; rintro e w' ⟨rfl, rfl⟩)
      go_ret2
      exact FIN.out

/-- Two rows of the same numbers. -/
theorem isame_yes {w : World} {a b : Option Addr} {c d : Nat} {l : List Int} (hx : Ints w (.slice a l.length c) l) (hy : Ints w (.slice b l.length d) l) (hl : l.length ≤ 1099511627776) :
    Calls Try.prog 36 #[.slice a l.length c, .slice b l.length d] w fun e w' => e = .returned (.bool true) ∧ Below w.heap.size w w' := by
  have HX := Lib.hid hx
  have HY := Lib.hid hy
  obtain ⟨n, hn⟩ : ∃ n, n = l.length := ⟨_, rfl⟩
  have HN := Lib.hid hn
  rw [← hn] at hl ⊢
  have hne : (((n : Nat) : Int) != (n : Int)) = false := by simp
  clear hx hy hn
  go_enter Try.func36, Try.ntmps36
  go_wp2
  go_loopw [5] (fun i wr => ∃ k : Nat, k ≤ n ∧ i = .int .i64 k ∧ Hid (Below w.heap.size w wr)) (fun i _ => n - (Lib.intOf i).toNat)
  case atStart => exact ⟨0, Nat.zero_le _, rfl, Lib.hid (Below.refl _ _)⟩
  case round =>
    obtain ⟨k, hk, rfl, hw⟩ := hrel
    by_cases hlt : k < n
    · have t1 : decide ((k : Int) < (n : Int)) = true := by simp; omega
      have t2 : decide (k < n) = true := by simp; omega
      obtain ⟨ab, h1, hab, hac, _⟩ := ints_cell HX.out k (by have := HN.out; omega)
      obtain ⟨bb, h2, hbb, hbc, _⟩ := ints_cell HY.out k (by have := HN.out; omega)
      subst h1 h2
      have c1 := (hw.out.cell (p := ⟨ab, k, none⟩) hab).trans hac
      have c2 := (hw.out.cell (p := ⟨bb, k, none⟩) hbb).trans hbc
      obtain ⟨x, hx⟩ : ∃ x, x = Hp.at_ l k := ⟨_, rfl⟩
      rw [← hx] at c1 c2
      have h3 : (x != x) = false := by simp
      have h4 : (x == x) = true := by simp
      have hk0 : (0 : Int) ≤ (k : Int) := by omega
      have hk1 : (k : Int) < (n : Int) := by omega
      have hw1 : IntKind.i64.wrap ((k : Int) + 1) = ((k + 1 : Nat) : Int) := by rw [IntWalk.i64_in _ (by omega)]; rfl
      clear hac hbc hx
      go_wp2
      go_quiet (fail)
      go_wp2
      go_roundw
      case rel => exact ⟨k + 1, by omega, by go_num, Lib.hid (by first | exact Dsk.below_q hw.out _ | exact hw.out)⟩
      case measure => simp [Lib.intOf]; omega
    · obtain rfl : k = n := by omega
      have t1 : decide ((k : Int) < (k : Int)) = false := by simp
      have t2 : decide (k < k) = false := by simp
      go_wp2
      go_ret
      exact ⟨rfl, hw.out⟩
end Tb
end Go.Proofs.Ytibemiiflibnaaa
