/- Contract of page's Encode. -/
import Derived.Test.YtegadlmakjceiaaPageCode
namespace Go.Proofs.Ytegadlmakjceiaa
open Go.RowKit
set_option linter.unusedVariables false

/-- The first so many numbers of a page. -/
def ncells (g : Nat) (ls : List Int) (k : Nat) : List Value := (List.range k).map fun i => nbs (Pm.nums g ls) i
theorem ncells_succ (g : Nat) (ls : List Int) (k : Nat) : ncells g ls (k + 1) = ncells g ls k ++ [nbs (Pm.nums g ls) k] := by simp [ncells, List.range_succ]
theorem okL_of (ls : List Int) (hl : ls.length = 13) (h : ∀ i, i < 13 → Pm.okC (ls.getD i 0) = true) : Pm.okL ls = true := (Pm.okL_iff ls).2 ⟨hl, h⟩
theorem seal64 (l : List UInt8) (w : World) (h : l.length ≤ 60) :
    Calls Try.prog 15 #[.string (Om.B l), .int .i64 64] w fun e w' => e = .returned (.tuple #[.string (Om.B (sealed l 60)), .int .i64 0]) ∧ Below w.heap.size w w' := seal_ok l 60 w (by omega) h

theorem slice_of {w : World} {base : Nat} {t : TypeId} {v : Value} {n : Nat} {xs : List Value} (h : w.ownsRow base t 1 v (n + 1) xs) : ∃ g c, v = .slice (some ⟨g, 0, none⟩) (n + 1) c := by
  rcases h.2 with ⟨_, h0⟩ | ⟨g, c, cur, hv, _⟩
  · omega
  · exact ⟨g, c, hv⟩

set_option maxHeartbeats 800000 in
theorem penc_any (g : Nat) (ls : List Int) (B : Nat) (a : Option Addr) (n c : Nat) (w : World) (hg : g < 4294967296) (hl : ls.length = n) (hn : n ≤ 9223372036854775807) (hB : B ≤ w.heap.size) (hr : Row w B a n (szs ls)) :
    Calls Try.prog 7 #[.int .u32 (g : Int), .slice a n c] w fun e w' => e = .returned (.tuple #[.string (Om.B (Pm.encS g ls)), .int .i64 (Pm.encE ls)]) ∧ Below w.heap.size w w' := by
  obtain ⟨i0, hi, hz0, hz1, hz2⟩ := info_parts info_u64
  by_cases h13 : n = 13
  · subst h13
    obtain ⟨ab, ao, rfl, hab, hac⟩ := hr (by omega)
    have HAC := Lib.hid hac
    have HL := Lib.hid hl
    clear hac hr hl hn
    go_enter Try.func7, Try.ntmps7
    go_wp2
    have hown0 : (w.alloc (.cells #[.int .u64 (g : Int)] 36)).ownsRow w.heap.size 36 1 (.slice (some ⟨w.heap.size, 0, none⟩) 1 1) 1 (ncells g ls 1) := World.ownsRow_lit w #[.int .u64 (g : Int)] 1 (Nat.le_refl _) (by unfold maxLen; omega) rfl
    have HO0 := Lib.hid hown0
    clear hown0
    go_loopw [6, 19] (fun v i wr => ∃ k : Nat, k ≤ 13 ∧ i = .int .i64 k ∧ wr.ownsRow w.heap.size 36 1 v (k + 1) (ncells g ls (k + 1)) ∧ Below w.heap.size w wr ∧ Hid (∀ i, i < k → Pm.okC (ls.getD i 0) = true)) (fun _ i _ => 13 - (intOf i).toNat)
    case atStart => exact ⟨0, Nat.zero_le _, rfl, HO0.out, (Below.refl _ _).alloc (Nat.le_refl _) _, Lib.hid (fun i hi => absurd hi (by omega))⟩
    case round =>
      obtain ⟨k, hk, rfl, hown, hbel, hall⟩ := hrel
      have HB := Lib.hid hbel
      have hsz := hbel.size
      by_cases hlt : k < 13
      · have hcx : wr.cell? ⟨ab, ao + k, none⟩ = some (.int .i64 (ls.getD k 0)) := by
          rw [hbel.cell (p := ⟨ab, ao + k, none⟩) (Nat.lt_of_lt_of_le hab hB), HAC.out k hlt, szs]
        obtain ⟨z, hz⟩ : ∃ z, z = Pm.okC (ls.getD k 0) := ⟨_, rfl⟩
        have C := Lib.hid (fun w1 => may_any (ls.getD k 0) w1)
        rw [← hz] at C
        cases z with
        | true =>
          have hiff := (Pm.okC_iff _).1 hz.symm
          have hnum := Pm.nums_int g ls k (by rw [HL.out]; exact hlt) hz.symm
          have hnb : nbs (Pm.nums g ls) (k + 1) = .int .u64 (((Pm.nums g ls).getD (k + 1) 0 : Nat) : Int) := rfl
          obtain ⟨x, hx⟩ : ∃ x, x = ls.getD k 0 := ⟨_, rfl⟩
          obtain ⟨y, hy⟩ : ∃ y, y = (Pm.nums g ls).getD (k + 1) 0 := ⟨_, rfl⟩
          rw [← hx] at hcx C hiff hnum
          rw [← hy] at hnum hnb
          obtain ⟨hx1, hx2⟩ := hiff
          have hxy : x + 1 = (y : Int) := hnum.symm
          have HZ := Lib.hid hz
          have HNB := Lib.hid hnb
          clear hz hnb hx hy hnum hbel
          go_wp2_with fail
          refine (C.out _).mono ?_
          rintro e w1 ⟨rfl, rfl⟩
          go_wp2_with (first | (at_builtin; refine wpList_append_own _ rfl _ _ 37 rfl w.heap.size 36 i0 (.int .u64 0) 1 8 Try.underlying37 hi hz0 hz1 hz2 rfl (by decide) _ _ _ rfl (hown.alloc _) ⟨wr.heap.size, 0, none⟩ 1 1 [.int .u64 (y : Int)] rfl rfl ?c1 ?c2 ?c3 ?c4 ?c5 ?_))
          case c1 =>
            intro q u hq
            match q, hq with
            | 0, hq => simp at hq; subst hq; simp [Addr.add]
          case c2 => intro u hu; simp at hu; subst hu; rfl
          case c3 => unfold maxLen; omega
          case c4 => omega
          case c5 => simp; omega
          intro v' w1 hown' hgrow _
          have hbel1 : Below w.heap.size w w1 := (HB.out.alloc hsz _).grown hgrow (by simp; omega) (fun q hq => (hown.lt q hq).1)
          rw [← HNB.out, ← ncells_succ] at hown'
          have HB1 := Lib.hid hbel1
          have HO1 := Lib.hid hown'
          clear hgrow hown hbel1 hown'
          go_wp2
          go_roundw
          case rel => exact ⟨k + 1, by omega, by go_num, HO1.out, HB1.out, Lib.hid (fun i hi => by
            by_cases e : i = k
            · subst e; exact HZ.out.symm
            · exact hall.out i (by omega))⟩
          case measure => simp [intOf]; omega
        | false =>
          have hbad := Pm.enc_no g ls (Pm.okL_not ls k hlt hz.symm)
          obtain ⟨x, hx⟩ : ∃ x, x = ls.getD k 0 := ⟨_, rfl⟩
          rw [← hx] at hcx C
          have HBAD := Lib.hid hbad
          clear hbad hz hx hown hbel
          go_wp2_with fail
          refine (C.out _).mono ?_
          rintro e w1 ⟨rfl, rfl⟩
          go_wp2
          go_ret2
          exact ⟨by rw [HBAD.out.1, HBAD.out.2]; rfl, HB.out⟩
      · obtain rfl : k = 13 := by omega
        have hok := okL_of ls HL.out hall.out
        obtain ⟨hj1, hj2⟩ := Pm.join_is g ls hg hok
        obtain ⟨he1, he2⟩ := Pm.enc_ok g ls hok
        obtain ⟨g1, c1, rfl⟩ := slice_of hown
        have hrow : Row wr wr.heap.size (some ⟨g1, 0, none⟩) 14 (nbs (Pm.nums g ls)) := Row.own hown (fun i hi => by simp [ncells, show i < 13 + 1 from hi])
        have hu : ∀ i, (Pm.nums g ls).getD i 0 < 18446744073709551616 := fun i => by
          by_cases hi : i < 14
          · have := Pm.nums_lt g ls hg hok i hi; omega
          · rw [List.getD_eq_getElem?_getD, List.getElem?_eq_none (by rw [Pm.nums_len, HL.out]; omega)]; simp
        have hnl : (Pm.nums g ls).length = 14 := by rw [Pm.nums_len, HL.out]
        have hbl := Pm.body_len g ls
        have HROW := Lib.hid hrow
        have HU := Lib.hid hu
        have HNL := Lib.hid hnl
        have HBL := Lib.hid hbl
        have J1 := Lib.hid hj1
        have J2 := Lib.hid hj2
        have E1 := Lib.hid he1
        have E2 := Lib.hid he2
        clear hrow hu hnl hbl hj1 hj2 he1 he2 hown hbel hok hall
        go_wp2_with fail
        refine (sizes_any _).mono ?_
        rintro e w1 ⟨rfl, hr1, hb1⟩
        have HR1 := Lib.hid hr1
        have HB1 := Lib.hid (HB.out.trans (hb1.mono hsz))
        have hrow1 := (HROW.out.below hb1).more hb1.size
        have HROW1 := Lib.hid hrow1
        clear hr1 hb1 hrow1
        go_wp2_with fail
        refine (join_any Pm.zs (Pm.nums g ls) w1.heap.size (some ⟨wr.heap.size, 0, none⟩) (some ⟨g1, 0, none⟩) 14 14 14 c1 _ rfl HNL.out (by omega) (by omega) (Nat.le_refl _) HR1.out HROW1.out HU.out).mono ?_
        rw [J1.out, J2.out]
        rintro e w2 ⟨rfl, hb2⟩
        have HB2 := Lib.hid (HB1.out.trans (hb2.mono HB1.out.size))
        clear hb2
        go_wp2_with fail
        refine (seal64 (Pm.body g ls) _ (by rw [HBL.out]; omega)).mono ?_
        rintro e w3 ⟨rfl, hb3⟩
        have HB3 := Lib.hid (HB2.out.trans (hb3.mono HB2.out.size))
        clear hb3
        go_wp2
        go_ret2
        exact ⟨by rw [E1.out, E2.out]; rfl, HB3.out⟩
  · have hne : ((n : Int) != 13) = true := by rw [bne_iff_ne]; omega
    have hbad := Pm.enc_no g ls (Pm.okL_len ls (by omega))
    rw [hbad.1, hbad.2]
    clear hbad h13 hr hl
    go_enter Try.func7, Try.ntmps7
    go_wp2
    go_ret2
    exact ⟨rfl, Below.refl _ _⟩
end Go.Proofs.Ytegadlmakjceiaa
