/- Part 36 of the contracts and of the plain mathematics that the proof of the law rests on: PageRef, StoRT, StoBeg, StoDsk. -/
import Derived.Test.YtbmabcddciibfaaGreatWr03
import Derived.Test.YtbmabcddciibfaaGreatWr13
import Derived.Test.YtbmabcddciibfaaGreatWr14
import Derived.Test.YtbmabcddciibfaaGreatWr15
import Derived.Test.YtbmabcddciibfaaGreatWr21
import Derived.Test.YtbmabcddciibfaaGreatWr24
import Derived.Test.YtbmabcddciibfaaGreatWr25
import Derived.Test.YtbmabcddciibfaaGreatWr27
import Derived.Test.YtbmabcddciibfaaGreatWr31
import Derived.Test.YtbmabcddciibfaaGreatWr34
import Derived.Test.YtbmabcddciibfaaGreatWr35
namespace Go.Proofs.YtbmabcddciibfaaGreat
open Go.RowKit
set_option maxRecDepth 100000
set_option linter.unusedVariables false
theorem rput4 (n : Nat) (w : World) (hn : n < 4294967296) : Calls Tryz.prog 116 #[.int .u64 (n : Int), .int .i64 4] w fun e w' => e = .returned (.tuple #[.string (Om.B (Om.low n 4)), .int .i64 0]) ∧ Below w.heap.size w w' := by
  have h := rput_any n 4 w (by omega) (by omega)
  unfold putS putE at h
  rw [if_pos (by omega), if_pos (by omega)] at h
  exact h
theorem rseal64 (l : List UInt8) (w : World) (h : l.length ≤ 60) :
    Calls Tryz.prog 117 #[.string (Om.B l), .int .i64 64] w fun e w' => e = .returned (.tuple #[.string (Om.B (sealed l 60)), .int .i64 0]) ∧ Below w.heap.size w w' := rseal_ok l 60 w (by omega) h
theorem nums_one (g : Nat) (ls : List Int) : Om.low g 4 = Om.joined Pm.zs (Pm.nums g ls) 1 := by
  rw [Om.joined_succ, Om.joined_zero, Pm.nums_zero, Pm.zs_get 0 (by omega)]
  rfl
theorem nums_more (g : Nat) (ls : List Int) (k : Nat) (h : k < 13) : Om.joined Pm.zs (Pm.nums g ls) (k + 1 + 1) = Om.joined Pm.zs (Pm.nums g ls) (k + 1) ++ Om.low ((Pm.nums g ls).getD (k + 1) 0) 4 := by
  rw [Om.joined_succ, Pm.zs_get (k + 1) (by omega)]
  rfl
theorem joined_len (g : Nat) (ls : List Int) (k : Nat) (h : k ≤ 14) : (Om.joined Pm.zs (Pm.nums g ls) k).length = 4 * k := by
  rw [Om.joined_length Pm.zs _ k (by rw [Pm.zs_len]; exact h), Pm.zs_off k h]
set_option maxHeartbeats 800000 in
theorem rpenc_any (g : Nat) (ls : List Int) (B : Nat) (a : Option Addr) (n c : Nat) (w : World) (hg : g < 4294967296) (hl : ls.length = n) (hn : n ≤ 9223372036854775807) (hB : B ≤ w.heap.size) (hr : Row w B a n (szs ls)) :
    Calls Tryz.prog 78 #[.int .u32 (g : Int), .slice a n c] w fun e w' => e = .returned (.tuple #[.string (Om.B (Pm.encS g ls)), .int .i64 (Pm.encE ls)]) ∧ Below w.heap.size w w' := by
  by_cases h13 : n = 13
  · subst h13
    obtain ⟨ab, ao, rfl, hab, hac⟩ := hr (by omega)
    have HAC := Lib.hid hac
    have HL := Lib.hid hl
    have h1 := nums_one g ls
    have H1 := Lib.hid h1
    clear hac hr hl hn h1
    go_enter Tryz.func78, Tryz.ntmps78
    go_wp2_with fail
    refine (rput4 g _ hg).mono ?_
    rintro e w0 ⟨rfl, hb0⟩
    have HB0 := Lib.hid hb0
    clear hb0
    go_wp2
    go_loopw [6, 8] (fun s i wr => ∃ k : Nat, k ≤ 13 ∧ i = .int .i64 k ∧ s = .string (Om.B (Om.joined Pm.zs (Pm.nums g ls) (k + 1))) ∧ Below w.heap.size w wr ∧ Hid (∀ i, i < k → Pm.okC (ls.getD i 0) = true)) (fun _ i _ => 13 - (Go.RowKit.intOf i).toNat)
    case atStart => exact ⟨0, Nat.zero_le _, rfl, by rw [H1.out], HB0.out, Lib.hid (fun i hi => absurd hi (by omega))⟩
    case round =>
      obtain ⟨k, hk, rfl, rfl, hbel, hall⟩ := hrel
      have HB := Lib.hid hbel
      have hsz := hbel.size
      by_cases hlt : k < 13
      · have hcx : wr.cell? ⟨ab, ao + k, none⟩ = some (.int .i64 (ls.getD k 0)) := by
          rw [hbel.cell (p := ⟨ab, ao + k, none⟩) (Nat.lt_of_lt_of_le hab hB), HAC.out k hlt, szs]
        cases hz : Pm.okC (ls.getD k 0) with
        | true =>
          have hiff := (Pm.okC_iff _).1 hz
          have hnum := Pm.nums_int g ls k (by rw [HL.out]; exact hlt) hz
          have hmore := nums_more g ls k hlt
          have hjl := joined_len g ls (k + 1) (by omega)
          obtain ⟨x, hx⟩ : ∃ x, x = ls.getD k 0 := ⟨_, rfl⟩
          obtain ⟨y, hy⟩ : ∃ y, y = (Pm.nums g ls).getD (k + 1) 0 := ⟨_, rfl⟩
          rw [← hx] at hcx hiff hnum
          rw [← hy] at hnum hmore
          obtain ⟨hx1, hx2⟩ := hiff
          have hxy : x + 1 = (y : Int) := hnum.symm
          have hy32 : y < 4294967296 := by omega
          have d1 : decide (x < -1) = false := by simp; omega
          have d2 : decide (2147483646 < x) = false := by simp; omega
          have hcat := no_over (Om.joined Pm.zs (Pm.nums g ls) (k + 1)) (Om.low y 4) (by rw [hjl, Om.low_length]; omega)
          have HZ := Lib.hid hz
          have HM := Lib.hid hmore
          clear hz hx hy hnum hbel hmore hjl
          go_wp2_with fail
          refine (rput4 y _ hy32).mono ?_
          rintro e w1 ⟨rfl, hb1⟩
          have HB1 := Lib.hid (HB.out.trans (hb1.mono hsz))
          clear hb1
          go_wp2
          go_roundw
          case rel => exact ⟨k + 1, by omega, by go_num, by rw [HM.out, Om.B_append], HB1.out, Lib.hid (fun i hi => by
            by_cases e : i = k
            · subst e; exact HZ.out
            · exact hall.out i (by omega))⟩
          case measure => simp [Go.RowKit.intOf]; omega
        | false =>
          have hbad := Pm.enc_no g ls (Pm.okL_not ls k hlt hz)
          have hiff : ¬ (-1 ≤ ls.getD k 0 ∧ ls.getD k 0 ≤ 2147483646) := fun c => by rw [(Pm.okC_iff _).2 c] at hz; cases hz
          obtain ⟨x, hx⟩ : ∃ x, x = ls.getD k 0 := ⟨_, rfl⟩
          rw [← hx] at hcx hiff
          have HBAD := Lib.hid hbad
          clear hbad hz hx hbel
          by_cases hx1 : x < -1
          · have d1 : decide (x < -1) = true := by simpa using hx1
            clear hiff
            go_wp2
            go_ret2
            exact ⟨by rw [HBAD.out.1, HBAD.out.2]; rfl, HB.out⟩
          · have d1 : decide (x < -1) = false := by simpa using hx1
            have d2 : decide (2147483646 < x) = true := by simp; omega
            clear hiff
            go_wp2
            go_ret2
            exact ⟨by rw [HBAD.out.1, HBAD.out.2]; rfl, HB.out⟩
      · obtain rfl : k = 13 := by omega
        have hok := okL_of ls HL.out hall.out
        obtain ⟨he1, he2⟩ := Pm.enc_ok g ls hok
        have hbl := Pm.body_len g ls
        have hbd : Om.joined Pm.zs (Pm.nums g ls) (13 + 1) = Pm.body g ls := rfl
        rw [hbd]
        have HBL := Lib.hid hbl
        have E1 := Lib.hid he1
        have E2 := Lib.hid he2
        clear hbl he1 he2 hbel hok hall hbd
        go_wp2_with fail
        refine (rseal64 (Pm.body g ls) _ (by rw [HBL.out]; omega)).mono ?_
        rintro e w3 ⟨rfl, hb3⟩
        have HB3 := Lib.hid (HB.out.trans (hb3.mono hsz))
        clear hb3
        go_wp2
        go_ret2
        exact ⟨by rw [E1.out, E2.out]; rfl, HB3.out⟩
  · have hne : ((n : Int) != 13) = true := by rw [bne_iff_ne]; omega
    have hbad := Pm.enc_no g ls (Pm.okL_len ls (by omega))
    rw [hbad.1, hbad.2]
    clear hbad h13 hr hl
    go_enter Tryz.func78, Tryz.ntmps78
    go_wp2
    go_ret2
    exact ⟨rfl, Below.refl _ _⟩
end Go.Proofs.YtbmabcddciibfaaGreat
namespace Go.Proofs.YtbmabcddciibfaaGreat
namespace So
open Go.RowKit
set_option maxRecDepth 100000
set_option linter.unusedVariables false
theorem rshead_any {p : Pa} (h : p.Ok) (inv : Bool) (w : World) : Calls Tryz.prog 75 #[.agg #[.int .u32 (p.gen : Int), .int .i64 (p.g : Int), .int .i64 (p.N : Int), .bool inv]] w fun e w' => e = .returned (.tuple #[.string (Om.B (Hm.sector p.gen (p.g : Int) (p.N : Int) inv)), .int .i64 0]) ∧ Below w.heap.size w w' := by
  have h1 := rhenc_any p.gen (p.g : Int) (p.N : Int) inv w h.gen2
  rw [(Hm.enc_ok inv h.head).1, (Hm.enc_ok inv h.head).2] at h1
  exact h1
theorem rpenc_row {p : Pa} (h : p.Ok) {ls : List Int} (hl : Pm.okL ls = true) {v : Value} {w : World} (hv : Tb.Ints w v ls) : Calls Tryz.prog 78 #[.int .u32 (p.gen : Int), v] w fun e w' => e = .returned (.tuple #[.string (Om.B (Pm.sector p.gen ls)), .int .i64 0]) ∧ Below w.heap.size w w' := by
  have hn : ls.length = 13 := ((Pm.okL_iff ls).1 hl).1
  obtain ⟨a, c, rfl⟩ := Dsk.own_slice hv
  have hr : Row w w.heap.size a ls.length (szs ls) := Row.own hv (fun i hi => by
    unfold szs
    rw [List.getElem?_map, List.getElem?_eq_getElem hi, List.getD_eq_getElem?_getD, List.getElem?_eq_getElem hi]
    rfl)
  have h1 := rpenc_any p.gen ls w.heap.size a ls.length c w h.gen2 rfl (by omega) (Nat.le_refl _) hr
  rw [(Pm.enc_ok p.gen ls hl).1, show Pm.encE ls = 0 from (Pm.enc_ok p.gen ls hl).2] at h1
  exact h1
theorem sec_cut {b : List UInt8} {f : Nat → List UInt8} {k : Nat} (h : (b.drop (64 * k)).take 64 = f k) {A B : Nat} (hA : A = 64 * k) (hB : B = 64 * k + 64) : (Om.B b).extract A B = Om.B (f k) := by
  rw [Dsk.extract_mid, hA, hB, Nat.add_sub_cancel_left, h]
set_option maxHeartbeats 4000000 in
theorem rstands_new {w : World} {r : Rb} {p : Pa} {f : Nat → List UInt8} {b : List UInt8} (h : Rs w r p (Ms.new p)) (hp : p.Ok) (hs : Stand p f (Ms.new p)) (hbl : b.length = 64 * p.a) (hb : ∀ k, k < p.a → (b.drop (64 * k)).take 64 = f k) :
    Calls Tryz.prog 34 #[.pointer (some ⟨r.q, 0, none⟩), .string (Om.B b)] w fun e w' => e = .returned (.bool true) ∧ Below w.heap.size w w' := by
  obtain ⟨va, vc, hv⟩ := Dsk.own_slice h.row
  have hTl : (Ms.new p).T.length = p.N := List.length_replicate ..
  rw [hTl] at hv
  have hnum := hp.nums
  have hN1 := hnum.N1
  have ha1 := hnum.a1
  have hhi := hp.high
  have hpos := hp.pos
  have hde := Pa.data_end hp (i := 0) hpos
  have hsd := (p.head_lt 0 0).2
  have hbs : (Om.B b).size = 64 * p.a := by rw [Om.B_size]; exact hbl
  have hpgN : p.pg ≤ p.N := by unfold Pa.pg Tb.pagesN; omega
  have KK : Hid (∀ W, Below w.heap.size w W → (W.cell? ⟨r.q, 0, none⟩ = some (.int .i64 (p.a : Int)) ∧ W.cell? ⟨r.q, 1, none⟩ = some (.int .i64 (p.n : Int)) ∧ W.cell? ⟨r.q, 2, none⟩ = some (.int .i64 (p.g : Int)) ∧ W.cell? ⟨r.q, 3, none⟩ = some (.int .i64 (p.st : Int)) ∧ W.cell? ⟨r.q, 4, none⟩ = some (.int .i64 (p.ln : Int)) ∧
      W.cell? ⟨r.q, 5, none⟩ = some (.int .u32 (p.gen : Int)) ∧ W.cell? ⟨r.q, 6, none⟩ = some (.slice va p.N vc) ∧ W.cell? ⟨r.q, 8, none⟩ = some (.bool false)) ∧ r.q < W.heap.size ∧ W.ownsRow 0 3 1 (.slice va p.N vc) p.N (Tb.nums (Ms.new p).T)) := Lib.hid fun W hW => by
    have k := h.below hW
    obtain ⟨c0, c1, c2, c3, c4, c5, c6, c7, c8, cf⟩ := k.reads
    have hr := k.row
    rw [hv] at c6 hr
    have hr : W.ownsRow 0 3 1 (.slice va p.N vc) (Ms.new p).T.length (Tb.nums (Ms.new p).T) := hr
    rw [hTl] at hr
    exact ⟨⟨c0, c1, c2, c3, c4, c5, c6, c8⟩, k.lt r.q (.inl rfl), hr⟩
  have HE := Lib.hid (fun w1 => rshead_any hp false w1)
  have PG := Lib.hid (fun w1 => rpages05 p.N w1 hN1)
  have PA : Hid (∀ (k : Nat) W, k < p.pg → Below w.heap.size w W → Calls Tryz.prog 77 #[.slice va p.N vc, .int .i64 (k : Int)] W (Tb.MadeP (Tb.page (Ms.new p).T k) 0 W)) := Lib.hid fun k W hk hW => by
    obtain ⟨-, -, hr⟩ := KK.out W hW
    have hk' : k < Tb.pagesN (Ms.new p).T.length := by rw [hTl]; exact hk
    have h1 := Tb.rpage_any (w := W) (a := va) (c := vc) (m := (Ms.new p).T) (by rw [hTl]; show W.ownsRow _ _ _ _ _ _; rw [hTl]; exact hr) (k : Int) (by rw [hTl]; exact hN1)
    rw [Tb.pageL_in hk', Tb.pageE_in hk', hTl] at h1
    exact h1
  have EN : Hid (∀ w1 v (k : Nat), Tb.Ints w1 v (Tb.page (Ms.new p).T k) → Calls Tryz.prog 78 #[.int .u32 (p.gen : Int), v] w1 fun e w' => e = .returned (.tuple #[.string (Om.B (Pm.sector p.gen (Tb.page (Ms.new p).T k))), .int .i64 0]) ∧ Below w1.heap.size w1 w') := Lib.hid fun w1 v k hv => rpenc_row hp (page_okL (fit_new hp).tok k) hv
  have CH := Lib.hid (fun (i : Nat) (hi : i < p.N) w1 => rchunk10 hp hi w1)
  have TC : Hid (∀ W (i : Nat), i < p.N → Below w.heap.size w W → ∃ g, va = some ⟨g, 0, none⟩ ∧ W.cell? ⟨g, i, none⟩ = some (.int .i64 (-1))) := Lib.hid fun W i hi hW => by
    obtain ⟨-, -, hr⟩ := KK.out W hW
    obtain ⟨g, hg, -, hc, -⟩ := Tb.ints_cell (w := W) (a := va) (c := vc) (l := (Ms.new p).T) (by rw [hTl]; show W.ownsRow _ _ _ _ _ _; rw [hTl]; exact hr) i (by rw [hTl]; exact hi)
    refine ⟨g, hg, ?_⟩
    rw [hc]
    have : Hp.at_ (Ms.new p).T i = -1 := by
      unfold Hp.at_ Ms.new
      rw [List.getD_eq_getElem?_getD, List.getElem?_replicate, if_pos hi]
      rfl
    rw [this]
  obtain ⟨A, hA⟩ : ∃ A, A = 64 * p.st := ⟨_, rfl⟩
  obtain ⟨B, hB⟩ : ∃ B, B = 64 * p.st + 64 := ⟨_, rfl⟩
  have xx : (Om.B b).extract A B = Om.B (Hm.sector p.gen (p.g : Int) (p.N : Int) false) := by
    rw [sec_cut (hb p.st (by omega)) hA hB, hs.head]
    rfl
  have e1 : IntKind.i64.wrap (64 * (p.st : Int)) = (A : Int) := by rw [IntWalk.i64_in _ (by omega)]; omega
  have e2 : IntKind.i64.wrap ((A : Int) + 64) = (B : Int) := by rw [IntWalk.i64_in _ (by omega)]; omega
  have b1 : (A : Int) ≤ (B : Int) := by omega
  have b2 : A ≤ B := by omega
  have b3 : B ≤ (Om.B b).size := by omega
  have b4 : (B : Int) ≤ ((Om.B b).size : Int) := by omega
  have b5 : (0 : Int) ≤ (A : Int) := by omega
  obtain ⟨P, hP⟩ : ∃ P, P = p.pg := ⟨_, rfl⟩
  have PGE : Hid (Tb.pagesN p.N = P) := Lib.hid (by rw [hP]; rfl)
  rw [PGE.out] at PG
  have HPL : Hid (P ≤ 1048576) := Lib.hid (by omega)
  have CUT : Hid (∀ k : Nat, k < P → ∃ A B : Nat, IntKind.i64.wrap ((p.st : Int) + 1) = (p.st : Int) + 1 ∧ IntKind.i64.wrap ((p.st : Int) + 1 + (k : Int)) = (p.st : Int) + 1 + (k : Int) ∧ IntKind.i64.wrap (64 * ((p.st : Int) + 1 + (k : Int))) = (A : Int) ∧ IntKind.i64.wrap ((A : Int) + 64) = (B : Int) ∧ A ≤ B ∧ B ≤ (Om.B b).size ∧
      (Om.B b).extract A B = Om.B (Pm.sector p.gen (Tb.page (Ms.new p).T k))) := Lib.hid fun k hk => by
    have hk' : k < p.pg := by omega
    have hin := Pa.page_in hp hk'
    have hpe : p.page k = p.st + 1 + k := rfl
    refine ⟨64 * p.page k, 64 * p.page k + 64, IntWalk.i64_in _ (by omega), IntWalk.i64_in _ (by omega), ?_, ?_, by omega, by omega, ?_⟩
    · rw [IntWalk.i64_in _ (by omega)]; omega
    · rw [IntWalk.i64_in _ (by omega)]; omega
    · rw [sec_cut (hb (p.page k) (by omega)) rfl rfl, hs.page rfl k hk']
  obtain ⟨N, hN⟩ : ∃ N, N = p.N := ⟨_, rfl⟩
  have HNN := Lib.hid hN
  have HN1 : Hid (N ≤ 1048576) := Lib.hid (by omega)
  rw [← hN] at KK HE PG PA xx CH TC
  rw [hP.symm] at PA
  obtain ⟨⟨c0, c1, c2, c3, c4, c5, c6, c8⟩, hql, -⟩ := KK.out w (Below.refl _ _)
  have HQ := Lib.hid hql
  clear h hv hTl hnum hN1 ha1 hhi hpos hde hsd hbs hpgN hs hbl hb hA hB hP hN hp hql
  go_enter Tryz.func34, Tryz.ntmps34
  go_upto_region 1 with fail
  go_region_held3 (fun w' => w'.cell? ⟨r.q, 5, none⟩ = some (.int .u32 (p.gen : Int)) ∧ w'.cell? ⟨r.q, 2, none⟩ = some (.int .i64 (p.g : Int)) ∧ w'.cell? ⟨r.q, 6, none⟩ = some (.slice va N vc) ∧ w'.cell? ⟨r.q, 8, none⟩ = some (.bool false))
    (first | (refine ⟨?_, ?_, ?_, ?_⟩ <;> assumption) | go_keep)
    (first | (go_at_call 75; refine (HE.out _).mono ?_; rintro e w1 ⟨rfl, hb⟩; have B1 : Hid (Below w.heap.size w w1) := Lib.hid (keepd hb (Below.refl _ _).drew); obtain ⟨⟨f0, f1, f2, f3, f4, f5, f6, f8⟩, -, -⟩ := KK.out w1 B1.out; clear hb))
  clear c0 c1 c2 c3 c4 c5 c6 c8 HE
  go_upto_region 2 with fail
  go_quiet (fail)
  have B2 : Hid (Below w.heap.size w (w1.drewN nq)) := Lib.hid (below_drewN B1.out nq)
  generalize w1.drewN nq = W2 at B2 ⊢
  obtain ⟨⟨g0, g1, g2, g3, g4, g5, g6, g8⟩, -, -⟩ := KK.out W2 B2.out
  clear f0 f1 f2 f3 f4 f5 f6 f8 B1 xx e1 e2 b1 b2 b3 b4 b5
  go_wp2_with fail
  clear g0 g1 g2 g3 g4 g5 g6 g8
  go_loopw [7] (fun i wr => ∃ k : Nat, i = .int .i64 (k : Int) ∧ k ≤ P ∧ Hid (Below w.heap.size w wr)) (fun i _ => P - (Lib.intOf i).toNat)
  case atStart => exact ⟨0, rfl, Nat.zero_le _, B2⟩
  case round =>
    obtain ⟨k, rfl, hk, hat⟩ := hrel
    obtain ⟨⟨g0, g1, g2, g3, g4, g5, g6, g8⟩, -, -⟩ := KK.out wr hat.out
    by_cases hlt : k < P
    · have d1 : decide ((k : Int) < (P : Int)) = true := by simp; omega
      have d2 : decide (k < P) = true := by simp; omega
      have hw1 : IntKind.i64.wrap ((k : Int) + 1) = ((k + 1 : Nat) : Int) := by have := HPL.out; rw [IntWalk.i64_in _ (by omega)]; rfl
      have PAK := Lib.hid (PA.out k wr hlt hat.out)
      obtain ⟨A, B, e0, e1, e2, e3, b2, b3, xx⟩ := CUT.out k hlt
      have b1 : (A : Int) ≤ (B : Int) := by omega
      have b4 : (B : Int) ≤ ((Om.B b).size : Int) := by omega
      have b5 : (0 : Int) ≤ (A : Int) := by omega
      have ENK := Lib.hid (fun w1 v => EN.out w1 v k)
      obtain ⟨X, hX⟩ : ∃ X, X = Pm.sector p.gen (Tb.page (Ms.new p).T k) := ⟨_, rfl⟩
      rw [← hX] at xx ENK
      clear hX
      go_wp2_with fail
      refine (PG.out _).mono ?_
      rintro e w3 ⟨rfl, rfl⟩
      go_wp2_with fail
      refine PAK.out.mono ?_
      rintro e w3 ⟨v, rfl, hv, hn, hb⟩
      have B3 : Hid (Below w.heap.size w w3) := Lib.hid (hat.out.trans (hb.mono hat.out.size))
      have EK := Lib.hid (ENK.out w3 v hv)
      obtain ⟨⟨f0, f1, f2, f3, f4, f5, f6, f8⟩, -, -⟩ := KK.out w3 B3.out
      clear hv hn hb g0 g1 g2 g3 g4 g5 g6 g8 PAK ENK
      go_wp2_with fail
      refine EK.out.mono ?_
      rintro e w4 ⟨rfl, hb⟩
      have B4 : Hid (Below w.heap.size w w4) := Lib.hid (B3.out.trans (hb.mono B3.out.size))
      obtain ⟨⟨g0, g1, g2, g3, g4, g5, g6, g8⟩, -, -⟩ := KK.out w4 B4.out
      clear hb f0 f1 f2 f3 f4 f5 f6 f8 EK
      go_wp2_with fail
      go_roundw
      case rel => exact ⟨k + 1, rfl, by omega, B4⟩
      case measure => simp [Lib.intOf]; omega
    · obtain rfl : k = P := by omega
      have d1 : decide ((k : Int) < (k : Int)) = false := by simp
      have d2 : decide (k < k) = false := by simp
      go_wp2_with fail
      refine (PG.out _).mono ?_
      rintro e w3 ⟨rfl, rfl⟩
      have BT := Lib.hid hat.out
      clear PA CUT PG g0 g1 g2 g3 g4 g5 g6 g8 hat
      go_wp2_with fail
      go_loopw [13] (fun i wr => ∃ k : Nat, i = .int .i64 (k : Int) ∧ k ≤ N ∧ Hid (Below w.heap.size w wr)) (fun i _ => N - (Lib.intOf i).toNat)
      case atStart => exact ⟨0, rfl, Nat.zero_le _, BT⟩
      case round =>
        obtain ⟨k, rfl, hk, hat⟩ := hrel
        obtain ⟨⟨g0, g1, g2, g3, g4, g5, g6, g8⟩, hql, -⟩ := KK.out wr hat.out
        by_cases hlt : k < N
        · have d1 : decide ((k : Int) < (N : Int)) = true := by simp; omega
          have d2 : decide (k < N) = true := by simp; omega
          have hw1 : IntKind.i64.wrap ((k : Int) + 1) = ((k + 1 : Nat) : Int) := by have := HN1.out; rw [IntWalk.i64_in _ (by omega)]; rfl
          have CK := Lib.hid (CH.out k hlt)
          have QL := Lib.hid hql
          have b1 : (0 : Int) ≤ (k : Int) := by omega
          have b2 : (k : Int) < (N : Int) := by omega
          clear hql
          go_upto_region 17 with fail
          go_cut [14] from 113 to 125 (fun s14 wx => ∃ x8, s14 = .pointer (some ⟨x8, 0, none⟩) ∧ Hid (ESpot wr wx x8 (.int .i64 (p.data k : Int)) (.int .i64 (p.g : Int))))
          case first =>
            go_region_held3 (fun w' => w'.cell? ⟨r.q, 0, none⟩ = some (.int .i64 (p.a : Int)) ∧ w'.cell? ⟨r.q, 1, none⟩ = some (.int .i64 (p.n : Int)) ∧ w'.cell? ⟨r.q, 2, none⟩ = some (.int .i64 (p.g : Int)) ∧ w'.cell? ⟨r.q, 3, none⟩ = some (.int .i64 (p.st : Int)) ∧ w'.cell? ⟨r.q, 4, none⟩ = some (.int .i64 (p.ln : Int)))
              (first
                | (refine ⟨?_, ?_, ?_, ?_, ?_⟩ <;> assumption)
                | (refine ⟨?_, ?_, ?_, ?_, ?_⟩ <;> (rw [alloc_else (w := w4) (Nat.lt_of_lt_of_le QL.out B4.out.size)]; assumption))
                | (refine ⟨?_, ?_, ?_, ?_, ?_⟩ <;> (rw [drew_cell2, alloc_else (w := wr) QL.out]; assumption))
                | (refine ⟨?_, ?_, ?_, ?_, ?_⟩ <;> (rw [duo_other (g := w4.heap.size) (Nat.lt_of_lt_of_le QL.out B4.out.size), alloc_else (w := w4) (Nat.lt_of_lt_of_le QL.out B4.out.size)]; assumption))
                | (refine ⟨?_, ?_, ?_, ?_, ?_⟩ <;> (rw [duo_other (g := wr.heap.size) QL.out]; assumption)))
              (first
                | (go_at_call 79; refine (CK.out _).mono ?_; rintro e w4 ⟨rfl, hb⟩; have B4 : Hid (Below wr.heap.size wr w4) := Lib.hid (keepd hb (by first | exact (Below.refl _ _).drew | exact ((Below.refl _ _).alloc (Nat.le_refl _) _).drew)); obtain ⟨⟨q0, q1, q2, q3, q4, -, -, -⟩, -, -⟩ := KK.out _ (hat.out.trans (B4.out.mono hat.out.size)); first | (have N4 := Lib.hid (row_drew hb); obtain ⟨mz0, mz1, mzf⟩ := duo_cells N4.out) | skip))
            all_goals
              go_wp2_with fail
              go_meet
              first
              | exact ⟨_, rfl, Lib.hid (espot_n B4.out N4.out (Nat.le_refl _) _ _)⟩
              | exact ⟨_, rfl, Lib.hid (espot_c B4.out _ _)⟩
              | exact ⟨_, rfl, Lib.hid (espot_a B4.out _ _ _ _)⟩
          case rest =>
          obtain ⟨x8, rfl, SP⟩ := hcut
          have B5 : Hid (Below w.heap.size w wc) := Lib.hid (hat.out.trans (SP.out.bel.mono hat.out.size))
          clear g0 g1 g2 g3 g4 g5 g6 g8 hat CK
          obtain ⟨⟨g0, g1, g2, g3, g4, g5, g6, g8⟩, -, -⟩ := KK.out wc B5.out
          obtain ⟨gt, hgt, hct⟩ := TC.out wc k hlt B5.out
          subst hgt
          go_upto_region 18 with fail
          go_quiet (fail)
          have B6 : Hid (Below w.heap.size w (wc.drewN nq)) := Lib.hid (below_drewN B5.out nq)
          generalize wc.drewN nq = W6 at B6 ⊢
          clear g0 g1 g2 g3 g4 g5 g6 g8 hct
          go_wp2_with fail
          go_roundw
          case rel => exact ⟨k + 1, rfl, by omega, B6⟩
          case measure => simp [Lib.intOf]; omega
        · obtain rfl : k = N := by omega
          have d1 : decide ((k : Int) < (k : Int)) = false := by simp
          have d2 : decide (k < k) = false := by simp
          go_wp2_with fail
          go_ret
          exact ⟨rfl, hat.out⟩
end So
end Go.Proofs.YtbmabcddciibfaaGreat
namespace Go.Proofs.YtbmabcddciibfaaGreat
namespace So
open Go.RowKit
set_option linter.unusedVariables false
set_option maxRecDepth 100000
def cr_args (a n g s l : Int) (gen : Nat) : Prop := ∃ x : Int, x ≠ 0 ∧ (∀ (w : World) (q : Addr), Calls Tryz.prog 30 #[.pointer (some q), .agg #[.int .i64 a, .int .i64 n, .int .i64 g], .agg #[.int .i64 s, .int .i64 l], .int .u32 (gen : Int)] w (NoStore x w)) ∧
  ∀ w : World, Calls Tryz.prog 33 #[.agg #[.int .i64 a, .int .i64 n, .int .i64 g], .agg #[.int .i64 s, .int .i64 l], .int .u32 (gen : Int)] w (NoStore x w)
theorem cr_room {a n g s l r x : Int} {gen : Nat} (hg : gen ≠ 0) (hx : x ≠ 0) (h1 : RoomIs a n g s l r x) (h2 : RRoomIs a n g s l r x) : cr_args a n g s l gen :=
  ⟨x, hx, fun w q => cr_err (some q) a n g s l x gen w hx fun w1 _ => sempty_room q a n g s l r x gen w1 hg h1 hx, fun w => rnew_room a n g s l r x gen w hg h2 hx⟩
theorem begin_kinds {a n g s l : Int} {gen : Nat} (h : Um.okU a n g = true) (hs1 : -9223372036854775808 ≤ s) (hs : s ≤ 9223372036854775807) (hg2 : gen < 4294967296) :
    cr_args a n g s l gen ∨ ∃ p : Pa, p.Ok ∧ a = (p.a : Int) ∧ n = (p.n : Int) ∧ g = (p.g : Int) ∧ s = (p.st : Int) ∧ l = (p.ln : Int) ∧ gen = p.gen := by
  by_cases hg : gen = 0
  · subst hg
    exact .inl ⟨1, by decide, fun w q => cr_err (some q) a n g s l 1 0 w (by decide) fun w1 _ => sempty_gen (some q) a n g s l w1, fun w => rnew_gen a n g s l w⟩
  · obtain ⟨k1, k2, k3, k4, k5, k6⟩ := Um.okU_small h
    cases hi : inB s l (17 + n) (a - (17 + n)) with
    | false => exact .inl (cr_room hg (by decide) (fun w1 => lroom_out a n g s l w1 h hs hi) (rroom10_out a n g s l h hs1 hs hi))
    | true =>
      obtain ⟨i1, i2, i3⟩ := (inB_iff _ _ _ _).1 hi
      obtain ⟨A, rfl⟩ : ∃ A : Nat, a = (A : Int) := ⟨a.toNat, by omega⟩
      obtain ⟨N, rfl⟩ : ∃ N : Nat, n = (N : Int) := ⟨n.toNat, by omega⟩
      obtain ⟨G, rfl⟩ : ∃ G : Nat, g = (G : Int) := ⟨g.toNat, by omega⟩
      obtain ⟨S, rfl⟩ : ∃ S : Nat, s = (S : Int) := ⟨s.toNat, by omega⟩
      obtain ⟨L, rfl⟩ : ∃ L : Nat, l = (L : Int) := ⟨l.toNat, by omega⟩
      by_cases hr : Em.room G L = 0
      · refine .inl (cr_room (r := 0) (x := 111) hg (by decide) (fun w1 => ?_) ?_)
        · have := lroom_ok (A : Int) (N : Int) (G : Int) (S : Int) L w1 h hs hi
          rw [Int.toNat_natCast, hr] at this
          exact this
        · have := rroom10_in (A : Int) (N : Int) (S : Int) G L h hi
          rw [hr] at this
          exact this
      · exact .inr ⟨⟨A, N, G, S, L, Em.room G L, gen⟩, ⟨h, rfl, Nat.pos_of_ne_zero hr, by show 17 + N ≤ S; omega, by show S + L ≤ A; omega, by show 1 ≤ gen; omega, hg2⟩, rfl, rfl, rfl, rfl, rfl, rfl⟩
def BegNo (w : World) (e : Ending) (w' : World) : Prop := e = .returned (.tuple #[.pointer none, .bool false, .bool true]) ∧ Below w.heap.size w w'
def BegYes (p : Pa) (w : World) (e : Ending) (w' : World) : Prop := ∃ y st, e = .returned (.tuple #[.pointer (some ⟨y.X, 0, none⟩), .bool true, .bool true]) ∧ Both w' y p (Ms.new p).inv st (Ms.new p).tab (Ms.new p) ∧ Live p st (Ms.new p) ∧ st.P = [] ∧ (∀ k, y.fp k → w.heap.size ≤ k) ∧ Below w.heap.size w w'
theorem case_box (w : World) (a n g s l : Int) (gen : Nat) (lv : Value) (W0 : World) (h : w.alloc (.cells #[.int .i64 a, .int .i64 n, .int .i64 g, .int .i64 s, .int .i64 l, .int .u32 (gen : Int), lv] 29) = W0) :
    Below w.heap.size w W0 ∧ W0.heap.size = w.heap.size + 1 ∧ ∀ W, Below W0.heap.size W0 W → W.cell? ⟨w.heap.size, 0, none⟩ = some (.int .i64 a) ∧ W.cell? ⟨w.heap.size, 1, none⟩ = some (.int .i64 n) ∧ W.cell? ⟨w.heap.size, 2, none⟩ = some (.int .i64 g) ∧ W.cell? ⟨w.heap.size, 3, none⟩ = some (.int .i64 s) ∧ W.cell? ⟨w.heap.size, 4, none⟩ = some (.int .i64 l) ∧ W.cell? ⟨w.heap.size, 5, none⟩ = some (.int .u32 (gen : Int)) := by
  subst h
  have hr := heap_alloc_new w (.cells #[.int .i64 a, .int .i64 n, .int .i64 g, .int .i64 s, .int .i64 l, .int .u32 (gen : Int), lv] 29)
  refine ⟨(Below.refl _ _).alloc (Nat.le_refl _) _, by simp, fun W hW => ?_⟩
  have hr2 := (hW.block w.heap.size (by simp)).trans hr
  exact ⟨by rw [cell_of_row _ _ _ _ _ _ hr2]; rfl, by rw [cell_of_row _ _ _ _ _ _ hr2]; rfl, by rw [cell_of_row _ _ _ _ _ _ hr2]; rfl, by rw [cell_of_row _ _ _ _ _ _ hr2]; rfl, by rw [cell_of_row _ _ _ _ _ _ hr2]; rfl, by rw [cell_of_row _ _ _ _ _ _ hr2]; rfl⟩
theorem lay_box (w : World) (a n g : Int) (W0 : World) (h : w.alloc (.cells #[.int .i64 a, .int .i64 n, .int .i64 g] 44) = W0) :
    Below w.heap.size w W0 ∧ ∀ W, Below W0.heap.size W0 W → W.cell? ⟨w.heap.size, 0, none⟩ = some (.int .i64 a) ∧ W.cell? ⟨w.heap.size, 1, none⟩ = some (.int .i64 n) ∧ W.cell? ⟨w.heap.size, 2, none⟩ = some (.int .i64 g) := by
  subst h
  have hr := heap_alloc_new w (.cells #[.int .i64 a, .int .i64 n, .int .i64 g] 44)
  refine ⟨(Below.refl _ _).alloc (Nat.le_refl _) _, fun W hW => ?_⟩
  have hr2 := (hW.block w.heap.size (by simp)).trans hr
  exact ⟨by rw [cell_of_row _ _ _ _ _ _ hr2]; rfl, by rw [cell_of_row _ _ _ _ _ _ hr2]; rfl, by rw [cell_of_row _ _ _ _ _ _ hr2]; rfl⟩
theorem sbegun_bad (a n g s l : Int) (gen : Nat) (lv : Value) (w : World) (h : Um.okU a n g = false) : Calls Tryz.prog 7 #[.agg #[.int .i64 a, .int .i64 n, .int .i64 g, .int .i64 s, .int .i64 l, .int .u32 (gen : Int), lv]] w (BegNo w) := by
  obtain ⟨W0, hW0⟩ : ∃ W0, w.alloc (.cells #[.int .i64 a, .int .i64 n, .int .i64 g, .int .i64 s, .int .i64 l, .int .u32 (gen : Int), lv] 29) = W0 := ⟨_, rfl⟩
  obtain ⟨hB, hsz, hc⟩ := case_box w _ _ _ _ _ _ _ W0 hW0
  obtain ⟨c0, c1, c2, -, -, -⟩ := hc W0 (Below.refl _ _)
  have HB := Lib.hid hB
  have RS := Lib.hid (fun w1 => ruright_any a n g w1)
  rw [h] at RS
  unfold Uv at RS
  unfold BegNo
  clear h hB hsz hc
  go_enter Tryz.func7, Tryz.ntmps7
  go_wp2_with fail
  clear hW0
  refine (RS.out _).mono ?_
  rintro e w1 ⟨rfl, hb⟩
  have FB := Lib.hid (HB.out.trans (hb.mono HB.out.size))
  clear hb
  go_wp2_with fail
  go_ret3
  exact ⟨rfl, FB.out⟩
set_option maxHeartbeats 2000000 in
theorem sbegun_no (a n g s l : Int) (gen : Nat) (lv : Value) (w : World) (h : Um.okU a n g = true) (hk : cr_args a n g s l gen) : Calls Tryz.prog 7 #[.agg #[.int .i64 a, .int .i64 n, .int .i64 g, .int .i64 s, .int .i64 l, .int .u32 (gen : Int), lv]] w (BegNo w) := by
  obtain ⟨W0, hW0⟩ : ∃ W0, w.alloc (.cells #[.int .i64 a, .int .i64 n, .int .i64 g, .int .i64 s, .int .i64 l, .int .u32 (gen : Int), lv] 29) = W0 := ⟨_, rfl⟩
  obtain ⟨hB, hsz, hc⟩ := case_box w _ _ _ _ _ _ _ W0 hW0
  obtain ⟨x, hx0, hcr, hnew⟩ := hk
  have KEEP := Lib.hid hc
  have HB := Lib.hid hB
  have RS := Lib.hid (fun w1 => ruright_any a n g w1)
  rw [h] at RS
  unfold Uv at RS
  have OF := Lib.hid (fun w1 => of_ok a n g w1 h)
  obtain ⟨k1, k2, k3, k4, k5, k6⟩ := Um.okU_small h
  have NW : Hid (∀ w1, Calls Tryz.prog 19 #[.int .i64 a] w1 fun e w' => ∃ q : Addr, e = .returned (.pointer (some q)) ∧ Below w1.heap.size w1 w') := Lib.hid fun w1 => by
    obtain ⟨A, rfl⟩ : ∃ A : Nat, a = (A : Int) := ⟨a.toNat, by omega⟩
    refine (Dsk.new_any A w1 (by omega)).mono ?_
    rintro e w' ⟨o, he, -, -, hb⟩
    exact ⟨_, he, hb⟩
  have CR := Lib.hid hcr
  have NE := Lib.hid hnew
  unfold NoStore at CR NE
  have x1 : (x != 0) = true := by simpa using hx0
  have x2 : (x == 0) = false := by simpa using hx0
  obtain ⟨c0, c1, c2, c3, c4, c5⟩ := hc W0 (Below.refl _ _)
  unfold BegNo
  clear h hB hsz hc hcr hnew k1 k2 k3 k4 k5 k6 hx0
  go_enter Tryz.func7, Tryz.ntmps7
  go_wp2_with fail
  clear hW0
  refine (RS.out _).mono ?_
  rintro e w1 ⟨rfl, hb⟩
  have B1 : Hid (Below W0.heap.size W0 w1) := hb
  obtain ⟨c0, c1, c2, c3, c4, c5⟩ := KEEP.out w1 B1.out
  clear hb
  go_wp2_with fail
  refine (NW.out _).mono ?_
  rintro e w2 ⟨q, rfl, hb⟩
  have B2 : Hid (Below W0.heap.size W0 w2) := Lib.hid (keepd hb B1.out)
  obtain ⟨c0, c1, c2, c3, c4, c5⟩ := KEEP.out w2 B2.out
  clear hb
  go_wp2_with fail
  refine (OF.out _).mono ?_
  rintro e w3 ⟨rfl, hb⟩
  have B3 : Hid (Below W0.heap.size W0 w3) := Lib.hid (keepd hb B2.out)
  obtain ⟨c0, c1, c2, c3, c4, c5⟩ := KEEP.out w3 B3.out
  clear hb
  go_upto_region 6 with fail
  obtain ⟨W4, hW4⟩ : ∃ W4, w3.alloc (.cells #[.int .i64 a, .int .i64 n, .int .i64 g] 44) = W4 := ⟨_, rfl⟩
  obtain ⟨hb4, hl4⟩ := lay_box w3 a n g W4 hW4
  obtain ⟨G, hG⟩ : ∃ G, G = w3.heap.size := ⟨_, rfl⟩
  rw [hW4, ← hG]
  rw [← hG] at hl4
  have B4 : Hid (Below W0.heap.size W0 W4) := Lib.hid (keepd hb4 B3.out)
  obtain ⟨l0, l1, l2⟩ := hl4 W4 (Below.refl _ _)
  obtain ⟨c0, c1, c2, c3, c4, c5⟩ := KEEP.out W4 B4.out
  clear hb4 hl4 hW4 hG
  go_wp2_with fail
  refine (CR.out _ _).mono ?_
  rintro e w5 ⟨rfl, hb⟩
  have B5 : Hid (Below W0.heap.size W0 w5) := Lib.hid (keepd hb B4.out)
  obtain ⟨c0, c1, c2, c3, c4, c5⟩ := KEEP.out w5 B5.out
  clear hb l0 l1 l2
  go_wp2_with fail
  refine (NE.out _).mono ?_
  rintro e w6 ⟨rfl, hb⟩
  have FB : Hid (Below w.heap.size w w6) := Lib.hid (HB.out.trans ((keepd hb B5.out).mono HB.out.size))
  clear hb c0 c1 c2 c3 c4 c5
  go_wp2_with fail
  go_ret3
  exact ⟨rfl, FB.out⟩
theorem begun_fin {w W8 W9 : World} {p : Pa} {b : Bk} {r : Rb} {st : Dm.St} {X : Nat} {e : Ending} (hsk : Sk W8 b p false st (List.replicate p.N (-1))) (hrs : Rs W8 r p (Ms.new p)) (hap : ∀ k, b.fp k → ¬ r.fp k) (hb : ∀ k, b.fp k → w.heap.size ≤ k) (hr : ∀ k, r.fp k → w.heap.size ≤ k) (hB : Below w.heap.size w W8)
    (h9 : Below W8.heap.size W8 W9) (hX : W8.heap.size ≤ X) (hrow : W9.heap[X]? = some (.cells #[.pointer (some ⟨b.d.p, 0, none⟩), .int .i64 (p.a : Int), .int .i64 (p.n : Int), .int .i64 (p.g : Int), .pointer (some ⟨b.q, 0, none⟩), .pointer (some ⟨r.q, 0, none⟩)] 48 (0, 0)))
    (hlive : Live p st (Ms.new p)) (hP : st.P = []) (he : e = .returned (.tuple #[.pointer (some ⟨X, 0, none⟩), .bool true, .bool true])) : BegYes p w e W9 := by
  have ht : (Ms.new p).tab = List.replicate p.N (-1) := rfl
  refine ⟨⟨X, b, r⟩, st, he, ⟨hrow, by rw [ht]; exact hsk.below h9, hrs.below h9, hap, fun hf => ?_, fun hf => ?_⟩, hlive, hP, fun k hk => ?_, hB.trans (h9.mono hB.size)⟩
  · have : X < W8.heap.size := hsk.lt X hf
    omega
  · have : X < W8.heap.size := hrs.lt X hf
    omega
  · rcases hk with hk | hk | hk
    · rw [hk]
      exact Nat.le_trans hB.size hX
    · exact hb k hk
    · exact hr k hk
set_option maxHeartbeats 4000000 in
theorem sbegun_yes (p : Pa) (hp : p.Ok) (lv : Value) (w : World) : Calls Tryz.prog 7 #[caseV p lv] w (BegYes p w) := by
  unfold caseV
  obtain ⟨W0, hW0⟩ : ∃ W0, w.alloc (.cells #[.int .i64 (p.a : Int), .int .i64 (p.n : Int), .int .i64 (p.g : Int), .int .i64 (p.st : Int), .int .i64 (p.ln : Int), .int .u32 (p.gen : Int), lv] 29) = W0 := ⟨_, rfl⟩
  obtain ⟨hB, hsz, hc⟩ := case_box w _ _ _ _ _ _ _ W0 hW0
  have KEEP := Lib.hid hc
  have HB := Lib.hid hB
  have RS := Lib.hid (fun w1 => ruright_any (p.a : Int) (p.n : Int) (p.g : Int) w1)
  rw [hp.sup] at RS
  unfold Uv at RS
  have OF := Lib.hid (fun w1 => of_ok (p.a : Int) (p.n : Int) (p.g : Int) w1 hp.sup)
  have NW := Lib.hid (fun w1 => Dsk.new_any p.a w1 hp.nums.a1)
  have CR := Lib.hid (fun w1 o (hd : Dsk.Dk w1 o (Dm.fresh p.a)) => create_ok hp hd)
  have NE := Lib.hid (fun w1 => rnew_ok hp w1)
  obtain ⟨c0, c1, c2, c3, c4, c5⟩ := hc W0 (Below.refl _ _)
  obtain ⟨hrun, hlive, hPn⟩ := live_cre hp
  obtain ⟨st, hst⟩ : ∃ st, st = (runs (Dm.fresh p.a) (creOps p)).1 := ⟨_, rfl⟩
  rw [← hst] at hlive hPn CR
  have HL := Lib.hid hlive
  have HP := Lib.hid hPn
  have BY : Hid (∀ W b, Dsk.Dk W b st → Calls Tryz.prog 17 #[.pointer (some ⟨b.p, 0, none⟩)] W fun e w' => e = .returned (.string (Om.B st.S.flatten)) ∧ Below W.heap.size W w') := Lib.hid fun W b hd => (Dsk.bytes_any hd).mono fun e w' ⟨h1, h2⟩ => ⟨h1, by rw [← h2]; exact Below.refl _ _⟩
  have SD : Hid (∀ W r, Rs W r p (Ms.new p) → Calls Tryz.prog 34 #[.pointer (some ⟨r.q, 0, none⟩), .string (Om.B st.S.flatten)] W fun e w' => e = .returned (.bool true) ∧ Below W.heap.size W w') := Lib.hid fun W r hr => by
    refine rstands_new hr hp hlive.stand (by rw [Dm.flat_length hlive.ok.sectors, hlive.len]) fun k hk => ?_
    rw [Dm.flat_get hlive.ok.sectors k (by rw [hlive.len]; exact hk)]
    unfold Dm.one
    rw [hPn]
    rfl
  clear hB hsz hc hrun hlive hPn hst hp
  go_enter Tryz.func7, Tryz.ntmps7
  go_wp2_with fail
  clear hW0
  refine (RS.out _).mono ?_
  rintro e w1 ⟨rfl, hb⟩
  have B1 : Hid (Below W0.heap.size W0 w1) := hb
  clear c0 c1 c2 c3 c4 c5 RS
  obtain ⟨c0, c1, c2, c3, c4, c5⟩ := KEEP.out w1 B1.out
  clear hb
  go_wp2_with fail
  refine (NW.out _).mono ?_
  rintro e w2 ⟨o, rfl, hd, ho, hb⟩
  have B2 : Hid (Below W0.heap.size W0 w2) := Lib.hid (keepd hb B1.out)
  have D2 : Hid (Dsk.Dk w2 o (Dm.fresh p.a) ∧ ∀ k, o.fp k → W0.heap.size ≤ k) := Lib.hid ⟨hd, fun k hk => Nat.le_trans B1.out.size (ho k hk)⟩
  clear c0 c1 c2 c3 c4 c5 NW hd ho
  obtain ⟨c0, c1, c2, c3, c4, c5⟩ := KEEP.out w2 B2.out
  clear hb
  go_wp2_with fail
  refine (OF.out _).mono ?_
  rintro e w3 ⟨rfl, hb⟩
  have B3 : Hid (Below W0.heap.size W0 w3) := Lib.hid (keepd hb B2.out)
  have D3 : Hid (Dsk.Dk w3 o (Dm.fresh p.a)) := Lib.hid (D2.out.1.below hb)
  clear c0 c1 c2 c3 c4 c5 OF
  obtain ⟨c0, c1, c2, c3, c4, c5⟩ := KEEP.out w3 B3.out
  clear hb
  go_upto_region 6 with fail
  obtain ⟨W4, hW4⟩ : ∃ W4, w3.alloc (.cells #[.int .i64 (p.a : Int), .int .i64 (p.n : Int), .int .i64 (p.g : Int)] 44) = W4 := ⟨_, rfl⟩
  obtain ⟨hb4, hl4⟩ := lay_box w3 _ _ _ W4 hW4
  obtain ⟨G, hG⟩ : ∃ G, G = w3.heap.size := ⟨_, rfl⟩
  rw [hW4, ← hG]
  rw [← hG] at hl4
  have B4 : Hid (Below W0.heap.size W0 W4) := Lib.hid (keepd hb4 B3.out)
  have D4 := Lib.hid (D3.out.below hb4)
  have hsz4 : W4.heap.size = G + 1 := by rw [← hW4, hG]; simp
  have hGo : Hid (¬ o.fp G) := Lib.hid fun hf => by have := D3.out.lt _ hf; omega
  have GW : Hid (W0.heap.size ≤ G ∧ G < W4.heap.size) := Lib.hid ⟨by rw [hG]; exact B3.out.size, by omega⟩
  have LAY := Lib.hid hl4
  obtain ⟨l0, l1, l2⟩ := hl4 W4 (Below.refl _ _)
  clear c0 c1 c2 c3 c4 c5
  obtain ⟨c0, c1, c2, c3, c4, c5⟩ := KEEP.out W4 B4.out
  clear hb4 hl4 hW4 hG hsz4
  go_wp2_with fail
  refine (CR.out _ o D4.out).mono ?_
  rintro e w5 ⟨b, rfl, hsk, hdp, hfp, hdf, hq, hf⟩
  rw [← hdp]
  have B5 : Hid (Below W0.heap.size W0 w5) := Lib.hid (B4.out.trans (hf.below B4.out.size fun k hk => D2.out.2 k hk))
  have L5 : Hid (∀ W, Below w5.heap.size w5 W → W.cell? ⟨G, 0, none⟩ = some (.int .i64 (p.a : Int)) ∧ W.cell? ⟨G, 1, none⟩ = some (.int .i64 (p.n : Int)) ∧ W.cell? ⟨G, 2, none⟩ = some (.int .i64 (p.g : Int))) := Lib.hid fun W hW => by
    have hG5 : G < w5.heap.size := Nat.lt_of_lt_of_le GW.out.2 hf.size
    have k : ∀ j, W.cell? ⟨G, j, none⟩ = W4.cell? ⟨G, j, none⟩ := fun j => (hW.cell (p := ⟨G, j, none⟩) hG5).trans (fr_cell hf GW.out.2 hGo.out)
    exact ⟨(k 0).trans l0, (k 1).trans l1, (k 2).trans l2⟩
  have SK5 : Hid (Sk w5 b p false st (List.replicate p.N (-1)) ∧ ∀ k, b.fp k → w.heap.size ≤ k) := Lib.hid ⟨hsk, fun k hk => (hfp k hk).elim (fun h => Nat.le_trans HB.out.size (D2.out.2 k h)) fun h => by have := B4.out.size; have := HB.out.size; omega⟩
  have G5 : Hid (G < w5.heap.size) := Lib.hid (Nat.lt_of_lt_of_le GW.out.2 hf.size)
  clear c0 c1 c2 c3 c4 c5 l0 l1 l2 hsk hdp hfp hdf hq hf CR D2 D3 D4 LAY
  obtain ⟨c0, c1, c2, c3, c4, c5⟩ := KEEP.out w5 B5.out
  go_wp2_with fail
  refine (NE.out _).mono ?_
  rintro e w6 ⟨r, rfl, hrs, hrf, hb⟩
  have FINB : Hid (∀ W9 X, Below w6.heap.size w6 W9 → w6.heap.size ≤ X → W9.heap[X]? = some (.cells #[.pointer (some ⟨b.d.p, 0, none⟩), .int .i64 (p.a : Int), .int .i64 (p.n : Int), .int .i64 (p.g : Int), .pointer (some ⟨b.q, 0, none⟩), .pointer (some ⟨r.q, 0, none⟩)] 48 (0, 0)) → BegYes p w (.returned (.tuple #[.pointer (some ⟨X, 0, none⟩), .bool true, .bool true])) W9) := Lib.hid fun W9 X h9 hX hrow => by
    have h5 : w.heap.size ≤ w5.heap.size := Nat.le_trans HB.out.size B5.out.size
    exact begun_fin (SK5.out.1.below hb) hrs (fun k hk hr => by have := SK5.out.1.lt k hk; have := hrf k hr; omega) SK5.out.2 (fun k hk => Nat.le_trans h5 (hrf k hk)) (HB.out.trans ((keepd hb B5.out).mono HB.out.size)) h9 hX hrow HL.out HP.out rfl
  have KB : Hid (∀ W, Below w6.heap.size w6 W → Dsk.Dk W b.d st ∧ Rs W r p (Ms.new p)) := Lib.hid fun W hW => ⟨((SK5.out.1.below hb).below hW).dk, hrs.below hW⟩
  have LW : Hid (∀ W, Below w6.heap.size w6 W → W.cell? ⟨G, 0, none⟩ = some (.int .i64 (p.a : Int)) ∧ W.cell? ⟨G, 1, none⟩ = some (.int .i64 (p.n : Int)) ∧ W.cell? ⟨G, 2, none⟩ = some (.int .i64 (p.g : Int))) := Lib.hid fun W hW => L5.out W (hb.trans (hW.mono hb.size))
  have QL : Hid (G < w6.heap.size) := Lib.hid (Nat.lt_of_lt_of_le G5.out hb.size)
  obtain ⟨m0, m1, m2⟩ := LW.out w6 (Below.refl _ _)
  clear c0 c1 c2 c3 c4 c5 hrs hrf hb NE SK5 L5 G5 KEEP
  go_upto_region 12 with fail
  go_region_held3 (fun w' => w'.cell? ⟨G, 0, none⟩ = some (.int .i64 (p.a : Int)) ∧ w'.cell? ⟨G, 1, none⟩ = some (.int .i64 (p.n : Int)) ∧ w'.cell? ⟨G, 2, none⟩ = some (.int .i64 (p.g : Int)))
    (first
      | (refine ⟨?_, ?_, ?_⟩ <;> assumption)
      | (refine ⟨?_, ?_, ?_⟩ <;> (rw [alloc_else (w := w8) (Nat.lt_of_lt_of_le QL.out B8.out.size)]; assumption))
      | (refine ⟨?_, ?_, ?_⟩ <;> (rw [alloc_else (w := w7) (Nat.lt_of_lt_of_le QL.out B7.out.size)]; assumption))
      | (refine ⟨?_, ?_, ?_⟩ <;> (rw [drew_cell2, alloc_else (w := w6) QL.out]; assumption)))
    (first
      | (go_at_call 34; refine (SD.out _ _ (KB.out _ (by first | exact B7.out | exact B7.out.alloc B7.out.size _)).2).mono ?_; rintro e w8 ⟨rfl, hb⟩; have B8 : Hid (Below w6.heap.size w6 w8) := Lib.hid (keepd hb (by first | exact B7.out | exact B7.out.alloc B7.out.size _)); obtain ⟨u0, u1, u2⟩ := LW.out _ B8.out; first | (have N8 := Lib.hid (row_new hb)) | (have N8 := Lib.hid (row_next hb N7.out)) | skip)
      | (go_at_call 17; refine (BY.out _ _ (KB.out _ (by first | exact (Below.refl _ _).drew | exact ((Below.refl _ _).alloc (Nat.le_refl _) _).drew)).1).mono ?_; rintro e w7 ⟨rfl, hb⟩; have B7 : Hid (Below w6.heap.size w6 w7) := Lib.hid (keepd hb (by first | exact (Below.refl _ _).drew | exact ((Below.refl _ _).alloc (Nat.le_refl _) _).drew)); obtain ⟨t0, t1, t2⟩ := LW.out _ B7.out; first | (have N7 := Lib.hid (row_drew hb)) | skip))
  all_goals
    go_wp2_with fail
    go_ret3
    first
    | exact FINB.out _ _ B8.out (Nat.le_refl _) N8.out
    | exact FINB.out _ _ B8.out B7.out.size N8.out
    | exact FINB.out _ _ (B8.out.alloc B8.out.size _) B8.out.size (heap_alloc_new _ _)
end So
end Go.Proofs.YtbmabcddciibfaaGreat
namespace Go.Proofs.YtbmabcddciibfaaGreat
namespace So
open Go.RowKit
set_option linter.unusedVariables false
set_option maxRecDepth 100000
theorem Both.disk {w w' : World} {y : Bo} {p : Pa} {inv : Bool} {st st' : Dm.St} {m : List Int} {M : Ms} (h : Both w y p inv st m M) {o' : Dsk.Ob} (hd : Dsk.Dk w' o' st') (hs : Dsk.Step y.b.d o' w w') :
    ∃ y', Both w' y' p inv st' m M ∧ Bp y y' w w' ∧ y'.r = y.r ∧ y'.b.q = y.b.q := h.store ⟨_, h.sk.disk hd hs⟩
end So
end Go.Proofs.YtbmabcddciibfaaGreat
