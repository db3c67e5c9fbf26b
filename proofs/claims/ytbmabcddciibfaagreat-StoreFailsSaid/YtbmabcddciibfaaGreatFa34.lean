/- Part 34 of the contracts and of the plain mathematics that the proof of the law rests on: StoFn. -/
import Derived.Test.YtbmabcddciibfaaGreatFa24
import Derived.Test.YtbmabcddciibfaaGreatFa32
import Derived.Test.YtbmabcddciibfaaGreatFa33
import Derived.Deep.QuietTactic
import Derived.BigQuiet
namespace Go.Proofs.YtbmabcddciibfaaGreat
namespace So
open Go.RowKit
set_option linter.unusedVariables false
set_option maxRecDepth 100000
theorem all_at {T : List Int} (hok : Tb.Ok T) {i : Nat} (hi : i < (Tb.all T).length) : ∃ (k : Nat) (o : Int), (Tb.all T)[i].1 = o ∧ T[k]? = some o ∧ 0 ≤ o ∧ Tb.find T o = some k ∧ (Lit.int .i64 o).wf = true := by
  have hmem := List.getElem_mem hi
  obtain ⟨x, hx, e⟩ := List.mem_map.1 (show (Tb.all T)[i] ∈ (Tb.keys T).map (Tb.entry T) from hmem)
  obtain ⟨hm, h0⟩ := Tb.keys_mem.1 hx
  obtain ⟨k, hk⟩ := List.getElem?_of_mem hm
  refine ⟨k, x, by rw [← e]; rfl, hk, h0, hok.find h0 hk, ?_⟩
  have := hok.vals x hm
  simp [Lit.wf, IntKind.min, IntKind.max, IntKind.signed, IntKind.bits]
  omega
structure Fnd (g : Nat) (X Y Z : List UInt8) (E1 E2 : Int) : Prop where
  x : X.length = 64 * g
  y : E1 = 0 → Y.length = 64 * g
  z : E2 = 0 → Z.length = 64 * g
  any : ∀ j, j < g → (E1 = 0 ∧ piece X j = piece Y j) ∨ (E2 = 0 ∧ piece X j = piece Z j)
theorem readV_len {p : Pa} {M : Ms} (hf : Fit p M) {o : Int} (h : readE p M o 0 p.g = 0) : (readV p M o 0 p.g).length = 64 * p.g := by
  obtain ⟨h1, h2⟩ := readE_zero h
  obtain ⟨hi, hfd, ho, hT⟩ := findE_zero h1
  have hs := hf.size _ _ hT ho
  unfold readV
  rw [if_pos h, Int.toNat_natCast]
  show ((List.drop (64 * 0) (M.D.getD (findP M o) [])).take (64 * p.g)).length = _
  rw [Nat.mul_zero, List.drop_zero, List.length_take]
  omega
theorem fnd_of {p : Pa} (hp : p.Ok) {st : Dm.St} (hok : Dm.Ok st) (hlen : st.S.length = p.a) (hdead : st.dead = false) {M M' : Ms} {T : List Int} (hm : Mix p (Dm.one st) M M' T) (hf : Fit p M) (hf' : Fit p M') {k : Nat} {o : Int} (ht : T[k]? = some o) (h0 : 0 ≤ o) :
    Fnd p.g (Dm.readS st ((p.data k : Int) + 0) p.g) (readV p M o 0 p.g) (readV p M' o 0 p.g) (readE p M o 0 p.g) (readE p M' o 0 p.g) := by
  have hk : k < p.N := by rw [← hm.len]; exact (List.getElem?_eq_some_iff.1 ht).1
  have hde := Pa.data_end hp hk
  have hhi := hp.high
  have e : Dm.readS st ((p.data k : Int) + 0) p.g = Dm.span st (p.data k) p.g := by
    unfold Dm.readS
    rw [hdead, if_neg (by decide), if_pos (by rw [Dm.there_iff, hlen]; omega), Int.add_zero, Int.toNat_natCast, Int.toNat_natCast]
  rw [e]
  refine ⟨Dm.span_length hok _ _ (by omega), readV_len hf, readV_len hf', fun j hj => ?_⟩
  rw [span_piece hok _ _ _ (by omega) hj]
  rcases found_first hp hm hf hf' ht h0 j hj with ⟨a, b⟩ | ⟨a, b⟩
  · exact .inl ⟨a, b.symm⟩
  · exact .inr ⟨a, b.symm⟩
theorem piece_cut {X : List UInt8} {j A B : Nat} (hA : A = 64 * j) (hB : B = 64 * j + 64) : (Om.B X).extract A B = Om.B (piece X j) := by
  rw [Dsk.extract_mid, hA, hB, Nat.add_sub_cancel_left]
  rfl
set_option maxHeartbeats 8000000 in
theorem sfound_any {w : World} {b : Bk} {p : Pa} {st : Dm.St} {T : List Int} {r1 r2 : Rb} {M : Ms} (x : Ac) (h : Sk w b p false st T) (h1 : Rs w r1 p M) (h2 : Rs w r2 p (actM p M x)) (hp : p.Ok) (hm : Mix p (Dm.one st) M (actM p M x) T) (hf : Fit p M)
    (hdead : st.dead = false) (hlen : st.S.length = p.a) (hP : st.P.length ≤ 68719476736) (hk2 : x.k < 256) (c1 c2 c3 c4 c5 c6 c7 : Value) :
    Calls Tryz.prog 15 #[.pointer (some ⟨b.q, 0, none⟩), .pointer (some ⟨r1.q, 0, none⟩), .pointer (some ⟨r2.q, 0, none⟩), .agg #[.int .u8 (x.k : Int), c1, c2, c3, c4, c5, c6, c7]] w fun e w' => e = .returned (.bool true) ∧ Below w.heap.size w w' := by
  have hf' := fit_actM hf x
  have hg1 := hp.nums.g1
  have hg2 := hp.nums.g2
  have hTlen : false = false → T.length = p.N := fun _ => hm.len
  obtain ⟨W0, hW0⟩ : ∃ W0, w.alloc (.cells #[.int .u8 (x.k : Int), c1, c2, c3, c4, c5, c6, c7] 34) = W0 := ⟨_, rfl⟩
  have hr := heap_alloc_new w (.cells #[.int .u8 (x.k : Int), c1, c2, c3, c4, c5, c6, c7] 34)
  rw [hW0] at hr
  have hB : Below w.heap.size w W0 := by rw [← hW0]; exact (Below.refl _ _).alloc (Nat.le_refl _) _
  have AL : Hid (∀ W, Below W0.heap.size W0 W → Calls Tryz.prog 27 #[.pointer (some ⟨b.q, 0, none⟩)] W (Tb.MadeE (Tb.all T) W)) := Lib.hid fun W hW => sall_any (h.below (hB.trans (hW.mono hB.size)))
  have G2 : Hid (∀ W, Below W0.heap.size W0 W → W.cell? ⟨r1.q, 2, none⟩ = some (.int .i64 (p.g : Int)) ∧ W.cell? ⟨r1.q, 6, none⟩ = some r1.tv ∧ W.cell? ⟨r2.q, 6, none⟩ = some r2.tv ∧ W.cell? ⟨w.heap.size, 0, none⟩ = some (.int .u8 (x.k : Int))) := Lib.hid fun W hW => by
    have hb := hB.trans (hW.mono hB.size)
    obtain ⟨-, -, d2, -, -, -, d6, -, -, -⟩ := (h1.below hb).reads
    obtain ⟨-, -, -, -, -, -, e6, -, -, -⟩ := (h2.below hb).reads
    have hr2 := (hW.block w.heap.size (Dsk.lt_of_heap hr)).trans hr
    exact ⟨d2, d6, e6, by rw [cell_of_row _ _ _ _ _ _ hr2]; rfl⟩
  have RD : Hid (∀ i, i < (Tb.all T).length → ∃ (o : Int) (X Y Z : List UInt8) (E1 E2 : Int), (Tb.all T)[i]?.map (·.1) = some o ∧ Fnd p.g X Y Z E1 E2 ∧
      (∀ W, Below W0.heap.size W0 W → Calls Tryz.prog 20 #[.pointer (some ⟨b.q, 0, none⟩), .int .i64 o, .int .i64 0, .int .i64 (p.g : Int)] W fun e w' => e = .returned (.tuple #[.string (Om.B X), .int .i64 0]) ∧ Below W.heap.size W w') ∧
      (∀ W, Below W0.heap.size W0 W → Calls Tryz.prog 39 #[.pointer (some ⟨r1.q, 0, none⟩), .int .i64 o, .int .i64 0, .int .i64 (p.g : Int)] W fun e w' => e = .returned (.tuple #[.string (Om.B Y), .int .i64 E1]) ∧ W = w') ∧
      (∀ W, Below W0.heap.size W0 W → Calls Tryz.prog 39 #[.pointer (some ⟨r2.q, 0, none⟩), .int .i64 o, .int .i64 0, .int .i64 (p.g : Int)] W fun e w' => e = .returned (.tuple #[.string (Om.B Z), .int .i64 E2]) ∧ W = w')) := Lib.hid fun i hi => by
    obtain ⟨k, o, he, ht, h0, hfd, hwf⟩ := all_at hm.ok hi
    refine ⟨o, _, _, _, _, _, by rw [List.getElem?_eq_getElem hi]; exact congrArg some he, fnd_of hp h.dk.ok hlen hdead hm hf hf' ht h0, fun W hW => ?_, fun W hW => ?_, fun W hW => ?_⟩
    · refine (read_pub (h.below (hB.trans (hW.mono hB.size))) hp hTlen o 0 (p.g : Int) hwf (by decide) hdead hlen (by omega)).mono ?_
      rintro e w' ⟨hb, hc⟩
      have h3 : rE false T p o 0 p.g = 0 := by
        unfold rE
        have h1 : fE false T o = 0 := by unfold fE; rw [if_neg (by decide), hfd]; rfl
        rw [if_pos h1, if_pos (inCh_iff.2 ⟨by omega, by omega, by omega⟩)]
      rcases hc with ⟨hne, _⟩ | ⟨_, i2, hi2, he2⟩
      · exact absurd h3 hne
      · rw [hfd] at hi2
        injection hi2 with hi2
        subst hi2
        exact ⟨he2, hb⟩
    · exact rread_pub (h1.below (hB.trans (hW.mono hB.size))) hp hf o 0 p.g (by omega) (by omega)
    · exact rread_pub (h2.below (hB.trans (hW.mono hB.size))) hp hf' o 0 p.g (by omega) (by omega)
  have N1 : Hid ((Tb.all T).length ≤ 1048576) := Lib.hid (by
    rw [Tb.all_length]
    exact Nat.le_trans (List.length_filter_le _ _) hm.ok.few)
  have HB := Lib.hid hB
  obtain ⟨t1a, t1c, ht1⟩ := Dsk.own_slice h1.row
  obtain ⟨t2a, t2c, ht2⟩ := Dsk.own_slice h2.row
  rw [ht1, ht2] at G2
  have SEC : Hid (∀ i, i < (Tb.all M.T).length → ∃ o, (Tb.all M.T)[i]?.map (·.1) = some o ∧ (Lit.int .i64 o).wf = true ∧ (Tb.find T o = none → (x.k : Int) % 6 = 2 ∧ Tb.findI (actM p M x).T o = -1)) := Lib.hid fun i hi => by
    obtain ⟨k, o, he, ht, h0, hfd, hwf⟩ := all_at hf.tok hi
    refine ⟨o, by rw [List.getElem?_eq_getElem hi]; exact congrArg some he, hwf, fun hn => ?_⟩
    obtain ⟨a, b⟩ := found_second hm hf (List.mem_of_getElem? ht) h0 hn
    exact ⟨by omega, Tb.findI_none b⟩
  have HAS : Hid (∀ W o, (Lit.int .i64 o).wf = true → Below W0.heap.size W0 W → Calls Tryz.prog 26 #[.pointer (some ⟨b.q, 0, none⟩), .int .i64 o] W fun e w' => e = .returned (.bool (Tb.find T o).isSome) ∧ W = w') := Lib.hid fun W o hwf hW => shas_any (h.below (hB.trans (hW.mono hB.size))) o hwf
  obtain ⟨L1, hL1⟩ : ∃ L, L = M.T.length := ⟨_, rfl⟩
  obtain ⟨L2, hL2⟩ : ∃ L, L = (actM p M x).T.length := ⟨_, rfl⟩
  have FI : Hid (∀ W o, Below W0.heap.size W0 W → Calls Tryz.prog 49 #[.slice t2a L2 t2c, .int .i64 o] W fun e w' => e = .returned (.int .i64 (Tb.findI (actM p M x).T o)) ∧ W = w') := Lib.hid fun W o hW => by
    have k := (h2.below (hB.trans (hW.mono hB.size))).row
    rw [ht2] at k
    rw [hL2]
    exact Tb.rfind_any k o (by rw [hf'.tlen]; exact hp.nums.N1)
  have TA : Hid (∀ W, Below W0.heap.size W0 W → Calls Tryz.prog 48 #[.slice t1a L1 t1c] W (Tb.MadeE (Tb.all M.T) W)) := Lib.hid fun W hW => by
    have k := (h1.below (hB.trans (hW.mono hB.size))).row
    rw [ht1] at k
    rw [hL1]
    exact Tb.rall_any k hf.tok
  have N2 : Hid ((Tb.all M.T).length ≤ 1048576) := Lib.hid (by
    rw [Tb.all_length]
    exact Nat.le_trans (List.length_filter_le _ _) hf.tok.few)
  rw [← hL1, ← hL2] at G2
  clear ht1 ht2 hL1 hL2
  obtain ⟨g, hg⟩ : ∃ g, g = p.g := ⟨_, rfl⟩
  rw [← hg] at RD G2 hg1 hg2
  clear h h1 h2 hp hm hf hf' hdead hlen hP hTlen hr hB hg
  go_enter Tryz.func15, Tryz.ntmps15
  go_wp2_with fail
  clear hW0
  refine (AL.out _ (Below.refl _ _)).mono ?_
  rintro e w1 ⟨v, rfl, hv, hn, hb⟩
  obtain ⟨va, vc, hvv⟩ := Dsk.own_slice hv
  subst hvv
  have B1 : Hid (Below W0.heap.size W0 w1) := hb
  obtain ⟨n, hnn⟩ : ∃ n, n = (Tb.all T).length := ⟨_, rfl⟩
  have HNN := Lib.hid hnn
  have EV : Hid (∀ i, i < n → ∃ (q : Nat) (o : Int) (X Y Z : List UInt8) (E1 E2 : Int), va = some ⟨q, 0, none⟩ ∧ (∀ W, Below w1.heap.size w1 W → W.cell? ⟨q, i * 2, none⟩ = some (.int .i64 o)) ∧ Fnd g X Y Z E1 E2 ∧
      (∀ W, Below W0.heap.size W0 W → Calls Tryz.prog 20 #[.pointer (some ⟨b.q, 0, none⟩), .int .i64 o, .int .i64 0, .int .i64 (g : Int)] W fun e w' => e = .returned (.tuple #[.string (Om.B X), .int .i64 0]) ∧ Below W.heap.size W w') ∧
      (∀ W, Below W0.heap.size W0 W → Calls Tryz.prog 39 #[.pointer (some ⟨r1.q, 0, none⟩), .int .i64 o, .int .i64 0, .int .i64 (g : Int)] W fun e w' => e = .returned (.tuple #[.string (Om.B Y), .int .i64 E1]) ∧ W = w') ∧
      (∀ W, Below W0.heap.size W0 W → Calls Tryz.prog 39 #[.pointer (some ⟨r2.q, 0, none⟩), .int .i64 o, .int .i64 0, .int .i64 (g : Int)] W fun e w' => e = .returned (.tuple #[.string (Om.B Z), .int .i64 E2]) ∧ W = w')) := Lib.hid fun i hi => by
    have hi2 : i < (Tb.all T).length := by omega
    obtain ⟨q, e, hql, c0, -⟩ := Tb.ents_cell hv i hi2
    obtain ⟨o, X, Y, Z, E1, E2, he, hrest⟩ := RD.out i hi2
    rw [List.getElem?_eq_getElem hi2] at he
    have he : (Tb.all T)[i].1 = o := by injection he
    refine ⟨q, o, X, Y, Z, E1, E2, e, fun W hW => ?_, hrest⟩
    rw [← he, ← c0]
    exact hW.cell (p := ⟨q, i * 2, none⟩) hql
  have hn1 : n ≤ 1048576 := by rw [hnn]; exact N1.out
  rw [← hnn]
  clear hv hn hb hnn AL RD N1
  go_wp2_with fail
  go_loopw [10] (fun i wr => ∃ k : Nat, i = .int .i64 (k : Int) ∧ k ≤ n ∧ Hid (Below w1.heap.size w1 wr)) (fun i _ => n - (Lib.intOf i).toNat)
  case atStart => exact ⟨0, rfl, Nat.zero_le _, Lib.hid (Below.refl _ _)⟩
  case round =>
    obtain ⟨k, rfl, hk, hat⟩ := hrel
    by_cases hlt : k < n
    · have d1 : decide ((k : Int) < (n : Int)) = true := by simp; omega
      have d2 : decide (k < n) = true := by simp; omega
      have b1 : (0 : Int) ≤ (k : Int) := by omega
      have b2 : (k : Int) < (n : Int) := by omega
      have hw1 : IntKind.i64.wrap ((k : Int) + 1) = ((k + 1 : Nat) : Int) := by rw [IntWalk.i64_in _ (by omega)]; rfl
      obtain ⟨q, o, X, Y, Z, E1, E2, hva, hcl, fnd, C1, C2, C3⟩ := EV.out k hlt
      subst hva
      have FND := Lib.hid fnd
      have CC1 := Lib.hid C1
      have CC2 := Lib.hid C2
      have CC3 := Lib.hid C3
      have CL : Hid (∀ W, Below wr.heap.size wr W → (W.cell? ⟨q, k * 2, none⟩ = some (.int .i64 o) ∧ W.cell? ⟨r1.q, 2, none⟩ = some (.int .i64 (g : Int))) ∧ Below W0.heap.size W0 W ∧ Below w1.heap.size w1 W) := Lib.hid fun W hW => by
        have hb1 := hat.out.trans (hW.mono hat.out.size)
        have hb0 := keepd hb1 B1.out
        exact ⟨⟨hcl W hb1, (G2.out W hb0).1⟩, hb0, hb1⟩
      clear fnd C1 C2 C3 hat hcl
      obtain ⟨⟨c0, c2⟩, -, -⟩ := CL.out wr (Below.refl _ _)
      go_upto_region 5 with fail
      go_region_held3 (fun w' => w'.cell? ⟨q, k * 2, none⟩ = some (.int .i64 o) ∧ w'.cell? ⟨r1.q, 2, none⟩ = some (.int .i64 (g : Int)))
        (first | (refine ⟨?_, ?_⟩ <;> assumption) | go_keep)
        (first
          | (go_at_call 20; refine (CC1.out _ (CL.out _ (Below.refl _ _).drew).2.1).mono ?_; rintro e w2 ⟨rfl, hb⟩; have B2 : Hid (Below wr.heap.size wr w2) := Lib.hid (keepd hb (Below.refl _ _).drew); obtain ⟨⟨z0, z2⟩, -, -⟩ := CL.out w2 B2.out; clear hb))
      clear c0 c2 CC1
      go_upto_region 6 with fail
      go_region_held3 (fun w' => w'.cell? ⟨q, k * 2, none⟩ = some (.int .i64 o) ∧ w'.cell? ⟨r1.q, 2, none⟩ = some (.int .i64 (g : Int)))
        (first | (refine ⟨?_, ?_⟩ <;> assumption) | go_keep)
        (first
          | (go_at_call 39; refine (CC2.out _ (CL.out _ B2.out.drew).2.1).mono ?_; rintro e w3 ⟨rfl, hw3⟩; have B3 : Hid (Below wr.heap.size wr w3) := Lib.hid (by rw [← hw3]; exact B2.out.drew); obtain ⟨⟨y0, y2⟩, -, -⟩ := CL.out w3 B3.out; clear hw3))
      clear z0 z2 CC2
      go_upto_region 7 with fail
      go_region_held3 (fun w' => w'.cell? ⟨q, k * 2, none⟩ = some (.int .i64 o) ∧ w'.cell? ⟨r1.q, 2, none⟩ = some (.int .i64 (g : Int)))
        (first | (refine ⟨?_, ?_⟩ <;> assumption) | go_keep)
        (first
          | (go_at_call 39; refine (CC3.out _ (CL.out _ B3.out.drew).2.1).mono ?_; rintro e w4 ⟨rfl, hw4⟩; have B4 : Hid (Below wr.heap.size wr w4) := Lib.hid (by rw [← hw4]; exact B3.out.drew); obtain ⟨⟨x0, x2⟩, -, -⟩ := CL.out w4 B4.out; clear hw4))
      clear y0 y2 x0 x2 CC3
      have B41 : Hid (Below w1.heap.size w1 w4) := Lib.hid (CL.out w4 B4.out).2.2
      have sX : (Om.B X).size = 64 * g := by rw [Om.B_size]; exact FND.out.x
      clear CL B2 B3
      by_cases q1 : E1 = 0
      · by_cases q2 : E2 = 0
        · have e1 : (E1 == 0) = true := by simp [q1]
          have e1n : (E1 != 0) = false := by simp [q1]
          have sY : (Om.B Y).size = 64 * g := by rw [Om.B_size]; exact FND.out.y q1
          have e2 : (E2 == 0) = true := by simp [q2]
          have e2n : (E2 != 0) = false := by simp [q2]
          have sZ : (Om.B Z).size = 64 * g := by rw [Om.B_size]; exact FND.out.z q2
          go_wp2_with fail
          go_loopw [17] (fun i ws => ∃ j : Nat, i = .int .i64 (64 * (j : Int)) ∧ j ≤ g ∧ Hid (Below w1.heap.size w1 ws)) (fun i _ => 64 * g - (Lib.intOf i).toNat)
          case atStart => exact ⟨0, rfl, Nat.zero_le _, B41⟩
          case round =>
            obtain ⟨j, rfl, hj, hbs⟩ := hrel
            by_cases hjl : j < g
            · have i1 : decide (64 * (j : Int) < ((Om.B X).size : Int)) = true := by simp; omega
              have i3 : (0 : Int) ≤ 64 * (j : Int) := by omega
              have i4 : IntKind.i64.wrap (64 * (j : Int) + 64) = 64 * (j : Int) + 64 := IntWalk.i64_in _ (by omega)
              have i5 : 64 * (j : Int) ≤ 64 * (j : Int) + 64 := by omega
              have i6 : (64 * (j : Int)).toNat = 64 * j := by omega
              have i7 : (64 * (j : Int) + 64).toNat = 64 * j + 64 := by omega
              have i8 : 64 * j ≤ 64 * j + 64 := by omega
              have i9 : (0 : Int) ≤ 64 * (j : Int) + 64 := by omega
              have x1 : 64 * (j : Int) + 64 ≤ ((Om.B X).size : Int) := by omega
              have x2 : 64 * j + 64 ≤ (Om.B X).size := by omega
              have xc := piece_cut (X := X) (j := j) rfl rfl
              have y1 : 64 * (j : Int) + 64 ≤ ((Om.B Y).size : Int) := by omega
              have y2 : 64 * j + 64 ≤ (Om.B Y).size := by omega
              have yc := piece_cut (X := Y) (j := j) rfl rfl
              have z1 : 64 * (j : Int) + 64 ≤ ((Om.B Z).size : Int) := by omega
              have z2 : 64 * j + 64 ≤ (Om.B Z).size := by omega
              have zc := piece_cut (X := Z) (j := j) rfl rfl
              rcases FND.out.any j hjl with ⟨-, hxy⟩ | ⟨-, hxy⟩
              · rw [← hxy] at yc
                by_cases hd : (Om.B (piece X j)).toList = (Om.B (piece Z j)).toList
                · go_upto_region 13 with fail
                  go_quiet (fail)
                  have B6 : Hid (Below w1.heap.size w1 (wr.drewN nq)) := Lib.hid (below_drewN hbs.out nq)
                  generalize wr.drewN nq = W6 at B6 ⊢
                  go_upto_region 14 with fail
                  go_quiet (fail)
                  have B7 : Hid (Below w1.heap.size w1 (W6.drewN nq)) := Lib.hid (below_drewN B6.out nq)
                  generalize W6.drewN nq = W7 at B7 ⊢
                  go_wp2_with fail
                  go_roundw
                  case rel => exact ⟨j + 1, by simp; omega, by omega, B7⟩
                  case measure => simp [Lib.intOf]; omega
                · go_upto_region 13 with fail
                  go_quiet (fail)
                  have B6 : Hid (Below w1.heap.size w1 (wr.drewN nq)) := Lib.hid (below_drewN hbs.out nq)
                  generalize wr.drewN nq = W6 at B6 ⊢
                  go_upto_region 14 with fail
                  go_quiet (fail)
                  have B7 : Hid (Below w1.heap.size w1 (W6.drewN nq)) := Lib.hid (below_drewN B6.out nq)
                  generalize W6.drewN nq = W7 at B7 ⊢
                  go_wp2_with fail
                  go_roundw
                  case rel => exact ⟨j + 1, by simp; omega, by omega, B7⟩
                  case measure => simp [Lib.intOf]; omega
              · rw [← hxy] at zc
                clear hxy
                by_cases hd : (Om.B (piece X j)).toList = (Om.B (piece Y j)).toList
                · have hdb : ((Om.B (piece X j)).toList == (Om.B (piece Y j)).toList) = true := by simpa using hd
                  go_upto_region 13 with fail
                  go_quiet (fail)
                  have B6 : Hid (Below w1.heap.size w1 (wr.drewN nq)) := Lib.hid (below_drewN hbs.out nq)
                  generalize wr.drewN nq = W6 at B6 ⊢
                  go_upto_region 14 with fail
                  go_quiet (fail)
                  have B7 : Hid (Below w1.heap.size w1 (W6.drewN nq)) := Lib.hid (below_drewN B6.out nq)
                  generalize W6.drewN nq = W7 at B7 ⊢
                  go_wp2_with fail
                  go_roundw
                  case rel => exact ⟨j + 1, by simp; omega, by omega, B7⟩
                  case measure => simp [Lib.intOf]; omega
                · have hdb : ((Om.B (piece X j)).toList == (Om.B (piece Y j)).toList) = false := by simpa using hd
                  go_upto_region 13 with fail
                  go_quiet (fail)
                  have B6 : Hid (Below w1.heap.size w1 (wr.drewN nq)) := Lib.hid (below_drewN hbs.out nq)
                  generalize wr.drewN nq = W6 at B6 ⊢
                  go_upto_region 14 with fail
                  go_quiet (fail)
                  have B7 : Hid (Below w1.heap.size w1 (W6.drewN nq)) := Lib.hid (below_drewN B6.out nq)
                  generalize W6.drewN nq = W7 at B7 ⊢
                  go_wp2_with fail
                  go_roundw
                  case rel => exact ⟨j + 1, by simp; omega, by omega, B7⟩
                  case measure => simp [Lib.intOf]; omega
            · obtain rfl : j = g := by omega
              have i1 : decide (64 * (j : Int) < ((Om.B X).size : Int)) = false := by simp; omega
              go_wp2_with fail
              go_roundw
              case rel => exact ⟨k + 1, rfl, by omega, hbs⟩
              case measure => simp [Lib.intOf]; omega
        · have e1 : (E1 == 0) = true := by simp [q1]
          have e1n : (E1 != 0) = false := by simp [q1]
          have sY : (Om.B Y).size = 64 * g := by rw [Om.B_size]; exact FND.out.y q1
          have e2 : (E2 == 0) = false := by simp [q2]
          have e2n : (E2 != 0) = true := by simp [q2]
          go_wp2_with fail
          go_loopw [17] (fun i ws => ∃ j : Nat, i = .int .i64 (64 * (j : Int)) ∧ j ≤ g ∧ Hid (Below w1.heap.size w1 ws)) (fun i _ => 64 * g - (Lib.intOf i).toNat)
          case atStart => exact ⟨0, rfl, Nat.zero_le _, B41⟩
          case round =>
            obtain ⟨j, rfl, hj, hbs⟩ := hrel
            by_cases hjl : j < g
            · have i1 : decide (64 * (j : Int) < ((Om.B X).size : Int)) = true := by simp; omega
              have i3 : (0 : Int) ≤ 64 * (j : Int) := by omega
              have i4 : IntKind.i64.wrap (64 * (j : Int) + 64) = 64 * (j : Int) + 64 := IntWalk.i64_in _ (by omega)
              have i5 : 64 * (j : Int) ≤ 64 * (j : Int) + 64 := by omega
              have i6 : (64 * (j : Int)).toNat = 64 * j := by omega
              have i7 : (64 * (j : Int) + 64).toNat = 64 * j + 64 := by omega
              have i8 : 64 * j ≤ 64 * j + 64 := by omega
              have i9 : (0 : Int) ≤ 64 * (j : Int) + 64 := by omega
              have x1 : 64 * (j : Int) + 64 ≤ ((Om.B X).size : Int) := by omega
              have x2 : 64 * j + 64 ≤ (Om.B X).size := by omega
              have xc := piece_cut (X := X) (j := j) rfl rfl
              have y1 : 64 * (j : Int) + 64 ≤ ((Om.B Y).size : Int) := by omega
              have y2 : 64 * j + 64 ≤ (Om.B Y).size := by omega
              have yc := piece_cut (X := Y) (j := j) rfl rfl
              have hxy : piece X j = piece Y j := by
                rcases FND.out.any j hjl with ⟨h1, h2⟩ | ⟨h1, h2⟩
                · exact h2
                · exact absurd h1 q2
              rw [← hxy] at yc
              go_upto_region 13 with fail
              go_quiet (fail)
              have B6 : Hid (Below w1.heap.size w1 (wr.drewN nq)) := Lib.hid (below_drewN hbs.out nq)
              generalize wr.drewN nq = W6 at B6 ⊢
              go_upto_region 14 with fail
              go_quiet (fail)
              have B7 : Hid (Below w1.heap.size w1 (W6.drewN nq)) := Lib.hid (below_drewN B6.out nq)
              generalize W6.drewN nq = W7 at B7 ⊢
              go_wp2_with fail
              go_roundw
              case rel => exact ⟨j + 1, by simp; omega, by omega, B7⟩
              case measure => simp [Lib.intOf]; omega
            · obtain rfl : j = g := by omega
              have i1 : decide (64 * (j : Int) < ((Om.B X).size : Int)) = false := by simp; omega
              go_wp2_with fail
              go_roundw
              case rel => exact ⟨k + 1, rfl, by omega, hbs⟩
              case measure => simp [Lib.intOf]; omega
      · by_cases q2 : E2 = 0
        · have e1 : (E1 == 0) = false := by simp [q1]
          have e1n : (E1 != 0) = true := by simp [q1]
          have e2 : (E2 == 0) = true := by simp [q2]
          have e2n : (E2 != 0) = false := by simp [q2]
          have sZ : (Om.B Z).size = 64 * g := by rw [Om.B_size]; exact FND.out.z q2
          go_wp2_with fail
          go_loopw [17] (fun i ws => ∃ j : Nat, i = .int .i64 (64 * (j : Int)) ∧ j ≤ g ∧ Hid (Below w1.heap.size w1 ws)) (fun i _ => 64 * g - (Lib.intOf i).toNat)
          case atStart => exact ⟨0, rfl, Nat.zero_le _, B41⟩
          case round =>
            obtain ⟨j, rfl, hj, hbs⟩ := hrel
            by_cases hjl : j < g
            · have i1 : decide (64 * (j : Int) < ((Om.B X).size : Int)) = true := by simp; omega
              have i3 : (0 : Int) ≤ 64 * (j : Int) := by omega
              have i4 : IntKind.i64.wrap (64 * (j : Int) + 64) = 64 * (j : Int) + 64 := IntWalk.i64_in _ (by omega)
              have i5 : 64 * (j : Int) ≤ 64 * (j : Int) + 64 := by omega
              have i6 : (64 * (j : Int)).toNat = 64 * j := by omega
              have i7 : (64 * (j : Int) + 64).toNat = 64 * j + 64 := by omega
              have i8 : 64 * j ≤ 64 * j + 64 := by omega
              have i9 : (0 : Int) ≤ 64 * (j : Int) + 64 := by omega
              have x1 : 64 * (j : Int) + 64 ≤ ((Om.B X).size : Int) := by omega
              have x2 : 64 * j + 64 ≤ (Om.B X).size := by omega
              have xc := piece_cut (X := X) (j := j) rfl rfl
              have z1 : 64 * (j : Int) + 64 ≤ ((Om.B Z).size : Int) := by omega
              have z2 : 64 * j + 64 ≤ (Om.B Z).size := by omega
              have zc := piece_cut (X := Z) (j := j) rfl rfl
              have hxy : piece X j = piece Z j := by
                rcases FND.out.any j hjl with ⟨h1, h2⟩ | ⟨h1, h2⟩
                · exact absurd h1 q1
                · exact h2
              rw [← hxy] at zc
              go_upto_region 13 with fail
              go_quiet (fail)
              have B6 : Hid (Below w1.heap.size w1 (wr.drewN nq)) := Lib.hid (below_drewN hbs.out nq)
              generalize wr.drewN nq = W6 at B6 ⊢
              go_upto_region 14 with fail
              go_quiet (fail)
              have B7 : Hid (Below w1.heap.size w1 (W6.drewN nq)) := Lib.hid (below_drewN B6.out nq)
              generalize W6.drewN nq = W7 at B7 ⊢
              go_wp2_with fail
              go_roundw
              case rel => exact ⟨j + 1, by simp; omega, by omega, B7⟩
              case measure => simp [Lib.intOf]; omega
            · obtain rfl : j = g := by omega
              have i1 : decide (64 * (j : Int) < ((Om.B X).size : Int)) = false := by simp; omega
              go_wp2_with fail
              go_roundw
              case rel => exact ⟨k + 1, rfl, by omega, hbs⟩
              case measure => simp [Lib.intOf]; omega
        · exfalso
          rcases FND.out.any 0 (by omega) with ⟨h1, -⟩ | ⟨h1, -⟩
          · exact q1 h1
          · exact q2 h1
    · obtain rfl : k = n := by omega
      have d1 : decide ((k : Int) < (k : Int)) = false := by simp
      have d2 : decide (k < k) = false := by simp
      obtain ⟨g2, g6, h6, gk⟩ := G2.out wr (keepd hat.out B1.out)
      have BW : Hid (Below W0.heap.size W0 wr) := Lib.hid (keepd hat.out B1.out)
      clear EV
      go_wp2_with fail
      refine (TA.out _ BW.out).mono ?_
      rintro e w5 ⟨v, rfl, hv, hn, hb⟩
      obtain ⟨ua, uc, hvv⟩ := Dsk.own_slice hv
      subst hvv
      have B5 : Hid (Below W0.heap.size W0 w5) := Lib.hid (keepd hb BW.out)
      obtain ⟨m, hm⟩ : ∃ m, m = (Tb.all M.T).length := ⟨_, rfl⟩
      have EV : Hid (∀ i, i < m → ∃ (q : Nat) (o : Int), ua = some ⟨q, 0, none⟩ ∧ (∀ W, Below w5.heap.size w5 W → W.cell? ⟨q, i * 2, none⟩ = some (.int .i64 o)) ∧ (Lit.int .i64 o).wf = true ∧ (Tb.find T o = none → (x.k : Int) % 6 = 2 ∧ Tb.findI (actM p M x).T o = -1)) := Lib.hid fun i hi => by
        have hi2 : i < (Tb.all M.T).length := by omega
        obtain ⟨q, e, hql, c0, -⟩ := Tb.ents_cell hv i hi2
        obtain ⟨o, he, hrest⟩ := SEC.out i hi2
        rw [List.getElem?_eq_getElem hi2] at he
        have he : (Tb.all M.T)[i].1 = o := by injection he
        refine ⟨q, o, e, fun W hW => ?_, hrest⟩
        rw [← he, ← c0]
        exact hW.cell (p := ⟨q, i * 2, none⟩) hql
      have hm1 : m ≤ 1048576 := by rw [hm]; exact N2.out
      rw [← hm]
      clear hv hn hb hm g2 g6 h6 gk SEC TA N2
      go_wp2_with fail
      go_loopw [21] (fun i wr => ∃ j : Nat, i = .int .i64 (j : Int) ∧ j ≤ m ∧ Hid (Below w5.heap.size w5 wr)) (fun i _ => m - (Lib.intOf i).toNat)
      case atStart => exact ⟨0, rfl, Nat.zero_le _, Lib.hid (Below.refl _ _)⟩
      case round =>
        obtain ⟨j, rfl, hj, hbs⟩ := hrel
        by_cases hjl : j < m
        · have i1 : decide ((j : Int) < (m : Int)) = true := by simp; omega
          have i2 : decide (j < m) = true := by simp; omega
          have i3 : (0 : Int) ≤ (j : Int) := by omega
          have i4 : (j : Int) < (m : Int) := by omega
          have hw1 : IntKind.i64.wrap ((j : Int) + 1) = ((j + 1 : Nat) : Int) := by rw [IntWalk.i64_in _ (by omega)]; rfl
          obtain ⟨q, o, hua, hcl, hwf, hsec⟩ := EV.out j hjl
          subst hua
          have c0 := hcl wr hbs.out
          obtain ⟨-, -, h6, gk⟩ := G2.out wr (keepd hbs.out B5.out)
          have HN : Hid (∀ n, Calls Tryz.prog 26 #[.pointer (some ⟨b.q, 0, none⟩), .int .i64 o] (wr.drewN n) fun e w' => e = .returned (.bool (Tb.find T o).isSome) ∧ ∃ m, w' = wr.drewN m) := Lib.hid fun n => quiet_eq (HAS.out _ o hwf (below_drewN (keepd hbs.out B5.out) n))
          have FN : Hid (∀ n, Calls Tryz.prog 49 #[.slice t2a L2 t2c, .int .i64 o] (wr.drewN n) fun e w' => e = .returned (.int .i64 (Tb.findI (actM p M x).T o)) ∧ ∃ m, w' = wr.drewN m) := Lib.hid fun n => quiet_eq (FI.out _ o (below_drewN (keepd hbs.out B5.out) n))
          clear hcl hwf
          cases hfd : Tb.find T o with
          | some i =>
            rw [hfd] at HN
            have HN2 : Hid (∀ n, Calls Tryz.prog 26 #[.pointer (some ⟨b.q, 0, none⟩), .int .i64 o] (wr.drewN n) fun e w' => e = .returned (.bool true) ∧ ∃ m, w' = wr.drewN m) := HN
            clear hsec hfd HN
            go_upto_region 21 with fail
            go_quiet (first | (go_at_call 26; exact HN2.out _))
            have B6 : Hid (Below w5.heap.size w5 (wr.drewN nq)) := Lib.hid (below_drewN hbs.out nq)
            generalize wr.drewN nq = W6 at B6 ⊢
            clear c0 h6 gk
            go_wp2_with fail
            go_roundw
            case rel => exact ⟨j + 1, rfl, by omega, B6⟩
            case measure => simp [Lib.intOf]; omega
          | none =>
            rw [hfd] at HN
            have HN2 : Hid (∀ n, Calls Tryz.prog 26 #[.pointer (some ⟨b.q, 0, none⟩), .int .i64 o] (wr.drewN n) fun e w' => e = .returned (.bool false) ∧ ∃ m, w' = wr.drewN m) := HN
            obtain ⟨hk6, hfi⟩ := hsec hfd
            rw [hfi] at FN
            clear hfd hfi HN
            go_upto_region 21 with fail
            go_quiet (first | (go_at_call 26; exact HN2.out _) | (go_at_call 49; exact FN.out _))
            have B6 : Hid (Below w5.heap.size w5 (wr.drewN nq)) := Lib.hid (below_drewN hbs.out nq)
            generalize wr.drewN nq = W6 at B6 ⊢
            clear c0 h6 gk
            go_wp2_with fail
            go_roundw
            case rel => exact ⟨j + 1, rfl, by omega, B6⟩
            case measure => simp [Lib.intOf]; omega
        · obtain rfl : j = m := by omega
          have i1 : decide ((j : Int) < (j : Int)) = false := by simp
          have i2 : decide (j < j) = false := by simp
          have FB : Hid (Below w.heap.size w wr) := Lib.hid (HB.out.trans ((keepd hbs.out B5.out).mono HB.out.size))
          go_wp2_with fail
          go_ret
          exact ⟨rfl, FB.out⟩
end So
end Go.Proofs.YtbmabcddciibfaaGreat
