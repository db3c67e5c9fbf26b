/- Contracts of origin's Chunk and Put. -/
import Derived.Test.YtbmabcddciibfaaOrgCode
import Derived.Test.YtbmabcddciibfaaGeomSpan
import Derived.Test.YtbmabcddciibfaaDuo
import Derived.Test.YtbmabcddciibfaaRepeat
namespace Go.Proofs.Ytbmabcddciibfaa
namespace Og
open Go.RowKit
set_option maxRecDepth 100000
set_option linter.unusedVariables false
theorem no_over (a b : List UInt8) (h : a.length + b.length < 4611686018427387904) : ¬ 9223372036854775807 < (Om.B a).size + (Om.B b).size := by
  rw [Om.B_size, Om.B_size]; omega
theorem keepB {W0 X w3 : World} (hb : Below X.heap.size X w3) (h : Below W0.heap.size W0 X) : Below W0.heap.size W0 w3 := h.trans (hb.mono h.size)
/-- Where a chunk begins; how many sectors it has. -/
def at_ (g k : Nat) : Nat := k * g
def ln (n g k : Nat) : Nat := min g (n - k * g)
theorem chunk_in {n g k : Nat} (hg : 1 ≤ g) (h : k < Em.parts n g) : at_ g k < n ∧ 1 ≤ ln n g k ∧ ln n g k ≤ g ∧ at_ g k + ln n g k ≤ n := by
  have := (Em.parts_lt (n := n) (s := g) (k := k) (by omega)).1 h
  unfold at_ ln
  omega
theorem has_chunk {n g k : Nat} (hg : 1 ≤ g) (h : k < Em.parts n g) : hasB n (at_ g k : Int) (ln n g k : Int) = true := by
  obtain ⟨h1, h2, h3, h4⟩ := chunk_in hg h
  exact hasB_iff.2 ⟨by omega, by omega, by omega⟩
/-- What is told of a chunk. -/
def cE (n g : Nat) (st : Dm.St) (k : Nat) : Int := Dm.readE st (17 + (at_ g k : Int)) (ln n g k : Int)
def cX (n g : Nat) (st : Dm.St) (k : Nat) : List UInt8 := Dm.readS st (17 + (at_ g k : Int)) (ln n g k : Int)
def cS (n g : Nat) (st : Dm.St) (k : Nat) : List UInt8 := if cE n g st k = 0 then cX n g st k ++ List.replicate (64 * g - (cX n g st k).length) 0 else []
theorem ospan_yes {w : World} {o : Bo} {n g : Nat} {st : Dm.St} (h : Gk w o n g st) (k : Nat) (hk : k < Em.parts n g) (w1 : World) :
    Calls Try.prog 25 #[.agg #[.int .i64 (n : Int), .int .i64 (g : Int)], .int .i64 (k : Int)] w1 fun e w' => e = .returned (.tuple #[.agg #[.int .i64 (at_ g k : Int), .int .i64 (ln n g k : Int)], .int .i64 0]) ∧ Below w1.heap.size w1 w' := Geo.span_ok n g k w1 h.right hk
theorem ospan_no {w : World} {o : Bo} {n g : Nat} {st : Dm.St} (h : Gk w o n g st) (c : Int) (hc : c < 0 ∨ (Em.parts n g : Int) ≤ c) (w1 : World) :
    Calls Try.prog 25 #[.agg #[.int .i64 (n : Int), .int .i64 (g : Int)], .int .i64 c] w1 fun e w' => e = .returned (.tuple #[.agg #[.int .i64 0, .int .i64 0], .int .i64 2]) ∧ Below w1.heap.size w1 w' := by
  have e : Geo.refuse (n : Int) (g : Int) c 0 (Geo.many (n : Int) (g : Int) - 1) = 2 := by
    unfold Geo.refuse
    rw [if_pos h.right, Geo.many_nat h.right, if_pos (by omega)]
  have := Geo.span_no (n : Int) (g : Int) c w1 (by rw [e]; decide)
  rw [e] at this
  exact this
theorem ochunk_no {w : World} {o : Bo} {n g : Nat} {st : Dm.St} (h : Gk w o n g st) (c : Int) (hc : c < 0 ∨ (Em.parts n g : Int) ≤ c) :
    Calls Try.prog 10 #[.pointer (some ⟨o.q, 0, none⟩), .int .i64 c] w fun e w' => e = .returned (.tuple #[.string (Om.B []), .int .i64 2]) ∧ Below w.heap.size w w' := by
  have SP := Lib.hid (ospan_no h c hc)
  obtain ⟨-, -, -, c3, c4⟩ := h.reads
  clear h hc
  go_enter Try.func10, Try.ntmps10
  go_wp2_with fail
  refine (SP.out _).mono ?_
  rintro e w1 ⟨rfl, hb⟩
  have B1 := Lib.hid hb
  clear hb
  go_wp2_with fail
  go_ret2
  exact ⟨rfl, B1.out.alloc B1.out.size _⟩
set_option maxHeartbeats 1000000 in
theorem ochunk_yes {w : World} {o : Bo} {n g : Nat} {st : Dm.St} (h : Gk w o n g st) (k : Nat) (hk : k < Em.parts n g) (hP : st.P.length ≤ 1099511627776) :
    Calls Try.prog 10 #[.pointer (some ⟨o.q, 0, none⟩), .int .i64 (k : Int)] w fun e w' => e = .returned (.tuple #[.string (Om.B (cS n g st k)), .int .i64 (cE n g st k)]) ∧ Below w.heap.size w w' := by
  obtain ⟨n1, n2, g1, g2⟩ := h.small
  obtain ⟨i1, i2, i3, i4⟩ := chunk_in g1 hk
  have hh := has_chunk g1 hk
  have SP := Lib.hid (ospan_yes h k hk)
  have RD : Hid (∀ w1, Below w.heap.size w w1 → Calls Try.prog 9 #[.pointer (some ⟨o.q, 0, none⟩), .int .i64 (at_ g k : Int), .int .i64 (ln n g k : Int)] w1 fun e w' => e = .returned (.tuple #[.string (Om.B (cX n g st k)), .int .i64 (cE n g st k)]) ∧ Below w1.heap.size w1 w') := Lib.hid fun w1 hb => by
    have := oread_any (h.below hb) (at_ g k : Int) (ln n g k : Int) (by omega) hP
    unfold rE rS at this
    rw [hh, if_pos rfl, if_pos rfl] at this
    exact this
  have FU : Hid (∀ w1, Below w.heap.size w w1 → Calls Try.prog 27 #[.pointer (some ⟨o.q, 0, none⟩)] w1 fun e w' => e = .returned (.int .i64 ((64 * g : Nat) : Int)) ∧ w1 = w') := Lib.hid fun w1 hb => ofull_any (h.below hb)
  obtain ⟨-, -, -, c3, c4⟩ := h.reads
  have hlen : (cX n g st k).length ≤ 64 * g := by
    unfold cX Dm.readS
    split
    · simp
    · split
      · rename_i ht
        rw [Dm.there_iff] at ht
        rw [Dm.span_length h.dk.ok _ _ (by omega)]
        omega
      · simp
  have E1 : Hid (cE n g st k ≠ 0 → cS n g st k = []) := Lib.hid fun h0 => by unfold cS; rw [if_neg h0]
  have E2 : Hid (cE n g st k = 0 → cS n g st k = cX n g st k ++ List.replicate (64 * g - (cX n g st k).length) 0) := Lib.hid fun h0 => by unfold cS; rw [if_pos h0]
  obtain ⟨A, hA⟩ : ∃ A, A = at_ g k := ⟨_, rfl⟩
  obtain ⟨L, hL⟩ : ∃ L, L = ln n g k := ⟨_, rfl⟩
  obtain ⟨X, hX⟩ : ∃ X, X = cX n g st k := ⟨_, rfl⟩
  obtain ⟨E, hE⟩ : ∃ E, E = cE n g st k := ⟨_, rfl⟩
  obtain ⟨Y, hY⟩ : ∃ Y, Y = cS n g st k := ⟨_, rfl⟩
  rw [← hA, ← hL] at SP
  rw [← hA, ← hL, ← hX, ← hE] at RD
  rw [← hX] at hlen
  rw [← hE, ← hY] at E1
  rw [← hE, ← hX, ← hY] at E2
  rw [← hE, ← hY]
  obtain ⟨F, hF⟩ : ∃ F, F = 64 * g := ⟨_, rfl⟩
  rw [← hF] at FU hlen E2
  have hF2 : F ≤ 8192 := by omega
  clear h hk hP n1 n2 g1 g2 i1 i2 i3 i4 hh hA hL hX hE hY hF
  by_cases h0 : E = 0
  · have hY := Lib.hid (E2.out h0)
    have e0 : (E != 0) = false := by simp [h0]
    subst h0
    have hcat := no_over X (List.replicate (F - X.length) 0) (by simp; omega)
    have hs : (Om.B X).size = X.length := Om.B_size X
    have RP := Lib.hid (fun w1 => repeat_any (F - X.length) w1 (by omega))
    obtain ⟨m, hm⟩ : ∃ m, m = X.length := ⟨_, rfl⟩
    rw [← hm] at hs hlen RP hcat hY
    have hsub : (F : Int) - (m : Int) = ((F - m : Nat) : Int) := by omega
    have hsw : IntKind.i64.wrap ((F - m : Nat) : Int) = ((F - m : Nat) : Int) := IntWalk.i64_in _ (by omega)
    have RPT := Lib.hid (show ∃ R, R = F - m from ⟨_, rfl⟩)
    obtain ⟨R, hR⟩ := RPT.out
    rw [← hR] at hsub hsw RP hcat hY
    clear E1 E2 RPT hm hR hlen
    go_enter Try.func10, Try.ntmps10
    go_wp2_with fail
    refine (SP.out _).mono ?_
    rintro e w1 ⟨rfl, hb⟩
    obtain ⟨W2, hW2⟩ : ∃ W2, w1.alloc (.cells #[.int .i64 (A : Int), .int .i64 (L : Int)] 48) = W2 := ⟨_, rfl⟩
    have hb2 : Below w1.heap.size w1 W2 := by rw [← hW2]; exact (Below.refl _ _).alloc (Nat.le_refl _) _
    have hr2 : W2.heap[w1.heap.size]? = some (.cells #[.int .i64 (A : Int), .int .i64 (L : Int)] 48 (0, 0)) := by rw [← hW2]; exact heap_alloc_new w1 _
    obtain ⟨y0, y1, yf⟩ := duo_cells hr2
    have B2 := Lib.hid (keepB hb2 hb)
    clear hb hb2 hr2
    go_wp2_with fail
    clear hW2
    refine (RD.out _ B2.out).mono ?_
    rintro e w3 ⟨rfl, hb⟩
    have B3 := Lib.hid (keepB hb B2.out)
    clear hb y0 y1 yf
    go_wp2_with fail
    refine (FU.out _ B3.out).mono ?_
    rintro e w4 ⟨rfl, rfl⟩
    go_wp2_with fail
    refine (RP.out _).mono ?_
    rintro e w5 ⟨rfl, hb⟩
    have B5 := Lib.hid (keepB hb B3.out)
    clear hb
    go_wp2_with fail
    go_ret2
    exact ⟨by rw [hY.out, ← Om.B_append]; rfl, B5.out⟩
  · have e0 : (E != 0) = true := by simpa using h0
    have hY := E1.out h0
    subst hY
    clear E1 E2 h0
    go_enter Try.func10, Try.ntmps10
    go_wp2_with fail
    refine (SP.out _).mono ?_
    rintro e w1 ⟨rfl, hb⟩
    obtain ⟨W2, hW2⟩ : ∃ W2, w1.alloc (.cells #[.int .i64 (A : Int), .int .i64 (L : Int)] 48) = W2 := ⟨_, rfl⟩
    have hb2 : Below w1.heap.size w1 W2 := by rw [← hW2]; exact (Below.refl _ _).alloc (Nat.le_refl _) _
    have hr2 : W2.heap[w1.heap.size]? = some (.cells #[.int .i64 (A : Int), .int .i64 (L : Int)] 48 (0, 0)) := by rw [← hW2]; exact heap_alloc_new w1 _
    obtain ⟨y0, y1, yf⟩ := duo_cells hr2
    have B2 := Lib.hid (keepB hb2 hb)
    clear hb hb2 hr2
    go_wp2_with fail
    clear hW2
    refine (RD.out _ B2.out).mono ?_
    rintro e w3 ⟨rfl, hb⟩
    have B3 := Lib.hid (keepB hb B2.out)
    clear hb y0 y1 yf
    go_wp2_with fail
    go_ret2
    exact ⟨rfl, B3.out⟩
/-- What is told of a chunk that is put; the disk behind it. -/
def pE (n g : Nat) (st : Dm.St) (k : Nat) (d : List UInt8) : Int := if d.length = 64 * g then (Dm.write st (17 + (at_ g k : Int)) (d.take (64 * ln n g k))).2 else 1
def pS (n g : Nat) (st : Dm.St) (k : Nat) (d : List UInt8) : Dm.St := if d.length = 64 * g then (Dm.write st (17 + (at_ g k : Int)) (d.take (64 * ln n g k))).1 else st
theorem oput_size {w : World} {o : Bo} {n g : Nat} {st : Dm.St} (h : Gk w o n g st) (c : Int) (d : List UInt8) (hd : d.length ≠ 64 * g) (hd2 : d.length ≤ 9223372036854775807) :
    Calls Try.prog 12 #[.pointer (some ⟨o.q, 0, none⟩), .int .i64 c, .string (Om.B d)] w fun e w' => e = .returned (.int .i64 1) ∧ w = w' := by
  have FU := Lib.hid (ofull_any h)
  have hs : (Om.B d).size = d.length := Om.B_size d
  obtain ⟨D, hD⟩ : ∃ D, D = Om.B d := ⟨_, rfl⟩
  obtain ⟨m, hm⟩ : ∃ m, m = d.length := ⟨_, rfl⟩
  obtain ⟨F, hF⟩ : ∃ F, F = 64 * g := ⟨_, rfl⟩
  rw [← hD] at hs ⊢
  rw [← hm] at hs hd
  rw [← hF] at FU hd
  have e1 : ((m : Int) != (F : Int)) = true := by simpa using (by omega : (m : Int) ≠ (F : Int))
  have e2 : (m != F) = true := by simpa using hd
  clear h hD hm hF hd hd2
  go_enter Try.func12, Try.ntmps12
  go_wp2_with fail
  refine FU.out.mono ?_
  rintro e w1 ⟨rfl, rfl⟩
  go_wp2_with fail
  go_ret
  exact ⟨rfl, rfl⟩
theorem oput_no {w : World} {o : Bo} {n g : Nat} {st : Dm.St} (h : Gk w o n g st) (c : Int) (hc : c < 0 ∨ (Em.parts n g : Int) ≤ c) (d : List UInt8) (hd : d.length = 64 * g) :
    Calls Try.prog 12 #[.pointer (some ⟨o.q, 0, none⟩), .int .i64 c, .string (Om.B d)] w fun e w' => e = .returned (.int .i64 2) ∧ Below w.heap.size w w' := by
  have FU := Lib.hid (ofull_any h)
  have hs : (Om.B d).size = d.length := Om.B_size d
  have SP := Lib.hid (ospan_no h c hc)
  obtain ⟨-, -, -, c3, c4⟩ := h.reads
  obtain ⟨D, hD⟩ : ∃ D, D = Om.B d := ⟨_, rfl⟩
  obtain ⟨F, hF⟩ : ∃ F, F = 64 * g := ⟨_, rfl⟩
  rw [← hD] at hs ⊢
  rw [← hF] at FU hd
  rw [hd] at hs
  have e1 : ((F : Int) != (F : Int)) = false := by simp
  clear h hD hF hd hc
  go_enter Try.func12, Try.ntmps12
  go_wp2_with fail
  refine FU.out.mono ?_
  rintro e w1 ⟨rfl, rfl⟩
  go_wp2_with fail
  refine (SP.out _).mono ?_
  rintro e w1 ⟨rfl, hb⟩
  have B1 := Lib.hid hb
  clear hb
  go_wp2_with fail
  go_ret
  exact ⟨rfl, B1.out.alloc B1.out.size _⟩
theorem cut_head {X : List UInt8} {B : Nat} : (Om.B X).extract 0 B = Om.B (X.take B) := by
  rw [Om.extract_front, Om.L_B]
set_option maxHeartbeats 1000000 in
theorem oput_yes {w : World} {o : Bo} {n g : Nat} {st : Dm.St} (h : Gk w o n g st) (k : Nat) (hk : k < Em.parts n g) (d : List UInt8) (hd : d.length = 64 * g) (hP : st.P.length ≤ 549755813888) :
    Calls Try.prog 12 #[.pointer (some ⟨o.q, 0, none⟩), .int .i64 (k : Int), .string (Om.B d)] w fun e w' => e = .returned (.int .i64 (pE n g st k d)) ∧ Went o n g (pS n g st k d) w w' := by
  obtain ⟨n1, n2, g1, g2⟩ := h.small
  obtain ⟨i1, i2, i3, i4⟩ := chunk_in g1 hk
  have FU := Lib.hid (ofull_any h)
  have SP := Lib.hid (ospan_yes h k hk)
  have hs : (Om.B d).size = d.length := Om.B_size d
  have ht : (d.take (64 * ln n g k)).length = 64 * ln n g k := by rw [List.length_take]; omega
  have hh : hasB n (at_ g k : Int) (((d.take (64 * ln n g k)).length / 64 : Nat) : Int) = true := by
    rw [ht, Nat.mul_div_cancel_left _ (by omega)]
    exact has_chunk g1 hk
  have WR : Hid (∀ w1, Below w.heap.size w w1 → Calls Try.prog 11 #[.pointer (some ⟨o.q, 0, none⟩), .int .i64 (at_ g k : Int), .string (Om.B (d.take (64 * ln n g k)))] w1 fun e w' => e = .returned (.int .i64 (pE n g st k d)) ∧ Went o n g (pS n g st k d) w1 w') := Lib.hid fun w1 hb => by
    have hw := owrite_any (h.below hb) (at_ g k : Int) (d.take (64 * ln n g k)) (by omega) (by omega) hP
    have e1 : wE n (st) (at_ g k : Int) (d.take (64 * ln n g k)) = (Dm.write st (17 + (at_ g k : Int)) (d.take (64 * ln n g k))).2 := by unfold wE; rw [if_pos (by omega), hh, if_pos rfl]
    have e2 : wS n (st) (at_ g k : Int) (d.take (64 * ln n g k)) = (Dm.write st (17 + (at_ g k : Int)) (d.take (64 * ln n g k))).1 := by unfold wS; rw [if_pos (by omega), hh, if_pos rfl]
    rw [e1, e2] at hw
    refine hw.mono ?_
    rintro e w' ⟨he, hw⟩
    unfold pE pS
    rw [if_pos hd, if_pos hd]
    exact ⟨he, hw⟩
  obtain ⟨-, -, -, c3, c4⟩ := h.reads
  have LO : Hid (∀ k, o.fp k → k < w.heap.size) := Lib.hid fun k hk => h.lt k hk
  have HT : Hid (∀ B, B = 64 * ln n g k → (Om.B d).extract 0 B = Om.B (d.take (64 * ln n g k))) := Lib.hid fun B hB => by rw [hB]; exact cut_head
  obtain ⟨A, hA⟩ : ∃ A, A = at_ g k := ⟨_, rfl⟩
  obtain ⟨L, hL⟩ : ∃ L, L = ln n g k := ⟨_, rfl⟩
  obtain ⟨T, hT⟩ : ∃ T, T = Om.B (d.take (64 * ln n g k)) := ⟨_, rfl⟩
  obtain ⟨D, hD⟩ : ∃ D, D = Om.B d := ⟨_, rfl⟩
  obtain ⟨F, hF⟩ : ∃ F, F = 64 * g := ⟨_, rfl⟩
  obtain ⟨E, hE⟩ : ∃ E, E = pE n g st k d := ⟨_, rfl⟩
  rw [← hT, ← hA, ← hE] at WR
  rw [← hA, ← hL] at SP
  rw [← hD, ← hT, ← hL] at HT
  rw [← hE]
  rw [← hD] at hs ⊢
  rw [← hF] at FU
  have hsF : D.size = F := by omega
  have e1 : ((F : Int) != (F : Int)) = false := by simp
  have hLF : 64 * L ≤ F := by omega
  have hw1 : IntKind.i64.wrap ((L : Int) * 64) = ((64 * L : Nat) : Int) := by rw [IntWalk.i64_in _ (by omega)]; omega
  have hle1 : ((64 * L : Nat) : Int) ≤ (F : Int) := by omega
  have hle2 : (0 : Int) ≤ ((64 * L : Nat) : Int) := by omega
  obtain ⟨Q, hQ⟩ : ∃ Q, Q = 64 * L := ⟨_, rfl⟩
  rw [← hQ] at hw1 hle1 hle2 hLF
  have hcut := HT.out Q (by omega)
  have hcut2 : D.extract 0 (Q : Int).toNat = T := by rw [Int.toNat_natCast]; exact hcut
  clear h hk hP n1 n2 g1 g2 i1 i2 i3 i4 ht hh hA hL hT hD hF hE hd hs HT hQ
  go_enter Try.func12, Try.ntmps12
  go_wp2_with fail
  refine FU.out.mono ?_
  rintro e w1 ⟨rfl, rfl⟩
  go_wp2_with fail
  refine (SP.out _).mono ?_
  rintro e w1 ⟨rfl, hb⟩
  obtain ⟨W2, hW2⟩ : ∃ W2, w1.alloc (.cells #[.int .i64 (A : Int), .int .i64 (L : Int)] 48) = W2 := ⟨_, rfl⟩
  have hb2 : Below w1.heap.size w1 W2 := by rw [← hW2]; exact (Below.refl _ _).alloc (Nat.le_refl _) _
  have hr2 : W2.heap[w1.heap.size]? = some (.cells #[.int .i64 (A : Int), .int .i64 (L : Int)] 48 (0, 0)) := by rw [← hW2]; exact heap_alloc_new w1 _
  obtain ⟨y0, y1, yf⟩ := duo_cells hr2
  have B2 := Lib.hid (keepB hb2 hb)
  have KP : Hid (∀ w', Went o n g (pS n g st k d) W2.drew w' → w'.cell? ⟨w1.heap.size, 0, none⟩ = some (.int .i64 (A : Int)) ∧ w'.cell? ⟨w1.heap.size, 1, none⟩ = some (.int .i64 (L : Int))) := Lib.hid fun w' hw => by
    obtain ⟨o', -, hs⟩ := hw
    have hh := (hs.fr.block w1.heap.size (show w1.heap.size < W2.heap.size from Dsk.lt_of_heap hr2) (fun hf => by have := LO.out _ hf; have := hb.size; omega)).trans (show W2.drew.heap[w1.heap.size]? = _ from hr2)
    obtain ⟨y0, y1, -⟩ := duo_cells hh
    exact ⟨y0, y1⟩
  clear hb hb2 hr2
  go_upto_region 6 with fail
  clear hW2
  go_region_held3 (fun w' => w'.cell? ⟨w1.heap.size, 0, none⟩ = some (.int .i64 (A : Int)) ∧ w'.cell? ⟨w1.heap.size, 1, none⟩ = some (.int .i64 (L : Int)))
    (first | (refine ⟨?_, ?_⟩ <;> assumption) | go_keep)
    (first
      | (go_at_call 11; refine (WR.out _ B2.out.drew).mono ?_; rintro e w3 ⟨rfl, hw3⟩; obtain ⟨z0, z1⟩ := KP.out _ hw3; have FB := Lib.hid (Went.below B2.out.drew hw3); clear hw3))
  go_wp2_with fail
  go_ret
  exact ⟨rfl, FB.out⟩
end Og
end Go.Proofs.Ytbmabcddciibfaa