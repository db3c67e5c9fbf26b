/- The contract of CommandBack. -/
import Derived.Test.YtdojclhcoboocaaDoorCmdAlive
namespace Go.Proofs.YtdojclhcoboocaaDoor
namespace Co
open Go.Shelf Go.RowKit Go.Lib Pd Dsk
set_option maxRecDepth 100000
set_option linter.unusedVariables false

theorem data_in : ∀ (L : List UInt8) (c : Cd), c.data.length ≤ (prC L c).1.length + (prC L c).2.data.length
  | [], c => by show c.data.length ≤ 0 + c.data.length; omega
  | x :: r, c => by
    have h := data_in r (clrC x c)
    have h2 : c.data.length ≤ (wdC x c).length + (clrC x c).data.length := by
      by_cases hx : x = 100
      · subst hx
        rw [wdC_100, clrC_100]
        unfold hexC
        split
        · rename_i h0; rw [h0]; simp
        · rw [hexL_len]; omega
      · have e : (clrC x c).data = c.data := by
          unfold clrC
          repeat' split
          all_goals first | rfl | exact absurd (by assumption) hx
        rw [e]; omega
    show c.data.length ≤ (32 :: wdC x c ++ (prC r (clrC x c)).1).length + (prC r (clrC x c)).2.data.length
    rw [List.length_append, List.length_cons]
    omega
theorem parse_sizes (s : List UInt8) : (parseCV s).op.length ≤ s.length ∧ (parseCV s).data.length ≤ s.length := by
  unfold parseCV
  cases hp : parseC s with
  | none => exact ⟨Nat.zero_le _, Nat.zero_le _⟩
  | some z =>
    have h := print_parse hp
    unfold printC at h
    cases hf : formC z.op with
    | none => rw [hf] at h; cases h
    | some L =>
      rw [hf, Option.bind_some] at h
      split at h
      · rename_i hh
        cases h
        have hd := data_in L z
        rw [hh.2] at hd
        simp only [List.length_nil, Nat.add_zero] at hd
        show z.op.length ≤ _ ∧ z.data.length ≤ _
        rw [List.length_append]
        exact ⟨by omega, by omega⟩
      · cases h
theorem printCV_len (c : Cd) : (printCV c).length ≤ c.op.length + 3 * (2 * c.data.length + 21) := by
  unfold printCV
  cases hp : printC c with
  | none => exact Nat.zero_le _
  | some l =>
    unfold printC at hp
    cases hf : formC c.op with
    | none => rw [hf] at hp; cases hp
    | some L =>
      rw [hf, Option.bind_some] at hp
      split at hp
      · rename_i hh
        cases hp
        have hL := (formC_low hf).1
        have key : ∀ (L : List UInt8) (c : Cd) (D : Nat), okI c = true → c.data.length ≤ D → (prC L c).1.length ≤ L.length * (2 * D + 21) := by
          intro L
          induction L with
          | nil => intro c D _ _; exact Nat.zero_le _
          | cons x r ih =>
            intro c D h1 h2
            have h3 := ih (clrC x c) D (okI_clr x c h1) (Nat.le_trans (data_clr x c) h2)
            have h4 := wd_len x c h1
            show (32 :: wdC x c ++ (prC r (clrC x c)).1).length ≤ (r.length + 1) * (2 * D + 21)
            rw [List.length_append, List.length_cons, Nat.add_mul]
            omega
        have h5 := key L c c.data.length hh.1 (Nat.le_refl _)
        have h6 := Nat.mul_le_mul_right (2 * c.data.length + 21) hL
        show (c.op ++ (prC L c).1).length ≤ _
        rw [List.length_append]
        omega
      · cases hp
theorem B_end (s : List UInt8) : Om.B s ++ ⟨#[32]⟩ = Om.B (s ++ [32]) := Om.B_append s [32]
theorem B_front (s : List UInt8) : (⟨#[32]⟩ : ByteArray) ++ Om.B s = Om.B (32 :: s) := Om.B_append [32] s
/-- A command in a block of its own. -/
theorem cb_new (w : World) (c : Cd) : Cb (w.alloc (.cells #[.string (Om.B c.op), .int .i64 c.id, .int .i64 c.at_, .int .i64 c.n, .string (Om.B c.data)] 23)) w.heap.size c := heap_alloc_new w _

set_option maxHeartbeats 8000000 in
theorem back_short (c : Cd) (s : List UInt8) (hcd : c.op.length + c.data.length ≤ 1000) (hs : s.length ≤ 1000) (w : World) (hv : Vs w) : Calls Tryd.prog 5 #[cval c, .string (Om.B s)] w fun e w' => e = .returned (.bool true) ∧ Below w.heap.size w w' := by
  obtain ⟨W0, hW0⟩ : ∃ W0, w.alloc (.cells #[.string (Om.B c.op), .int .i64 c.id, .int .i64 c.at_, .int .i64 c.n, .string (Om.B c.data)] 23) = W0 := ⟨_, rfl⟩
  have B0 : Hid (Below w.heap.size w W0) := Lib.hid (by rw [← hW0]; exact (Below.refl _ w).alloc (Nat.le_refl _) _)
  have C0 : Hid (Cb W0 w.heap.size c) := Lib.hid (by rw [← hW0]; exact cb_new w c)
  have V0 := Lib.hid hv
  have P1 : Hid (Calls Tryd.prog 7 #[.agg #[.string (Om.B c.op), .int .i64 c.id, .int .i64 c.at_, .int .i64 c.n, .string (Om.B c.data)]] W0 (PrIs c W0)) := Lib.hid (print_any c (by omega) (by omega) W0 (hv.below B0.out))
  have SZ : Hid (s.length ≤ 1000 ∧ (printCV c).length ≤ 10000) := Lib.hid ⟨hs, by have := printCV_len c; omega⟩
  have e1 : (Om.B c.op).size = c.op.length := rfl
  have e2 : (Om.B c.data).size = c.data.length := rfl
  have e3 : (Om.B s).size = s.length := rfl
  have e4 : ¬ ((1000 : Int) < (c.op.length : Int) + (c.data.length : Int)) := by omega
  have e5 : ¬ ((1000 : Int) < (s.length : Int)) := by omega
  have e6 : wrap64 ((c.op.length : Int) + (c.data.length : Int)) = (c.op.length : Int) + (c.data.length : Int) := by unfold wrap64; omega
  obtain ⟨k0, k1, k2, k3, k4⟩ := ld_cmd C0.out
  clear hv hcd hs
  unfold cval
  go_enter Tryd.func5, Tryd.ntmps5
  go_wp2_with fail
  clear hW0
  refine P1.out.mono ?_
  rintro e w1 ⟨rfl, hb1⟩
  have B1 : Hid (Below w.heap.size w w1) := Lib.hid (B0.out.trans (hb1.mono B0.out.size))
  have C1 := Lib.hid (C0.out.below hb1)
  clear hb1 k0 k1 k2 k3 k4
  cases hp : printC c with
  | none =>
    have q1 : printCV c = [] := by unfold printCV; rw [hp]; rfl
    have q2 : printCE c = 1 := by unfold printCE; rw [hp]; rfl
    have P2 := Lib.hid (parse_any ([] : List UInt8) w1 (V0.out.below B1.out) (by have h := SZ.out.2; rw [q1] at h; omega))
    unfold PCIs at P2
    have g1 : parseCV [] = c0 := rfl
    have g2 : parseCE [] = 32 := rfl
    rw [g1, g2] at P2
    unfold cval c0 at P2
    rw [q1, q2]
    rw [show (Om.B ([] : List UInt8)) = ⟨#[]⟩ from rfl] at P2 ⊢
    clear q1 q2 g1 g2 hp
    go_wp2_with fail
    refine P2.out.mono ?_
    rintro e w2 ⟨rfl, hb2⟩
    have b3 : Below w2.heap.size w2 (w2.alloc (.cells #[.string ⟨#[]⟩, .int .i64 0, .int .i64 0, .int .i64 0, .string ⟨#[]⟩] 23)) := (Below.refl _ w2).alloc (Nat.le_refl _) _
    have B3 : Hid (Below w.heap.size w (w2.alloc (.cells #[.string ⟨#[]⟩, .int .i64 0, .int .i64 0, .int .i64 0, .string ⟨#[]⟩] 23))) := Lib.hid ((B1.out.trans (hb2.mono B1.out.size)).trans (b3.mono (Nat.le_trans B1.out.size hb2.size)))
    clear hb2 b3
    have P3 := Lib.hid (parse_any s (w2.alloc (.cells #[.string ⟨#[]⟩, .int .i64 0, .int .i64 0, .int .i64 0, .string ⟨#[]⟩] 23)) (V0.out.below B3.out) (by have := SZ.out; omega))
    unfold PCIs at P3
    cases hs : parseC s with
    | none =>
      have p1 : parseCV s = c0 := by unfold parseCV; rw [hs]; rfl
      have p2 : parseCE s = 32 := by unfold parseCE; rw [hs]; rfl
      have ZL := parse_sizes s
      rw [p1] at ZL
      rw [p1, p2] at P3
      unfold cval c0 at P3
      rw [show (Om.B ([] : List UInt8)) = ⟨#[]⟩ from rfl] at P3
      have HS := Lib.hid hs
      clear hs p1 p2
      go_wp2_with fail
      refine P3.out.mono ?_
      rintro e w4 ⟨rfl, hb4⟩
      have b5 : Below w4.heap.size w4 (w4.alloc (.cells #[.string ⟨#[]⟩, .int .i64 0, .int .i64 0, .int .i64 0, .string ⟨#[]⟩] 23)) := (Below.refl _ w4).alloc (Nat.le_refl _) _
      have Z5 : Hid ((w4.alloc (.cells #[.string ⟨#[]⟩, .int .i64 0, .int .i64 0, .int .i64 0, .string ⟨#[]⟩] 23)).heap[w4.heap.size]? = some (.cells #[.string ⟨#[]⟩, .int .i64 0, .int .i64 0, .int .i64 0, .string ⟨#[]⟩] 23 (0, 0))) := Lib.hid (heap_alloc_new w4 _)
      have B5 : Hid (Below w.heap.size w (w4.alloc (.cells #[.string ⟨#[]⟩, .int .i64 0, .int .i64 0, .int .i64 0, .string ⟨#[]⟩] 23))) := Lib.hid ((B3.out.trans (hb4.mono B3.out.size)).trans (b5.mono (Nat.le_trans B3.out.size hb4.size)))
      obtain ⟨k0, k1, k2, k3, k4⟩ := ld_cmd Z5.out
      have P4 := Lib.hid (print_any c0 (by have := SZ.out; have := ZL; omega) (by have := SZ.out; have := ZL; omega) (w4.alloc (.cells #[.string ⟨#[]⟩, .int .i64 0, .int .i64 0, .int .i64 0, .string ⟨#[]⟩] 23)) (V0.out.below B5.out))
      unfold PrIs at P4
      have g1 : printCV c0 = [] := rfl
      have g2 : printCE c0 = 1 := rfl
      rw [g1, g2] at P4
      clear g1 g2
      unfold cval c0 at P4
      rw [show (Om.B ([] : List UInt8)) = ⟨#[]⟩ from rfl] at P4
      clear hb4 b5
      go_wp2_with fail
      refine P4.out.mono ?_
      rintro e w6 ⟨rfl, hb6⟩
      have Z6 := Lib.hid ((hb6.block _ (Array.getElem?_eq_some_iff.1 Z5.out).1).trans Z5.out)
      have B6 : Hid (Below w.heap.size w w6) := Lib.hid (B5.out.trans (hb6.mono B5.out.size))
      have P5 := Lib.hid (parse_any (s ++ [32]) w6 (V0.out.below B6.out) (by have := SZ.out; rw [List.length_append]; show s.length + 1 ≤ _; omega))
      unfold PCIs at P5
      rw [← B_end] at P5
      obtain ⟨Y, hY⟩ : ∃ Y, Y = parseCV (s ++ [32]) := ⟨_, rfl⟩
      obtain ⟨E, hE⟩ : ∃ E, E = parseCE (s ++ [32]) := ⟨_, rfl⟩
      rw [← hY, ← hE] at P5
      unfold cval at P5
      clear hb6 k0 k1 k2 k3 k4 hY hE
      go_wp2_with fail
      refine P5.out.mono ?_
      rintro e w7 ⟨rfl, hb7⟩
      have b8 : Below w7.heap.size w7 (w7.alloc (.cells #[.string (Om.B Y.op), .int .i64 Y.id, .int .i64 Y.at_, .int .i64 Y.n, .string (Om.B Y.data)] 23)) := (Below.refl _ w7).alloc (Nat.le_refl _) _
      have Z8 := Lib.hid ((b8.block _ (Nat.lt_of_lt_of_le (Array.getElem?_eq_some_iff.1 Z6.out).1 hb7.size)).trans ((hb7.block _ (Array.getElem?_eq_some_iff.1 Z6.out).1).trans Z6.out))
      have B8 : Hid (Below w.heap.size w (w7.alloc (.cells #[.string (Om.B Y.op), .int .i64 Y.id, .int .i64 Y.at_, .int .i64 Y.n, .string (Om.B Y.data)] 23))) := Lib.hid ((B6.out.trans (hb7.mono B6.out.size)).trans (b8.mono (Nat.le_trans B6.out.size hb7.size)))
      have P6 := Lib.hid (parse_any (32 :: s) (w7.alloc (.cells #[.string (Om.B Y.op), .int .i64 Y.id, .int .i64 Y.at_, .int .i64 Y.n, .string (Om.B Y.data)] 23)) (V0.out.below B8.out) (by have := SZ.out; rw [List.length_cons]; omega))
      unfold PCIs at P6
      rw [← B_front] at P6
      have f1 : parseCV (32 :: s) = c0 := by unfold parseCV; rw [parse_front]; rfl
      have f2 : parseCE (32 :: s) = 32 := by unfold parseCE; rw [parse_front]; rfl
      rw [f1, f2] at P6
      unfold cval c0 at P6
      rw [show (Om.B ([] : List UInt8)) = ⟨#[]⟩ from rfl] at P6
      clear hb7 b8 f1 f2
      go_wp2_with fail
      refine P6.out.mono ?_
      rintro e w9 ⟨rfl, hb9⟩
      have b10 : Below w9.heap.size w9 (w9.alloc (.cells #[.string ⟨#[]⟩, .int .i64 0, .int .i64 0, .int .i64 0, .string ⟨#[]⟩] 23)) := (Below.refl _ w9).alloc (Nat.le_refl _) _
      have Z10 := Lib.hid ((b10.block _ (Nat.lt_of_lt_of_le (Array.getElem?_eq_some_iff.1 Z8.out).1 hb9.size)).trans ((hb9.block _ (Array.getElem?_eq_some_iff.1 Z8.out).1).trans Z8.out))
      have B10 : Hid (Below w.heap.size w (w9.alloc (.cells #[.string ⟨#[]⟩, .int .i64 0, .int .i64 0, .int .i64 0, .string ⟨#[]⟩] 23))) := Lib.hid ((B8.out.trans (hb9.mono B8.out.size)).trans (b10.mono (Nat.le_trans B8.out.size hb9.size)))
      have AL := Lib.hid (alive_any (w9.alloc (.cells #[.string ⟨#[]⟩, .int .i64 0, .int .i64 0, .int .i64 0, .string ⟨#[]⟩] 23)) (V0.out.below B10.out))
      clear hb9 b10
      go_wp2_with fail
      refine AL.out.mono ?_
      rintro e w11 ⟨rfl, hb11⟩
      obtain ⟨k0, k1, k2, k3, k4⟩ := ld_cmd ((hb11.block _ (Array.getElem?_eq_some_iff.1 Z10.out).1).trans Z10.out)
      have B11 : Hid (Below w.heap.size w w11) := Lib.hid (B10.out.trans (hb11.mono B10.out.size))
      clear hb11
      go_wp2
      go_ret
      exact ⟨rfl, B11.out⟩
    | some z =>
      have p1 : parseCV s = z := by unfold parseCV; rw [hs]; rfl
      have p2 : parseCE s = 0 := by unfold parseCE; rw [hs]; rfl
      have ZL := parse_sizes s
      rw [p1] at ZL
      rw [p1, p2] at P3
      unfold cval at P3
      have HS := Lib.hid hs
      clear hs p1 p2
      go_wp2_with fail
      refine P3.out.mono ?_
      rintro e w4 ⟨rfl, hb4⟩
      have b5 : Below w4.heap.size w4 (w4.alloc (.cells #[.string (Om.B z.op), .int .i64 z.id, .int .i64 z.at_, .int .i64 z.n, .string (Om.B z.data)] 23)) := (Below.refl _ w4).alloc (Nat.le_refl _) _
      have Z5 : Hid ((w4.alloc (.cells #[.string (Om.B z.op), .int .i64 z.id, .int .i64 z.at_, .int .i64 z.n, .string (Om.B z.data)] 23)).heap[w4.heap.size]? = some (.cells #[.string (Om.B z.op), .int .i64 z.id, .int .i64 z.at_, .int .i64 z.n, .string (Om.B z.data)] 23 (0, 0))) := Lib.hid (heap_alloc_new w4 _)
      have B5 : Hid (Below w.heap.size w (w4.alloc (.cells #[.string (Om.B z.op), .int .i64 z.id, .int .i64 z.at_, .int .i64 z.n, .string (Om.B z.data)] 23))) := Lib.hid ((B3.out.trans (hb4.mono B3.out.size)).trans (b5.mono (Nat.le_trans B3.out.size hb4.size)))
      obtain ⟨k0, k1, k2, k3, k4⟩ := ld_cmd Z5.out
      have P4 := Lib.hid (print_any z (by have := SZ.out; have := ZL; omega) (by have := SZ.out; have := ZL; omega) (w4.alloc (.cells #[.string (Om.B z.op), .int .i64 z.id, .int .i64 z.at_, .int .i64 z.n, .string (Om.B z.data)] 23)) (V0.out.below B5.out))
      unfold PrIs at P4
      have g1 : printCV z = s := by unfold printCV; rw [print_parse HS.out]; rfl
      have g2 : printCE z = 0 := by unfold printCE; rw [print_parse HS.out]; rfl
      rw [g1, g2] at P4
      clear g1 g2
      unfold cval at P4
      clear hb4 b5
      go_wp2_with fail
      refine P4.out.mono ?_
      rintro e w6 ⟨rfl, hb6⟩
      have Z6 := Lib.hid ((hb6.block _ (Array.getElem?_eq_some_iff.1 Z5.out).1).trans Z5.out)
      have B6 : Hid (Below w.heap.size w w6) := Lib.hid (B5.out.trans (hb6.mono B5.out.size))
      have P5 := Lib.hid (parse_any (s ++ [32]) w6 (V0.out.below B6.out) (by have := SZ.out; rw [List.length_append]; show s.length + 1 ≤ _; omega))
      unfold PCIs at P5
      rw [← B_end] at P5
      obtain ⟨Y, hY⟩ : ∃ Y, Y = parseCV (s ++ [32]) := ⟨_, rfl⟩
      obtain ⟨E, hE⟩ : ∃ E, E = parseCE (s ++ [32]) := ⟨_, rfl⟩
      rw [← hY, ← hE] at P5
      unfold cval at P5
      rw [show E = 32 from by rw [hE]; unfold parseCE; rw [parse_end HS.out]; rfl] at P5
      clear hb6 k0 k1 k2 k3 k4 hY hE
      go_wp2_with fail
      refine P5.out.mono ?_
      rintro e w7 ⟨rfl, hb7⟩
      have b8 : Below w7.heap.size w7 (w7.alloc (.cells #[.string (Om.B Y.op), .int .i64 Y.id, .int .i64 Y.at_, .int .i64 Y.n, .string (Om.B Y.data)] 23)) := (Below.refl _ w7).alloc (Nat.le_refl _) _
      have Z8 := Lib.hid ((b8.block _ (Nat.lt_of_lt_of_le (Array.getElem?_eq_some_iff.1 Z6.out).1 hb7.size)).trans ((hb7.block _ (Array.getElem?_eq_some_iff.1 Z6.out).1).trans Z6.out))
      have B8 : Hid (Below w.heap.size w (w7.alloc (.cells #[.string (Om.B Y.op), .int .i64 Y.id, .int .i64 Y.at_, .int .i64 Y.n, .string (Om.B Y.data)] 23))) := Lib.hid ((B6.out.trans (hb7.mono B6.out.size)).trans (b8.mono (Nat.le_trans B6.out.size hb7.size)))
      have P6 := Lib.hid (parse_any (32 :: s) (w7.alloc (.cells #[.string (Om.B Y.op), .int .i64 Y.id, .int .i64 Y.at_, .int .i64 Y.n, .string (Om.B Y.data)] 23)) (V0.out.below B8.out) (by have := SZ.out; rw [List.length_cons]; omega))
      unfold PCIs at P6
      rw [← B_front] at P6
      have f1 : parseCV (32 :: s) = c0 := by unfold parseCV; rw [parse_front]; rfl
      have f2 : parseCE (32 :: s) = 32 := by unfold parseCE; rw [parse_front]; rfl
      rw [f1, f2] at P6
      unfold cval c0 at P6
      rw [show (Om.B ([] : List UInt8)) = ⟨#[]⟩ from rfl] at P6
      clear hb7 b8 f1 f2
      go_wp2_with fail
      refine P6.out.mono ?_
      rintro e w9 ⟨rfl, hb9⟩
      have b10 : Below w9.heap.size w9 (w9.alloc (.cells #[.string ⟨#[]⟩, .int .i64 0, .int .i64 0, .int .i64 0, .string ⟨#[]⟩] 23)) := (Below.refl _ w9).alloc (Nat.le_refl _) _
      have Z10 := Lib.hid ((b10.block _ (Nat.lt_of_lt_of_le (Array.getElem?_eq_some_iff.1 Z8.out).1 hb9.size)).trans ((hb9.block _ (Array.getElem?_eq_some_iff.1 Z8.out).1).trans Z8.out))
      have B10 : Hid (Below w.heap.size w (w9.alloc (.cells #[.string ⟨#[]⟩, .int .i64 0, .int .i64 0, .int .i64 0, .string ⟨#[]⟩] 23))) := Lib.hid ((B8.out.trans (hb9.mono B8.out.size)).trans (b10.mono (Nat.le_trans B8.out.size hb9.size)))
      have AL := Lib.hid (alive_any (w9.alloc (.cells #[.string ⟨#[]⟩, .int .i64 0, .int .i64 0, .int .i64 0, .string ⟨#[]⟩] 23)) (V0.out.below B10.out))
      clear hb9 b10
      go_wp2_with fail
      refine AL.out.mono ?_
      rintro e w11 ⟨rfl, hb11⟩
      obtain ⟨k0, k1, k2, k3, k4⟩ := ld_cmd ((hb11.block _ (Array.getElem?_eq_some_iff.1 Z10.out).1).trans Z10.out)
      have B11 : Hid (Below w.heap.size w w11) := Lib.hid (B10.out.trans (hb11.mono B10.out.size))
      clear hb11
      go_wp2
      go_ret
      exact ⟨rfl, B11.out⟩

  | some l =>
    have q1 : printCV c = l := by unfold printCV; rw [hp]; rfl
    have q2 : printCE c = 0 := by unfold printCE; rw [hp]; rfl
    have P2 := Lib.hid (parse_any l w1 (V0.out.below B1.out) (by have h := SZ.out.2; rw [q1] at h; omega))
    unfold PCIs at P2
    have g1 : parseCV l = c := (by unfold parseCV; rw [parse_print hp]; rfl)
    have g2 : parseCE l = 0 := (by unfold parseCE; rw [parse_print hp]; rfl)
    rw [g1, g2] at P2
    unfold cval at P2
    rw [q1, q2]
    clear q1 q2 g1 g2 hp
    go_wp2_with fail
    refine P2.out.mono ?_
    rintro e w2 ⟨rfl, hb2⟩
    obtain ⟨W3, hW3⟩ : ∃ W3, w2.alloc (.cells #[.string (Om.B c.op), .int .i64 c.id, .int .i64 c.at_, .int .i64 c.n, .string (Om.B c.data)] 23) = W3 := ⟨_, rfl⟩
    have b3 : Below w2.heap.size w2 W3 := by rw [← hW3]; exact (Below.refl _ w2).alloc (Nat.le_refl _) _
    have B3 : Hid (Below w.heap.size w W3) := Lib.hid ((B1.out.trans (hb2.mono B1.out.size)).trans (b3.mono (Nat.le_trans B1.out.size hb2.size)))
    have Y3 : Hid (W3.heap[w2.heap.size]? = some (.cells #[.string (Om.B c.op), .int .i64 c.id, .int .i64 c.at_, .int .i64 c.n, .string (Om.B c.data)] 23 (0, 0))) := Lib.hid (by rw [← hW3]; exact heap_alloc_new w2 _)
    have C3 := Lib.hid ((C1.out.below hb2).below b3)
    obtain ⟨k0, k1, k2, k3, k4⟩ := ld_cmd C3.out
    obtain ⟨j0, j1, j2, j3, j4⟩ := ld_cmd Y3.out
    clear hb2 b3
    have P3 := Lib.hid (parse_any s W3 (V0.out.below B3.out) (by have := SZ.out; omega))
    unfold PCIs at P3
    cases hs : parseC s with
    | none =>
      have p1 : parseCV s = c0 := by unfold parseCV; rw [hs]; rfl
      have p2 : parseCE s = 32 := by unfold parseCE; rw [hs]; rfl
      have ZL := parse_sizes s
      rw [p1] at ZL
      rw [p1, p2] at P3
      unfold cval c0 at P3
      rw [show (Om.B ([] : List UInt8)) = ⟨#[]⟩ from rfl] at P3
      have HS := Lib.hid hs
      clear hs p1 p2
      go_wp2_with fail
      refine P3.out.mono ?_
      rintro e w4 ⟨rfl, hb4⟩
      have b5 : Below w4.heap.size w4 (w4.alloc (.cells #[.string ⟨#[]⟩, .int .i64 0, .int .i64 0, .int .i64 0, .string ⟨#[]⟩] 23)) := (Below.refl _ w4).alloc (Nat.le_refl _) _
      have Z5 : Hid ((w4.alloc (.cells #[.string ⟨#[]⟩, .int .i64 0, .int .i64 0, .int .i64 0, .string ⟨#[]⟩] 23)).heap[w4.heap.size]? = some (.cells #[.string ⟨#[]⟩, .int .i64 0, .int .i64 0, .int .i64 0, .string ⟨#[]⟩] 23 (0, 0))) := Lib.hid (heap_alloc_new w4 _)
      have B5 : Hid (Below w.heap.size w (w4.alloc (.cells #[.string ⟨#[]⟩, .int .i64 0, .int .i64 0, .int .i64 0, .string ⟨#[]⟩] 23))) := Lib.hid ((B3.out.trans (hb4.mono B3.out.size)).trans (b5.mono (Nat.le_trans B3.out.size hb4.size)))
      obtain ⟨k0, k1, k2, k3, k4⟩ := ld_cmd Z5.out
      have P4 := Lib.hid (print_any c0 (by have := SZ.out; have := ZL; omega) (by have := SZ.out; have := ZL; omega) (w4.alloc (.cells #[.string ⟨#[]⟩, .int .i64 0, .int .i64 0, .int .i64 0, .string ⟨#[]⟩] 23)) (V0.out.below B5.out))
      unfold PrIs at P4
      have g1 : printCV c0 = [] := rfl
      have g2 : printCE c0 = 1 := rfl
      rw [g1, g2] at P4
      clear g1 g2
      unfold cval c0 at P4
      rw [show (Om.B ([] : List UInt8)) = ⟨#[]⟩ from rfl] at P4
      clear hb4 b5
      go_wp2_with fail
      refine P4.out.mono ?_
      rintro e w6 ⟨rfl, hb6⟩
      have Z6 := Lib.hid ((hb6.block _ (Array.getElem?_eq_some_iff.1 Z5.out).1).trans Z5.out)
      have B6 : Hid (Below w.heap.size w w6) := Lib.hid (B5.out.trans (hb6.mono B5.out.size))
      have P5 := Lib.hid (parse_any (s ++ [32]) w6 (V0.out.below B6.out) (by have := SZ.out; rw [List.length_append]; show s.length + 1 ≤ _; omega))
      unfold PCIs at P5
      rw [← B_end] at P5
      obtain ⟨Y, hY⟩ : ∃ Y, Y = parseCV (s ++ [32]) := ⟨_, rfl⟩
      obtain ⟨E, hE⟩ : ∃ E, E = parseCE (s ++ [32]) := ⟨_, rfl⟩
      rw [← hY, ← hE] at P5
      unfold cval at P5
      clear hb6 k0 k1 k2 k3 k4 hY hE
      go_wp2_with fail
      refine P5.out.mono ?_
      rintro e w7 ⟨rfl, hb7⟩
      have b8 : Below w7.heap.size w7 (w7.alloc (.cells #[.string (Om.B Y.op), .int .i64 Y.id, .int .i64 Y.at_, .int .i64 Y.n, .string (Om.B Y.data)] 23)) := (Below.refl _ w7).alloc (Nat.le_refl _) _
      have Z8 := Lib.hid ((b8.block _ (Nat.lt_of_lt_of_le (Array.getElem?_eq_some_iff.1 Z6.out).1 hb7.size)).trans ((hb7.block _ (Array.getElem?_eq_some_iff.1 Z6.out).1).trans Z6.out))
      have B8 : Hid (Below w.heap.size w (w7.alloc (.cells #[.string (Om.B Y.op), .int .i64 Y.id, .int .i64 Y.at_, .int .i64 Y.n, .string (Om.B Y.data)] 23))) := Lib.hid ((B6.out.trans (hb7.mono B6.out.size)).trans (b8.mono (Nat.le_trans B6.out.size hb7.size)))
      have P6 := Lib.hid (parse_any (32 :: s) (w7.alloc (.cells #[.string (Om.B Y.op), .int .i64 Y.id, .int .i64 Y.at_, .int .i64 Y.n, .string (Om.B Y.data)] 23)) (V0.out.below B8.out) (by have := SZ.out; rw [List.length_cons]; omega))
      unfold PCIs at P6
      rw [← B_front] at P6
      have f1 : parseCV (32 :: s) = c0 := by unfold parseCV; rw [parse_front]; rfl
      have f2 : parseCE (32 :: s) = 32 := by unfold parseCE; rw [parse_front]; rfl
      rw [f1, f2] at P6
      unfold cval c0 at P6
      rw [show (Om.B ([] : List UInt8)) = ⟨#[]⟩ from rfl] at P6
      clear hb7 b8 f1 f2
      go_wp2_with fail
      refine P6.out.mono ?_
      rintro e w9 ⟨rfl, hb9⟩
      have b10 : Below w9.heap.size w9 (w9.alloc (.cells #[.string ⟨#[]⟩, .int .i64 0, .int .i64 0, .int .i64 0, .string ⟨#[]⟩] 23)) := (Below.refl _ w9).alloc (Nat.le_refl _) _
      have Z10 := Lib.hid ((b10.block _ (Nat.lt_of_lt_of_le (Array.getElem?_eq_some_iff.1 Z8.out).1 hb9.size)).trans ((hb9.block _ (Array.getElem?_eq_some_iff.1 Z8.out).1).trans Z8.out))
      have B10 : Hid (Below w.heap.size w (w9.alloc (.cells #[.string ⟨#[]⟩, .int .i64 0, .int .i64 0, .int .i64 0, .string ⟨#[]⟩] 23))) := Lib.hid ((B8.out.trans (hb9.mono B8.out.size)).trans (b10.mono (Nat.le_trans B8.out.size hb9.size)))
      have AL := Lib.hid (alive_any (w9.alloc (.cells #[.string ⟨#[]⟩, .int .i64 0, .int .i64 0, .int .i64 0, .string ⟨#[]⟩] 23)) (V0.out.below B10.out))
      clear hb9 b10
      go_wp2_with fail
      refine AL.out.mono ?_
      rintro e w11 ⟨rfl, hb11⟩
      obtain ⟨k0, k1, k2, k3, k4⟩ := ld_cmd ((hb11.block _ (Array.getElem?_eq_some_iff.1 Z10.out).1).trans Z10.out)
      have B11 : Hid (Below w.heap.size w w11) := Lib.hid (B10.out.trans (hb11.mono B10.out.size))
      clear hb11
      go_wp2
      go_ret
      exact ⟨rfl, B11.out⟩
    | some z =>
      have p1 : parseCV s = z := by unfold parseCV; rw [hs]; rfl
      have p2 : parseCE s = 0 := by unfold parseCE; rw [hs]; rfl
      have ZL := parse_sizes s
      rw [p1] at ZL
      rw [p1, p2] at P3
      unfold cval at P3
      have HS := Lib.hid hs
      clear hs p1 p2
      go_wp2_with fail
      refine P3.out.mono ?_
      rintro e w4 ⟨rfl, hb4⟩
      have b5 : Below w4.heap.size w4 (w4.alloc (.cells #[.string (Om.B z.op), .int .i64 z.id, .int .i64 z.at_, .int .i64 z.n, .string (Om.B z.data)] 23)) := (Below.refl _ w4).alloc (Nat.le_refl _) _
      have Z5 : Hid ((w4.alloc (.cells #[.string (Om.B z.op), .int .i64 z.id, .int .i64 z.at_, .int .i64 z.n, .string (Om.B z.data)] 23)).heap[w4.heap.size]? = some (.cells #[.string (Om.B z.op), .int .i64 z.id, .int .i64 z.at_, .int .i64 z.n, .string (Om.B z.data)] 23 (0, 0))) := Lib.hid (heap_alloc_new w4 _)
      have B5 : Hid (Below w.heap.size w (w4.alloc (.cells #[.string (Om.B z.op), .int .i64 z.id, .int .i64 z.at_, .int .i64 z.n, .string (Om.B z.data)] 23))) := Lib.hid ((B3.out.trans (hb4.mono B3.out.size)).trans (b5.mono (Nat.le_trans B3.out.size hb4.size)))
      obtain ⟨k0, k1, k2, k3, k4⟩ := ld_cmd Z5.out
      have P4 := Lib.hid (print_any z (by have := SZ.out; have := ZL; omega) (by have := SZ.out; have := ZL; omega) (w4.alloc (.cells #[.string (Om.B z.op), .int .i64 z.id, .int .i64 z.at_, .int .i64 z.n, .string (Om.B z.data)] 23)) (V0.out.below B5.out))
      unfold PrIs at P4
      have g1 : printCV z = s := by unfold printCV; rw [print_parse HS.out]; rfl
      have g2 : printCE z = 0 := by unfold printCE; rw [print_parse HS.out]; rfl
      rw [g1, g2] at P4
      clear g1 g2
      unfold cval at P4
      clear hb4 b5
      go_wp2_with fail
      refine P4.out.mono ?_
      rintro e w6 ⟨rfl, hb6⟩
      have Z6 := Lib.hid ((hb6.block _ (Array.getElem?_eq_some_iff.1 Z5.out).1).trans Z5.out)
      have B6 : Hid (Below w.heap.size w w6) := Lib.hid (B5.out.trans (hb6.mono B5.out.size))
      have P5 := Lib.hid (parse_any (s ++ [32]) w6 (V0.out.below B6.out) (by have := SZ.out; rw [List.length_append]; show s.length + 1 ≤ _; omega))
      unfold PCIs at P5
      rw [← B_end] at P5
      obtain ⟨Y, hY⟩ : ∃ Y, Y = parseCV (s ++ [32]) := ⟨_, rfl⟩
      obtain ⟨E, hE⟩ : ∃ E, E = parseCE (s ++ [32]) := ⟨_, rfl⟩
      rw [← hY, ← hE] at P5
      unfold cval at P5
      rw [show E = 32 from by rw [hE]; unfold parseCE; rw [parse_end HS.out]; rfl] at P5
      clear hb6 k0 k1 k2 k3 k4 hY hE
      go_wp2_with fail
      refine P5.out.mono ?_
      rintro e w7 ⟨rfl, hb7⟩
      have b8 : Below w7.heap.size w7 (w7.alloc (.cells #[.string (Om.B Y.op), .int .i64 Y.id, .int .i64 Y.at_, .int .i64 Y.n, .string (Om.B Y.data)] 23)) := (Below.refl _ w7).alloc (Nat.le_refl _) _
      have Z8 := Lib.hid ((b8.block _ (Nat.lt_of_lt_of_le (Array.getElem?_eq_some_iff.1 Z6.out).1 hb7.size)).trans ((hb7.block _ (Array.getElem?_eq_some_iff.1 Z6.out).1).trans Z6.out))
      have B8 : Hid (Below w.heap.size w (w7.alloc (.cells #[.string (Om.B Y.op), .int .i64 Y.id, .int .i64 Y.at_, .int .i64 Y.n, .string (Om.B Y.data)] 23))) := Lib.hid ((B6.out.trans (hb7.mono B6.out.size)).trans (b8.mono (Nat.le_trans B6.out.size hb7.size)))
      have P6 := Lib.hid (parse_any (32 :: s) (w7.alloc (.cells #[.string (Om.B Y.op), .int .i64 Y.id, .int .i64 Y.at_, .int .i64 Y.n, .string (Om.B Y.data)] 23)) (V0.out.below B8.out) (by have := SZ.out; rw [List.length_cons]; omega))
      unfold PCIs at P6
      rw [← B_front] at P6
      have f1 : parseCV (32 :: s) = c0 := by unfold parseCV; rw [parse_front]; rfl
      have f2 : parseCE (32 :: s) = 32 := by unfold parseCE; rw [parse_front]; rfl
      rw [f1, f2] at P6
      unfold cval c0 at P6
      rw [show (Om.B ([] : List UInt8)) = ⟨#[]⟩ from rfl] at P6
      clear hb7 b8 f1 f2
      go_wp2_with fail
      refine P6.out.mono ?_
      rintro e w9 ⟨rfl, hb9⟩
      have b10 : Below w9.heap.size w9 (w9.alloc (.cells #[.string ⟨#[]⟩, .int .i64 0, .int .i64 0, .int .i64 0, .string ⟨#[]⟩] 23)) := (Below.refl _ w9).alloc (Nat.le_refl _) _
      have Z10 := Lib.hid ((b10.block _ (Nat.lt_of_lt_of_le (Array.getElem?_eq_some_iff.1 Z8.out).1 hb9.size)).trans ((hb9.block _ (Array.getElem?_eq_some_iff.1 Z8.out).1).trans Z8.out))
      have B10 : Hid (Below w.heap.size w (w9.alloc (.cells #[.string ⟨#[]⟩, .int .i64 0, .int .i64 0, .int .i64 0, .string ⟨#[]⟩] 23))) := Lib.hid ((B8.out.trans (hb9.mono B8.out.size)).trans (b10.mono (Nat.le_trans B8.out.size hb9.size)))
      have AL := Lib.hid (alive_any (w9.alloc (.cells #[.string ⟨#[]⟩, .int .i64 0, .int .i64 0, .int .i64 0, .string ⟨#[]⟩] 23)) (V0.out.below B10.out))
      clear hb9 b10
      go_wp2_with fail
      refine AL.out.mono ?_
      rintro e w11 ⟨rfl, hb11⟩
      obtain ⟨k0, k1, k2, k3, k4⟩ := ld_cmd ((hb11.block _ (Array.getElem?_eq_some_iff.1 Z10.out).1).trans Z10.out)
      have B11 : Hid (Below w.heap.size w w11) := Lib.hid (B10.out.trans (hb11.mono B10.out.size))
      clear hb11
      go_wp2
      go_ret
      exact ⟨rfl, B11.out⟩

end Co
end Go.Proofs.YtdojclhcoboocaaDoor
