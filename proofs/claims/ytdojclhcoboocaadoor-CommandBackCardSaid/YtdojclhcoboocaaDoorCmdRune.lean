/- The contract of strings.IndexRune at the figures of bytes. -/
import Derived.Test.YtdojclhcoboocaaDoorCmdNum
import Derived.Shelf.Small.Utf8
import Derived.Shelf.Small.Strs
import Derived.Laws.Runes
import Derived.Scope
import Derived.Deep.RegionWith
namespace Go.Proofs.YtdojclhcoboocaaDoor
namespace Co
open Go.RowKit Go.Lib Pd
set_option maxRecDepth 100000
set_option linter.unusedVariables false

/-- The figures. -/
def figs : ByteArray := ⟨#[48, 49, 50, 51, 52, 53, 54, 55, 56, 57, 97, 98, 99, 100, 101, 102]⟩
theorem figs_low : ∀ (j : Nat) (h : j < figs.size), (figs[j]'h).toNat < 128 := by decide
theorem ibyte_none : ∀ (l : List UInt8) (c : UInt8), (∀ b ∈ l, b ≠ c) → Lib.indexByte l c = -1
  | [], c, _ => rfl
  | b :: l, c, h => by
    have h1 : (b == c) = false := by rw [beq_eq_false_iff_ne]; exact h b (List.mem_cons_self ..)
    unfold Lib.indexByte
    rw [ibyte_none l c fun d hd => h d (List.mem_cons_of_mem _ hd)]
    simp [h1]
theorem indexbyte_fig (a : Nat) (c : UInt8) (hc : 128 ≤ c.toNat) (w : World) :
    Calls Tryd.prog 42 #[.string (figs.extract a 16), .int .u8 c.toNat] w fun e w' => e = .returned (.int .i64 (-1)) ∧ w = w' := by
  refine (Any.strings_IndexByte { cmr_Lays152 with } (figs.extract a 16) (c.toNat : Int) w).mono ?_
  rintro e w' ⟨rfl, rfl⟩
  refine ⟨?_, rfl⟩
  have e1 : ((c.toNat : Int)).toNat.toUInt8 = c := by simp
  rw [e1, ibyte_none _ _ fun b hb => ?_]
  have hm : b ∈ figs.data.toList := mem_extract hb
  have : b.toNat < 128 := by
    have h : ∀ b ∈ figs.data.toList, b.toNat < 128 := by decide
    exact h b hm
  intro e
  rw [e] at this
  omega
/-- What is asked at a return, and nothing else comes to pass. -/
def retOnly (Q : Exit → Act → World → Prop) : Exit → Act → World → Prop
  | .ret, a, w => Q .ret a w
  | _, _, _ => False
theorem wp_scope_ret {P : Program} {Q : Exit → Act → World → Prop} {a : Act} {w : World} {c : Code} (h : c.wp P (retOnly Q) a w) : (Code.scope c).wp P Q a w :=
  wp_scope_straight (wp_mono h fun e a w hh => by cases e <;> first | exact hh | exact hh.elim)
set_option maxHeartbeats 2000000 in
theorem indexrune_high (r : Nat) (hr : 128 ≤ r) (hr2 : r ≤ 2147483647) (w : World) : Calls Tryd.prog 34 #[.string figs, .int .i32 r] w fun e w' => e = .returned (.int .i64 (-1)) ∧ Below w.heap.size w w' := by
  have FL := Lib.hid figs_low
  have d0 : decide (0 ≤ (r : Int)) = true := by simp
  have d1 : decide ((r : Int) < 128) = false := by simp; omega
  obtain ⟨G, hG⟩ : ∃ G, G = figs := ⟨_, rfl⟩
  have GG := Lib.hid hG
  have hsz : G.size = 16 := by rw [hG]; rfl
  rw [← hG] at FL ⊢
  clear hG
  by_cases he : r = 65533
  · subst he
    go_enter Tryd.func34, Tryd.ntmps34
    go_wp2_with fail
    go_loopw [] (fun wr => ∃ pos : Nat, pos ≤ 16 ∧ wr = w.iter G pos) (fun wr => 16 - wr.iterPos w.heap.size)
    case atStart => exact ⟨0, Nat.zero_le _, rfl⟩
    case round =>
      obtain ⟨pos, hp, rfl⟩ := hrel
      by_cases hlt : pos < 16
      · have hps : pos < G.size := by rw [hsz]; exact hlt
        have hlow := FL.out pos hps
        obtain ⟨c, hc⟩ : ∃ c, c = (G[pos]'hps).toNat := ⟨_, rfl⟩
        have hdec : Utf8.decode G pos = (c, 1) := by rw [decode_ascii G pos hps hlow, hc]
        have hnx : ∀ ty, (Instr.next (.pointer (some ⟨w.heap.size, 0, none⟩)) true ty).run Tryd.prog (w.iter G pos) = .ok (.tuple #[.bool true, .int .i64 pos, .int .i32 c]) (w.iter G (pos + 1)) := fun ty => by
          rw [run_next_any w G pos ty hps, hdec]
        have hne : ((c : Int) == 65533) = false := by rw [beq_eq_false_iff_ne]; omega
        clear hdec hps hc hlow
        go_wp2_with fail
        go_roundw
        case rel => exact ⟨pos + 1, by omega, rfl⟩
        case measure => simp; omega
      · obtain rfl : pos = 16 := by omega
        have hnx : ∀ ty, (Instr.next (.pointer (some ⟨w.heap.size, 0, none⟩)) true ty).run Tryd.prog (w.iter G 16) = _ := fun ty => run_next_end w G 16 ty (by rw [hsz]; omega)
        go_wp2_with fail
        go_ret
        exact ⟨rfl, iter_below _ _ _⟩
  · have hne : ((r : Int) == 65533) = false := by rw [beq_eq_false_iff_ne]; omega
    have VR := Lib.hid (fun W => Any.utf8_ValidRune { cmr_Lays152 with } (r : Int) W)
    cases hv : Lib.validRune (r : Int) with
    | false =>
      rw [hv] at VR
      clear hv
      go_enter Tryd.func34, Tryd.ntmps34
      go_wp2_with fail
      refine (VR.out _).mono ?_
      rintro e w1 ⟨rfl, rfl⟩
      go_wp2
      go_ret
      exact ⟨rfl, Below.refl _ _⟩
    | true =>
      rw [hv] at VR
      obtain ⟨s1, s2, s3⟩ := encode_facts (r : Int) (by rw [validRune_eq]; exact hv) (by omega)
      have hcv : (convert 21 9 (.int .i32 (r : Int))).run Tryd.prog w = .ok (.string (Utf8.encode (r : Int))) w := run_convert_int_string w 21 9 .i32 (r : Int) (by kernel_rfl) (by kernel_rfl)
      obtain ⟨E, hE⟩ : ∃ E, E = Utf8.encode (r : Int) := ⟨_, rfl⟩
      rw [← hE] at s1 s2 s3 hcv
      obtain ⟨k, hk⟩ : ∃ k, E.size = k + 1 := ⟨E.size - 1, by omega⟩
      have hkl : k < E.size := by omega
      obtain ⟨c, hc⟩ : ∃ c, c = E[k]'hkl := ⟨_, rfl⟩
      have hc' : E[k]'hkl = c := hc.symm
      have hc128 : 128 ≤ c.toNat := by
        rw [hc]
        have := s3 (by omega)
        have e : E.size - 1 = k := by omega
        simp only [e] at this
        exact this
      have IB : Hid (∀ a W, Calls Tryd.prog 42 #[.string (G.extract a 16), .int .u8 c.toNat] W fun e w' => e = .returned (.int .i64 (-1)) ∧ W = w') := Lib.hid fun a W => by rw [GG.out]; exact indexbyte_fig a c hc128 W
      have k3 : k = 1 ∨ k = 2 ∨ k = 3 := by omega
      clear hv s1 s2 s3 hE hc
      rcases k3 with rfl | rfl | rfl
      · obtain ⟨b, hb⟩ : ∃ b, G[1]'(by omega) = b := ⟨_, rfl⟩
        have gb := FL.out 1 (by omega)
        rw [hb] at gb
        have nbc : ((b.toNat : Int) == (c.toNat : Int)) = false := by rw [beq_eq_false_iff_ne]; omega
        have I2 : Hid (∀ W, Calls Tryd.prog 42 #[.string (G.extract 2 16), .int .u8 c.toNat] W fun e w' => e = .returned (.int .i64 (-1)) ∧ w' = W) := Lib.hid (fun W => (IB.out 2 W).mono fun e w' h => ⟨h.1, h.2.symm⟩)
        have hsl : ∀ W, (Instr.slice 9 (.string G) (some (.int .i64 2)) none none).run Tryd.prog W = .ok (.string (G.extract 2 16)) W := fun W => by
          have h := run_slice_string_l (P := Tryd.prog) (w := W) (s := G) (t := 9) Tryd.underlying9 .i64 2 (by omega) (by omega)
          rw [hsz] at h
          exact h
        go_enter Tryd.func34, Tryd.ntmps34
        go_wp2_with fail
        refine (VR.out _).mono ?_
        rintro e w1 ⟨rfl, rfl⟩
        go_wp2_with fail
        go_wp2
        refine wp_scope_ret ?_
        go_wp2
        refine wp_loop_rounds 1 ?_
        rw [rounds_succ]
        go_wp2
        repeat (first | (refine wp_scope_ret ?_) | (apply wp_seq))
        go_quiet (fail)
        go_wp2
        repeat (first | (refine wp_scope_ret ?_) | (apply wp_seq))
        go_region_with (go_at_call 42; refine (I2.out _).mono ?_; rintro e w2 ⟨rfl, rfl⟩)
        all_goals
          go_wp2
          simp only [retOnly, Exit.inBlock, Exit.then]
          go_ret
          exact ⟨rfl, by first | exact (below_drewN (Below.refl _ _) _).drew | exact below_drewN (Below.refl _ _) _ | exact ((Below.refl _ _).drew).drew | exact below_drewN (Below.refl _ _) (_ + 1)⟩
      · obtain ⟨b, hb⟩ : ∃ b, G[2]'(by omega) = b := ⟨_, rfl⟩
        have gb := FL.out 2 (by omega)
        rw [hb] at gb
        have nbc : ((b.toNat : Int) == (c.toNat : Int)) = false := by rw [beq_eq_false_iff_ne]; omega
        have I2 : Hid (∀ W, Calls Tryd.prog 42 #[.string (G.extract 3 16), .int .u8 c.toNat] W fun e w' => e = .returned (.int .i64 (-1)) ∧ w' = W) := Lib.hid (fun W => (IB.out 3 W).mono fun e w' h => ⟨h.1, h.2.symm⟩)
        have hsl : ∀ W, (Instr.slice 9 (.string G) (some (.int .i64 3)) none none).run Tryd.prog W = .ok (.string (G.extract 3 16)) W := fun W => by
          have h := run_slice_string_l (P := Tryd.prog) (w := W) (s := G) (t := 9) Tryd.underlying9 .i64 3 (by omega) (by omega)
          rw [hsz] at h
          exact h
        go_enter Tryd.func34, Tryd.ntmps34
        go_wp2_with fail
        refine (VR.out _).mono ?_
        rintro e w1 ⟨rfl, rfl⟩
        go_wp2_with fail
        go_wp2
        refine wp_scope_ret ?_
        go_wp2
        refine wp_loop_rounds 1 ?_
        rw [rounds_succ]
        go_wp2
        repeat (first | (refine wp_scope_ret ?_) | (apply wp_seq))
        go_quiet (fail)
        go_wp2
        repeat (first | (refine wp_scope_ret ?_) | (apply wp_seq))
        go_region_with (go_at_call 42; refine (I2.out _).mono ?_; rintro e w2 ⟨rfl, rfl⟩)
        all_goals
          go_wp2
          simp only [retOnly, Exit.inBlock, Exit.then]
          go_ret
          exact ⟨rfl, by first | exact (below_drewN (Below.refl _ _) _).drew | exact below_drewN (Below.refl _ _) _ | exact ((Below.refl _ _).drew).drew | exact below_drewN (Below.refl _ _) (_ + 1)⟩
      · obtain ⟨b, hb⟩ : ∃ b, G[3]'(by omega) = b := ⟨_, rfl⟩
        have gb := FL.out 3 (by omega)
        rw [hb] at gb
        have nbc : ((b.toNat : Int) == (c.toNat : Int)) = false := by rw [beq_eq_false_iff_ne]; omega
        have I2 : Hid (∀ W, Calls Tryd.prog 42 #[.string (G.extract 4 16), .int .u8 c.toNat] W fun e w' => e = .returned (.int .i64 (-1)) ∧ w' = W) := Lib.hid (fun W => (IB.out 4 W).mono fun e w' h => ⟨h.1, h.2.symm⟩)
        have hsl : ∀ W, (Instr.slice 9 (.string G) (some (.int .i64 4)) none none).run Tryd.prog W = .ok (.string (G.extract 4 16)) W := fun W => by
          have h := run_slice_string_l (P := Tryd.prog) (w := W) (s := G) (t := 9) Tryd.underlying9 .i64 4 (by omega) (by omega)
          rw [hsz] at h
          exact h
        go_enter Tryd.func34, Tryd.ntmps34
        go_wp2_with fail
        refine (VR.out _).mono ?_
        rintro e w1 ⟨rfl, rfl⟩
        go_wp2_with fail
        go_wp2
        refine wp_scope_ret ?_
        go_wp2
        refine wp_loop_rounds 1 ?_
        rw [rounds_succ]
        go_wp2
        repeat (first | (refine wp_scope_ret ?_) | (apply wp_seq))
        go_quiet (fail)
        go_wp2
        repeat (first | (refine wp_scope_ret ?_) | (apply wp_seq))
        go_region_with (go_at_call 42; refine (I2.out _).mono ?_; rintro e w2 ⟨rfl, rfl⟩)
        all_goals
          go_wp2
          simp only [retOnly, Exit.inBlock, Exit.then]
          go_ret
          exact ⟨rfl, by first | exact (below_drewN (Below.refl _ _) _).drew | exact below_drewN (Below.refl _ _) _ | exact ((Below.refl _ _).drew).drew | exact below_drewN (Below.refl _ _) (_ + 1)⟩
end Co
end Go.Proofs.YtdojclhcoboocaaDoor
