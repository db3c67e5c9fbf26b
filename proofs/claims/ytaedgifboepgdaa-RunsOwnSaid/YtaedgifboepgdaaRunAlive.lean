/- The live question. -/
import Derived.Test.YtaedgifboepgdaaRunAny
namespace Go.Proofs.Ytaedgifboepgdaa
namespace Rn
open Go.RowKit Dsk Tb
set_option linter.unusedVariables false
set_option maxRecDepth 100000

theorem told4 : res 2 [(2, 0), (3, 5), (4, 0), (6, 0)] = [[(2, 0), (3, 5)], [(4, 0)], [(6, 0)]] ∧ err 2 [(2, 0), (3, 5), (4, 0), (6, 0)] = 0 := by decide
theorem told9 : hd 9 [(2, 0), (3, 5), (4, 0), (6, 0)] = [(2, 0), (3, 5), (4, 0)] ∧ err 9 [(2, 0), (3, 5), (4, 0), (6, 0)] = 0 := by decide
theorem told2 : res 2 [(3, 5), (2, 0)] = [] ∧ err 2 [(3, 5), (2, 0)] = 1 := by decide
theorem in4 (m : Int) (h0 : -9223372036854775808 ≤ m) (h1 : m ≤ 9223372036854775807) : In m [(2, 0), (3, 5), (4, 0), (6, 0)] 4 4 := ⟨rfl, Nat.le_refl _, fun x hx => by simp at hx; rcases hx with rfl | rfl | rfl | rfl <;> decide, h0, h1, by omega⟩
theorem in2 : In 2 [(3, 5), (2, 0)] 2 2 := ⟨rfl, Nat.le_refl _, fun x hx => by simp at hx; rcases hx with rfl | rfl <;> decide, by omega, by omega, by omega⟩
theorem lit4 (w : World) : REnts (w.alloc (.cells #[.int .i64 2, .int .i64 0, .int .i64 3, .int .i64 5, .int .i64 4, .int .i64 0, .int .i64 6, .int .i64 0] 36)) (some ⟨w.heap.size, 0, none⟩) [(2, 0), (3, 5), (4, 0), (6, 0)] := fun _ => by
  have h := heap_alloc_new w (.cells #[.int .i64 2, .int .i64 0, .int .i64 3, .int .i64 5, .int .i64 4, .int .i64 0, .int .i64 6, .int .i64 0] 36)
  refine ⟨w.heap.size, 0, rfl, by simp, fun i x hx => ?_⟩
  rw [cell_of_row _ _ _ _ _ _ h, cell_of_row _ _ _ _ _ _ h]
  match i, hx with
  | 0, hx => cases hx; exact ⟨rfl, rfl⟩
  | 1, hx => cases hx; exact ⟨rfl, rfl⟩
  | 2, hx => cases hx; exact ⟨rfl, rfl⟩
  | 3, hx => cases hx; exact ⟨rfl, rfl⟩
theorem lit2 (w : World) : REnts (w.alloc (.cells #[.int .i64 3, .int .i64 5, .int .i64 2, .int .i64 0] 36)) (some ⟨w.heap.size, 0, none⟩) [(3, 5), (2, 0)] := fun _ => by
  have h := heap_alloc_new w (.cells #[.int .i64 3, .int .i64 5, .int .i64 2, .int .i64 0] 36)
  refine ⟨w.heap.size, 0, rfl, by simp, fun i x hx => ?_⟩
  rw [cell_of_row _ _ _ _ _ _ h, cell_of_row _ _ _ _ _ _ h]
  match i, hx with
  | 0, hx => cases hx; exact ⟨rfl, rfl⟩
  | 1, hx => cases hx; exact ⟨rfl, rfl⟩
/-- The two exceptions that stand first. -/
structure Lt (w : World) (b : Nat) (W : World) : Prop where
  lt : b < W.heap.size
  c0 : W.cell? ⟨b, 0, none⟩ = some (.int .i64 2)
  c1 : W.cell? ⟨b, 1, none⟩ = some (.int .i64 0)
  c2 : W.cell? ⟨b, 2, none⟩ = some (.int .i64 3)
  c3 : W.cell? ⟨b, 3, none⟩ = some (.int .i64 5)
theorem Lt.next {w W W' : World} {b : Nat} (h : Lt w b W) (hb : Below W.heap.size W W') : Lt w b W' :=
  ⟨Nat.lt_of_lt_of_le h.lt hb.size, (hb.cell (p := ⟨b, 0, none⟩) h.lt).trans h.c0, (hb.cell (p := ⟨b, 1, none⟩) h.lt).trans h.c1, (hb.cell (p := ⟨b, 2, none⟩) h.lt).trans h.c2, (hb.cell (p := ⟨b, 3, none⟩) h.lt).trans h.c3⟩
theorem lit_lt (w : World) : Lt w w.heap.size (w.alloc (.cells #[.int .i64 2, .int .i64 0, .int .i64 3, .int .i64 5, .int .i64 4, .int .i64 0, .int .i64 6, .int .i64 0] 36)) := by
  have h := heap_alloc_new w (.cells #[.int .i64 2, .int .i64 0, .int .i64 3, .int .i64 5, .int .i64 4, .int .i64 0, .int .i64 6, .int .i64 0] 36)
  refine ⟨by simp, ?_, ?_, ?_, ?_⟩ <;> (rw [cell_of_row _ _ _ _ _ _ h]; rfl)
set_option maxHeartbeats 2000000 in
theorem alive_any (w : World) : Calls Try.prog 6 #[] w fun e w' => e = .returned (.bool true) ∧ Below w.heap.size w w' := by
  have K1 : Hid (∀ (W : World) (p : Option Addr), REnts W p [(2, 0), (3, 5), (4, 0), (6, 0)] → Calls Try.prog 7 #[.int .i64 2, .slice p 4 4] W fun e w' => ∃ v vs, e = .returned (.tuple #[v, .int .i64 0]) ∧ Rows w' W.heap.size v vs [[(2, 0), (3, 5)], [(4, 0)], [(6, 0)]] ∧ Below W.heap.size W w') := fun W p h => by
    have := of_any (in4 2 (by omega) (by omega)) p W h
    rw [told4.1, told4.2] at this
    exact this
  have K2 : Hid (∀ (W : World) (p : Option Addr), REnts W p [(2, 0), (3, 5), (4, 0), (6, 0)] → Calls Try.prog 9 #[.int .i64 9, .slice p 4 4] W fun e w' => ∃ p k d, e = .returned (.tuple #[.slice p k d, .int .i64 0]) ∧ k = 3 ∧ Below W.heap.size W w') := fun W p h => by
    have := first_any (in4 9 (by omega) (by omega)) p W h
    rw [told9.1, told9.2] at this
    exact this.mono fun e w' ⟨p, k, d, h1, h2, _, h3⟩ => ⟨p, k, d, h1, h2, h3⟩
  have K3 : Hid (∀ (W : World) (p : Option Addr), REnts W p [(3, 5), (2, 0)] → Calls Try.prog 7 #[.int .i64 2, .slice p 2 2] W fun e w' => e = .returned (.tuple #[.slice none 0 0, .int .i64 1]) ∧ Below W.heap.size W w') := fun W p h => of_no in2 p W h (by decide)
  obtain ⟨A, hA⟩ : ∃ A, w.alloc (.cells #[.int .i64 2, .int .i64 0, .int .i64 3, .int .i64 5, .int .i64 4, .int .i64 0, .int .i64 6, .int .i64 0] 36) = A := ⟨_, rfl⟩
  have HB : Hid (Below w.heap.size w A) := by rw [← hA]; exact below_new _ _
  have HL : Hid (REnts A (some ⟨w.heap.size, 0, none⟩) [(2, 0), (3, 5), (4, 0), (6, 0)]) := by rw [← hA]; exact lit4 w
  have HT : Hid (Lt w w.heap.size A) := by rw [← hA]; exact lit_lt w
  go_enter Try.func6, Try.ntmps6
  go_wp2_with fail
  clear hA
  refine (K1.out _ _ HL.out).mono ?_
  rintro e w1 ⟨v, vs, rfl, hr, hb⟩
  have HR1 := Lib.hid hr
  obtain ⟨va, vc, rfl⟩ := hr.value
  have HB1 := Lib.hid (HB.out.trans (hb.mono HB.out.size))
  have HL1 := Lib.hid (HL.out.below hb)
  have HT1 := Lib.hid (HT.out.next hb)
  clear hr hb K1
  go_wp2_with fail
  refine (K2.out _ _ HL1.out).mono ?_
  rintro e w2 ⟨p, k, d, rfl, rfl, hb⟩
  have HB2 := Lib.hid (HB1.out.trans (hb.mono HB1.out.size))
  have HT2 := Lib.hid (HT1.out.next hb)
  have HR2 := Lib.hid (HR1.out.next hb)
  have KP : Hid (∀ W, Below w2.heap.size w2 W → W.cell? ⟨w.heap.size, 0, none⟩ = some (.int .i64 2) ∧ W.cell? ⟨w.heap.size, 1, none⟩ = some (.int .i64 0) ∧ W.cell? ⟨w.heap.size, 2, none⟩ = some (.int .i64 3) ∧ W.cell? ⟨w.heap.size, 3, none⟩ = some (.int .i64 5)) := Lib.hid fun W hW => by
    have := HT2.out.next hW
    exact ⟨this.c0, this.c1, this.c2, this.c3⟩
  obtain ⟨s0, s1, s2, s3⟩ := KP.out _ (Below.refl _ _)
  have L2 : Hid (REnts (w2.alloc (.cells #[.int .i64 3, .int .i64 5, .int .i64 2, .int .i64 0] 36)).drew (some ⟨w2.heap.size, 0, none⟩) [(3, 5), (2, 0)]) := Lib.hid ((lit2 w2).below (Below.refl _ _).drew)
  have B2A : Hid (Below w2.heap.size w2 (w2.alloc (.cells #[.int .i64 3, .int .i64 5, .int .i64 2, .int .i64 0] 36)).drew) := Lib.hid (below_new _ _).drew
  clear hb K2
  go_wp2_with fail
  go_region_held3 (fun w' => w'.cell? ⟨w.heap.size, 0, none⟩ = some (.int .i64 2) ∧ w'.cell? ⟨w.heap.size, 1, none⟩ = some (.int .i64 0) ∧ w'.cell? ⟨w.heap.size, 2, none⟩ = some (.int .i64 3) ∧ w'.cell? ⟨w.heap.size, 3, none⟩ = some (.int .i64 5))
    (first | go_keep | (refine ⟨?_, ?_, ?_, ?_⟩ <;> assumption) | (exact KP.out _ BX.out) | (exact KP.out _ B2A.out) | (exact KP.out _ ((Below.refl _ _).drew.alloc (Nat.le_refl _) _)))
    (first | (go_at_call 7; refine (K3.out _ _ L2.out).mono ?_; rintro e w3 ⟨rfl, hb3⟩; have BX : Hid (Below w2.heap.size w2 w3) := B2A.out.trans (hb3.mono B2A.out.size); clear hb3))
  have HB3 := Lib.hid (HB2.out.trans (BX.out.mono HB2.out.size))
  have hr3 := HR2.out.next BX.out
  obtain ⟨xb, xc, xp, xd, hv, _, _, c0, _, _, hre⟩ := hr3.get (i := 0) (r := [(2, 0), (3, 5)]) rfl
  injection hv with hv1 hv2 hv3
  subst hv1
  obtain ⟨pb, poff, hp, _, hc⟩ := hre (by simp)
  subst hp
  have c1 := (hc 1 (3, 5) rfl).2
  have c1 : w3.cell? ⟨pb, poff + 2 + 1, none⟩ = some (.int .i64 5) := c1
  have c2 : w3.cell? ⟨pb, poff + 3, none⟩ = some (.int .i64 5) := c1
  clear hv2 hv3 hc hre hr3
  go_wp2_with fail
  go_ret
  exact ⟨rfl, HB3.out⟩
end Rn
end Go.Proofs.Ytaedgifboepgdaa
