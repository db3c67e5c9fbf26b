/- The contract of head's Encode. -/
import Derived.Test.YtpocafiihdnnlaaHeadCode
namespace Go.Proofs.Ytpocafiihdnnlaa
open Go.RowKit
set_option linter.unusedVariables false

/-- A head in a box. -/
structure Bx (W : World) (k : Nat) (g : Nat) (c p : Int) (b : Bool) : Prop where
  lt : k < W.heap.size
  c0 : W.cell? ⟨k, 0, none⟩ = some (.int .u32 (g : Int))
  c1 : W.cell? ⟨k, 1, none⟩ = some (.int .i64 c)
  c2 : W.cell? ⟨k, 2, none⟩ = some (.int .i64 p)
  c3 : W.cell? ⟨k, 3, none⟩ = some (.bool b)
theorem Bx.below {W W' : World} {k g : Nat} {c p : Int} {b : Bool} {B : Nat} (h : Bx W k g c p b) (hk : k < B) (hb : Below B W W') : Bx W' k g c p b :=
  ⟨Nat.lt_of_lt_of_le h.lt hb.size, (hb.cell (p := ⟨k, 0, none⟩) hk).trans h.c0, (hb.cell (p := ⟨k, 1, none⟩) hk).trans h.c1, (hb.cell (p := ⟨k, 2, none⟩) hk).trans h.c2, (hb.cell (p := ⟨k, 3, none⟩) hk).trans h.c3⟩
theorem Bx.next {W W' : World} {k g : Nat} {c p : Int} {b : Bool} (h : Bx W k g c p b) (hb : Below W.heap.size W W') : Bx W' k g c p b := h.below h.lt hb
theorem bx_row {W : World} {k g : Nat} {c p : Int} {b : Bool} {t : TypeId} (h : W.heap[k]? = some (.cells #[.int .u32 (g : Int), .int .i64 c, .int .i64 p, .bool b] t (0, 0))) : Bx W k g c p b :=
  ⟨(Array.getElem?_eq_some_iff.1 h).1, by rw [cell_of_row _ _ _ _ _ _ h]; rfl, by rw [cell_of_row _ _ _ _ _ _ h]; rfl, by rw [cell_of_row _ _ _ _ _ _ h]; rfl, by rw [cell_of_row _ _ _ _ _ _ h]; rfl⟩
theorem bx_alloc (w : World) (g : Nat) (c p : Int) (b : Bool) (t : TypeId) : Bx (w.alloc (.cells #[.int .u32 (g : Int), .int .i64 c, .int .i64 p, .bool b] t)) w.heap.size g c p b := bx_row (heap_alloc_new w _)

theorem henc_no (g : Nat) (c p : Int) (b : Bool) (w : World) (hok : Hm.okH g c p = false) :
    Calls Try.prog 6 #[Hv g c p b] w fun e w' => e = .returned (.tuple #[.string (Om.B []), .int .i64 1]) ∧ Below w.heap.size w w' := by
  have R := Lib.hid (fun w1 => hright_any g c p b w1)
  rw [hok] at R
  have BX := Lib.hid (bx_alloc w g c p b 24)
  have HB : Hid (Below w.heap.size w (w.alloc (.cells #[.int .u32 (g : Int), .int .i64 c, .int .i64 p, .bool b] 24))) := (Below.refl _ w).alloc (Nat.le_refl _) _
  unfold Hv at R ⊢
  clear hok
  go_enter Try.func6, Try.ntmps6
  go_wp2_with fail
  refine (R.out _).mono ?_
  rintro e w1 ⟨rfl, hb⟩
  have HB1 := Lib.hid (HB.out.trans (hb.mono HB.out.size))
  clear hb
  go_wp2
  go_ret2
  exact ⟨rfl, HB1.out⟩

theorem hsizes_at (w : World) : Calls Try.prog 14 #[] w fun e w' => ∃ k, e = .returned (.slice (some ⟨k, 0, none⟩) 4 4) ∧ Row w' w'.heap.size (some ⟨k, 0, none⟩) 4 (szs Hm.zs) ∧ Below w.heap.size w w' :=
  (hsizes_any w).mono fun e w' h => ⟨w.heap.size, h⟩

/-- The numbers' row, just made. -/
def ncell (g c p : Nat) (b : Bool) : Obj := .cells #[.int .u64 (IntKind.u64.wrap (g : Int)), .int .u64 (IntKind.u64.wrap (c : Int)), .int .u64 (IntKind.u64.wrap (p : Int)), .int .u64 ((Hm.bit b : Nat) : Int)] 39
theorem nums_eq (g c p : Nat) (b : Bool) : Hm.nums g c p b = [g, c, p, Hm.bit b] := by unfold Hm.nums; rw [Int.toNat_natCast, Int.toNat_natCast]
theorem nums_row (g c p : Nat) (b : Bool) (W : World) (hg : g < 4294967296) (hc : c ≤ 128) (hp : p ≤ 1048576) : Row (W.alloc (ncell g c p b)) (W.alloc (ncell g c p b)).heap.size (some ⟨W.heap.size, 0, none⟩) 4 (nbs (Hm.nums g c p b)) := fun _ =>
  ⟨W.heap.size, 0, rfl, by simp, fun i hi => by
    have h := heap_alloc_new W (ncell g c p b)
    have e1 : IntKind.u64.wrap (g : Int) = (g : Int) := IntWalk.u64_in _ (by omega)
    have e2 : IntKind.u64.wrap (c : Int) = (c : Int) := IntWalk.u64_in _ (by omega)
    have e3 : IntKind.u64.wrap (p : Int) = (p : Int) := IntWalk.u64_in _ (by omega)
    unfold ncell at h ⊢
    rw [e1, e2, e3] at h ⊢
    rw [cell_of_row _ _ _ _ _ _ h, nums_eq]
    match i, hi with
    | 0, _ => rfl
    | 1, _ => rfl
    | 2, _ => rfl
    | 3, _ => rfl⟩
theorem nums_lt (g c p : Nat) (b : Bool) (hg : g < 4294967296) (hc : c ≤ 128) (hp : p ≤ 1048576) (i : Nat) : (Hm.nums g c p b).getD i 0 < 18446744073709551616 := by
  have hb := Hm.bit_le b
  rw [nums_eq]
  match i with
  | 0 => show g < _; omega
  | 1 => show c < _; omega
  | 2 => show p < _; omega
  | 3 => show Hm.bit b < _; omega
  | j + 4 => show 0 < _; omega
theorem hjoin_at (g c p : Nat) (b : Bool) (hg : g < 4294967296) (hok : Hm.okH g c p = true) (W : World) (ks : Nat) (hr : Row W W.heap.size (some ⟨ks, 0, none⟩) 4 (szs Hm.zs)) :
    Calls Try.prog 13 #[.slice (some ⟨ks, 0, none⟩) 4 4, .slice (some ⟨W.heap.size, 0, none⟩) 4 4] (W.alloc (ncell g c p b)) fun e w' => e = .returned (.tuple #[.string (Om.B (Om.joined Hm.zs (Hm.nums g c p b) 4)), .int .i64 0]) ∧ Below W.heap.size W w' := by
  obtain ⟨k1, k2, k3, k4, k5⟩ := (Hm.okH_iff _ _ _).1 hok
  have hb : Below W.heap.size W (W.alloc (ncell g c p b)) := (Below.refl _ W).alloc (Nat.le_refl _) _
  have hj := Hm.join_is g c p b hg hok
  have hl : (Hm.nums g c p b).length = 4 := rfl
  refine (join_any Hm.zs (Hm.nums g c p b) _ _ _ 4 4 4 4 _ rfl hl (by omega) (by omega) (Nat.le_refl _) ((hr.below hb).more hb.size) (nums_row g c p b W hg (by omega) (by omega)) (nums_lt g c p b hg (by omega) (by omega))).mono ?_
  rw [hj.1, hj.2]
  rintro e w' ⟨he, hb'⟩
  exact ⟨he, hb.trans (hb'.mono hb.size)⟩
theorem hseal64 (l : List UInt8) (w : World) (h : l.length ≤ 60) :
    Calls Try.prog 16 #[.string (Om.B l), .int .i64 64] w fun e w' => e = .returned (.tuple #[.string (Om.B (sealed l 60)), .int .i64 0]) ∧ Below w.heap.size w w' := seal_ok l 60 w (by omega) h

set_option maxHeartbeats 800000 in
theorem henc_ok (g c p : Nat) (b : Bool) (w : World) (hg : g < 4294967296) (hok : Hm.okH g c p = true) :
    Calls Try.prog 6 #[Hv g c p b] w fun e w' => e = .returned (.tuple #[.string (Om.B (Hm.sector g c p b)), .int .i64 0]) ∧ Below w.heap.size w w' := by
  obtain ⟨k1, k2, k3, k4, k5⟩ := (Hm.okH_iff _ _ _).1 hok
  have R := Lib.hid (fun w1 => hright_any g c p b w1)
  rw [hok] at R
  have BX0 := Lib.hid (bx_alloc w g c p b 24)
  have HB : Hid (Below w.heap.size w (w.alloc (.cells #[.int .u32 (g : Int), .int .i64 (c : Int), .int .i64 (p : Int), .bool b] 24))) := (Below.refl _ w).alloc (Nat.le_refl _) _
  obtain ⟨W0, hW0⟩ : ∃ W0, w.alloc (.cells #[.int .u32 (g : Int), .int .i64 (c : Int), .int .i64 (p : Int), .bool b] 24) = W0 := ⟨_, rfl⟩
  rw [hW0] at HB BX0
  obtain ⟨lt0, a0, a1, a2, a3⟩ := BX0.out
  have SZ := Lib.hid hsizes_at
  have J := Lib.hid (hjoin_at g c p b hg hok)
  obtain ⟨body, hbody⟩ : ∃ l, l = Om.joined Hm.zs (Hm.nums g c p b) 4 := ⟨_, rfl⟩
  have hbl : body.length = 11 := by rw [hbody, Om.joined_length Hm.zs _ 4 (by decide)]; exact Hm.zs_off
  have hsec : Hm.sector g c p b = sealed (Hm.ts ++ body) 60 := by rw [hbody]; rfl
  have SL := Lib.hid (fun w1 => hseal64 (Hm.ts ++ body) w1 (by rw [List.length_append, hbl]; decide))
  have hcat := no_over Hm.ts body (by rw [hbl]; decide)
  have hap : (⟨#[79, 65, 75, 72]⟩ : ByteArray) ++ Om.B body = Om.B (Hm.ts ++ body) := Om.B_append Hm.ts body
  rw [← hbody] at J
  rw [hsec]
  unfold ncell at J
  unfold Hv at R ⊢
  clear hok hbody hsec hbl
  go_enter Try.func6, Try.ntmps6
  go_wp2_with fail
  clear hW0
  refine (R.out _).mono ?_
  rintro e w1 ⟨rfl, hb⟩
  have HB1 := Lib.hid (HB.out.trans (hb.mono HB.out.size))
  have BX1 := Lib.hid (BX0.out.next hb)
  clear hb a0 a1 a2 a3 lt0
  obtain ⟨lt1, a0, a1, a2, a3⟩ := BX1.out
  go_wp2
  go_region_held3 (fun w' => w'.cell? ⟨w.heap.size, 0, none⟩ = some (.int .u32 (g : Int)) ∧ w'.cell? ⟨w.heap.size, 1, none⟩ = some (.int .i64 (c : Int)) ∧ w'.cell? ⟨w.heap.size, 2, none⟩ = some (.int .i64 (p : Int)) ∧ w'.cell? ⟨w.heap.size, 3, none⟩ = some (.bool b))
    (first | go_keep | (refine ⟨?_, ?_, ?_, ?_⟩ <;> assumption) | (exact ⟨(BX.out.cell (p := ⟨w.heap.size, 0, none⟩) lt1).trans a0, (BX.out.cell (p := ⟨w.heap.size, 1, none⟩) lt1).trans a1, (BX.out.cell (p := ⟨w.heap.size, 2, none⟩) lt1).trans a2, (BX.out.cell (p := ⟨w.heap.size, 3, none⟩) lt1).trans a3⟩))
    (first | (go_at_call 14; refine (SZ.out _).mono ?_; rintro e w2 ⟨ks, rfl, hr2, hb2⟩; have BX : Hid (Below w1.heap.size w1 w2) := (Below.refl _ _).drew.trans hb2; have HR2 := Lib.hid hr2; clear hb2 hr2) | (go_at_call 15; refine (mark_any b _).mono ?_; rintro e w3 ⟨rfl, rfl⟩) | (go_at_call 13; refine (J.out _ _ HR2.out).mono ?_; rintro e w4 ⟨rfl, hb4⟩; have BY := BX; have BX : Hid (Below w1.heap.size w1 w4) := BY.out.trans (hb4.mono BY.out.size); clear hb4))
  clear a0 a1 a2 a3
  go_wp2_with fail
  refine (SL.out _).mono ?_
  rintro e w5 ⟨rfl, hb5⟩
  have HB5 := Lib.hid (HB1.out.trans ((BX.out.trans (hb5.mono BX.out.size)).mono HB1.out.size))
  clear hb5
  go_wp2
  go_ret2
  exact ⟨rfl, HB5.out⟩
/-- Encode, of any head. -/
theorem henc_any (g : Nat) (c p : Int) (b : Bool) (w : World) (hg : g < 4294967296) :
    Calls Try.prog 6 #[Hv g c p b] w fun e w' => e = .returned (.tuple #[.string (Om.B (Hm.encS g c p b)), .int .i64 (Hm.encE g c p)]) ∧ Below w.heap.size w w' := by
  cases hok : Hm.okH g c p with
  | false =>
    rw [(Hm.enc_no b hok).1, (Hm.enc_no b hok).2]
    exact henc_no g c p b w hok
  | true =>
    rw [(Hm.enc_ok b hok).1, (Hm.enc_ok b hok).2]
    obtain ⟨k1, k2, k3, k4, k5⟩ := (Hm.okH_iff _ _ _).1 hok
    obtain ⟨c', rfl⟩ : ∃ n : Nat, c = (n : Int) := ⟨c.toNat, by omega⟩
    obtain ⟨p', rfl⟩ : ∃ n : Nat, p = (n : Int) := ⟨p.toNat, by omega⟩
    exact henc_ok g c' p' b w hg hok
end Go.Proofs.Ytpocafiihdnnlaa
