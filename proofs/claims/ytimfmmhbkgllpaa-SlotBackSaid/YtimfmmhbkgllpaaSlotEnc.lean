/- The contract of slot's Encode. -/
import Derived.Test.YtimfmmhbkgllpaaSlotMath
import Derived.Test.YtimfmmhbkgllpaaSlotCode
namespace Go.Proofs.Ytimfmmhbkgllpaa
open Go.RowKit
set_option maxRecDepth 100000
set_option linter.unusedVariables false

/-- A slot in a box. -/
structure Tx (W : World) (k : Nat) (t a n : Int) (g : Nat) : Prop where
  lt : k < W.heap.size
  c0 : W.cell? ⟨k, 0, none⟩ = some (.int .i64 t)
  c1 : W.cell? ⟨k, 1, none⟩ = some (.int .i64 a)
  c2 : W.cell? ⟨k, 2, none⟩ = some (.int .i64 n)
  c3 : W.cell? ⟨k, 3, none⟩ = some (.int .u32 (g : Int))
theorem Tx.below {W W' : World} {k : Nat} {t a n : Int} {g B : Nat} (h : Tx W k t a n g) (hk : k < B) (hb : Below B W W') : Tx W' k t a n g :=
  ⟨Nat.lt_of_lt_of_le h.lt hb.size, (hb.cell (p := ⟨k, 0, none⟩) hk).trans h.c0, (hb.cell (p := ⟨k, 1, none⟩) hk).trans h.c1, (hb.cell (p := ⟨k, 2, none⟩) hk).trans h.c2, (hb.cell (p := ⟨k, 3, none⟩) hk).trans h.c3⟩
theorem Tx.next {W W' : World} {k : Nat} {t a n : Int} {g : Nat} (h : Tx W k t a n g) (hb : Below W.heap.size W W') : Tx W' k t a n g := h.below h.lt hb
theorem tx_row {W : World} {k : Nat} {t a n : Int} {g : Nat} {ty : TypeId} (h : W.heap[k]? = some (.cells #[.int .i64 t, .int .i64 a, .int .i64 n, .int .u32 (g : Int)] ty (0, 0))) : Tx W k t a n g :=
  ⟨(Array.getElem?_eq_some_iff.1 h).1, by rw [cell_of_row _ _ _ _ _ _ h]; rfl, by rw [cell_of_row _ _ _ _ _ _ h]; rfl, by rw [cell_of_row _ _ _ _ _ _ h]; rfl, by rw [cell_of_row _ _ _ _ _ _ h]; rfl⟩
theorem tx_alloc (w : World) (t a n : Int) (g : Nat) (ty : TypeId) : Tx (w.alloc (.cells #[.int .i64 t, .int .i64 a, .int .i64 n, .int .u32 (g : Int)] ty)) w.heap.size t a n g := tx_row (heap_alloc_new w _)

theorem senc_no (t a n : Int) (g : Nat) (w : World) (hn : n < 9223372036854775808) (hok : Tm.okT t a n g = false) :
    Calls Try.prog 6 #[Sv t a n g] w fun e w' => e = .returned (.tuple #[.string (Om.B []), .int .i64 1]) ∧ Below w.heap.size w w' := by
  have R := Lib.hid (fun w1 => sright_any t a n g w1 hn)
  rw [hok] at R
  have BX := Lib.hid (tx_alloc w t a n g 27)
  have HB : Hid (Below w.heap.size w (w.alloc (.cells #[.int .i64 t, .int .i64 a, .int .i64 n, .int .u32 (g : Int)] 27))) := (Below.refl _ w).alloc (Nat.le_refl _) _
  unfold Sv at R ⊢
  clear hok hn
  go_enter Try.func6, Try.ntmps6
  go_wp2_with fail
  refine (R.out _).mono ?_
  rintro e w1 ⟨rfl, hb⟩
  have HB1 := Lib.hid (HB.out.trans (hb.mono HB.out.size))
  clear hb
  go_wp2
  go_ret2
  exact ⟨rfl, HB1.out⟩

theorem ssizes_at (w : World) : Calls Try.prog 14 #[] w fun e w' => ∃ k, e = .returned (.slice (some ⟨k, 0, none⟩) 4 4) ∧ Row w' w'.heap.size (some ⟨k, 0, none⟩) 4 (szs Tm.zs) ∧ Below w.heap.size w w' :=
  (ssizes_any w).mono fun e w' h => ⟨w.heap.size, h⟩

/-- The numbers' row, just made. -/
def tcell (t a n g : Nat) : Obj := .cells #[.int .u64 (IntKind.u64.wrap (t : Int)), .int .u64 (IntKind.u64.wrap (a : Int)), .int .u64 (IntKind.u64.wrap (n : Int)), .int .u64 (IntKind.u64.wrap (g : Int))] 42
theorem tnums_eq (t a n g : Nat) : Tm.nums t a n g = [t, a, n, g] := by unfold Tm.nums; rw [Int.toNat_natCast, Int.toNat_natCast, Int.toNat_natCast]
theorem tnums_row (t a n g : Nat) (W : World) (ht : t ≤ 2) (ha : a ≤ 1048576) (hn : n ≤ 1048576) (hg : g < 4294967296) : Row (W.alloc (tcell t a n g)) (W.alloc (tcell t a n g)).heap.size (some ⟨W.heap.size, 0, none⟩) 4 (nbs (Tm.nums t a n g)) := fun _ =>
  ⟨W.heap.size, 0, rfl, by simp, fun i hi => by
    have h := heap_alloc_new W (tcell t a n g)
    have e1 : IntKind.u64.wrap (t : Int) = (t : Int) := IntWalk.u64_in _ (by omega)
    have e2 : IntKind.u64.wrap (a : Int) = (a : Int) := IntWalk.u64_in _ (by omega)
    have e3 : IntKind.u64.wrap (n : Int) = (n : Int) := IntWalk.u64_in _ (by omega)
    have e4 : IntKind.u64.wrap (g : Int) = (g : Int) := IntWalk.u64_in _ (by omega)
    unfold tcell at h ⊢
    rw [e1, e2, e3, e4] at h ⊢
    rw [cell_of_row _ _ _ _ _ _ h, tnums_eq]
    match i, hi with
    | 0, _ => rfl
    | 1, _ => rfl
    | 2, _ => rfl
    | 3, _ => rfl⟩
theorem tnums_lt (t a n g : Nat) (ht : t ≤ 2) (ha : a ≤ 1048576) (hn : n ≤ 1048576) (hg : g < 4294967296) (i : Nat) : (Tm.nums t a n g).getD i 0 < 18446744073709551616 := by
  rw [tnums_eq]
  match i with
  | 0 => show t < _; omega
  | 1 => show a < _; omega
  | 2 => show n < _; omega
  | 3 => show g < _; omega
  | j + 4 => show 0 < _; omega
theorem sjoin_at (t a n g : Nat) (hg : g < 4294967296) (hok : Tm.okT t a n g = true) (W : World) (ks : Nat) (hr : Row W W.heap.size (some ⟨ks, 0, none⟩) 4 (szs Tm.zs)) :
    Calls Try.prog 13 #[.slice (some ⟨ks, 0, none⟩) 4 4, .slice (some ⟨W.heap.size, 0, none⟩) 4 4] (W.alloc (tcell t a n g)) fun e w' => e = .returned (.tuple #[.string (Om.B (Om.joined Tm.zs (Tm.nums t a n g) 4)), .int .i64 0]) ∧ Below W.heap.size W w' := by
  obtain ⟨k1, k2, k3, k4, k5, k6⟩ := Tm.okT_small hok
  have hb : Below W.heap.size W (W.alloc (tcell t a n g)) := (Below.refl _ W).alloc (Nat.le_refl _) _
  have hj := Tm.join_is t a n g hg hok
  have hl : (Tm.nums t a n g).length = 4 := rfl
  refine (join_any Tm.zs (Tm.nums t a n g) _ _ _ 4 4 4 4 _ rfl hl (by omega) (by omega) (Nat.le_refl _) ((hr.below hb).more hb.size) (tnums_row t a n g W (by omega) (by omega) (by omega) hg) (tnums_lt t a n g (by omega) (by omega) (by omega) hg)).mono ?_
  rw [hj.1, hj.2]
  rintro e w' ⟨he, hb'⟩
  exact ⟨he, hb.trans (hb'.mono hb.size)⟩
theorem sjoin_two (t a n g : Nat) (hg : g < 4294967296) (hok : Tm.okT t a n g = true) (W : World) (ks kn : Nat) (hr : Row W W.heap.size (some ⟨ks, 0, none⟩) 4 (szs Tm.zs)) (hn : Row W W.heap.size (some ⟨kn, 0, none⟩) 4 (nbs (Tm.nums t a n g))) :
    Calls Try.prog 13 #[.slice (some ⟨ks, 0, none⟩) 4 4, .slice (some ⟨kn, 0, none⟩) 4 4] W fun e w' => e = .returned (.tuple #[.string (Om.B (Om.joined Tm.zs (Tm.nums t a n g) 4)), .int .i64 0]) ∧ Below W.heap.size W w' := by
  obtain ⟨k1, k2, k3, k4, k5, k6⟩ := Tm.okT_small hok
  have hj := Tm.join_is t a n g hg hok
  have hl : (Tm.nums t a n g).length = 4 := rfl
  refine (join_any Tm.zs (Tm.nums t a n g) _ _ _ 4 4 4 4 _ rfl hl (by omega) (by omega) (Nat.le_refl _) hr hn (tnums_lt t a n g (by omega) (by omega) (by omega) hg)).mono ?_
  rw [hj.1, hj.2]
  rintro e w' ⟨he, hb'⟩
  exact ⟨he, hb'⟩
/-- The numbers' row is made ahead of the call of sizes: Go leaves it open. -/
theorem made_first {t a n g : Nat} {w1 w2 : World} (hg : g < 4294967296) (hok : Tm.okT t a n g = true) (h : Below (w1.drew.alloc (tcell t a n g)).heap.size (w1.drew.alloc (tcell t a n g)) w2) :
    Row w2 w2.heap.size (some ⟨w1.heap.size, 0, none⟩) 4 (nbs (Tm.nums t a n g)) ∧ Below w1.heap.size w1 w2 := by
  obtain ⟨k1, k2, k3, k4, k5, k6⟩ := Tm.okT_small hok
  have hb : Below w1.heap.size w1 (w1.drew.alloc (tcell t a n g)) := (Below.refl _ w1).drew.alloc (Nat.le_refl _) _
  exact ⟨((tnums_row t a n g w1.drew (by omega) (by omega) (by omega) hg).below h).more h.size, hb.trans (h.mono hb.size)⟩
theorem sseal64 (l : List UInt8) (w : World) (h : l.length ≤ 60) :
    Calls Try.prog 15 #[.string (Om.B l), .int .i64 64] w fun e w' => e = .returned (.tuple #[.string (Om.B (sealed l 60)), .int .i64 0]) ∧ Below w.heap.size w w' := seal_ok l 60 w (by omega) h

set_option maxHeartbeats 800000 in
theorem senc_ok (t a n g : Nat) (w : World) (hg : g < 4294967296) (hok : Tm.okT t a n g = true) :
    Calls Try.prog 6 #[Sv t a n g] w fun e w' => e = .returned (.tuple #[.string (Om.B (Tm.sector t a n g)), .int .i64 0]) ∧ Below w.heap.size w w' := by
  obtain ⟨k1, k2, k3, k4, k5, k6⟩ := Tm.okT_small hok
  have R := Lib.hid (fun w1 => sright_any t a n g w1 (by omega))
  rw [hok] at R
  have BX0 := Lib.hid (tx_alloc w t a n g 27)
  have HB : Hid (Below w.heap.size w (w.alloc (.cells #[.int .i64 (t : Int), .int .i64 (a : Int), .int .i64 (n : Int), .int .u32 (g : Int)] 27))) := (Below.refl _ w).alloc (Nat.le_refl _) _
  obtain ⟨W0, hW0⟩ : ∃ W0, w.alloc (.cells #[.int .i64 (t : Int), .int .i64 (a : Int), .int .i64 (n : Int), .int .u32 (g : Int)] 27) = W0 := ⟨_, rfl⟩
  rw [hW0] at HB BX0
  obtain ⟨lt0, a0, a1, a2, a3⟩ := BX0.out
  have SZ := Lib.hid ssizes_at
  have J := Lib.hid (sjoin_at t a n g hg hok)
  have J2 := Lib.hid (sjoin_two t a n g hg hok)
  have M := Lib.hid (fun (w1 w2 : World) => made_first (w1 := w1) (w2 := w2) hg hok)
  obtain ⟨body, hbody⟩ : ∃ l, l = Om.joined Tm.zs (Tm.nums t a n g) 4 := ⟨_, rfl⟩
  have hbl : body.length = 13 := by rw [hbody, Om.joined_length Tm.zs _ 4 (by decide)]; exact Tm.zs_off
  have hsec : Tm.sector t a n g = sealed (Tm.ts ++ body) 60 := by rw [hbody]; rfl
  have SL := Lib.hid (fun w1 => sseal64 (Tm.ts ++ body) w1 (by rw [List.length_append, hbl]; decide))
  have hcat := no_over Tm.ts body (by rw [hbl]; decide)
  have hap : (⟨#[79, 65, 75, 83]⟩ : ByteArray) ++ Om.B body = Om.B (Tm.ts ++ body) := Om.B_append Tm.ts body
  rw [← hbody] at J J2
  rw [hsec]
  unfold tcell at J M
  unfold Sv at R ⊢
  clear hok hbody hsec hbl
  go_enter Try.func6, Try.ntmps6
  go_wp2_with fail
  clear hW0
  refine (R.out _).mono ?_
  rintro e w1 ⟨rfl, hb⟩
  have HB1 := Lib.hid (HB.out.trans (hb.mono HB.out.size))
  have BX1 := Lib.hid (BX0.out.next hb)
  clear hb a0 a1 a2 a3 lt0
  obtain ⟨lt1, a0, a1, a2, a3⟩ := BX1.out
  go_wp2
  go_region_held3 (fun w' => w'.cell? ⟨w.heap.size, 0, none⟩ = some (.int .i64 (t : Int)) ∧ w'.cell? ⟨w.heap.size, 1, none⟩ = some (.int .i64 (a : Int)) ∧ w'.cell? ⟨w.heap.size, 2, none⟩ = some (.int .i64 (n : Int)) ∧ w'.cell? ⟨w.heap.size, 3, none⟩ = some (.int .u32 (g : Int)))
    (first | go_keep | (refine ⟨?_, ?_, ?_, ?_⟩ <;> assumption) | (exact ⟨(BX.out.cell (p := ⟨w.heap.size, 0, none⟩) lt1).trans a0, (BX.out.cell (p := ⟨w.heap.size, 1, none⟩) lt1).trans a1, (BX.out.cell (p := ⟨w.heap.size, 2, none⟩) lt1).trans a2, (BX.out.cell (p := ⟨w.heap.size, 3, none⟩) lt1).trans a3⟩))
    (first | (go_at_call 14; refine (SZ.out _).mono ?_; rintro e w2 ⟨ks, rfl, hr2, hb2⟩; have BX : Hid (Below w1.heap.size w1 w2) := (Below.refl _ _).drew.trans hb2; have HR2 := Lib.hid hr2; clear hb2 hr2) | (go_at_call 14; refine (SZ.out _).mono ?_; rintro e w2 ⟨ks, rfl, hr2, hb2⟩; have NR := Lib.hid (M.out _ _ hb2).1; have BX := Lib.hid (M.out _ _ hb2).2; have HR2 := Lib.hid hr2; clear hb2 hr2) | (go_at_call 13; refine (J2.out _ _ _ HR2.out NR.out).mono ?_; rintro e w4 ⟨rfl, hb4⟩; have BY := BX; have BX : Hid (Below w1.heap.size w1 w4) := BY.out.trans (hb4.mono BY.out.size); clear hb4) | (go_at_call 13; refine (J.out _ _ HR2.out).mono ?_; rintro e w4 ⟨rfl, hb4⟩; have BY := BX; have BX : Hid (Below w1.heap.size w1 w4) := BY.out.trans (hb4.mono BY.out.size); clear hb4))
  all_goals
    clear a0 a1 a2 a3
    go_wp2_with fail
    refine (SL.out _).mono ?_
    rintro e w5 ⟨rfl, hb5⟩
    have HB5 := Lib.hid (HB1.out.trans ((BX.out.trans (hb5.mono BX.out.size)).mono HB1.out.size))
    clear hb5
    go_wp2
    go_ret2
    exact ⟨rfl, HB5.out⟩
/-- Encode, of any slot. -/
theorem senc_any (t a n : Int) (g : Nat) (w : World) (hn : n < 9223372036854775808) (hg : g < 4294967296) :
    Calls Try.prog 6 #[Sv t a n g] w fun e w' => e = .returned (.tuple #[.string (Om.B (Tm.encS t a n g)), .int .i64 (Tm.encE t a n g)]) ∧ Below w.heap.size w w' := by
  cases hok : Tm.okT t a n g with
  | false =>
    rw [(Tm.enc_no hok).1, (Tm.enc_no hok).2]
    exact senc_no t a n g w hn hok
  | true =>
    rw [(Tm.enc_ok hok).1, (Tm.enc_ok hok).2]
    obtain ⟨k1, k2, k3, k4, k5, k6⟩ := Tm.okT_small hok
    obtain ⟨t', rfl⟩ : ∃ m : Nat, t = (m : Int) := ⟨t.toNat, by omega⟩
    obtain ⟨a', rfl⟩ : ∃ m : Nat, a = (m : Int) := ⟨a.toNat, by omega⟩
    obtain ⟨n', rfl⟩ : ∃ m : Nat, n = (m : Int) := ⟨n.toNat, by omega⟩
    exact senc_ok t' a' n' g w hg hok
end Go.Proofs.Ytimfmmhbkgllpaa
