/- The contract of slot's Encode. -/
import Derived.Test.YtncbimgbjkdocaaSuperMath
import Derived.Test.YtncbimgbjkdocaaSuperCode
namespace Go.Proofs.Ytncbimgbjkdocaa
open Go.RowKit
set_option maxRecDepth 100000
set_option linter.unusedVariables false

theorem uenc_no (a n g : Int) (w : World) (hok : Um.okU a n g = false) :
    Calls Try.prog 6 #[Uv a n g] w fun e w' => e = .returned (.tuple #[.string (Om.B []), .int .i64 1]) ∧ Below w.heap.size w w' := by
  have R := Lib.hid (fun w1 => uright_any a n g w1)
  rw [hok] at R
  have BX := Lib.hid (ux_alloc w a n g 23)
  have HB : Hid (Below w.heap.size w (w.alloc (.cells #[.int .i64 a, .int .i64 n, .int .i64 g] 23))) := (Below.refl _ w).alloc (Nat.le_refl _) _
  unfold Uv at R ⊢
  clear hok
  go_enter Try.func6, Try.ntmps6
  go_wp2_with fail
  refine (R.out _).mono ?_
  rintro e w1 ⟨rfl, hb⟩
  have HB1 := Lib.hid (HB.out.trans (hb.mono HB.out.size))
  clear hb
  go_wp2
  go_ret2
  exact ⟨rfl, HB1.out⟩

theorem usizes_at (w : World) : Calls Try.prog 14 #[] w fun e w' => ∃ k, e = .returned (.slice (some ⟨k, 0, none⟩) 3 3) ∧ Row w' w'.heap.size (some ⟨k, 0, none⟩) 3 (szs Um.zs) ∧ Below w.heap.size w w' :=
  (usizes_any w).mono fun e w' h => ⟨w.heap.size, h⟩

/-- The numbers' row, just made. -/
def ucell (a n g : Nat) : Obj := .cells #[.int .u64 (IntKind.u64.wrap (a : Int)), .int .u64 (IntKind.u64.wrap (n : Int)), .int .u64 (IntKind.u64.wrap (g : Int))] 38
theorem unums_eq (a n g : Nat) : Um.nums a n g = [a, n, g] := by unfold Um.nums; rw [Int.toNat_natCast, Int.toNat_natCast, Int.toNat_natCast]
theorem unums_row (a n g : Nat) (W : World) (ha : a ≤ 1048576) (hn : n ≤ 1048576) (hg : g ≤ 128) : Row (W.alloc (ucell a n g)) (W.alloc (ucell a n g)).heap.size (some ⟨W.heap.size, 0, none⟩) 3 (nbs (Um.nums a n g)) := fun _ =>
  ⟨W.heap.size, 0, rfl, by simp, fun i hi => by
    have h := heap_alloc_new W (ucell a n g)
    have e2 : IntKind.u64.wrap (a : Int) = (a : Int) := IntWalk.u64_in _ (by omega)
    have e3 : IntKind.u64.wrap (n : Int) = (n : Int) := IntWalk.u64_in _ (by omega)
    have e4 : IntKind.u64.wrap (g : Int) = (g : Int) := IntWalk.u64_in _ (by omega)
    unfold ucell at h ⊢
    rw [e2, e3, e4] at h ⊢
    rw [cell_of_row _ _ _ _ _ _ h, unums_eq]
    match i, hi with
    | 0, _ => rfl
    | 1, _ => rfl
    | 2, _ => rfl⟩
theorem unums_lt (a n g : Nat) (ha : a ≤ 1048576) (hn : n ≤ 1048576) (hg : g ≤ 128) (i : Nat) : (Um.nums a n g).getD i 0 < 18446744073709551616 := by
  rw [unums_eq]
  match i with
  | 0 => show a < _; omega
  | 1 => show n < _; omega
  | 2 => show g < _; omega
  | j + 3 => show 0 < _; omega
theorem ujoin_at (a n g : Nat) (hok : Um.okU a n g = true) (W : World) (ks : Nat) (hr : Row W W.heap.size (some ⟨ks, 0, none⟩) 3 (szs Um.zs)) :
    Calls Try.prog 13 #[.slice (some ⟨ks, 0, none⟩) 3 3, .slice (some ⟨W.heap.size, 0, none⟩) 3 3] (W.alloc (ucell a n g)) fun e w' => e = .returned (.tuple #[.string (Om.B (Om.joined Um.zs (Um.nums a n g) 3)), .int .i64 0]) ∧ Below W.heap.size W w' := by
  obtain ⟨k1, k2, k3, k4, k5, k6⟩ := Um.okU_small hok
  have hb : Below W.heap.size W (W.alloc (ucell a n g)) := (Below.refl _ W).alloc (Nat.le_refl _) _
  have hj := Um.join_is a n g hok
  have hl : (Um.nums a n g).length = 3 := rfl
  refine (join_any Um.zs (Um.nums a n g) _ _ _ 3 3 3 3 _ rfl hl (by omega) (by omega) (Nat.le_refl _) ((hr.below hb).more hb.size) (unums_row a n g W (by omega) (by omega) (by omega)) (unums_lt a n g (by omega) (by omega) (by omega))).mono ?_
  rw [hj.1, hj.2]
  rintro e w' ⟨he, hb'⟩
  exact ⟨he, hb.trans (hb'.mono hb.size)⟩
theorem ujoin_two (a n g : Nat) (hok : Um.okU a n g = true) (W : World) (ks kn : Nat) (hr : Row W W.heap.size (some ⟨ks, 0, none⟩) 3 (szs Um.zs)) (hn : Row W W.heap.size (some ⟨kn, 0, none⟩) 3 (nbs (Um.nums a n g))) :
    Calls Try.prog 13 #[.slice (some ⟨ks, 0, none⟩) 3 3, .slice (some ⟨kn, 0, none⟩) 3 3] W fun e w' => e = .returned (.tuple #[.string (Om.B (Om.joined Um.zs (Um.nums a n g) 3)), .int .i64 0]) ∧ Below W.heap.size W w' := by
  obtain ⟨k1, k2, k3, k4, k5, k6⟩ := Um.okU_small hok
  have hj := Um.join_is a n g hok
  have hl : (Um.nums a n g).length = 3 := rfl
  refine (join_any Um.zs (Um.nums a n g) _ _ _ 3 3 3 3 _ rfl hl (by omega) (by omega) (Nat.le_refl _) hr hn (unums_lt a n g (by omega) (by omega) (by omega))).mono ?_
  rw [hj.1, hj.2]
  rintro e w' ⟨he, hb'⟩
  exact ⟨he, hb'⟩
/-- The numbers' row is made ahead of the call of sizes: Go leaves it open. -/
theorem umade_first {a n g : Nat} {w1 w2 : World} (hok : Um.okU a n g = true) (h : Below (w1.drew.alloc (ucell a n g)).heap.size (w1.drew.alloc (ucell a n g)) w2) :
    Row w2 w2.heap.size (some ⟨w1.heap.size, 0, none⟩) 3 (nbs (Um.nums a n g)) ∧ Below w1.heap.size w1 w2 := by
  obtain ⟨k1, k2, k3, k4, k5, k6⟩ := Um.okU_small hok
  have hb : Below w1.heap.size w1 (w1.drew.alloc (ucell a n g)) := (Below.refl _ w1).drew.alloc (Nat.le_refl _) _
  exact ⟨((unums_row a n g w1.drew (by omega) (by omega) (by omega)).below h).more h.size, hb.trans (h.mono hb.size)⟩
theorem useal64 (l : List UInt8) (w : World) (h : l.length ≤ 60) :
    Calls Try.prog 15 #[.string (Om.B l), .int .i64 64] w fun e w' => e = .returned (.tuple #[.string (Om.B (sealed l 60)), .int .i64 0]) ∧ Below w.heap.size w w' := seal_ok l 60 w (by omega) h

set_option maxHeartbeats 800000 in
theorem uenc_ok (a n g : Nat) (w : World) (hok : Um.okU a n g = true) :
    Calls Try.prog 6 #[Uv a n g] w fun e w' => e = .returned (.tuple #[.string (Om.B (Um.sector a n g)), .int .i64 0]) ∧ Below w.heap.size w w' := by
  obtain ⟨k1, k2, k3, k4, k5, k6⟩ := Um.okU_small hok
  have R := Lib.hid (fun w1 => uright_any a n g w1)
  rw [hok] at R
  have BX0 := Lib.hid (ux_alloc w a n g 23)
  have HB : Hid (Below w.heap.size w (w.alloc (.cells #[.int .i64 (a : Int), .int .i64 (n : Int), .int .i64 (g : Int)] 23))) := (Below.refl _ w).alloc (Nat.le_refl _) _
  obtain ⟨W0, hW0⟩ : ∃ W0, w.alloc (.cells #[.int .i64 (a : Int), .int .i64 (n : Int), .int .i64 (g : Int)] 23) = W0 := ⟨_, rfl⟩
  rw [hW0] at HB BX0
  obtain ⟨lt0, a0, a1, a2⟩ := BX0.out
  have SZ := Lib.hid usizes_at
  have J := Lib.hid (ujoin_at a n g hok)
  have J2 := Lib.hid (ujoin_two a n g hok)
  have M := Lib.hid (fun (w1 w2 : World) => umade_first (w1 := w1) (w2 := w2) hok)
  obtain ⟨body, hbody⟩ : ∃ l, l = Om.joined Um.zs (Um.nums a n g) 3 := ⟨_, rfl⟩
  have hbl : body.length = 12 := by rw [hbody, Om.joined_length Um.zs _ 3 (by decide)]; exact Um.zs_off
  have hsec : Um.sector a n g = sealed (Um.ts ++ body) 60 := by rw [hbody]; rfl
  have SL := Lib.hid (fun w1 => useal64 (Um.ts ++ body) w1 (by rw [List.length_append, hbl]; decide))
  have hcat := no_over Um.ts body (by rw [hbl]; decide)
  have hap : (⟨#[79, 65, 75, 49]⟩ : ByteArray) ++ Om.B body = Om.B (Um.ts ++ body) := Om.B_append Um.ts body
  rw [← hbody] at J J2
  rw [hsec]
  unfold ucell at J M
  unfold Uv at R ⊢
  clear hok hbody hsec hbl
  go_enter Try.func6, Try.ntmps6
  go_wp2_with fail
  clear hW0
  refine (R.out _).mono ?_
  rintro e w1 ⟨rfl, hb⟩
  have HB1 := Lib.hid (HB.out.trans (hb.mono HB.out.size))
  have BX1 := Lib.hid (BX0.out.next hb)
  clear hb a0 a1 a2 lt0
  obtain ⟨lt1, a0, a1, a2⟩ := BX1.out
  go_wp2
  go_region_held3 (fun w' => w'.cell? ⟨w.heap.size, 0, none⟩ = some (.int .i64 (a : Int)) ∧ w'.cell? ⟨w.heap.size, 1, none⟩ = some (.int .i64 (n : Int)) ∧ w'.cell? ⟨w.heap.size, 2, none⟩ = some (.int .i64 (g : Int)))
    (first | go_keep | (refine ⟨?_, ?_, ?_⟩ <;> assumption) | (exact ⟨(BX.out.cell (p := ⟨w.heap.size, 0, none⟩) lt1).trans a0, (BX.out.cell (p := ⟨w.heap.size, 1, none⟩) lt1).trans a1, (BX.out.cell (p := ⟨w.heap.size, 2, none⟩) lt1).trans a2⟩))
    (first | (go_at_call 14; refine (SZ.out _).mono ?_; rintro e w2 ⟨ks, rfl, hr2, hb2⟩; have BX : Hid (Below w1.heap.size w1 w2) := (Below.refl _ _).drew.trans hb2; have HR2 := Lib.hid hr2; clear hb2 hr2) | (go_at_call 14; refine (SZ.out _).mono ?_; rintro e w2 ⟨ks, rfl, hr2, hb2⟩; have NR := Lib.hid (M.out _ _ hb2).1; have BX := Lib.hid (M.out _ _ hb2).2; have HR2 := Lib.hid hr2; clear hb2 hr2) | (go_at_call 13; refine (J2.out _ _ _ HR2.out NR.out).mono ?_; rintro e w4 ⟨rfl, hb4⟩; have BY := BX; have BX : Hid (Below w1.heap.size w1 w4) := BY.out.trans (hb4.mono BY.out.size); clear hb4) | (go_at_call 13; refine (J.out _ _ HR2.out).mono ?_; rintro e w4 ⟨rfl, hb4⟩; have BY := BX; have BX : Hid (Below w1.heap.size w1 w4) := BY.out.trans (hb4.mono BY.out.size); clear hb4))
  all_goals
    clear a0 a1 a2
    go_wp2_with fail
    refine (SL.out _).mono ?_
    rintro e w5 ⟨rfl, hb5⟩
    have HB5 := Lib.hid (HB1.out.trans ((BX.out.trans (hb5.mono BX.out.size)).mono HB1.out.size))
    clear hb5
    go_wp2
    go_ret2
    exact ⟨rfl, HB5.out⟩
/-- Encode, of any superblock. -/
theorem uenc_any (a n g : Int) (w : World) :
    Calls Try.prog 6 #[Uv a n g] w fun e w' => e = .returned (.tuple #[.string (Om.B (Um.encS a n g)), .int .i64 (Um.encE a n g)]) ∧ Below w.heap.size w w' := by
  cases hok : Um.okU a n g with
  | false =>
    rw [(Um.enc_no hok).1, (Um.enc_no hok).2]
    exact uenc_no a n g w hok
  | true =>
    rw [(Um.enc_ok hok).1, (Um.enc_ok hok).2]
    obtain ⟨k1, k2, k3, k4, k5, k6⟩ := Um.okU_small hok
    obtain ⟨a', rfl⟩ : ∃ m : Nat, a = (m : Int) := ⟨a.toNat, by omega⟩
    obtain ⟨n', rfl⟩ : ∃ m : Nat, n = (m : Int) := ⟨n.toNat, by omega⟩
    obtain ⟨g', rfl⟩ : ∃ m : Nat, g = (m : Int) := ⟨g.toNat, by omega⟩
    exact uenc_ok a' n' g' w hok
end Go.Proofs.Ytncbimgbjkdocaa
