/- The contract of command's takeWord. Made by gen_cmdtak.py. -/
import Derived.Test.YtdojclhcoboocaaDoorCmdApB
import Derived.Test.YtdojclhcoboocaaDoorCmdPut
namespace Go.Proofs.YtdojclhcoboocaaDoor
namespace Co
open Go.Shelf Go.RowKit Go.Lib Pd Dsk
set_option maxRecDepth 100000
set_option linter.unusedVariables false

/-- A string that is being ranged over. -/
def ItKept (w w' : World) : Prop := ∀ (k : Nat) (s : ByteArray) (p : Nat), w.heap[k]? = some (.stringIter s p) → w'.heap[k]? = some (.stringIter s p)
theorem Tw.its {B : Nat} {w w' : World} (h : Tw B w w') : ItKept w w' := fun k s p hk => h.2 k _ hk (by simp) (fun _ _ e => by cases e)
theorem Tw.fr {B : Nat} {w w' : World} (h : Tw B w w') (F : Nat → Prop) (hF : ∀ i, B ≤ i → F i) : Fr F w w' := ⟨h.1.os, h.1.tape, h.1.output, h.1.size, fun k hk hn => h.1.block k (by rcases Nat.lt_or_ge k B with h' | h'; exact h'; exact absurd (hF k h') hn)⟩
/-- What takeWord tells. -/
def TakIs (x : UInt8) (c : Cd) (B q n : Nat) (xs : List Value) (w : World) (e : Ending) (w' : World) : Prop := (∃ v', e = .returned v' ∧ OwnM w' B v' (n + (wdC x c).length) (xs ++ Lib.byteCells (wdC x c))) ∧ Cb w' q (clrC x c) ∧ Fr (fun i => i = q ∨ B ≤ i) w w' ∧ ItKept w w'
theorem OwnM.cell {w : World} {B n q k : Nat} {v u : Value} {xs : List Value} (h : OwnM w B v n xs) (hq : q < B) : OwnM (w.setCell ⟨q, k, none⟩ u) B v n xs := by
  obtain ⟨h1, g, cap, cur, fz, h2, h3, h4, r⟩ := h
  refine ⟨h1, g, cap, cur, fz, h2, h3, ?_, r⟩
  rw [heap_setCell_other _ _ _ _ (by show g ≠ q; omega)]
  exact h4
theorem its_cell {w w' : World} {q k : Nat} {u : Value} {c : Cd} (h : ItKept w w') (hc : Cb w' q c) : ItKept w (w'.setCell ⟨q, k, none⟩ u) := fun j s p hj => by
  have h2 := h j s p hj
  rw [heap_setCell_other _ _ _ _ (by show j ≠ q; rintro rfl; unfold Cb at hc; rw [hc] at h2; cases h2)]
  exact h2

theorem wdC_105 (c : Cd) : wdC 105 c = fig c.id := by unfold wdC; simp
theorem clrC_105 (c : Cd) : clrC 105 c = { c with id := 0 } := by unfold clrC; simp
theorem tak_105 (c : Cd) (m : Nat) (hm : m ≤ 9223372036854775807) (hid : c.id = (m : Int)) (B q n : Nat) (sv : Value) (xs : List Value) (w : World) (hc : Cb w q c) (hq : q < B) (hown : OwnM w B sv n xs) (hB : B ≤ w.heap.size) (hlim : n + 20 ≤ 140737488355328) (htab : Lib.TabIs Tryd.prog w "internal/strconv.uint64pow10" .u64 Lib.pow10Tab) : Calls Tryd.prog 13 #[sv, .pointer (some ⟨q, 0, none⟩), .int .i32 105] w (TakIs 105 c B q n xs w) := by
  have NU := Lib.hid (appnum_any B n m hm sv xs w hown hB hlim htab)
  rw [show Lib.decDigits m = fig c.id from by rw [hid]; rfl] at NU
  clear htab
  have QB := Lib.hid hq
  have c1 := hc.cell 1 _ rfl
  rw [hid] at c1
  have HC := Lib.hid hc
  clear hc hown hq
  go_enter Tryd.func13, Tryd.ntmps13
  go_wp2_with fail
  refine NU.out.mono ?_
  rintro e w1 ⟨v', rfl, how, htw⟩
  have C1 : Hid (Cb w1 q c) := Lib.hid ((htw.1.block q QB.out).trans HC.out)
  have f1 := C1.out.froz 1
  have c2 := C1.out.cell 1 _ rfl
  have SET : Hid (Cb (w1.setCell ⟨q, 1, none⟩ (.int .i64 0)) q { c with id := 0 }) := Lib.hid (heap_setCell_same _ q 1 _ _ _ C1.out)
  have FR : Hid (Fr (fun i => i = q ∨ B ≤ i) w (w1.setCell ⟨q, 1, none⟩ (.int .i64 0))) := Lib.hid ((htw.fr (fun i => i = q ∨ B ≤ i) (fun i h => .inr h)).setCell ⟨q, 1, none⟩ (.inl rfl) _)
  have OW : Hid (OwnM (w1.setCell ⟨q, 1, none⟩ (.int .i64 0)) B v' (n + (wdC 105 c).length) (xs ++ Lib.byteCells (wdC 105 c))) := Lib.hid (by rw [wdC_105]; exact how.cell QB.out)
  have IT : Hid (ItKept w (w1.setCell ⟨q, 1, none⟩ (.int .i64 0))) := Lib.hid (its_cell htw.its C1.out)
  clear how htw
  go_wp2
  go_ret
  refine ⟨⟨v', rfl, OW.out⟩, ?_, FR.out, IT.out⟩
  rw [clrC_105]
  exact SET.out

theorem wdC_97 (c : Cd) : wdC 97 c = fig c.at_ := by unfold wdC; simp
theorem clrC_97 (c : Cd) : clrC 97 c = { c with at_ := 0 } := by unfold clrC; simp
theorem tak_97 (c : Cd) (m : Nat) (hm : m ≤ 9223372036854775807) (hid : c.at_ = (m : Int)) (B q n : Nat) (sv : Value) (xs : List Value) (w : World) (hc : Cb w q c) (hq : q < B) (hown : OwnM w B sv n xs) (hB : B ≤ w.heap.size) (hlim : n + 20 ≤ 140737488355328) (htab : Lib.TabIs Tryd.prog w "internal/strconv.uint64pow10" .u64 Lib.pow10Tab) : Calls Tryd.prog 13 #[sv, .pointer (some ⟨q, 0, none⟩), .int .i32 97] w (TakIs 97 c B q n xs w) := by
  have NU := Lib.hid (appnum_any B n m hm sv xs w hown hB hlim htab)
  rw [show Lib.decDigits m = fig c.at_ from by rw [hid]; rfl] at NU
  clear htab
  have QB := Lib.hid hq
  have c1 := hc.cell 2 _ rfl
  rw [hid] at c1
  have HC := Lib.hid hc
  clear hc hown hq
  go_enter Tryd.func13, Tryd.ntmps13
  go_wp2_with fail
  refine NU.out.mono ?_
  rintro e w1 ⟨v', rfl, how, htw⟩
  have C1 : Hid (Cb w1 q c) := Lib.hid ((htw.1.block q QB.out).trans HC.out)
  have f1 := C1.out.froz 2
  have c2 := C1.out.cell 2 _ rfl
  have SET : Hid (Cb (w1.setCell ⟨q, 2, none⟩ (.int .i64 0)) q { c with at_ := 0 }) := Lib.hid (heap_setCell_same _ q 2 _ _ _ C1.out)
  have FR : Hid (Fr (fun i => i = q ∨ B ≤ i) w (w1.setCell ⟨q, 2, none⟩ (.int .i64 0))) := Lib.hid ((htw.fr (fun i => i = q ∨ B ≤ i) (fun i h => .inr h)).setCell ⟨q, 2, none⟩ (.inl rfl) _)
  have OW : Hid (OwnM (w1.setCell ⟨q, 2, none⟩ (.int .i64 0)) B v' (n + (wdC 97 c).length) (xs ++ Lib.byteCells (wdC 97 c))) := Lib.hid (by rw [wdC_97]; exact how.cell QB.out)
  have IT : Hid (ItKept w (w1.setCell ⟨q, 2, none⟩ (.int .i64 0))) := Lib.hid (its_cell htw.its C1.out)
  clear how htw
  go_wp2
  go_ret
  refine ⟨⟨v', rfl, OW.out⟩, ?_, FR.out, IT.out⟩
  rw [clrC_97]
  exact SET.out

theorem wdC_110 (c : Cd) : wdC 110 c = fig c.n := by unfold wdC; simp
theorem clrC_110 (c : Cd) : clrC 110 c = { c with n := 0 } := by unfold clrC; simp
theorem tak_110 (c : Cd) (m : Nat) (hm : m ≤ 9223372036854775807) (hid : c.n = (m : Int)) (B q n : Nat) (sv : Value) (xs : List Value) (w : World) (hc : Cb w q c) (hq : q < B) (hown : OwnM w B sv n xs) (hB : B ≤ w.heap.size) (hlim : n + 20 ≤ 140737488355328) (htab : Lib.TabIs Tryd.prog w "internal/strconv.uint64pow10" .u64 Lib.pow10Tab) : Calls Tryd.prog 13 #[sv, .pointer (some ⟨q, 0, none⟩), .int .i32 110] w (TakIs 110 c B q n xs w) := by
  have NU := Lib.hid (appnum_any B n m hm sv xs w hown hB hlim htab)
  rw [show Lib.decDigits m = fig c.n from by rw [hid]; rfl] at NU
  clear htab
  have QB := Lib.hid hq
  have c1 := hc.cell 3 _ rfl
  rw [hid] at c1
  have HC := Lib.hid hc
  clear hc hown hq
  go_enter Tryd.func13, Tryd.ntmps13
  go_wp2_with fail
  refine NU.out.mono ?_
  rintro e w1 ⟨v', rfl, how, htw⟩
  have C1 : Hid (Cb w1 q c) := Lib.hid ((htw.1.block q QB.out).trans HC.out)
  have f1 := C1.out.froz 3
  have c2 := C1.out.cell 3 _ rfl
  have SET : Hid (Cb (w1.setCell ⟨q, 3, none⟩ (.int .i64 0)) q { c with n := 0 }) := Lib.hid (heap_setCell_same _ q 3 _ _ _ C1.out)
  have FR : Hid (Fr (fun i => i = q ∨ B ≤ i) w (w1.setCell ⟨q, 3, none⟩ (.int .i64 0))) := Lib.hid ((htw.fr (fun i => i = q ∨ B ≤ i) (fun i h => .inr h)).setCell ⟨q, 3, none⟩ (.inl rfl) _)
  have OW : Hid (OwnM (w1.setCell ⟨q, 3, none⟩ (.int .i64 0)) B v' (n + (wdC 110 c).length) (xs ++ Lib.byteCells (wdC 110 c))) := Lib.hid (by rw [wdC_110]; exact how.cell QB.out)
  have IT : Hid (ItKept w (w1.setCell ⟨q, 3, none⟩ (.int .i64 0))) := Lib.hid (its_cell htw.its C1.out)
  clear how htw
  go_wp2
  go_ret
  refine ⟨⟨v', rfl, OW.out⟩, ?_, FR.out, IT.out⟩
  rw [clrC_110]
  exact SET.out

theorem wdC_100 (c : Cd) : wdC 100 c = hexC c.data := by unfold wdC; simp
theorem clrC_100 (c : Cd) : clrC 100 c = { c with data := [] } := by unfold clrC; simp
theorem tak_100 (c : Cd) (B q n : Nat) (sv : Value) (xs : List Value) (w : World) (hc : Cb w q c) (hq : q < B) (hown : OwnM w B sv n xs) (hB : B ≤ w.heap.size) (hlim : n + 2 * c.data.length + 1 ≤ 140737488355328) : Calls Tryd.prog 13 #[sv, .pointer (some ⟨q, 0, none⟩), .int .i32 100] w (TakIs 100 c B q n xs w) := by
  have NU := Lib.hid (appbytes_any c.data B n sv xs w hown hB hlim)
  have QB := Lib.hid hq
  have c1 := hc.cell 4 _ rfl

  have HC := Lib.hid hc
  clear hc hown hq
  go_enter Tryd.func13, Tryd.ntmps13
  go_wp2_with fail
  refine NU.out.mono ?_
  rintro e w1 ⟨v', rfl, how, htw⟩
  have C1 : Hid (Cb w1 q c) := Lib.hid ((htw.1.block q QB.out).trans HC.out)
  have f1 := C1.out.froz 4
  have c2 := C1.out.cell 4 _ rfl
  have SET : Hid (Cb (w1.setCell ⟨q, 4, none⟩ (.string ⟨#[]⟩)) q { c with data := [] }) := Lib.hid (heap_setCell_same _ q 4 _ _ _ C1.out)
  have FR : Hid (Fr (fun i => i = q ∨ B ≤ i) w (w1.setCell ⟨q, 4, none⟩ (.string ⟨#[]⟩))) := Lib.hid ((htw.fr (fun i => i = q ∨ B ≤ i) (fun i h => .inr h)).setCell ⟨q, 4, none⟩ (.inl rfl) _)
  have OW : Hid (OwnM (w1.setCell ⟨q, 4, none⟩ (.string ⟨#[]⟩)) B v' (n + (wdC 100 c).length) (xs ++ Lib.byteCells (wdC 100 c))) := Lib.hid (by rw [wdC_100]; exact how.cell QB.out)
  have IT : Hid (ItKept w (w1.setCell ⟨q, 4, none⟩ (.string ⟨#[]⟩))) := Lib.hid (its_cell htw.its C1.out)
  clear how htw
  go_wp2
  go_ret
  refine ⟨⟨v', rfl, OW.out⟩, ?_, FR.out, IT.out⟩
  rw [clrC_100]
  exact SET.out


theorem okC_nat {z : Int} (h : okC z = true) : ∃ m : Nat, z = (m : Int) ∧ m ≤ 2147483647 := by
  unfold okC at h
  have h2 := of_decide_eq_true h
  exact ⟨z.toNat, by omega, by omega⟩
theorem tak_any (x : UInt8) (hx : x = 105 ∨ x = 97 ∨ x = 110 ∨ x = 100) (c : Cd) (hok : okI c = true) (B q n : Nat) (sv : Value) (xs : List Value) (w : World) (hc : Cb w q c) (hq : q < B) (hown : OwnM w B sv n xs) (hB : B ≤ w.heap.size) (hlim : n + 2 * c.data.length + 20 ≤ 140737488355328) (htab : Lib.TabIs Tryd.prog w "internal/strconv.uint64pow10" .u64 Lib.pow10Tab) :
    Calls Tryd.prog 13 #[sv, .pointer (some ⟨q, 0, none⟩), .int .i32 x.toNat] w (TakIs x c B q n xs w) := by
  unfold okI at hok
  rw [Bool.and_eq_true, Bool.and_eq_true] at hok
  obtain ⟨m1, e1, h1⟩ := okC_nat hok.1.1
  obtain ⟨m2, e2, h2⟩ := okC_nat hok.1.2
  obtain ⟨m3, e3, h3⟩ := okC_nat hok.2
  rcases hx with rfl | rfl | rfl | rfl
  · exact tak_105 c m1 (by omega) e1 B q n sv xs w hc hq hown hB (by omega) htab
  · exact tak_97 c m2 (by omega) e2 B q n sv xs w hc hq hown hB (by omega) htab
  · exact tak_110 c m3 (by omega) e3 B q n sv xs w hc hq hown hB (by omega) htab
  · exact tak_100 c B q n sv xs w hc hq hown hB (by omega)
end Co
end Go.Proofs.YtdojclhcoboocaaDoor
