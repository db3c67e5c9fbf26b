/- Contracts of table's small calls: mayHave, isChunk, pages, Len, Left, Find. -/
import Derived.Test.YtibemiiflibnaaaTabMem
import Derived.Test.YtibemiiflibnaaaTabMath2
import Derived.WalkSpells
import Derived.Deep.QuietTactic
import Derived.BigQuiet
import Derived.RegionTactic
namespace Go.Proofs.Ytibemiiflibnaaa
namespace Tb
open Go.RowKit Dsk Go.Maps
set_option linter.unusedVariables false

theorem int_law : Keyed Try.prog 3 := int_keyed Try.underlying3
theorem zero_int (w : World) : (zeroValue 3).run Try.prog w = .ok (.int .i64 0) w := Try.zeroValue3 w
theorem int_key (k : Int) (h : (Lit.int .i64 k).wf = true) : keyOf Try.prog 3 (.int .i64 k) = some (.int .i64 k) := keyOf_int_mk Try.underlying3 h

theorem mayhave_any (n : Int) (w : World) : Calls Try.prog 23 #[.int .i64 n] w fun e w' => e = .returned (.bool (decide (0 ≤ n) && decide (n ≤ 1048576))) ∧ w = w' := by
  by_cases h : 0 ≤ n
  · have d : decide (0 ≤ n) = true := decide_eq_true h
    go_enter Try.func23, Try.ntmps23
    go_wp2
    go_ret
    exact ⟨by rw [d]; rfl, rfl⟩
  · have d : decide (0 ≤ n) = false := decide_eq_false h
    go_enter Try.func23, Try.ntmps23
    go_wp2
    go_ret
    exact ⟨rfl, rfl⟩
theorem ischunk_any (n : Int) (w : World) : Calls Try.prog 31 #[.int .i64 n] w fun e w' => e = .returned (.bool (decide (0 ≤ n ∧ n ≤ 2147483646))) ∧ w = w' := by
  by_cases h : 0 ≤ n
  · have d : decide (0 ≤ n) = true := decide_eq_true h
    have e1 : decide (0 ≤ n ∧ n ≤ 2147483646) = decide (n ≤ 2147483646) := by simp [h]
    rw [e1]
    clear h e1
    go_enter Try.func31, Try.ntmps31
    go_wp2
    go_ret
    exact ⟨rfl, rfl⟩
  · have d : decide (0 ≤ n) = false := decide_eq_false h
    have e1 : decide (0 ≤ n ∧ n ≤ 2147483646) = false := by simp; omega
    rw [e1]
    clear h e1
    go_enter Try.func31, Try.ntmps31
    go_wp2
    go_ret
    exact ⟨rfl, rfl⟩
theorem pages_any (n : Nat) (w : World) (h : n ≤ 1048576) : Calls Try.prog 30 #[.int .i64 (n : Int)] w fun e w' => e = .returned (.int .i64 (pagesN n : Int)) ∧ w = w' := by
  have k1 : IntKind.i64.wrap ((n : Int) + 13) = (n : Int) + 13 := by rw [IntWalk.i64_in _ (by omega)]
  have k2 : IntKind.i64.wrap ((n : Int) + 13 - 1) = (n : Int) + 12 := by rw [IntWalk.i64_in _ (by omega)]; omega
  have HQ : Hid (((n : Int) + 12) / 13 = (pagesN n : Int)) := Lib.hid (by unfold pagesN; omega)
  have HT : Hid (((n : Int) + 12).tdiv 13 = (pagesN n : Int)) := Lib.hid (by rw [Int.tdiv_eq_ediv_of_nonneg (by omega)]; unfold pagesN; omega)
  have hq := HQ.out
  have ht := HT.out
  go_enter Try.func30, Try.ntmps30
  go_wp2
  go_ret
  exact ⟨by first | rfl | (rw [← HQ.out]; first | rfl | (congr 2; omega)), rfl⟩

theorem len_any {w : World} {o : Ob} {m : List Int} (h : Tm w o m) : Calls Try.prog 20 #[.pointer (some ⟨o.p, 0, none⟩)] w fun e w' => e = .returned (.int .i64 ((used m).length : Int)) ∧ w = w' := by
  obtain ⟨n, c, g, ht, rfl⟩ := h
  obtain ⟨_, h1, _, _, _⟩ := ht.reads
  obtain ⟨D, hown, hk⟩ := ht.placeOf
  have hnd := used_nodup ht.pr.ok
  rw [used_full] at hnd ⊢
  obtain ⟨_, hsz⟩ := size_used hown hk hnd
  have HO := Lib.hid hown
  have HS := Lib.hid hsz
  clear ht hown hk hnd hsz
  go_enter Try.func20, Try.ntmps20
  go_wp2_with (at_len; refine wpList_len_own _ rfl _ 57 rfl 3 3 Try.underlying57 _ o.mb (Maps.size D) D rfl HO.out ?_)
  go_ret
  exact ⟨by rw [HS.out]; rfl, rfl⟩
theorem find_any {w : World} {o : Ob} {m : List Int} (h : Tm w o m) (k : Int) (hk : (Lit.int .i64 k).wf = true) : Calls Try.prog 17 #[.pointer (some ⟨o.p, 0, none⟩), .int .i64 k] w fun e w' => e = .returned (.tuple #[.int .i64 (((find m k).getD 0 : Nat) : Int), .bool (find m k).isSome]) ∧ w = w' := by
  obtain ⟨n, c, g, ht, rfl⟩ := h
  obtain ⟨_, h1, _, _, _⟩ := ht.reads
  obtain ⟨D, hown, hm⟩ := ht.placeOf
  have hK : Hid (keyOf Try.prog 3 (.int .i64 k) = some (.int .i64 k)) := Lib.hid (int_key k hk)
  have HO := Lib.hid hown
  have hres : Hid (Maps.has D (.int .i64 k) = (find (full n c) k).isSome ∧ D.atKey (.int .i64 k) (.lit (.int .i64 0)) = .lit (.int .i64 (((find (full n c) k).getD 0 : Nat) : Int))) := by
    refine Lib.hid ?_
    cases hf : find (full n c) k with
    | none =>
      have hh : Maps.has D (.int .i64 k) = false := by
        rw [Bool.eq_false_iff]
        intro e
        obtain ⟨h0, hc⟩ := (hm.2.1 k).1 e
        exact find_none.1 hf h0 ((full_mem h0).2 hc)
      exact ⟨hh, by rw [Maps.atKey_of_not_has hh]; rfl⟩
    | some i =>
      obtain ⟨h0, hi, _⟩ := find_some.1 hf
      have hc := full_used hi h0
      exact ⟨(hm.2.1 k).2 ⟨h0, List.mem_of_getElem? hc⟩, hm.2.2 i k hc h0 _⟩
  clear ht hown hm hk
  go_enter Try.func17, Try.ntmps17
  go_wp2_with (at_lookup; refine wpList_lookup_own_ok_int _ rfl _ _ 57 rfl 3 3 .i64 int_law Try.underlying57 Try.underlying3 (zero_int _) o.mb (Maps.size D) D rfl HO.out _ (.int .i64 k) rfl hK.out ?_; intro x hatx hwx; have HA := Lib.hid hatx; clear hatx hwx)
  go_ret2
  obtain ⟨e1, e2⟩ := hres.out
  have e3 := HA.out.symm.trans e2
  injection e3 with e3
  injection e3 with _ e3
  exact ⟨by rw [e1, e3]; rfl, rfl⟩

theorem left_any {w : World} {o : Ob} {m : List Int} (h : Tm w o m) : Calls Try.prog 21 #[.pointer (some ⟨o.p, 0, none⟩)] w fun e w' => e = .returned (.int .i64 ((m.length - (used m).length : Nat) : Int)) ∧ Below w.heap.size w w' := by
  obtain ⟨n, c, g, ht, rfl⟩ := h
  obtain ⟨h0, h1, _, _, _⟩ := ht.reads
  obtain ⟨D, hown, hk⟩ := ht.placeOf
  have hnd := used_nodup ht.pr.ok
  have hle : (used (full n c)).length ≤ (full n c).length := used_length_le _
  rw [full_length ht.pr.len] at hle ⊢
  rw [used_full] at hnd hle ⊢
  obtain ⟨_, hsz⟩ := size_used hown hk hnd
  have hfew := ht.pr.few
  have HO := Lib.hid hown
  obtain ⟨s, hs⟩ : ∃ s, s = (used c).length := ⟨_, rfl⟩
  rw [← hs] at hsz hle ⊢
  have k1 : IntKind.i64.wrap ((n : Int) - (s : Int)) = ((n - s : Nat) : Int) := by rw [IntWalk.i64_in _ (by omega)]; omega
  have k2 : (n : Int) - (s : Int) = ((n - s : Nat) : Int) := by omega
  have hlen : ∀ W : World, (∀ k : Nat, W.heap[k]? = w.heap[k]?) → (Builtin.len_ #[57] 3 #[.map (some o.mb)]).run Try.prog W = .ok (.int .i64 (s : Int)) W := by
    intro W hW
    have := (map_same HO.out (hW o.mb)).len Try.underlying57 3
    rwa [hsz] at this
  have l0 := hlen w (fun _ => rfl)
  have l1 := hlen w.drew (fun _ => rfl)
  clear ht hown hk hnd hs hsz hlen
  go_enter Try.func21, Try.ntmps21
  go_wp2
  go_region
  all_goals
    go_wp2
    go_ret
    exact ⟨by first | rfl | (rw [← k2]; rfl), by first | exact Below.refl _ _ | exact (Below.refl _ _).drew⟩
end Tb
end Go.Proofs.Ytibemiiflibnaaa
