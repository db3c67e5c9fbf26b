/- Contracts of the disk's small calls: Sectors, Pending, Dead, Fail, has, spend, forget; of no disk. -/
import Derived.Test.YtbmabcddciibfaaDiskMem
import Derived.WalkSpells
namespace Go.Proofs.Ytbmabcddciibfaa
namespace Dsk
open Go.RowKit
set_option maxRecDepth 100000
set_option linter.unusedVariables false
theorem sectors_any {w : World} {o : Ob} {st : Dm.St} (h : Dk w o st) : Calls Try.prog 22 #[.pointer (some ⟨o.p, 0, none⟩)] w fun e w' => e = .returned (.int .i64 (st.S.length : Int)) ∧ w = w' := by
  obtain ⟨h0, _, _, _, _, _⟩ := h.reads
  have hk := h.ok.few
  obtain ⟨n, hn⟩ : ∃ n, n = st.S.length := ⟨_, rfl⟩
  rw [← hn] at h0 hk ⊢
  clear hn h
  have hq : ((64 * n : Nat) : Int) / 64 = (n : Int) := by omega
  have HQ := Lib.hid hq
  clear hq
  go_enter Try.func22, Try.ntmps22
  go_wp2
  go_ret
  exact ⟨by rw [← HQ.out]; rfl, rfl⟩
theorem has_any {w : World} {o : Ob} {st : Dm.St} (h : Dk w o st) (a n : Int) (ha : a ≤ 9223372036854775807) : Calls Try.prog 35 #[.pointer (some ⟨o.p, 0, none⟩), .int .i64 a, .int .i64 n] w fun e w' => e = .returned (.bool (Dm.thereB st a n)) ∧ w = w' := by
  have hk := h.ok.few
  have hiff := Dm.there_iff st a n
  by_cases h1 : 0 ≤ a
  · by_cases h2 : 0 ≤ n
    · have hr : Dm.thereB st a n = decide (n ≤ (st.S.length : Int) - a) := by rw [Bool.eq_iff_iff, hiff]; simp [h1, h2]
      have HR := Lib.hid hr
      clear hr hiff
      go_enter Try.func35, Try.ntmps35
      go_wp2_with (go_at_call 22; refine (sectors_any h).mono ?_; rintro e w' ⟨rfl, rfl⟩)
      all_goals (go_ret; exact ⟨by rw [HR.out]; simp_all, rfl⟩)
    · have hr : Dm.thereB st a n = false := by rw [Bool.eq_false_iff]; intro c; exact h2 (hiff.1 c).2.1
      have HR := Lib.hid hr
      clear hr hiff
      have hd : decide (0 ≤ n) = false := by simpa using h2
      go_enter Try.func35, Try.ntmps35
      go_wp2_with fail
      go_ret
      exact ⟨by rw [HR.out]; rfl, rfl⟩
  · have hr : Dm.thereB st a n = false := by rw [Bool.eq_false_iff]; intro c; exact h1 (hiff.1 c).1
    have HR := Lib.hid hr
    clear hr hiff
    have hd : decide (0 ≤ a) = false := by simpa using h1
    go_enter Try.func35, Try.ntmps35
    go_wp2_with fail
    go_ret
    exact ⟨by rw [HR.out]; rfl, rfl⟩

theorem Dk.apart {w : World} {o : Ob} {st : Dm.St} (h : Dk w o st) : o.sb ≠ o.p ∧ o.mb ≠ o.p ∧ o.mb ≠ o.sb ∧ (∀ k, o.pv.ownBlock = some k → k ≠ o.p ∧ k ≠ o.sb ∧ k ≠ o.mb) := by
  obtain ⟨D, n, ⟨es, clock, hm, _⟩, _⟩ := h.newest
  have h1 := h.head
  have h2 := h.stands
  refine ⟨fun e => ?_, fun e => ?_, fun e => ?_, fun k hk => ⟨fun e => ?_, fun e => ?_, fun e => ?_⟩⟩
  · rw [e, h1] at h2; injection h2 with h2; injection h2 with _ h2; cases h2
  · rw [e, h1] at hm; injection hm with hm; cases hm
  · rw [e, h2] at hm; injection hm with hm; cases hm
  · obtain ⟨cur, hc⟩ := own_block h.pend k hk; rw [e, h1] at hc; injection hc with hc; injection hc with _ hc; cases hc
  · obtain ⟨cur, hc⟩ := own_block h.pend k hk; rw [e, h2] at hc; injection hc with hc; injection hc with _ hc; cases hc
  · obtain ⟨cur, hc⟩ := own_block h.pend k hk; rw [e, hm] at hc; injection hc with hc; cases hc

/-- The fuse is set. -/
theorem Dk.setFuse {w : World} {o : Ob} {st : Dm.St} (h : Dk w o st) (f : Int) (hl : -9223372036854775808 ≤ f) (hh : f ≤ 9223372036854775807) :
    Dk (w.setCell ⟨o.p, 3, none⟩ (.int .i64 f)) { o with f := f } (Dm.fail st f) := by
  obtain ⟨a1, a2, _, a3⟩ := h.apart
  obtain ⟨D, n, hm, r⟩ := h.newest
  refine ⟨Dm.fail_ok h.ok f, ?_, ?_, ?_, ⟨D, n, map_same hm (Below.heap_setCell _ _ _ _ a2), r⟩, rfl, hl, hh⟩
  · rw [heap_setCell_same _ _ _ _ _ _ h.head]; rfl
  · rw [Below.heap_setCell _ _ _ _ a1]; exact h.stands
  · exact own_same h.pend fun k hk => Below.heap_setCell _ _ _ _ (a3 k hk).1
/-- It is dead, or not. -/
theorem Dk.setDead {w : World} {o : Ob} {st : Dm.St} (h : Dk w o st) (b : Bool) : Dk (w.setCell ⟨o.p, 4, none⟩ (.bool b)) o { st with dead := b } := by
  obtain ⟨a1, a2, _, a3⟩ := h.apart
  obtain ⟨D, n, hm, r⟩ := h.newest
  refine ⟨⟨h.ok.sectors, h.ok.writes, h.ok.fuse, h.ok.few⟩, ?_, ?_, ?_, ⟨D, n, map_same hm (Below.heap_setCell _ _ _ _ a2), r⟩, h.fuse, h.low, h.high⟩
  · rw [heap_setCell_same _ _ _ _ _ _ h.head]; rfl
  · rw [Below.heap_setCell _ _ _ _ a1]; exact h.stands
  · exact own_same h.pend fun k hk => Below.heap_setCell _ _ _ _ (a3 k hk).1
/-- Nothing is pending; the map is a new one. -/
theorem Dk.setNone {w : World} {o : Ob} {st : Dm.St} (h : Dk w o st) : Dk (((w.setCell ⟨o.p, 1, none⟩ (.slice none 0 0)).setCell ⟨o.p, 2, none⟩ (.map (some w.heap.size))).alloc (.map #[] 0)) { o with pv := .slice none 0 0, mb := w.heap.size } { st with P := [] } := by
  obtain ⟨a1, a2, _, a3⟩ := h.apart
  have hp := lt_of_heap h.head
  have hs := lt_of_heap h.stands
  have hsz : ((w.setCell ⟨o.p, 1, none⟩ (.slice none 0 0)).setCell ⟨o.p, 2, none⟩ (.map (some w.heap.size))).heap.size = w.heap.size := by simp [World.setCell]
  refine ⟨⟨h.ok.sectors, (fun x hx => by cases hx), h.ok.fuse, h.ok.few⟩, ?_, ?_, World.ownsRow_nil _ _ _ _, ⟨.map [], 0, ?_, Nat.le_refl _, mapOk_nil⟩, h.fuse, h.low, h.high⟩
  · rw [Below.heap_alloc _ _ _ (by rw [hsz]; exact hp), heap_setCell_same _ _ _ _ _ _ (heap_setCell_same _ _ _ _ _ _ h.head)]; rfl
  · rw [Below.heap_alloc _ _ _ (by rw [hsz]; exact hs), Below.heap_setCell _ _ _ _ a1, Below.heap_setCell _ _ _ _ a1]; exact h.stands
  · have := World.ownsMap_made (H := Unit) ((w.setCell ⟨o.p, 1, none⟩ (.slice none 0 0)).setCell ⟨o.p, 2, none⟩ (.map (some w.heap.size))) Try.prog 3 (plainElem Try.prog 3)
    rw [hsz] at this
    exact this

/-- Behind a disk's step. -/
def Went (o : Ob) (st : Dm.St) (w w' : World) : Prop := ∃ o', Dk w' o' st ∧ Step o o' w w'
theorem Went.refl {o : Ob} {st : Dm.St} {w : World} (h : Dk w o st) : Went o st w w := ⟨o, h, Step.refl _ _⟩
theorem step_head (o o' : Ob) (w : World) (i : Nat) (v : Value) (hfp : ∀ k, o'.fp k → o.fp k) (hp : o'.p = o.p) : Step o o' w (w.setCell ⟨o.p, i, none⟩ v) :=
  ⟨(Fr.refl _ _).setCell _ (.inl rfl) _, fun k hk => .inl (hfp k hk), hp⟩
theorem fail_any {w : World} {o : Ob} {st : Dm.St} (h : Dk w o st) (n : Int) (hl : -9223372036854775808 ≤ n) (hh : n ≤ 9223372036854775807) : Calls Try.prog 15 #[.pointer (some ⟨o.p, 0, none⟩), .int .i64 n] w fun e w' => e = .returned (.tuple #[]) ∧ Went o (Dm.fail st n) w w' := by
  obtain ⟨_, _, _, h3, _, hf⟩ := h.reads
  have hf3 := hf 3
  have H := Lib.hid h
  clear hf h
  go_enter Try.func15, Try.ntmps15
  go_wp2
  go_end0
  exact ⟨rfl, _, H.out.setFuse n hl hh, step_head _ _ _ _ _ (fun _ h => h) rfl⟩
theorem spend_any {w : World} {o : Ob} {st : Dm.St} (h : Dk w o st) : Calls Try.prog 31 #[.pointer (some ⟨o.p, 0, none⟩)] w fun e w' => e = .returned (.bool (Dm.spendB st)) ∧ Went o (Dm.spendS st) w w' := by
  obtain ⟨_, _, _, h3, h4, hf⟩ := h.reads
  have hf3 := hf 3
  have hf4 := hf 4
  have hlo := h.low
  have hhi := h.high
  have hfu := h.fuse
  have H := Lib.hid h
  clear hf h
  by_cases hz : o.f = 0
  · have hz' : (o.f == 0) = true := by simp [hz]
    have hs : Dm.spendS st = { st with dead := true } := by unfold Dm.spendS; rw [if_pos (by omega)]
    have hb : Dm.spendB st = false := by unfold Dm.spendB; simp; omega
    have HS := Lib.hid hs
    have HB := Lib.hid hb
    clear hs hb hfu hz
    go_enter Try.func31, Try.ntmps31
    go_wp2
    go_ret
    exact ⟨by rw [HB.out]; rfl, by rw [HS.out]; exact ⟨_, H.out.setDead true, step_head _ _ _ _ _ (fun _ h => h) rfl⟩⟩
  · have hz' : (o.f == 0) = false := by simp [hz]
    cases hdead : st.dead with
    | true =>
      have hs : Dm.spendS st = st := by unfold Dm.spendS; rw [if_neg (by omega), if_pos hdead]
      have hb : Dm.spendB st = false := by unfold Dm.spendB; simp [hdead]
      have HS := Lib.hid hs
      have HB := Lib.hid hb
      rw [hdead] at h4
      clear hs hb hfu hz hdead
      go_enter Try.func31, Try.ntmps31
      go_wp2
      go_ret
      exact ⟨by rw [HB.out]; rfl, by rw [HS.out]; exact Went.refl H.out⟩
    | false =>
      have hb : Dm.spendB st = true := by unfold Dm.spendB; simp [hdead]; omega
      have HB := Lib.hid hb
      by_cases hpos : 0 < o.f
      · have hs : Dm.spendS st = Dm.fail st (o.f - 1) := by
          unfold Dm.spendS Dm.fail; rw [if_neg (by omega), if_neg (by simp [hdead]), if_pos (by omega)]
          congr 1
          omega
        have HS := Lib.hid hs
        rw [hdead] at h4
        clear hs hb hfu hz hdead
        go_enter Try.func31, Try.ntmps31
        go_wp2
        go_ret
        exact ⟨by rw [HB.out]; rfl, by rw [HS.out]; exact ⟨_, H.out.setFuse (o.f - 1) (by omega) (by omega), step_head _ _ _ _ _ (fun _ h => h) rfl⟩⟩
      · have hs : Dm.spendS st = st := by
          unfold Dm.spendS; rw [if_neg (by omega), if_neg (by simp [hdead]), if_neg (by omega)]
        have HS := Lib.hid hs
        rw [hdead] at h4
        clear hs hb hfu hz hdead
        go_enter Try.func31, Try.ntmps31
        go_wp2
        go_ret
        exact ⟨by rw [HB.out]; rfl, by rw [HS.out]; exact Went.refl H.out⟩
theorem forget_any {w : World} {o : Ob} {st : Dm.St} (h : Dk w o st) : Calls Try.prog 33 #[.pointer (some ⟨o.p, 0, none⟩)] w fun e w' => e = .returned (.tuple #[]) ∧ Went o { st with P := [] } w w' := by
  obtain ⟨_, h1, h2, _, _, hf⟩ := h.reads
  have hf1 := hf 1
  have hf2 := hf 2
  have hp := lt_of_heap h.head
  have H := Lib.hid h
  have hmm := @run_makeMap Try.prog
  clear hf h
  go_enter Try.func33, Try.ntmps33
  go_wp2
  go_end0
  refine ⟨rfl, _, H.out.setNone, ⟨?_, ?_, rfl⟩⟩
  · exact (((Fr.refl _ _).setCell ⟨o.p, 1, none⟩ (.inl rfl) _).setCell ⟨o.p, 2, none⟩ (.inl rfl) _).alloc _
  · rintro k (hk | hk | hk | hk)
    · exact .inl (.inl hk)
    · exact .inl (.inr (.inl hk))
    · cases hk
    · exact .inr (Nat.le_of_eq hk.symm)
end Dsk
end Go.Proofs.Ytbmabcddciibfaa