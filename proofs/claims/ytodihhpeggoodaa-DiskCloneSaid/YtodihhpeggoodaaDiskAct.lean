/- The contract of the statements' act: one act on a disk, and on the document's. -/
import Derived.Test.YtodihhpeggoodaaDiskRLoad
import Derived.Deep.RegionHeld3
namespace Go.Proofs.Ytodihhpeggoodaa
namespace Dsk
open Go.RowKit
set_option linter.unusedVariables false

/-- One act: its kind, place, number, data; what is kept, and where that lies. -/
structure Ac where
  k : Nat
  a : Int
  n : Int
  d : List UInt8
  ks : List Bool
  ka : Option Addr
  kc : Nat
def Ac.row (x : Ac) : Array Value := #[.int .u8 (x.k : Int), .int .i64 x.a, .int .i64 x.n, .string (Om.B x.d), .slice x.ka x.ks.length x.kc]
def Ac.step (x : Ac) (st : Dm.St) : Dm.St := match x.k % 5 with
  | 0 => st
  | 1 => (Dm.write st x.a x.d).1
  | 2 => (Dm.flush st).1
  | 3 => Dm.fail st x.n
  | _ => Dm.restart st x.ks
def Ac.same (x : Ac) (st sr : Dm.St) : Bool := match x.k % 5 with
  | 0 => decide (Dm.readS st x.a x.n = Dm.readS sr x.a x.n) && decide (Dm.readE st x.a x.n = Dm.readE sr x.a x.n)
  | 1 => decide ((Dm.write st x.a x.d).2 = (Dm.write sr x.a x.d).2)
  | 2 => decide ((Dm.flush st).2 = (Dm.flush sr).2)
  | _ => true
theorem Ac.same_self (x : Ac) (st : Dm.St) : x.same st st = true := by unfold Ac.same; split <;> simp
structure Ac.Wf (x : Ac) : Prop where
  k : x.k < 256
  alo : -9223372036854775808 ≤ x.a
  ahi : x.a ≤ 9223372036854775807
  nlo : -9223372036854775808 ≤ x.n
  nhi : x.n ≤ 9223372036854775807
  d : x.d.length ≤ 140737488355328
  ks : x.ks.length ≤ 140737488355328

/-- Both, behind some steps. -/
structure Two (o : Ob) (r : Ro) (o' : Ob) (r' : Ro) (st sr : Dm.St) (w w' : World) : Prop where
  dk : Dk w' o' st
  rk : Rk w' r' sr
  fr : Fr (fun k => o.fp k ∨ r.fp k) w w'
  ofp : ∀ k, o'.fp k → o.fp k ∨ w.heap.size ≤ k
  rfp : ∀ k, r'.fp k → r.fp k ∨ w.heap.size ≤ k
  dj : ∀ k, o'.fp k → ¬ r'.fp k
  op : o'.p = o.p
  rp : r'.p = r.p
theorem Two.refl {o : Ob} {r : Ro} {st sr : Dm.St} {w : World} (h : Dk w o st) (hr : Rk w r sr) (dj : ∀ k, o.fp k → ¬ r.fp k) : Two o r o r st sr w w :=
  ⟨h, hr, Fr.refl _ _, fun _ h => .inl h, fun _ h => .inl h, dj, rfl, rfl⟩
theorem Two.trans {o o1 o2 : Ob} {r r1 r2 : Ro} {st sr st2 sr2 : Dm.St} {w w1 w2 : World} (h : Two o r o1 r1 st sr w w1) (k : Two o1 r1 o2 r2 st2 sr2 w1 w2) : Two o r o2 r2 st2 sr2 w w2 := by
  refine ⟨k.dk, k.rk, h.fr.trans k.fr fun i hi hb => ?_, fun i hi => ?_, fun i hi => ?_, k.dj, k.op.trans h.op, k.rp.trans h.rp⟩
  · rcases hb with hb | hb
    · rcases h.ofp i hb with e | e
      · exact .inl e
      · omega
    · rcases h.rfp i hb with e | e
      · exact .inr e
      · omega
  · rcases k.ofp i hi with e | e
    · exact h.ofp i e
    · exact .inr (Nat.le_trans h.fr.size e)
  · rcases k.rfp i hi with e | e
    · exact h.rfp i e
    · exact .inr (Nat.le_trans h.fr.size e)
theorem two_of {o o' : Ob} {r r' : Ro} {sr st' sr' : Dm.St} {w w1 w2 : World} (hr : Rk w r sr) (dj : ∀ k, o.fp k → ¬ r.fp k) (hs : Step o o' w w1) (hd : Dk w1 o' st') (hrs : RStep r r' w1 w2) (hr' : Rk w2 r' sr') : Two o r o' r' st' sr' w w2 := by
  have hno : ∀ k, o'.fp k → ¬ r.fp k := fun k hk hc => by
    rcases hs.fp k hk with e | e
    · exact dj k e hc
    · have := hr.lt k hc; omega
  refine ⟨hd.keep hrs.fr hno, hr', ?_, hs.fp, fun k hk => ?_, fun k hk hc => ?_, hs.p, hrs.p⟩
  · exact (hs.fr.mono fun i _ h => .inl h).trans hrs.fr fun i _ h => .inr h
  · rcases hrs.fp k hk with e | e
    · exact .inl e
    · exact .inr (Nat.le_trans hs.fr.size e)
  · rcases hrs.fp k hc with e | e
    · exact hno k hk e
    · have := hd.lt k hk; omega
theorem two_pre {o o' : Ob} {r : Ro} {sr : Dm.St} {w w1 : World} (hr : Rk w r sr) (dj : ∀ k, o.fp k → ¬ r.fp k) (hs : Step o o' w w1) : Rk w1 r sr := hr.keep hs.fr fun k hk e => dj k e hk
theorem Kept.mono {w : World} {F G : Nat → Prop} {a : Option Addr} {ks : List Bool} (h : Kept w F a ks) (hg : ∀ i, i < w.heap.size → G i → F i) : Kept w G a ks := fun hn => by
  obtain ⟨b, off, e, hF, hb, hc⟩ := h hn
  exact ⟨b, off, e, fun c => hF (hg b hb c), hb, hc⟩
theorem B_ne {p q : List UInt8} (h : p ≠ q) : ((Om.B p).toList == (Om.B q).toList) = false := by
  rw [beq_eq_false_iff_ne, Lib.toList_data, Lib.toList_data]
  intro c
  exact h (by rw [← Om.L_B p, ← Om.L_B q]; exact c)

theorem box_cell (w : World) (cs : Array Value) (T : TypeId) (j : Nat) : (w.alloc (.cells cs T)).cell? ⟨w.heap.size, j, none⟩ = cs[j]? := World.cell?_alloc_at _ _ _ _ rfl
theorem box_below (w : World) (o : Obj) : Below w.heap.size w (w.alloc o) := (Below.refl _ _).alloc (Nat.le_refl _) _
theorem Step.cell {o o' : Ob} {st : Dm.St} {w w1 W : World} (h : Dk w o st) (hs : Step o o' w1 W) (hlt : w.heap.size < w1.heap.size) (j : Nat) : W.cell? ⟨w.heap.size, j, none⟩ = w1.cell? ⟨w.heap.size, j, none⟩ :=
  World.cell?_of_block (w := w1) (a := ⟨w.heap.size, j, none⟩) (hs.fr.block w.heap.size hlt (fun e => Nat.lt_irrefl _ (h.lt _ e)))

theorem RStep.cell {r r' : Ro} {sr : Dm.St} {w w1 W : World} (h : Rk w r sr) (hs : RStep r r' w1 W) (hlt : w.heap.size < w1.heap.size) (j : Nat) : W.cell? ⟨w.heap.size, j, none⟩ = w1.cell? ⟨w.heap.size, j, none⟩ :=
  World.cell?_of_block (w := w1) (a := ⟨w.heap.size, j, none⟩) (hs.fr.block w.heap.size hlt (fun e => Nat.lt_irrefl _ (h.lt _ e)))

theorem act0 {k : Nat} {a n : Int} {d : List UInt8} {ks : List Bool} {ka : Option Addr} {kc : Nat} {o : Ob} {r : Ro} {st sr : Dm.St} {w : World} (hk5 : (k : Int) % 5 = 0) (hkb : k < 256) (ha : a ≤ 9223372036854775807) (h : Dk w o st) (hr : Rk w r sr) (dj : ∀ k, o.fp k → ¬ r.fp k) (hP : st.P.length ≤ 549755813888) (hQ : sr.P.length ≤ 549755813888) :
    Calls Try.prog 10 #[.pointer (some ⟨o.p, 0, none⟩), .pointer (some ⟨r.p, 0, none⟩), .agg #[.int .u8 (k : Int), .int .i64 a, .int .i64 n, .string (Om.B d), .slice ka ks.length kc]] w
      fun e w' => e = .returned (.bool (decide (Dm.readS st a n = Dm.readS sr a n) && decide (Dm.readE st a n = Dm.readE sr a n))) ∧ Below w.heap.size w w' := by
  have H := Lib.hid h
  have HR := Lib.hid hr
  clear h hr
  have C1 : Hid (∀ w1, Below w.heap.size w w1 → Calls Try.prog 16 #[.pointer (some ⟨o.p, 0, none⟩), .int .i64 a, .int .i64 n] w1 fun e w' => e = .returned (.tuple #[.string (Om.B (Dm.readS st a n)), .int .i64 (Dm.readE st a n)]) ∧ Below w1.heap.size w1 w') :=
    fun w1 hb => read_any (H.out.below hb) a n ha (by omega)
  have C2 : Hid (∀ w1, Below w.heap.size w w1 → Calls Try.prog 25 #[.pointer (some ⟨r.p, 0, none⟩), .int .i64 a, .int .i64 n] w1 fun e w' => e = .returned (.tuple #[.string (Om.B (Dm.readS sr a n)), .int .i64 (Dm.readE sr a n)]) ∧ w1 = w') :=
    fun w1 hb => rread_any (HR.out.below hb) a n ha (by omega)
  obtain ⟨X, hX⟩ : ∃ X, X = Dm.readS st a n := ⟨_, rfl⟩
  obtain ⟨Y, hY⟩ : ∃ Y, Y = Dm.readS sr a n := ⟨_, rfl⟩
  obtain ⟨E, hE⟩ : ∃ E, E = Dm.readE st a n := ⟨_, rfl⟩
  obtain ⟨F, hF⟩ : ∃ F, F = Dm.readE sr a n := ⟨_, rfl⟩
  rw [← hX, ← hE] at C1
  rw [← hY, ← hF] at C2
  rw [← hX, ← hY, ← hE, ← hF]
  clear hX hY hE hF
  have fin : ∀ b, b = (decide (X = Y) && decide (E = F)) → Hid (b = (decide (X = Y) && decide (E = F))) := fun b hb => hb
  by_cases hxy : X = Y
  · by_cases hef : E = F
    · have FIN := fin true (by simp [hxy, hef])
      clear fin
      subst hxy
      subst hef
      rw [← FIN.out]
      clear FIN
      go_enter Try.func10, Try.ntmps10
      go_wp2_with fail
      refine (C1.out _ (box_below _ _)).mono ?_
      rintro e w1 ⟨rfl, hb1⟩
      have q1 : w1.cell? ⟨w.heap.size, 1, none⟩ = some (.int .i64 a) := (hb1.cell (p := ⟨w.heap.size, 1, none⟩) (by simp)).trans (box_cell _ _ _ _)
      have q2 : w1.cell? ⟨w.heap.size, 2, none⟩ = some (.int .i64 n) := (hb1.cell (p := ⟨w.heap.size, 2, none⟩) (by simp)).trans (box_cell _ _ _ _)
      have HB2 := Lib.hid ((box_below w _).trans (hb1.mono (by simp)))
      clear hb1
      go_wp2_with fail
      refine (C2.out _ HB2.out).mono ?_
      rintro e w2 ⟨rfl, rfl⟩
      go_wp2
      go_ret
      exact ⟨rfl, HB2.out⟩
    · have FIN := fin false (by simp [hxy, hef])
      have hne : (E == F) = false := by simpa using hef
      clear fin
      subst hxy
      rw [← FIN.out]
      clear FIN hef
      go_enter Try.func10, Try.ntmps10
      go_wp2_with fail
      refine (C1.out _ (box_below _ _)).mono ?_
      rintro e w1 ⟨rfl, hb1⟩
      have q1 : w1.cell? ⟨w.heap.size, 1, none⟩ = some (.int .i64 a) := (hb1.cell (p := ⟨w.heap.size, 1, none⟩) (by simp)).trans (box_cell _ _ _ _)
      have q2 : w1.cell? ⟨w.heap.size, 2, none⟩ = some (.int .i64 n) := (hb1.cell (p := ⟨w.heap.size, 2, none⟩) (by simp)).trans (box_cell _ _ _ _)
      have HB2 := Lib.hid ((box_below w _).trans (hb1.mono (by simp)))
      clear hb1
      go_wp2_with fail
      refine (C2.out _ HB2.out).mono ?_
      rintro e w2 ⟨rfl, rfl⟩
      go_wp2
      go_ret
      exact ⟨rfl, HB2.out⟩
  · have FIN := fin false (by simp [hxy])
    have hne := B_ne hxy
    clear fin
    rw [← FIN.out]
    clear FIN hxy
    go_enter Try.func10, Try.ntmps10
    go_wp2_with fail
    refine (C1.out _ (box_below _ _)).mono ?_
    rintro e w1 ⟨rfl, hb1⟩
    have q1 : w1.cell? ⟨w.heap.size, 1, none⟩ = some (.int .i64 a) := (hb1.cell (p := ⟨w.heap.size, 1, none⟩) (by simp)).trans (box_cell _ _ _ _)
    have q2 : w1.cell? ⟨w.heap.size, 2, none⟩ = some (.int .i64 n) := (hb1.cell (p := ⟨w.heap.size, 2, none⟩) (by simp)).trans (box_cell _ _ _ _)
    have HB2 := Lib.hid ((box_below w _).trans (hb1.mono (by simp)))
    clear hb1
    go_wp2_with fail
    refine (C2.out _ HB2.out).mono ?_
    rintro e w2 ⟨rfl, rfl⟩
    go_wp2
    go_ret
    exact ⟨rfl, HB2.out⟩

def Twice (o : Ob) (r : Ro) (st sr : Dm.St) (w w' : World) : Prop := ∃ o' r', Two o r o' r' st sr w w'

theorem act1 {k : Nat} {a n : Int} {d : List UInt8} {ks : List Bool} {ka : Option Addr} {kc : Nat} {o : Ob} {r : Ro} {st sr : Dm.St} {w : World} (hk5 : (k : Int) % 5 = 1) (hkb : k < 256) (ha : a ≤ 9223372036854775807) (hd : d.length ≤ 140737488355328) (h : Dk w o st) (hr : Rk w r sr) (dj : ∀ k, o.fp k → ¬ r.fp k) (hP : st.P.length ≤ 549755813888) (hQ : sr.P.length ≤ 549755813888) :
    Calls Try.prog 10 #[.pointer (some ⟨o.p, 0, none⟩), .pointer (some ⟨r.p, 0, none⟩), .agg #[.int .u8 (k : Int), .int .i64 a, .int .i64 n, .string (Om.B d), .slice ka ks.length kc]] w
      fun e w' => e = .returned (.bool (decide ((Dm.write st a d).2 = (Dm.write sr a d).2))) ∧ Twice o r (Dm.write st a d).1 (Dm.write sr a d).1 w w' := by
  have H := Lib.hid h
  have HR := Lib.hid hr
  have DJ := Lib.hid dj
  clear h hr dj
  have C1 : Hid (∀ w1, Below w.heap.size w w1 → Calls Try.prog 22 #[.pointer (some ⟨o.p, 0, none⟩), .int .i64 a, .string (Om.B d)] w1 fun e w' => e = .returned (.int .i64 (Dm.write st a d).2) ∧ Went o (Dm.write st a d).1 w1 w') :=
    fun w1 hb => write_any (H.out.below hb) a d ha hd hP
  have C2 : Hid (∀ o1 w1, Step o o1 w w1 → Calls Try.prog 26 #[.pointer (some ⟨r.p, 0, none⟩), .int .i64 a, .string (Om.B d)] w1 fun e w' => e = .returned (.int .i64 (Dm.write sr a d).2) ∧ RWent r (Dm.write sr a d).1 w1 w') :=
    fun o1 w1 hs => rwrite_any (two_pre HR.out DJ.out hs) a d ha hd hQ
  obtain ⟨E, hE⟩ : ∃ E, E = (Dm.write st a d).2 := ⟨_, rfl⟩
  obtain ⟨F, hF⟩ : ∃ F, F = (Dm.write sr a d).2 := ⟨_, rfl⟩
  obtain ⟨s1, hs1⟩ : ∃ s, s = (Dm.write st a d).1 := ⟨_, rfl⟩
  obtain ⟨s2, hs2⟩ : ∃ s, s = (Dm.write sr a d).1 := ⟨_, rfl⟩
  rw [← hE, ← hs1] at C1
  rw [← hF, ← hs2] at C2
  rw [← hE, ← hF, ← hs1, ← hs2]
  clear hE hF hs1 hs2
  have fin : ∀ b, b = decide (E = F) → Hid (b = decide (E = F)) := fun b hb => hb
  by_cases hef : E = F
  · have FIN := fin true (by simp [hef])
    clear fin
    subst hef
    rw [← FIN.out]
    clear FIN
    go_enter Try.func10, Try.ntmps10
    go_wp2
    go_region_held3 (fun w' => w'.cell? ⟨w.heap.size, 1, none⟩ = some (.int .i64 a) ∧ w'.cell? ⟨w.heap.size, 3, none⟩ = some (.string (Om.B d)))
      (first | go_keep | (refine ⟨?_, ?_⟩ <;> assumption))
      (first | (go_at_call 22; refine (C1.out _ (box_below _ _).drew).mono ?_; rintro e w1 ⟨rfl, o1, hd1, hst1⟩; have q1 : w1.cell? ⟨w.heap.size, 1, none⟩ = some (.int .i64 a) := (hst1.cell H.out (by simp) 1).trans (box_cell _ _ _ _); have q3 : w1.cell? ⟨w.heap.size, 3, none⟩ = some (.string (Om.B d)) := (hst1.cell H.out (by simp) 3).trans (box_cell _ _ _ _); have HZ : w.heap.size < w1.heap.size := (by have := hst1.fr.size; simp at this; omega); have HD1 := Lib.hid hd1; have HS1 := Lib.hid ((Step.of_below (o := o) (box_below w _).drew).trans hst1); clear hd1 hst1) | (go_at_call 26; refine (C2.out _ _ HS1.out).mono ?_; rintro e w2 ⟨rfl, r2, hr2, hrs2⟩; have q4 : w2.cell? ⟨w.heap.size, 1, none⟩ = some (.int .i64 a) := (hrs2.cell HR.out HZ 1).trans q1; have q5 : w2.cell? ⟨w.heap.size, 3, none⟩ = some (.string (Om.B d)) := (hrs2.cell HR.out HZ 3).trans q3; have HR2 := Lib.hid hr2; have HRS2 := Lib.hid hrs2; clear hr2 hrs2))
    go_wp2
    go_ret
    exact ⟨rfl, o1, r2, two_of HR.out DJ.out HS1.out HD1.out HRS2.out HR2.out⟩
  · have FIN := fin false (by simp [hef])
    have hne : (E == F) = false := by simpa using hef
    clear fin
    rw [← FIN.out]
    clear FIN hef
    go_enter Try.func10, Try.ntmps10
    go_wp2
    go_region_held3 (fun w' => w'.cell? ⟨w.heap.size, 1, none⟩ = some (.int .i64 a) ∧ w'.cell? ⟨w.heap.size, 3, none⟩ = some (.string (Om.B d)))
      (first | go_keep | (refine ⟨?_, ?_⟩ <;> assumption))
      (first | (go_at_call 22; refine (C1.out _ (box_below _ _).drew).mono ?_; rintro e w1 ⟨rfl, o1, hd1, hst1⟩; have q1 : w1.cell? ⟨w.heap.size, 1, none⟩ = some (.int .i64 a) := (hst1.cell H.out (by simp) 1).trans (box_cell _ _ _ _); have q3 : w1.cell? ⟨w.heap.size, 3, none⟩ = some (.string (Om.B d)) := (hst1.cell H.out (by simp) 3).trans (box_cell _ _ _ _); have HZ : w.heap.size < w1.heap.size := (by have := hst1.fr.size; simp at this; omega); have HD1 := Lib.hid hd1; have HS1 := Lib.hid ((Step.of_below (o := o) (box_below w _).drew).trans hst1); clear hd1 hst1) | (go_at_call 26; refine (C2.out _ _ HS1.out).mono ?_; rintro e w2 ⟨rfl, r2, hr2, hrs2⟩; have q4 : w2.cell? ⟨w.heap.size, 1, none⟩ = some (.int .i64 a) := (hrs2.cell HR.out HZ 1).trans q1; have q5 : w2.cell? ⟨w.heap.size, 3, none⟩ = some (.string (Om.B d)) := (hrs2.cell HR.out HZ 3).trans q3; have HR2 := Lib.hid hr2; have HRS2 := Lib.hid hrs2; clear hr2 hrs2))
    go_wp2
    go_ret
    exact ⟨rfl, o1, r2, two_of HR.out DJ.out HS1.out HD1.out HRS2.out HR2.out⟩

theorem act2 {k : Nat} {a n : Int} {d : List UInt8} {ks : List Bool} {ka : Option Addr} {kc : Nat} {o : Ob} {r : Ro} {st sr : Dm.St} {w : World} (hk5 : (k : Int) % 5 = 2) (hkb : k < 256) (h : Dk w o st) (hr : Rk w r sr) (dj : ∀ k, o.fp k → ¬ r.fp k) (hP : st.P.length ≤ 549755813888) (hQ : sr.P.length ≤ 549755813888) :
    Calls Try.prog 10 #[.pointer (some ⟨o.p, 0, none⟩), .pointer (some ⟨r.p, 0, none⟩), .agg #[.int .u8 (k : Int), .int .i64 a, .int .i64 n, .string (Om.B d), .slice ka ks.length kc]] w
      fun e w' => e = .returned (.bool (decide ((Dm.flush st).2 = (Dm.flush sr).2))) ∧ Twice o r (Dm.flush st).1 (Dm.flush sr).1 w w' := by
  have H := Lib.hid h
  have HR := Lib.hid hr
  have DJ := Lib.hid dj
  clear h hr dj
  have C1 : Hid (∀ w1, Below w.heap.size w w1 → Calls Try.prog 23 #[.pointer (some ⟨o.p, 0, none⟩)] w1 fun e w' => e = .returned (.int .i64 (Dm.flush st).2) ∧ Went o (Dm.flush st).1 w1 w') :=
    fun w1 hb => flush_any (H.out.below hb) (by omega)
  have C2 : Hid (∀ o1 w1, Step o o1 w w1 → Calls Try.prog 27 #[.pointer (some ⟨r.p, 0, none⟩)] w1 fun e w' => e = .returned (.int .i64 (Dm.flush sr).2) ∧ RWent r (Dm.flush sr).1 w1 w') :=
    fun o1 w1 hs => rflush_any (two_pre HR.out DJ.out hs) (by omega)
  obtain ⟨E, hE⟩ : ∃ E, E = (Dm.flush st).2 := ⟨_, rfl⟩
  obtain ⟨F, hF⟩ : ∃ F, F = (Dm.flush sr).2 := ⟨_, rfl⟩
  obtain ⟨s1, hs1⟩ : ∃ s, s = (Dm.flush st).1 := ⟨_, rfl⟩
  obtain ⟨s2, hs2⟩ : ∃ s, s = (Dm.flush sr).1 := ⟨_, rfl⟩
  rw [← hE, ← hs1] at C1
  rw [← hF, ← hs2] at C2
  rw [← hE, ← hF, ← hs1, ← hs2]
  clear hE hF hs1 hs2
  have fin : ∀ b, b = decide (E = F) → Hid (b = decide (E = F)) := fun b hb => hb
  by_cases hef : E = F
  · have FIN := fin true (by simp [hef])
    clear fin
    subst hef
    rw [← FIN.out]
    clear FIN
    go_enter Try.func10, Try.ntmps10
    go_wp2_with fail
    refine (C1.out _ (box_below _ _)).mono ?_
    rintro e w1 ⟨rfl, o1, hd1, hst1⟩
    have HD1 := Lib.hid hd1
    have HS1 := Lib.hid ((Step.of_below (o := o) (box_below w _)).trans hst1)
    clear hd1 hst1
    go_wp2_with fail
    refine (C2.out _ _ HS1.out).mono ?_
    rintro e w2 ⟨rfl, r2, hr2, hrs2⟩
    have HR2 := Lib.hid hr2
    have HRS2 := Lib.hid hrs2
    clear hr2 hrs2
    go_wp2
    go_ret
    exact ⟨rfl, o1, r2, two_of HR.out DJ.out HS1.out HD1.out HRS2.out HR2.out⟩
  · have FIN := fin false (by simp [hef])
    have hne : (E == F) = false := by simpa using hef
    clear fin
    rw [← FIN.out]
    clear FIN hef
    go_enter Try.func10, Try.ntmps10
    go_wp2_with fail
    refine (C1.out _ (box_below _ _)).mono ?_
    rintro e w1 ⟨rfl, o1, hd1, hst1⟩
    have HD1 := Lib.hid hd1
    have HS1 := Lib.hid ((Step.of_below (o := o) (box_below w _)).trans hst1)
    clear hd1 hst1
    go_wp2_with fail
    refine (C2.out _ _ HS1.out).mono ?_
    rintro e w2 ⟨rfl, r2, hr2, hrs2⟩
    have HR2 := Lib.hid hr2
    have HRS2 := Lib.hid hrs2
    clear hr2 hrs2
    go_wp2
    go_ret
    exact ⟨rfl, o1, r2, two_of HR.out DJ.out HS1.out HD1.out HRS2.out HR2.out⟩

theorem act3 {k : Nat} {a n : Int} {d : List UInt8} {ks : List Bool} {ka : Option Addr} {kc : Nat} {o : Ob} {r : Ro} {st sr : Dm.St} {w : World} (hk5 : (k : Int) % 5 = 3) (hkb : k < 256) (hl : -9223372036854775808 ≤ n) (hh : n ≤ 9223372036854775807) (h : Dk w o st) (hr : Rk w r sr) (dj : ∀ k, o.fp k → ¬ r.fp k) :
    Calls Try.prog 10 #[.pointer (some ⟨o.p, 0, none⟩), .pointer (some ⟨r.p, 0, none⟩), .agg #[.int .u8 (k : Int), .int .i64 a, .int .i64 n, .string (Om.B d), .slice ka ks.length kc]] w
      fun e w' => e = .returned (.bool true) ∧ Twice o r (Dm.fail st n) (Dm.fail sr n) w w' := by
  have H := Lib.hid h
  have HR := Lib.hid hr
  have DJ := Lib.hid dj
  clear h hr dj
  have C1 : Hid (∀ w1, Below w.heap.size w w1 → Calls Try.prog 21 #[.pointer (some ⟨o.p, 0, none⟩), .int .i64 n] w1 fun e w' => e = .returned (.tuple #[]) ∧ Went o (Dm.fail st n) w1 w') :=
    fun w1 hb => fail_any (H.out.below hb) n hl hh
  go_enter Try.func10, Try.ntmps10
  go_wp2_with fail
  refine (C1.out _ (box_below _ _)).mono ?_
  rintro e w1 ⟨rfl, o1, hd1, hst1⟩
  have q2 : w1.cell? ⟨w.heap.size, 2, none⟩ = some (.int .i64 n) := (hst1.cell H.out (by simp) 2).trans (box_cell _ _ _ _)
  have HD1 := Lib.hid hd1
  have HS1 := Lib.hid ((Step.of_below (o := o) (box_below w _)).trans hst1)
  clear hd1 hst1
  have HR1 := Lib.hid (two_pre HR.out DJ.out HS1.out)
  obtain ⟨_, _, g2, _, hf⟩ := HR1.out.reads
  have hf2 := hf 2
  clear hf
  have FD : Hid (∀ v, v = max n (-1) → Two o r o1 r (Dm.fail st n) (Dm.fail sr n) w (w1.setCell ⟨r.p, 2, none⟩ (.int .i64 v))) := by
    rintro v rfl
    exact two_of HR.out DJ.out HS1.out HD1.out (rstep_head r r w1 2 (.int .i64 (max n (-1))) (fun _ h => h) rfl) (HR1.out.setFuse (max n (-1)) (by omega) (by omega))
  go_wp2
  all_goals
    go_ret
    exact ⟨rfl, o1, r, FD.out _ (by omega)⟩

theorem act4 {k : Nat} {a n : Int} {d : List UInt8} {ks : List Bool} {ka : Option Addr} {kc : Nat} {o : Ob} {r : Ro} {st sr : Dm.St} {w : World} (hk5 : (k : Int) % 5 = 4) (hkb : k < 256) (hks : ks.length ≤ 140737488355328) (h : Dk w o st) (hr : Rk w r sr) (dj : ∀ k, o.fp k → ¬ r.fp k) (hP : st.P.length ≤ 549755813888) (hQ : sr.P.length ≤ 549755813888) (hk : Kept w (fun k => o.fp k ∨ r.fp k) ka ks) :
    Calls Try.prog 10 #[.pointer (some ⟨o.p, 0, none⟩), .pointer (some ⟨r.p, 0, none⟩), .agg #[.int .u8 (k : Int), .int .i64 a, .int .i64 n, .string (Om.B d), .slice ka ks.length kc]] w
      fun e w' => e = .returned (.bool true) ∧ Twice o r (Dm.restart st ks) (Dm.restart sr ks) w w' := by
  have H := Lib.hid h
  have HR := Lib.hid hr
  have DJ := Lib.hid dj
  have HK := Lib.hid hk
  clear h hr dj hk
  have C1 : Hid (∀ w1, Below w.heap.size w w1 → Calls Try.prog 18 #[.pointer (some ⟨o.p, 0, none⟩), .slice ka ks.length kc] w1 fun e w' => e = .returned (.tuple #[]) ∧ Went o (Dm.restart st ks) w1 w') :=
    fun w1 hb => restart_any (H.out.below hb) (by omega) ks ka kc hks (((HK.out.fr (Fr.of_below (F := fun k => o.fp k ∨ r.fp k) hb) (fun _ _ h => h))).mono fun _ _ h => .inl h)
  have C2 : Hid (∀ o1 w1, Step o o1 w w1 → Calls Try.prog 28 #[.pointer (some ⟨r.p, 0, none⟩), .slice ka ks.length kc] w1 fun e w' => e = .returned (.tuple #[]) ∧ RWent r (Dm.restart sr ks) w1 w') :=
    fun o1 w1 hs => rrestart_any (two_pre HR.out DJ.out hs) (by omega) ks ka kc hks ((HK.out.fr hs.fr (fun _ _ h => .inl h)).mono fun _ _ h => .inr h)
  obtain ⟨m, hm⟩ : ∃ m, m = ks.length := ⟨_, rfl⟩
  rw [← hm] at C1 C2 hks ⊢
  clear hm
  go_enter Try.func10, Try.ntmps10
  go_wp2_with fail
  refine (C1.out _ (box_below _ _)).mono ?_
  rintro e w1 ⟨rfl, o1, hd1, hst1⟩
  have q4 : w1.cell? ⟨w.heap.size, 4, none⟩ = some (.slice ka m kc) := (hst1.cell H.out (by simp) 4).trans (box_cell _ _ _ _)
  have HD1 := Lib.hid hd1
  have HS1 := Lib.hid ((Step.of_below (o := o) (box_below w _)).trans hst1)
  clear hd1 hst1
  go_wp2_with fail
  refine (C2.out _ _ HS1.out).mono ?_
  rintro e w2 ⟨rfl, r2, hr2, hrs2⟩
  have HR2 := Lib.hid hr2
  have HRS2 := Lib.hid hrs2
  clear hr2 hrs2
  go_wp2
  go_ret
  exact ⟨rfl, o1, r2, two_of HR.out DJ.out HS1.out HD1.out HRS2.out HR2.out⟩

theorem act_any {x : Ac} {o : Ob} {r : Ro} {st sr : Dm.St} {w : World} (hx : x.Wf) (h : Dk w o st) (hr : Rk w r sr) (dj : ∀ k, o.fp k → ¬ r.fp k) (hP : st.P.length ≤ 549755813888) (hQ : sr.P.length ≤ 549755813888) (hk : Kept w (fun k => o.fp k ∨ r.fp k) x.ka x.ks) :
    Calls Try.prog 10 #[.pointer (some ⟨o.p, 0, none⟩), .pointer (some ⟨r.p, 0, none⟩), .agg x.row] w fun e w' => e = .returned (.bool (x.same st sr)) ∧ Twice o r (x.step st) (x.step sr) w w' := by
  have hc : x.k % 5 = 0 ∨ x.k % 5 = 1 ∨ x.k % 5 = 2 ∨ x.k % 5 = 3 ∨ x.k % 5 = 4 := by omega
  unfold Ac.same Ac.step
  rcases hc with h5 | h5 | h5 | h5 | h5 <;> simp only [h5]
  · refine (act0 (k := x.k) (d := x.d) (ks := x.ks) (ka := x.ka) (kc := x.kc) (by omega) hx.k hx.ahi h hr dj hP hQ).mono ?_
    rintro e w' ⟨he, hb⟩
    exact ⟨he, o, r, two_of hr dj (Step.of_below hb) (h.below hb) (RStep.refl _ _) (hr.below hb)⟩
  · exact act1 (n := x.n) (ks := x.ks) (ka := x.ka) (kc := x.kc) (by omega) hx.k hx.ahi hx.d h hr dj hP hQ
  · exact act2 (a := x.a) (n := x.n) (d := x.d) (ks := x.ks) (ka := x.ka) (kc := x.kc) (by omega) hx.k h hr dj hP hQ
  · exact act3 (a := x.a) (d := x.d) (ks := x.ks) (ka := x.ka) (kc := x.kc) (by omega) hx.k hx.nlo hx.nhi h hr dj
  · exact act4 (a := x.a) (n := x.n) (d := x.d) (ka := x.ka) (kc := x.kc) (by omega) hx.k hx.ks h hr dj hP hQ hk
end Dsk
end Go.Proofs.Ytodihhpeggoodaa
