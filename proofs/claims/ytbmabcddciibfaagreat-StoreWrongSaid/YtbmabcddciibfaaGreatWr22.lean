/- Part 22 of the contracts and of the plain mathematics that the proof of the law rests on: StoR10, StoMayA, StoRem. -/
import Derived.Test.YtbmabcddciibfaaGreatWr16
import Derived.Test.YtbmabcddciibfaaGreatWr20
import Derived.Test.YtbmabcddciibfaaGreatWr21
namespace Go.Proofs.YtbmabcddciibfaaGreat
namespace So
open Go.RowKit
set_option maxRecDepth 100000
set_option linter.unusedVariables false
theorem rbox_made (w : World) (a n g p m : Int) (W0 : World) (h : (w.alloc (.cells #[.int .i64 a, .int .i64 n, .int .i64 g] 23)).alloc (.cells #[.int .i64 p, .int .i64 m] 25) = W0) : Bxs w W0 a n g p m := by
  subst h
  have h1 := ux_alloc w a n g 23
  have h2 := heap_alloc_new (w.alloc (.cells #[.int .i64 a, .int .i64 n, .int .i64 g] 23)) (.cells #[.int .i64 p, .int .i64 m] 25)
  have hs : (w.alloc (.cells #[.int .i64 a, .int .i64 n, .int .i64 g] 23)).heap.size = w.heap.size + 1 := by simp
  rw [hs] at h2
  obtain ⟨b0, b1, _⟩ := duo_cells h2
  obtain ⟨_, a0, a1, a2⟩ := h1.next ((Below.refl _ _).alloc (Nat.le_refl _) (.cells #[.int .i64 p, .int .i64 m] 25))
  exact ⟨((Below.refl _ w).alloc (Nat.le_refl _) _).alloc (by simp) _, ⟨a0, a1, a2, b0, b1⟩, by simp⟩
def RRoomIs (a n g p m r x : Int) : Prop := ∀ w, Calls Tryz.prog 16 #[.agg #[.int .i64 a, .int .i64 n, .int .i64 g], .agg #[.int .i64 p, .int .i64 m]] w fun e w' => e = .returned (.tuple #[.int .i64 r, .int .i64 x]) ∧ Below w.heap.size w w'
set_option maxHeartbeats 1000000 in
theorem rroom10_out (a n g p m : Int) (h : Um.okU a n g = true) (hp1 : -9223372036854775808 ≤ p) (hp : p ≤ 9223372036854775807) (hi : inB p m (17 + n) (a - (17 + n)) = false) : RRoomIs a n g p m 0 2 := by
  intro w
  obtain ⟨k1, k2, k3, k4, k5, k6⟩ := Um.okU_small h
  obtain ⟨W0, hW0⟩ : ∃ W0, (w.alloc (.cells #[.int .i64 a, .int .i64 n, .int .i64 g] 23)).alloc (.cells #[.int .i64 p, .int .i64 m] 25) = W0 := ⟨_, rfl⟩
  have hB := rbox_made w _ _ _ _ _ W0 hW0
  have HB := Lib.hid hB
  obtain ⟨_, ⟨a0, a1, a2, b0, b1⟩, _⟩ := hB
  have RS := ruright_any a n g W0
  rw [h] at RS
  have RSH := Lib.hid RS
  have ST := Lib.hid (fun w1 => rlstores_ok a n g w1 h)
  have e3 : IntKind.i64.wrap (17 + n + (a - (17 + n))) = a := by rw [IntWalk.i64_in _ (by omega)]; omega
  have hcase : m < 0 ∨ (¬ m < 0 ∧ p < 17 + n) ∨ (¬ m < 0 ∧ ¬ p < 17 + n ∧ a < p) ∨ (¬ m < 0 ∧ ¬ p < 17 + n ∧ ¬ a < p ∧ a - p < m) := by
    have h1 : ¬ (0 ≤ m ∧ 17 + n ≤ p ∧ m ≤ 17 + n + (a - (17 + n)) - p) := fun hc => by rw [(inB_iff _ _ _ _).2 hc] at hi; cases hi
    omega
  clear RS h hi
  rcases hcase with h1 | ⟨h1, h2⟩ | ⟨h1, h2, h3⟩ | ⟨h1, h2, h3, h4⟩
  · have d1 : decide (m < 0) = true := by simpa using h1
    clear h1 hp1 hp k1 k2 k3 k4 k5 k6
    go_enter Tryz.func16, Tryz.ntmps16
    go_wp2_with fail
    clear hW0
    refine RSH.out.mono ?_
    rintro e w1 ⟨rfl, hb⟩
    have HB1 := Lib.hid (HB.out.next hb)
    obtain ⟨_, ⟨a0, a1, a2, b0, b1⟩, _⟩ := HB1.out
    clear hb
    go_wp2_with fail
    refine (ST.out _).mono ?_
    rintro e w2 ⟨rfl, hb⟩
    obtain ⟨W3, hW3⟩ : ∃ W3, w2.alloc (.cells #[.int .i64 (17 + n), .int .i64 (a - (17 + n))] 25) = W3 := ⟨_, rfl⟩
    have hb3 : Below w2.heap.size w2 W3 := by rw [← hW3]; exact (Below.refl _ _).alloc (Nat.le_refl _) _
    have hr3 : W3.heap[w2.heap.size]? = some (.cells #[.int .i64 (17 + n), .int .i64 (a - (17 + n))] 25 (0, 0)) := by rw [← hW3]; exact heap_alloc_new w2 _
    obtain ⟨y0, y1, yf⟩ := duo_cells hr3
    have HB3 := Lib.hid ((HB1.out.next hb).next hb3)
    obtain ⟨_, ⟨a0, a1, a2, b0, b1⟩, _⟩ := HB3.out
    clear hb hb3 hr3
    go_wp2_with fail
    go_ret2
    exact ⟨rfl, HB3.out.bel⟩
  · have d1 : decide (m < 0) = false := by simpa using h1
    have d2 : decide (p < 17 + n) = true := by simpa using h2
    clear h1 h2 hp1 hp k1 k2 k3 k4 k5 k6
    go_enter Tryz.func16, Tryz.ntmps16
    go_wp2_with fail
    clear hW0
    refine RSH.out.mono ?_
    rintro e w1 ⟨rfl, hb⟩
    have HB1 := Lib.hid (HB.out.next hb)
    obtain ⟨_, ⟨a0, a1, a2, b0, b1⟩, _⟩ := HB1.out
    clear hb
    go_wp2_with fail
    refine (ST.out _).mono ?_
    rintro e w2 ⟨rfl, hb⟩
    obtain ⟨W3, hW3⟩ : ∃ W3, w2.alloc (.cells #[.int .i64 (17 + n), .int .i64 (a - (17 + n))] 25) = W3 := ⟨_, rfl⟩
    have hb3 : Below w2.heap.size w2 W3 := by rw [← hW3]; exact (Below.refl _ _).alloc (Nat.le_refl _) _
    have hr3 : W3.heap[w2.heap.size]? = some (.cells #[.int .i64 (17 + n), .int .i64 (a - (17 + n))] 25 (0, 0)) := by rw [← hW3]; exact heap_alloc_new w2 _
    obtain ⟨y0, y1, yf⟩ := duo_cells hr3
    have HB3 := Lib.hid ((HB1.out.next hb).next hb3)
    obtain ⟨_, ⟨a0, a1, a2, b0, b1⟩, _⟩ := HB3.out
    clear hb hb3 hr3
    go_wp2_with fail
    go_ret2
    exact ⟨rfl, HB3.out.bel⟩
  · have d1 : decide (m < 0) = false := by simpa using h1
    have d2 : decide (p < 17 + n) = false := by simpa using h2
    have d3 : decide (a < p) = true := by simpa using h3
    have d4 : decide (p > a) = true := by simpa using h3
    clear h1 h2 h3 hp1 hp k1 k2 k3 k4 k5 k6
    go_enter Tryz.func16, Tryz.ntmps16
    go_wp2_with fail
    clear hW0
    refine RSH.out.mono ?_
    rintro e w1 ⟨rfl, hb⟩
    have HB1 := Lib.hid (HB.out.next hb)
    obtain ⟨_, ⟨a0, a1, a2, b0, b1⟩, _⟩ := HB1.out
    clear hb
    go_wp2_with fail
    refine (ST.out _).mono ?_
    rintro e w2 ⟨rfl, hb⟩
    obtain ⟨W3, hW3⟩ : ∃ W3, w2.alloc (.cells #[.int .i64 (17 + n), .int .i64 (a - (17 + n))] 25) = W3 := ⟨_, rfl⟩
    have hb3 : Below w2.heap.size w2 W3 := by rw [← hW3]; exact (Below.refl _ _).alloc (Nat.le_refl _) _
    have hr3 : W3.heap[w2.heap.size]? = some (.cells #[.int .i64 (17 + n), .int .i64 (a - (17 + n))] 25 (0, 0)) := by rw [← hW3]; exact heap_alloc_new w2 _
    obtain ⟨y0, y1, yf⟩ := duo_cells hr3
    have HB3 := Lib.hid ((HB1.out.next hb).next hb3)
    obtain ⟨_, ⟨a0, a1, a2, b0, b1⟩, _⟩ := HB3.out
    clear hb hb3 hr3
    go_wp2_with fail
    go_ret2
    exact ⟨rfl, HB3.out.bel⟩
  · have d1 : decide (m < 0) = false := by simpa using h1
    have d2 : decide (p < 17 + n) = false := by simpa using h2
    have d3 : decide (a < p) = false := by simpa using h3
    have d4 : decide (p > a) = false := by simpa using h3
    have e5 : IntKind.i64.wrap (a - p) = a - p := IntWalk.i64_in _ (by omega)
    have d5 : decide (a - p < m) = true := by simpa using h4
    have d6 : decide (m > a - p) = true := by simpa using h4
    clear h1 h2 h3 h4 hp1 hp k1 k2 k3 k4 k5 k6
    go_enter Tryz.func16, Tryz.ntmps16
    go_wp2_with fail
    clear hW0
    refine RSH.out.mono ?_
    rintro e w1 ⟨rfl, hb⟩
    have HB1 := Lib.hid (HB.out.next hb)
    obtain ⟨_, ⟨a0, a1, a2, b0, b1⟩, _⟩ := HB1.out
    clear hb
    go_wp2_with fail
    refine (ST.out _).mono ?_
    rintro e w2 ⟨rfl, hb⟩
    obtain ⟨W3, hW3⟩ : ∃ W3, w2.alloc (.cells #[.int .i64 (17 + n), .int .i64 (a - (17 + n))] 25) = W3 := ⟨_, rfl⟩
    have hb3 : Below w2.heap.size w2 W3 := by rw [← hW3]; exact (Below.refl _ _).alloc (Nat.le_refl _) _
    have hr3 : W3.heap[w2.heap.size]? = some (.cells #[.int .i64 (17 + n), .int .i64 (a - (17 + n))] 25 (0, 0)) := by rw [← hW3]; exact heap_alloc_new w2 _
    obtain ⟨y0, y1, yf⟩ := duo_cells hr3
    have HB3 := Lib.hid ((HB1.out.next hb).next hb3)
    obtain ⟨_, ⟨a0, a1, a2, b0, b1⟩, _⟩ := HB3.out
    clear hb hb3 hr3
    go_wp2_with fail
    go_ret2
    exact ⟨rfl, HB3.out.bel⟩
set_option maxHeartbeats 1000000 in
theorem rroom10_in (a n p : Int) (g M : Nat) (h : Um.okU a n (g : Int) = true) (hi : inB p (M : Int) (17 + n) (a - (17 + n)) = true) : RRoomIs a n (g : Int) p (M : Int) (Em.room g M : Int) (Geo.noneE (Em.room g M)) := by
  intro w
  obtain ⟨k1, k2, k3, k4, k5, k6⟩ := Um.okU_small h
  obtain ⟨W0, hW0⟩ : ∃ W0, (w.alloc (.cells #[.int .i64 a, .int .i64 n, .int .i64 (g : Int)] 23)).alloc (.cells #[.int .i64 p, .int .i64 (M : Int)] 25) = W0 := ⟨_, rfl⟩
  have hB := rbox_made w _ _ _ _ _ W0 hW0
  have HB := Lib.hid hB
  obtain ⟨_, ⟨a0, a1, a2, b0, b1⟩, _⟩ := hB
  have RS := ruright_any a n (g : Int) W0
  rw [h] at RS
  have RSH := Lib.hid RS
  have ST := Lib.hid (fun w1 => rlstores_ok a n (g : Int) w1 h)
  have e3 : IntKind.i64.wrap (17 + n + (a - (17 + n))) = a := by rw [IntWalk.i64_in _ (by omega)]; omega
  obtain ⟨h1, h2, h3⟩ := (inB_iff _ _ _ _).1 hi
  have RM : Hid (∀ w1, Calls Tryz.prog 51 #[.int .i64 n, .int .i64 (g : Int), .int .i64 (M : Int)] w1 fun e w' => e = .returned (.tuple #[.int .i64 (Em.room g M : Int), .int .i64 (Geo.noneE (Em.room g M))]) ∧ w1 = w') := Lib.hid fun w1 => rroom05 n g M w1 ((Em.right_iff _ _).2 (by omega)) (by omega)
  have d1 : decide ((M : Int) < 0) = false := by simp
  have d2 : decide (p < 17 + n) = false := by simp; omega
  have d3 : decide (a < p) = false := by simp; omega
  have d4 : decide (p > a) = false := by simp; omega
  have e5 : IntKind.i64.wrap (a - p) = a - p := IntWalk.i64_in _ (by omega)
  have d5 : decide (a - p < (M : Int)) = false := by simp; omega
  have d6 : decide ((M : Int) > a - p) = false := by simp; omega
  obtain ⟨R, hR⟩ : ∃ R, R = Em.room g M := ⟨_, rfl⟩
  rw [← hR] at RM ⊢
  obtain ⟨x, hx⟩ : ∃ x, x = Geo.noneE R := ⟨_, rfl⟩
  rw [← hx] at RM ⊢
  clear RS h hi h1 h2 h3 k1 k2 k3 k4 k5 k6 hR hx
  go_enter Tryz.func16, Tryz.ntmps16
  go_wp2_with fail
  clear hW0
  refine RSH.out.mono ?_
  rintro e w1 ⟨rfl, hb⟩
  have HB1 := Lib.hid (HB.out.next hb)
  obtain ⟨_, ⟨a0, a1, a2, b0, b1⟩, _⟩ := HB1.out
  clear hb
  go_wp2_with fail
  refine (ST.out _).mono ?_
  rintro e w2 ⟨rfl, hb⟩
  obtain ⟨W3, hW3⟩ : ∃ W3, w2.alloc (.cells #[.int .i64 (17 + n), .int .i64 (a - (17 + n))] 25) = W3 := ⟨_, rfl⟩
  have hb3 : Below w2.heap.size w2 W3 := by rw [← hW3]; exact (Below.refl _ _).alloc (Nat.le_refl _) _
  have hr3 : W3.heap[w2.heap.size]? = some (.cells #[.int .i64 (17 + n), .int .i64 (a - (17 + n))] 25 (0, 0)) := by rw [← hW3]; exact heap_alloc_new w2 _
  obtain ⟨y0, y1, yf⟩ := duo_cells hr3
  have HB3 := Lib.hid ((HB1.out.next hb).next hb3)
  obtain ⟨_, ⟨a0, a1, a2, b0, b1⟩, _⟩ := HB3.out
  clear hb hb3 hr3
  go_wp2_with fail
  refine (RM.out _).mono ?_
  rintro e w4 ⟨rfl, rfl⟩
  go_wp2_with fail
  go_ret2
  exact ⟨rfl, HB3.out.bel⟩
end So
end Go.Proofs.YtbmabcddciibfaaGreat
namespace Go.Proofs.YtbmabcddciibfaaGreat
namespace So
open Go.RowKit
set_option maxRecDepth 100000
set_option linter.unusedVariables false
theorem mayAdd_take {m : List Int} {g : Nat} {l : List (Int × List UInt8)} {k : Nat} {c : Int × List UInt8} (hx : l[k]? = some c) (h : chunkOk m g c = false) : mayAdd m g l = false := by
  unfold mayAdd
  rw [Bool.and_eq_false_iff]
  left
  rw [List.all_eq_false]
  exact ⟨c, List.mem_of_getElem? hx, by rw [h]; decide⟩
theorem copy_made (wr W : World) (c : Int × List UInt8) (h : wr.alloc (.cells #[.int .i64 c.1, .string (Om.B c.2)] 84) = W) :
    Below wr.heap.size wr W ∧ W.heap[wr.heap.size]? = some (.cells #[.int .i64 c.1, .string (Om.B c.2)] 84 (0, 0)) := by
  subst h
  exact ⟨(Below.refl _ _).alloc (Nat.le_refl _) _, heap_alloc_new wr _⟩
set_option maxHeartbeats 1000000 in
theorem smayadd_any {w : World} {b : Bk} {p : Pa} {inv : Bool} {st : Dm.St} {m : List Int} (h : Sk w b p inv st m) (hp : p.Ok) {l : List (Int × List UInt8)} (n c : Nat) (hn : n = l.length) (hn2 : n ≤ 1048576) (a : Option Addr) (hr : RCop w a l) (hwf : ∀ x ∈ l, (Lit.int .i64 x.1).wf = true) :
    Calls Tryz.prog 57 #[.pointer (some ⟨b.q, 0, none⟩), .slice a n c] w fun e w' => e = .returned (.bool (mayAdd m p.g l)) ∧ Below w.heap.size w w' := by
  have HSK := Lib.hid h
  have HN := Lib.hid hn
  have HR : Hid (∀ wr, Below w.heap.size w wr → RCop wr a l) := Lib.hid fun wr hb => hr.below hb
  have HWF := Lib.hid hwf
  have NW := Lib.hid (Tb.new_any 0 w)
  obtain ⟨L, hL⟩ : ∃ L, L = l.map (·.1) := ⟨_, rfl⟩
  have HL := Lib.hid hL
  obtain ⟨-, -, -, -, -, -, -, c7, -, -, -, cf⟩ := h.reads
  have hg2 := hp.nums.g2
  obtain ⟨G, hG⟩ : ∃ G, G = p.g := ⟨_, rfl⟩
  rw [← hG] at c7 hg2 ⊢
  have hw0 : IntKind.i64.wrap ((G : Int) * 64) = (G : Int) * 64 := IntWalk.i64_in _ (by omega)
  clear h hn hr hwf hL hp hG
  go_enter Tryz.func57, Tryz.ntmps57
  go_wp2_with fail
  refine NW.out.mono ?_
  rintro e w1 ⟨⟨o, rfl, ht, hnew⟩, hb1⟩
  have M0 : Hid (MaAt w o.p L 0 (.slice none 0 0) o w1) := Lib.hid ⟨by rw [List.take_zero]; exact Tb.Grows.nil hb1, ht, rfl, hnew, fun j hj => by cases hj⟩
  obtain ⟨P, hP⟩ : ∃ P, P = o.p := ⟨_, rfl⟩
  rw [← hP] at M0 ⊢
  clear ht hnew hb1 hP NW c7 cf
  go_wp2_with fail
  go_loopw [21, 7] (fun i s wr => ∃ (k : Nat) (v : Value) (o : Tb.Ob), i = .int .i64 (k : Int) ∧ s = v ∧ k ≤ n ∧ Hid (MaAt w P L k v o wr ∧ ∀ x ∈ l.take k, chunkOk m G x = true)) (fun i _ _ => n - (Lib.intOf i).toNat)
  case atStart => exact ⟨0, _, o, rfl, rfl, Nat.zero_le _, Lib.hid ⟨M0.out, fun x hx => by simp at hx⟩⟩
  case round =>
    obtain ⟨k, v, o1, rfl, hsv, hk, hat⟩ := hrel
    subst hsv
    by_cases hlt : k < n
    · have d1 : decide ((k : Int) < (n : Int)) = true := by simp; omega
      have d2 : decide (k < n) = true := by simp; omega
      have hw1 : IntKind.i64.wrap ((k : Int) + 1) = ((k + 1 : Nat) : Int) := by rw [IntWalk.i64_in _ (by omega)]; rfl
      obtain ⟨x, hx⟩ : ∃ x, l[k]? = some x := ⟨l[k]'(by have := HN.out; omega), List.getElem?_eq_getElem _⟩
      obtain ⟨g, off, hab, hb, hc⟩ := (HR.out wr hat.out.1.gr.below) (fun e => by rw [e] at hx; simp at hx)
      subst hab
      obtain ⟨hc0, hc1⟩ := hc k x hx
      obtain ⟨W1, hW1⟩ : ∃ W1, wr.alloc (.cells #[.int .i64 x.1, .string (Om.B x.2)] 84) = W1 := ⟨_, rfl⟩
      obtain ⟨hB1, hX⟩ := copy_made wr W1 x hW1
      obtain ⟨x0, x1, xf⟩ := duo_cells hX
      have hwf := HWF.out x (List.mem_of_getElem? hx)
      have PUT := Tb.put_any (hat.out.1.tm.below hB1) x.1 hwf
      rw [hat.out.1.op, put_none] at PUT
      have HX := Lib.hid hx
      have HB1 := Lib.hid hB1
      have HWX := Lib.hid hwf
      have AFT : Hid (∀ w2, Tb.WentM o1 [] W1 w2 → ∃ o2, MaAt w P L k _ o2 w2 ∧ w2.heap[wr.heap.size]? = some (.cells #[.int .i64 x.1, .string (Om.B x.2)] 84 (0, 0))) := Lib.hid fun w2 hw => by
        obtain ⟨o2, h2, hf⟩ := hat.out.1.put HB1.out hw
        refine ⟨o2, h2, (hf.block _ (Dsk.lt_of_heap hX) fun hfp => ?_).trans hX⟩
        have := hat.out.1.tm.lt _ hfp
        omega
      have HLx : Hid (L[k]? = some x.1) := Lib.hid (by rw [HL.out, List.getElem?_map, hx]; rfl)
      have NO : Hid (chunkOk m G x = false → mayAdd m G l = false) := Lib.hid fun h => mayAdd_take hx h
      have SN : Hid (chunkOk m G x = true → ∀ y ∈ l.take (k + 1), chunkOk m G y = true) := Lib.hid fun h y hy => by
        obtain ⟨h1, h2⟩ := List.getElem?_eq_some_iff.1 HX.out
        rw [List.take_succ_eq_append_getElem h1, List.mem_append, List.mem_singleton] at hy
        rcases hy with hy | hy
        · exact hat.out.2 y hy
        · rw [hy, h2]; exact h
      clear hx hb hB1 hX hc hwf hat
      by_cases hrg : 0 ≤ x.1 ∧ x.1 ≤ 2147483646
      · rw [if_pos hrg] at PUT
        have PUT := Lib.hid PUT
        cases hfi : (Tb.find m x.1) with
        | some j =>
          have FF : Hid (mayAdd m G l = false) := Lib.hid (NO.out (by simp [chunkOk, hfi]))
          have HF := Lib.hid hfi
          clear hrg hfi
          go_wp2_with fail
          clear hW1 x0 x1 xf
          refine PUT.out.mono ?_
          rintro e w2 ⟨rfl, hw⟩
          obtain ⟨o2, h2, hX2⟩ := AFT.out w2 hw
          have HA := shas_any (HSK.out.below h2.gr.below) x.1 HWX.out
          rw [HF.out] at HA
          have HA := Lib.hid HA
          obtain ⟨y0, y1, yf⟩ := duo_cells hX2
          have FIN := Lib.hid h2.gr.below
          clear h2 hX2 hw
          go_wp2_with fail
          refine HA.out.mono ?_
          rintro e w3 ⟨rfl, rfl⟩
          go_wp2_with fail
          go_ret
          exact ⟨by rw [FF.out]; rfl, FIN.out⟩
        | none =>
          have HF := Lib.hid hfi
          by_cases hln : x.2.length = 64 * G
          · have OK := Lib.hid (SN.out (chunkOk_iff.2 ⟨hrg, hfi, hln⟩))
            have hne : (((Om.B x.2).size : Int) != (G : Int) * 64) = false := by rw [Om.B_size, hln]; simp; omega
            clear hrg hfi hln
            go_wp2_with fail
            clear hW1 x0 x1 xf
            refine PUT.out.mono ?_
            rintro e w2 ⟨rfl, hw⟩
            obtain ⟨o2, h2, hX2⟩ := AFT.out w2 hw
            have HA := shas_any (HSK.out.below h2.gr.below) x.1 HWX.out
            rw [HF.out] at HA
            have HA := Lib.hid HA
            obtain ⟨y0, y1, yf⟩ := duo_cells hX2
            have M2 := Lib.hid h2
            have HGL := Lib.hid h2.gr.len
            obtain ⟨va, vc, hv⟩ := Dsk.own_slice h2.gr.row
            subst hv
            have OWN := Lib.hid (h2.gr.own x.1)
            clear h2 hX2 hw
            go_wp2_with fail
            refine HA.out.mono ?_
            rintro e w3 ⟨rfl, rfl⟩
            go_wp2_with (at_builtin; refine Tb.wpList_addN rfl (.tmp 47) (.tmp 50) 31 Tryz.underlying31 rfl (.slice va k vc) k (L.take k) rfl HGL.out (by omega) OWN.out w2.heap.size x.1 rfl (by simp) ?_; intro v' w4 h1 h2 h3; have G4 := Lib.hid (M2.out.add HLx.out h1 h2 h3); clear h1 h2 h3)
            go_roundw
            case rel => exact ⟨k + 1, _, o2, rfl, rfl, by omega, Lib.hid ⟨G4.out, OK.out⟩⟩
            case measure => simp [Lib.intOf]; omega
          · have FF : Hid (mayAdd m G l = false) := Lib.hid (NO.out (by simp [chunkOk, hln]))
            have hne : (((Om.B x.2).size : Int) != (G : Int) * 64) = true := by rw [Om.B_size]; simp; omega
            clear hrg hfi hln
            go_wp2_with fail
            clear hW1 x0 x1 xf
            refine PUT.out.mono ?_
            rintro e w2 ⟨rfl, hw⟩
            obtain ⟨o2, h2, hX2⟩ := AFT.out w2 hw
            have HA := shas_any (HSK.out.below h2.gr.below) x.1 HWX.out
            rw [HF.out] at HA
            have HA := Lib.hid HA
            obtain ⟨y0, y1, yf⟩ := duo_cells hX2
            have FIN := Lib.hid h2.gr.below
            clear h2 hX2 hw
            go_wp2_with fail
            refine HA.out.mono ?_
            rintro e w3 ⟨rfl, rfl⟩
            go_wp2_with fail
            go_ret
            exact ⟨by rw [FF.out]; rfl, FIN.out⟩
      · rw [if_neg hrg] at PUT
        have PUT := Lib.hid PUT
        have FF : Hid (mayAdd m G l = false) := Lib.hid (NO.out (by simp only [chunkOk, hrg, decide_false, Bool.false_and]))
        clear hrg
        go_wp2_with fail
        clear hW1 x0 x1 xf
        refine PUT.out.mono ?_
        rintro e w2 ⟨rfl, hw⟩
        obtain ⟨o2, h2, hX2⟩ := AFT.out w2 hw
        obtain ⟨y0, y1, yf⟩ := duo_cells hX2
        have FIN := Lib.hid h2.gr.below
        clear h2 hX2 hw
        go_wp2_with fail
        go_ret
        exact ⟨by rw [FF.out]; rfl, FIN.out⟩
    · obtain rfl : k = n := by omega
      have d1 : decide ((k : Int) < (k : Int)) = false := by simp
      have d2 : decide (k < k) = false := by simp
      have hLl : L.length = k := by rw [HL.out, List.length_map, ← HN.out]
      obtain ⟨va, vc, hv⟩ := Dsk.own_slice hat.out.1.gr.row
      subst hv
      have hints : Tb.Ints wr (.slice va k vc) L := by
        have h1 := hat.out.1.gr.row
        rw [List.take_of_length_le (by omega)] at h1
        show World.ownsRow _ _ _ _ _ _ _
        rw [hLl]
        exact h1
      obtain ⟨va', vc', e', hrd⟩ := Tb.Rd.own hints
      injection e' with e1 e2 e3
      subst e1; subst e3
      have AP := apart_any k vc hLl.symm hn2 hrd
      have E : decide L.Nodup = mayAdd m G l := by
        have : l.take k = l := List.take_of_length_le (by rw [← HN.out]; exact Nat.le_refl _)
        have h2 := hat.out.2
        rw [this] at h2
        unfold mayAdd
        rw [List.all_eq_true.2 h2, Bool.true_and, HL.out]
      rw [E] at AP
      have APH := Lib.hid AP
      have BEL := Lib.hid hat.out.1.gr.below
      clear hat hints hrd E AP hLl e2
      go_wp2_with fail
      refine APH.out.mono ?_
      rintro e w2 ⟨rfl, hb⟩
      have FIN : Hid (Below w.heap.size w w2) := Lib.hid (BEL.out.trans (hb.mono BEL.out.size))
      clear hb
      go_wp2_with fail
      go_ret
      exact ⟨rfl, FIN.out⟩
end So
end Go.Proofs.YtbmabcddciibfaaGreat
namespace Go.Proofs.YtbmabcddciibfaaGreat
namespace So
open Go.RowKit
set_option maxRecDepth 100000
set_option linter.unusedVariables false
structure Pl (w : World) (b : Bk) (ps : List Nat) (v : Value) (k : Nat) (wr : World) : Prop where
  row : wr.ownsRow 0 3 1 v k (Tb.nums (ps.map fun (q : Nat) => (q : Int)))
  len : k = ps.length
  new : ∀ j, v.ownBlock = some j → w.heap.size ≤ j
  dj : ∀ j, v.ownBlock = some j → ¬ b.fp j
theorem Pl.nil (w : World) (b : Bk) (wr : World) : Pl w b [] (.slice none 0 0) 0 wr := ⟨World.ownsRow_nil _ _ _ _, rfl, fun j hj => (by cases hj), fun j hj => (by cases hj)⟩
theorem Pl.lt {w : World} {b : Bk} {ps : List Nat} {v : Value} {k : Nat} {wr : World} (h : Pl w b ps v k wr) (j : Nat) (hj : v.ownBlock = some j) : j < wr.heap.size := by obtain ⟨cur, hcc⟩ := Dsk.own_block h.row j hj; exact Dsk.lt_of_heap hcc
theorem Pl.move {w : World} {b b' : Bk} {ps : List Nat} {v : Value} {k : Nat} {wr w1 : World} (h : Pl w b ps v k wr) (hs : Sp b b' wr w1) : Pl w b' ps v k w1 := by
  refine ⟨Dsk.own_same h.row fun j hj => hs.fr.block j (h.lt j hj) (h.dj j hj), h.len, h.new, fun j hj hb => ?_⟩
  rcases hs.fp j hb with h1 | h1
  · exact h.dj j hj h1
  · have := h.lt j hj; omega
theorem Pl.below {w : World} {b : Bk} {ps : List Nat} {v : Value} {k : Nat} {wr w1 : World} (h : Pl w b ps v k wr) (hb : Below wr.heap.size wr w1) : Pl w b ps v k w1 := h.move (Sp.of_below hb)
theorem Pl.own {w : World} {b : Bk} {ps : List Nat} {v : Value} {k : Nat} {wr : World} (h : Pl w b ps v k wr) (y : Int) : (wr.alloc (.cells #[.int .i64 y] 3)).ownsRow 0 3 1 v k (Tb.nums (ps.map fun (q : Nat) => (q : Int))) :=
  Dsk.own_same h.row fun j hj => Below.heap_alloc _ _ _ (h.lt j hj)
theorem Pl.add {w : World} {b0 b : Bk} {p : Pa} {inv : Bool} {st : Dm.St} {m : List Int} {ps : List Nat} {v v' : Value} {k : Nat} {wr w' : World} {i : Nat} (h : Pl w b ps v k wr) (hk : Sk wr b p inv st m) (hs : Sp b0 b w wr) (h1 : w'.ownsRow 0 3 1 v' (k + 1) (Tb.nums (ps.map (fun (q : Nat) => (q : Int)) ++ [(i : Int)]))) (h2 : Dsk.Fr (fun j => v.ownBlock = some j) (wr.alloc (.cells #[.int .i64 (i : Int)] 3)) w')
    (h3 : ∀ j, v'.ownBlock = some j → v.ownBlock = some j ∨ (wr.alloc (.cells #[.int .i64 (i : Int)] 3)).heap.size ≤ j) : Pl w b (ps ++ [i]) v' (k + 1) w' ∧ Sk w' b p inv st m ∧ Sp b0 b w w' := by
  have hal : Below wr.heap.size wr (wr.alloc (.cells #[.int .i64 (i : Int)] 3)) := (Below.refl _ _).alloc (Nat.le_refl _) _
  have hsz : (wr.alloc (.cells #[.int .i64 (i : Int)] 3)).heap.size = wr.heap.size + 1 := by simp
  have hF : Dsk.Fr (fun j => v.ownBlock = some j) wr w' := (Dsk.Fr.of_below hal).trans h2 (fun _ _ e => e)
  have hws := hs.fr.size
  refine ⟨⟨by rw [List.map_append]; exact h1, by rw [h.len]; simp, fun j hj => ?_, fun j hj hb => ?_⟩, hk.keep hF fun j hj e => h.dj j e hj, ⟨hs.fr.trans hF fun j hj e => ?_, hs.fp, hs.q, hs.dp, hs.df⟩⟩
  · rcases h3 j hj with e | e
    · exact h.new j e
    · omega
  · rcases h3 j hj with e | e
    · exact h.dj j e hb
    · have := hk.lt j hb; omega
  · have := h.new j e
    omega
theorem dropsM_take {m l : List Int} {k : Nat} {x : Int} (hx : l[k]? = some x) : dropsM m (l.take (k + 1)) = (Tb.drop (dropsM m (l.take k)) x).1 ∧ dropsP m (l.take (k + 1)) = dropsP m (l.take k) ++ [(Tb.drop (dropsM m (l.take k)) x).2.1.toNat] := by
  obtain ⟨h1, h2⟩ := List.getElem?_eq_some_iff.1 hx
  rw [List.take_succ_eq_append_getElem h1, h2]
  exact ⟨dropsM_snoc _ _ _, dropsP_snoc _ _ _⟩
theorem mayRem_at {m l : List Int} (hok : Tb.Ok m) (h : mayRem m l = true) {k : Nat} {x : Int} (hx : l[k]? = some x) : ∃ i, Tb.find (dropsM m (l.take k)) x = some i := by
  induction l generalizing m k with
  | nil => simp at hx
  | cons y l ih =>
    rw [mayRem_cons hok, Bool.and_eq_true] at h
    cases k with
    | zero =>
      simp only [List.getElem?_cons_zero, Option.some.injEq] at hx
      subst hx
      exact Option.isSome_iff_exists.1 h.1
    | succ k => exact ih (Tb.drop_ok hok y) h.2 (by simpa using hx)
structure ReAt (w : World) (b0 : Bk) (p : Pa) (inv : Bool) (st : Dm.St) (m l : List Int) (k : Nat) (v : Value) (wr : World) : Prop where
  ex : ∃ b, Sk wr b p inv st (dropsM m (l.take k)) ∧ Sp b0 b w wr ∧ Pl w b (dropsP m (l.take k)) v k wr
set_option maxHeartbeats 1000000 in
theorem srem_any {w : World} {b : Bk} {p : Pa} {inv : Bool} {st : Dm.St} {m : List Int} (h : Sk w b p inv st m) (hp : p.Ok) (hm : m.length = p.N) {l : List Int} (hmay : mayRem m l = true) (n c : Nat) (hn : n = l.length) (hn2 : n ≤ 1048576) (hP : st.P.length ≤ 274877906944)
    (a : Option Addr) (hr : Tb.Rd w a l) (hra : ∀ g off, l ≠ [] → a = some ⟨g, off, none⟩ → ¬ b.fp g) (hwf : ∀ x ∈ l, (Lit.int .i64 x).wf = true) :
    Calls Tryz.prog 65 #[.pointer (some ⟨b.q, 0, none⟩), .slice a n c] w fun e w' =>
      e = endE (runs st (remOps p m l (pagesOf (dropsP m l)))).2 ∧ SWent b p inv (runs st (remOps p m l (pagesOf (dropsP m l)))).1 (dropsM m l) w w' := by
  have hok := h.tm.ok
  have A := dropped hok hmay
  have HN := Lib.hid hn
  have HR : Hid (∀ wr, Dsk.Fr b.fp w wr → Tb.Rd wr a l) := Lib.hid fun wr hf hne => by
    obtain ⟨g, off, ha, hg, hc⟩ := hr hne
    refine ⟨g, off, ha, Nat.lt_of_lt_of_le hg hf.size, fun i x hx => ?_⟩
    rw [fr_cell hf hg (hra g off hne ha)]
    exact hc i x hx
  have HD : Hid (∀ (k : Nat) (x : Int), l[k]? = some x → (∃ i, Tb.find (dropsM m (l.take k)) x = some i) ∧ (Lit.int .i64 x).wf = true) := Lib.hid fun k x hx => ⟨mayRem_at hok hmay hx, hwf x (List.mem_of_getElem? hx)⟩
  have H0 : Hid (ReAt w b p inv st m l 0 (.slice none 0 0) w) := Lib.hid ⟨b, h, Sp.refl _ _, by rw [List.take_zero]; exact Pl.nil _ _ _⟩
  have FIN : Hid (∀ (wr : World) (v : Value), ReAt w b p inv st m l n v wr → ∃ a' c', v = .slice a' n c' ∧ Calls Tryz.prog 103 #[.pointer (some ⟨b.q, 0, none⟩), .slice a' n c'] wr fun e w' => e = endE (runs st (remOps p m l (pagesOf (dropsP m l)))).2 ∧ SWent b p inv (runs st (remOps p m l (pagesOf (dropsP m l)))).1 (dropsM m l) w w') := Lib.hid fun wr v hat => by
    obtain ⟨b1, k1, s1, pl⟩ := hat.ex
    have hall : l.take n = l := List.take_of_length_le (by omega)
    rw [hall] at k1 pl
    have hlen : (dropsP m l).length = n := by rw [dropsP_length, hn]
    have hints : Tb.Ints wr v ((dropsP m l).map fun (q : Nat) => (q : Int)) := by
      show World.ownsRow _ _ _ _ _ _ _
      rw [List.length_map, hlen]
      exact pl.row
    obtain ⟨a', c', rfl, hrd⟩ := Tb.Rd.own hints
    rw [List.length_map, hlen]
    refine ⟨a', c', rfl, ?_⟩
    have := swps_any k1 hp (by rw [dropsM_length, hm]) (ps := dropsP m l) (fun q hq => by
      obtain ⟨k, _, _, hq1, _⟩ := A.was q hq
      rw [← hm]
      exact (List.getElem?_eq_some_iff.1 hq1).1) (by omega) hP a' c' hrd
    rw [hlen, s1.q] at this
    exact this.mono fun e w' ⟨e1, e2⟩ => ⟨e1, SWent.trans s1 e2⟩
  clear h hp hm hmay hn hP hr hra hwf hok A
  go_enter Tryz.func65, Tryz.ntmps65
  go_wp2
  go_loopw [9, 4] (fun i s wr => ∃ (k : Nat) (v : Value), i = .int .i64 (k : Int) ∧ s = v ∧ k ≤ n ∧ Hid (ReAt w b p inv st m l k v wr)) (fun i _ _ => n - (Lib.intOf i).toNat)
  case atStart => exact ⟨0, _, rfl, rfl, Nat.zero_le _, H0⟩
  case round =>
    obtain ⟨k, v, rfl, hsv, hk, hat⟩ := hrel
    subst hsv
    by_cases hlt : k < n
    · have d1 : decide ((k : Int) < (n : Int)) = true := by simp; omega
      have d2 : decide (k < n) = true := by simp; omega
      have hw1 : IntKind.i64.wrap ((k : Int) + 1) = ((k + 1 : Nat) : Int) := by rw [IntWalk.i64_in _ (by omega)]; rfl
      obtain ⟨x, hx⟩ : ∃ x, l[k]? = some x := ⟨l[k]'(by have := HN.out; omega), List.getElem?_eq_getElem _⟩
      obtain ⟨b1, k1, s1, pl⟩ := hat.out.ex
      obtain ⟨g, off, hab, hb, hc⟩ := (HR.out wr s1.fr) (fun e => by rw [e] at hx; simp at hx)
      subst hab
      have hc := hc k x hx
      obtain ⟨⟨i, hi⟩, hwx⟩ := HD.out k x hx
      have DR := Tb.drop_any k1.tm x hwx
      obtain ⟨e1, e2⟩ := dropsM_take (m := m) hx
      rw [Tb.drop_has hi] at DR e1 e2
      have hpn : b1.t.p = b1.t.p := rfl
      have r1 := k1.reads
      obtain ⟨-, -, -, -, -, -, -, -, -, -, c10, cf⟩ := r1
      rw [s1.q] at c10 cf
      have DR := Lib.hid DR
      have MI := Lib.hid (fun w1 => mustI_ok (i : Int) w1)
      have NX : Hid (∀ w1, Tb.WentM b1.t ((dropsM m (l.take k)).set i (-1)) wr w1 → ∃ b2, Sk w1 b2 p inv st (dropsM m (l.take (k + 1))) ∧ Sp b b2 w w1 ∧ Pl w b2 (dropsP m (l.take k)) u4 k w1) := Lib.hid fun w1 hw => by
        obtain ⟨o', ht, hs⟩ := hw
        obtain ⟨h1, h2⟩ := k1.table ht hs
        exact ⟨_, by rw [e1]; exact h1, s1.trans h2, pl.move h2⟩
      have E2 : Hid (dropsP m (l.take (k + 1)) = dropsP m (l.take k) ++ [i]) := Lib.hid (by rw [e2]; show _ ++ [(i : Int).toNat] = _; rw [Int.toNat_natCast])
      clear hx hb hi hat hpn k1 s1 pl e1 e2 hwx
      go_wp2_with fail
      refine DR.out.mono ?_
      rintro e w1 ⟨rfl, hw⟩
      obtain ⟨b2, k2, s2, pl2⟩ := NX.out w1 hw
      have HGL := Lib.hid pl2.len
      obtain ⟨va, vc, hv⟩ := Dsk.own_slice pl2.row
      subst hv
      have K2 := Lib.hid k2
      have S2 := Lib.hid s2
      have PL2 := Lib.hid pl2
      have OWN := Lib.hid (pl2.own (i : Int))
      clear hw k2 s2 pl2
      go_wp2_with fail
      refine (MI.out _).mono ?_
      rintro e w2 ⟨rfl, rfl⟩
      go_wp2_with (at_builtin; refine Tb.wpList_addN rfl (.tmp 13) (.tmp 23) 31 Tryz.underlying31 rfl (.slice va k vc) k ((dropsP m (l.take k)).map fun (q : Nat) => (q : Int)) rfl (by rw [List.length_map]; exact HGL.out) (by omega) OWN.out w1.heap.size (i : Int) rfl (by simp) ?_; intro v' w4 h1 h2 h3; have G4 := Lib.hid (PL2.out.add K2.out S2.out h1 h2 h3); clear h1 h2 h3)
      go_roundw
      case rel => exact ⟨k + 1, _, rfl, rfl, by omega, Lib.hid ⟨b2, G4.out.2.1, G4.out.2.2, by rw [E2.out]; exact G4.out.1⟩⟩
      case measure => simp [Lib.intOf]; omega
    · obtain rfl : k = n := by omega
      have d1 : decide ((k : Int) < (k : Int)) = false := by simp
      have d2 : decide (k < k) = false := by simp
      obtain ⟨a', c', hv, hcall⟩ := FIN.out wr _ hat.out
      subst hv
      obtain ⟨x, hx⟩ : ∃ x, x = (runs st (remOps p m l (pagesOf (dropsP m l)))).2 := ⟨_, rfl⟩
      rw [← hx] at hcall
      have HX := Lib.hid hx
      clear hx FIN H0 hat
      by_cases h0 : x = 0
      · subst h0
        rw [endE_zero] at hcall
        have HC := Lib.hid hcall
        clear hcall
        go_wp2_with fail
        refine HC.out.mono ?_
        rintro e w3 ⟨rfl, hw⟩
        have G3 := Lib.hid hw
        clear hw
        go_wp2_with fail
        go_end0
        exact ⟨by rw [← HX.out]; rfl, G3.out⟩
      · rw [endE_no h0] at hcall
        have HC := Lib.hid hcall
        have H0 := Lib.hid h0
        unfold faultE at HC
        clear h0 hcall
        go_wp2_with fail
        refine HC.out.mono ?_
        rintro e w3 ⟨rfl, hw⟩
        have G3 := Lib.hid hw
        clear hw
        go_wp2_with fail
        exact ⟨rfl, by rw [← HX.out, endE_no H0.out]; rfl, G3.out⟩
end So
end Go.Proofs.YtbmabcddciibfaaGreat
