/- Part 29 of the contracts and of the plain mathematics that the proof of the law rests on: StoCr, StoPub, StoPub2. -/
import Derived.Test.YtbmabcddciibfaaGreatWr21
import Derived.Test.YtbmabcddciibfaaGreatWr23
import Derived.Test.YtbmabcddciibfaaGreatWr28
import Derived.Shelf.Abstract
namespace Go.Proofs.YtbmabcddciibfaaGreat
namespace So
open Go.RowKit
set_option maxRecDepth 100000
set_option linter.unusedVariables false
theorem attempt_st {f : FuncId} {first cap : Array Value} {w : World} {b : Bk} {p : Pa} {inv : Bool} {st : Dm.St} {m : List Int} (h : Sk w b p inv st m) (ef : ∀ args w, (callFunc f args).run Tryz.prog w = .ok (.enter f args) w) (R : Int → Bool → Dm.St → List Int → Prop)
    (hc : ∀ W, w.alloc (.cells #[.int .i64 0] 41) = W → Below w.heap.size w W → Calls Tryz.prog f (first ++ cap) W fun e w2 => ∃ x inv' st' m', e = endE x ∧ R x inv' st' m' ∧ SWent b p inv' st' m' W w2) :
    Calls Tryz.prog 46 #[.func (.func f) first cap] w fun e w' => ∃ x inv' st' m', e = .returned (.int .i64 x) ∧ R x inv' st' m' ∧ SWent b p inv' st' m' w w' := by
  obtain ⟨W, hW⟩ : ∃ W, w.alloc (.cells #[.int .i64 0] 41) = W := ⟨_, rfl⟩
  have hb : Below w.heap.size w W := by rw [← hW]; exact (Below.refl _ _).alloc (Nat.le_refl _) _
  have hr : W.heap[w.heap.size]? = some (.cells #[.int .i64 0] 41 (0, 0)) := by rw [← hW]; exact heap_alloc_new w _
  have hsz : W.heap.size = w.heap.size + 1 := by rw [← hW]; simp
  have hn : ¬ b.fp w.heap.size := fun e => Nat.lt_irrefl _ (h.lt _ e)
  have hc2 := hc W hW hb
  refine (attempt_any (Z := fun x w2 => ∃ inv' st' m', R x inv' st' m' ∧ SWent b p inv' st' m' W w2) ef ?_ ?_).mono ?_
  · rintro x w2 ⟨inv', st', m', _, hw⟩
    rw [hw.fr.block _ (by omega) hn, hr]
  · rw [hW]
    refine hc2.mono ?_
    rintro e w2 ⟨x, inv', st', m', h1, h2, h3⟩
    exact ⟨x, h1, inv', st', m', h2, h3⟩
  · rintro e w' ⟨x, w2, rfl, ⟨inv', st', m', h2, h3⟩, hf⟩
    refine ⟨x, inv', st', m', rfl, h2, ?_⟩
    obtain ⟨b2, hk2, hs2⟩ := h3
    have hs' : Sp b b2 w w2 := (Sp.of_below hb).trans hs2
    refine ⟨b2, hk2.keep hf fun k hk e => ?_, ⟨hs'.fr.trans hf fun k h1 h2 => by omega, hs'.fp, hs'.q, hs'.dp, hs'.df⟩⟩
    rcases hs2.fp k hk with h | h
    · rw [e] at h; exact hn h
    · omega
theorem cr_err (d : Option Addr) (a n g s l x : Int) (gen : Nat) (w : World) (hx : x ≠ 0)
    (h : ∀ w1, Below w.heap.size w w1 → Calls Tryz.prog 45 #[.pointer d, .agg #[.int .i64 a, .int .i64 n, .int .i64 g], .agg #[.int .i64 s, .int .i64 l], .int .u32 (gen : Int)] w1 (NoStore x w1)) :
    Calls Tryz.prog 30 #[.pointer d, .agg #[.int .i64 a, .int .i64 n, .int .i64 g], .agg #[.int .i64 s, .int .i64 l], .int .u32 (gen : Int)] w (NoStore x w) := by
  obtain ⟨W0, hW0⟩ : ∃ W0, (w.alloc (.cells #[.int .i64 a, .int .i64 n, .int .i64 g] 44)).alloc (.cells #[.int .i64 s, .int .i64 l] 25) = W0 := ⟨_, rfl⟩
  have hB := bxs_made w _ _ _ _ _ W0 hW0
  obtain ⟨hb, ⟨a0, a1, a2, b0, b1⟩, _⟩ := hB
  have HB := Lib.hid hb
  have EM := Lib.hid (h W0 hb)
  have e2 : (x != 0) = true := by simpa using hx
  unfold NoStore at EM ⊢
  clear h hb hx
  go_enter Tryz.func30, Tryz.ntmps30
  go_wp2_with fail
  clear hW0
  refine EM.out.mono ?_
  rintro e w1 ⟨rfl, hb⟩
  have FB := Lib.hid (HB.out.trans (hb.mono HB.out.size))
  clear hb
  go_wp2_with fail
  go_ret2
  exact ⟨rfl, FB.out⟩
theorem op_err (d : Option Addr) (a n g s l x : Int) (gen : Nat) (w : World) (hx : x ≠ 0)
    (h : ∀ w1, Below w.heap.size w w1 → Calls Tryz.prog 45 #[.pointer d, .agg #[.int .i64 a, .int .i64 n, .int .i64 g], .agg #[.int .i64 s, .int .i64 l], .int .u32 (gen : Int)] w1 (NoStore x w1)) :
    Calls Tryz.prog 13 #[.pointer d, .agg #[.int .i64 a, .int .i64 n, .int .i64 g], .agg #[.int .i64 s, .int .i64 l], .int .u32 (gen : Int)] w (NoStore x w) := by
  obtain ⟨W0, hW0⟩ : ∃ W0, (w.alloc (.cells #[.int .i64 a, .int .i64 n, .int .i64 g] 44)).alloc (.cells #[.int .i64 s, .int .i64 l] 25) = W0 := ⟨_, rfl⟩
  have hB := bxs_made w _ _ _ _ _ W0 hW0
  obtain ⟨hb, ⟨a0, a1, a2, b0, b1⟩, _⟩ := hB
  have HB := Lib.hid hb
  have EM := Lib.hid (h W0 hb)
  have e2 : (x != 0) = true := by simpa using hx
  unfold NoStore at EM ⊢
  clear h hb hx
  go_enter Tryz.func13, Tryz.ntmps13
  go_wp2_with fail
  clear hW0
  refine EM.out.mono ?_
  rintro e w1 ⟨rfl, hb⟩
  have FB := Lib.hid (HB.out.trans (hb.mono HB.out.size))
  clear hb
  go_wp2_with fail
  go_ret2
  exact ⟨rfl, FB.out⟩
def Got (p : Pa) (o : Dsk.Ob) (inv : Bool) (st : Dm.St) (m : List Int) (w : World) (e : Ending) (w' : World) : Prop := ∃ b, e = .returned (.tuple #[.pointer (some ⟨b.q, 0, none⟩), .int .i64 0]) ∧ Sk w' b p inv st m ∧ b.d.p = o.p ∧ (∀ k, b.fp k → o.fp k ∨ w.heap.size ≤ k) ∧ (∀ k, b.d.fp k → o.fp k ∨ w.heap.size ≤ k) ∧ w.heap.size ≤ b.q ∧ Dsk.Fr o.fp w w'
set_option maxHeartbeats 1000000 in
theorem create_ok {w : World} {o : Dsk.Ob} {p : Pa} (hp : p.Ok) (h : Dsk.Dk w o (Dm.fresh p.a)) :
    Calls Tryz.prog 30 #[.pointer (some ⟨o.p, 0, none⟩), .agg #[.int .i64 (p.a : Int), .int .i64 (p.n : Int), .int .i64 (p.g : Int)], .agg #[.int .i64 (p.st : Int), .int .i64 (p.ln : Int)], .int .u32 (p.gen : Int)] w (Got p o false (runs (Dm.fresh p.a) (creOps p)).1 (List.replicate p.N (-1)) w) := by
  obtain ⟨W0, hW0⟩ : ∃ W0, (w.alloc (.cells #[.int .i64 (p.a : Int), .int .i64 (p.n : Int), .int .i64 (p.g : Int)] 44)).alloc (.cells #[.int .i64 (p.st : Int), .int .i64 (p.ln : Int)] 25) = W0 := ⟨_, rfl⟩
  have hB := bxs_made w _ _ _ _ _ W0 hW0
  obtain ⟨hb, ⟨a0, a1, a2, b0, b1⟩, _⟩ := hB
  have HB := Lib.hid hb
  have hlen : (Dm.fresh p.a).S.length = p.a := by show (List.replicate p.a (List.replicate 64 (0 : UInt8))).length = p.a; rw [List.length_replicate]
  have EM := Lib.hid (sempty_ok (h.below hb) hp hlen)
  have hmf : ∀ (fn : Fn) (first cap : Array Value) (w : World), (Instr.makeFunc fn first cap).run Tryz.prog w = .ok (.func fn first cap) w := fun _ _ _ _ => rfl
  have HDK := Lib.hid h
  have AT : Hid (∀ (b : Bk) (w1 : World), Sk w1 b p false (Dm.fresh p.a) (List.replicate p.N (-1)) → Calls Tryz.prog 46 #[.func (.func 71) #[.pointer (some ⟨b.q, 0, none⟩)] #[]] w1 fun e w' => e = .returned (.int .i64 0) ∧ SWent b p false (runs (Dm.fresh p.a) (creOps p)).1 (List.replicate p.N (-1)) w1 w') := Lib.hid fun b w1 hk => by
    refine (attempt_st hk (enters_of Tryz.func71 (by kernel_rfl) rfl) (fun x inv' st' m' => x = 0 ∧ inv' = false ∧ st' = (runs (Dm.fresh p.a) (creOps p)).1 ∧ m' = List.replicate p.N (-1)) fun W hW hb => ?_).mono ?_
    · have := screate_any (hk.below hb) hp (List.length_replicate ..) (by show ([] : List (Nat × List UInt8)).length ≤ _; simp)
      refine this.mono ?_
      rintro e w2 ⟨rfl, h2⟩
      exact ⟨_, _, _, _, rfl, ⟨(live_cre hp).1, rfl, rfl, rfl⟩, h2⟩
    · rintro e w' ⟨x, inv', st', m', rfl, ⟨rfl, rfl, rfl, rfl⟩, h2⟩
      exact ⟨rfl, h2⟩
  unfold MadeS at EM
  unfold Got
  clear h hb hlen
  go_enter Tryz.func30, Tryz.ntmps30
  go_wp2_with fail
  clear hW0
  refine EM.out.mono ?_
  rintro e w1 ⟨b, rfl, hk, hd, hq, ht, hb⟩
  have AB := Lib.hid (AT.out b w1 hk)
  have FB := Lib.hid (HB.out.trans (hb.mono HB.out.size))
  have HBK : Hid (b.d = o ∧ W0.heap.size ≤ b.q ∧ (∀ k, b.t.fp k → W0.heap.size ≤ k)) := Lib.hid ⟨hd, hq, ht⟩
  clear hb hk hd hq ht a0 a1 a2 b0 b1
  go_wp2_with fail
  refine AB.out.mono ?_
  rintro e w2 ⟨rfl, b2, hk2, hs2⟩
  have FIN : Hid (Sk w2 b2 p false (runs (Dm.fresh p.a) (creOps p)).1 (List.replicate p.N (-1)) ∧ b2.d.p = o.p ∧ (∀ k, b2.fp k → o.fp k ∨ w.heap.size ≤ k) ∧ (∀ k, b2.d.fp k → o.fp k ∨ w.heap.size ≤ k) ∧ w.heap.size ≤ b2.q ∧ Dsk.Fr o.fp w w2) := Lib.hid (by
    obtain ⟨hd, hq, ht⟩ := HBK.out
    have h0 := HB.out.size
    have hbf : ∀ k, b.fp k → o.fp k ∨ w.heap.size ≤ k := fun k hk => by
      rcases hk with rfl | hk | hk
      · exact .inr (Nat.le_trans h0 hq)
      · rw [hd] at hk; exact .inl hk
      · exact .inr (Nat.le_trans h0 (ht k hk))
    refine ⟨hk2, by rw [hs2.dp, hd], fun k hk => ?_, fun k hk => ?_, by rw [hs2.q]; exact Nat.le_trans h0 hq, (Dsk.Fr.of_below FB.out : Dsk.Fr o.fp w w1).trans hs2.fr fun k hk hf => ?_⟩
    · rcases hs2.fp k hk with h | h
      · exact hbf k h
      · exact .inr (Nat.le_trans FB.out.size h)
    · rcases hs2.df k hk with h | h
      · rw [hd] at h; exact .inl h
      · exact .inr (Nat.le_trans FB.out.size h)
    · rcases hbf k hf with h | h
      · exact h
      · omega)
  have hq2 : b2.q = b.q := hs2.q
  have HQ := Lib.hid hq2
  clear hk2 hs2 hq2
  go_wp2_with fail
  go_ret2
  exact ⟨b2, by rw [HQ.out]; rfl, FIN.out⟩
def Opened (p : Pa) (o : Dsk.Ob) (st : Dm.St) (w : World) (e : Ending) (w' : World) : Prop := (openE p (Dm.one st) = 0 ∧ Got p o (openI (Dm.one st) p) st (openT p (Dm.one st)) w e w') ∨ (openE p (Dm.one st) = 165 ∧ NoStore 165 w e w')
set_option maxHeartbeats 1000000 in
theorem open_any {w : World} {o : Dsk.Ob} {st : Dm.St} {p : Pa} (hp : p.Ok) (h : Dsk.Dk w o st) (hd : st.dead = false) (hl : st.S.length = p.a) (hP : st.P.length ≤ 1099511627776) :
    Calls Tryz.prog 13 #[.pointer (some ⟨o.p, 0, none⟩), .agg #[.int .i64 (p.a : Int), .int .i64 (p.n : Int), .int .i64 (p.g : Int)], .agg #[.int .i64 (p.st : Int), .int .i64 (p.ln : Int)], .int .u32 (p.gen : Int)] w (Opened p o st w) := by
  obtain ⟨W0, hW0⟩ : ∃ W0, (w.alloc (.cells #[.int .i64 (p.a : Int), .int .i64 (p.n : Int), .int .i64 (p.g : Int)] 44)).alloc (.cells #[.int .i64 (p.st : Int), .int .i64 (p.ln : Int)] 25) = W0 := ⟨_, rfl⟩
  have hB := bxs_made w _ _ _ _ _ W0 hW0
  obtain ⟨hb, ⟨a0, a1, a2, b0, b1⟩, _⟩ := hB
  have HB := Lib.hid hb
  have EM := Lib.hid (sempty_ok (h.below hb) hp hl)
  have hmf : ∀ (fn : Fn) (first cap : Array Value) (w : World), (Instr.makeFunc fn first cap).run Tryz.prog w = .ok (.func fn first cap) w := fun _ _ _ _ => rfl
  have HDK := Lib.hid h
  -- load, attempted
  have AT : Hid (∀ (b : Bk) (w1 : World), Sk w1 b p false st (List.replicate p.N (-1)) → Calls Tryz.prog 46 #[.func (.func 47) #[.pointer (some ⟨b.q, 0, none⟩)] #[]] w1 fun e w' => Dsk.Fr (fun k => k = b.q) w1 w' ∧
      ((openE p (Dm.one st) = 0 ∧ e = .returned (.int .i64 0) ∧ ∃ b', Sk w' b' p (openI (Dm.one st) p) st (openT p (Dm.one st)) ∧ b'.q = b.q ∧ b'.d = b.d ∧ ∀ k, b'.t.fp k → w1.heap.size ≤ k) ∨ (openE p (Dm.one st) = 165 ∧ e = .returned (.int .i64 165)))) := Lib.hid fun b w1 hk => by
    obtain ⟨W, hW⟩ : ∃ W, w1.alloc (.cells #[.int .i64 0] 41) = W := ⟨_, rfl⟩
    have hb : Below w1.heap.size w1 W := by rw [← hW]; exact (Below.refl _ _).alloc (Nat.le_refl _) _
    have hr : W.heap[w1.heap.size]? = some (.cells #[.int .i64 0] 41 (0, 0)) := by rw [← hW]; exact heap_alloc_new w1 _
    have hsz : W.heap.size = w1.heap.size + 1 := by rw [← hW]; simp
    have hqlt := hk.lt b.q (.inl rfl)
    refine (attempt_any (Z := fun x w2 => Dsk.Fr (fun k => k = b.q) W w2 ∧ ((openE p (Dm.one st) = 0 ∧ x = 0 ∧ ∃ b', Sk w2 b' p (openI (Dm.one st) p) st (openT p (Dm.one st)) ∧ b'.q = b.q ∧ b'.d = b.d ∧ ∀ k, b'.t.fp k → W.heap.size ≤ k) ∨ (openE p (Dm.one st) = 165 ∧ x = 165))) (enters_of Tryz.func47 (by kernel_rfl) rfl) ?_ ?_).mono ?_
    · rintro x w2 ⟨hf, _⟩
      rw [hf.block _ (by omega) (by omega), hr]
    · rw [hW]
      refine (sload_any (hk.below hb) hp hd hl hP).mono ?_
      rintro e w2 ⟨hf, ⟨h1, rfl, h2⟩ | ⟨h1, rfl⟩⟩
      · exact ⟨0, rfl, hf, .inl ⟨h1, rfl, h2⟩⟩
      · exact ⟨165, (endE_no (by decide)).symm, hf, .inr ⟨h1, rfl⟩⟩
    · rintro e w' ⟨x, w2, rfl, ⟨hf1, hz⟩, hf2⟩
      refine ⟨((Dsk.Fr.of_below hb : Dsk.Fr (fun k => k = b.q) w1 W).trans hf1 (fun _ _ e => e)).trans hf2 (fun k h1 h2 => by omega), ?_⟩
      rcases hz with ⟨h1, rfl, b', hk', h2, h3, h4⟩ | ⟨h1, rfl⟩
      · refine .inl ⟨h1, rfl, b', hk'.keep hf2 fun k hk0 e => ?_, h2, h3, fun k hk => Nat.le_trans hb.size (h4 k hk)⟩
        rcases hk0 with hk0 | hk0 | hk0
        · omega
        · rw [h3] at hk0
          have := hk.lt k (.inr (.inl hk0))
          omega
        · have := h4 k hk0
          omega
      · exact .inr ⟨h1, rfl⟩
  unfold MadeS at EM
  unfold Opened Got NoStore
  clear h hb
  go_enter Tryz.func13, Tryz.ntmps13
  go_wp2_with fail
  clear hW0
  refine EM.out.mono ?_
  rintro e w1 ⟨b, rfl, hk, hd, hq, ht, hb⟩
  have AB := Lib.hid (AT.out b w1 hk)
  have FB := Lib.hid (HB.out.trans (hb.mono HB.out.size))
  have HBK : Hid (b.d = o ∧ W0.heap.size ≤ b.q ∧ (∀ k, b.t.fp k → W0.heap.size ≤ k)) := Lib.hid ⟨hd, hq, ht⟩
  clear hb hk hd hq ht a0 a1 a2 b0 b1 AT EM
  go_wp2_with fail
  refine AB.out.mono ?_
  rintro e w2 ⟨hf, ⟨h1, rfl, b2, hk2, hq2, hd2, ht2⟩ | ⟨h1, rfl⟩⟩
  · have FIN : Hid (openE p (Dm.one st) = 0 ∧ Sk w2 b2 p (openI (Dm.one st) p) st (openT p (Dm.one st)) ∧ b2.d.p = o.p ∧ (∀ k, b2.fp k → o.fp k ∨ w.heap.size ≤ k) ∧ (∀ k, b2.d.fp k → o.fp k ∨ w.heap.size ≤ k) ∧ w.heap.size ≤ b2.q ∧ Dsk.Fr o.fp w w2) := Lib.hid (by
      obtain ⟨hd, hq, ht⟩ := HBK.out
      have h0 := HB.out.size
      have h5 := FB.out.size
      refine ⟨h1, hk2, by rw [hd2, hd], fun k hk => ?_, fun k hk => ?_, by rw [hq2]; exact Nat.le_trans h0 hq, (Dsk.Fr.of_below FB.out : Dsk.Fr o.fp w w1).trans hf fun k hk e => by omega⟩
      · rcases hk with rfl | hk | hk
        · exact .inr (by rw [hq2]; exact Nat.le_trans h0 hq)
        · rw [hd2, hd] at hk; exact .inl hk
        · exact .inr (Nat.le_trans h5 (ht2 k hk))
      · rw [hd2, hd] at hk; exact .inl hk)
    have HQ := Lib.hid hq2
    clear hf hk2 hq2 hd2 ht2 h1
    go_wp2_with fail
    go_ret2
    exact .inl ⟨FIN.out.1, b2, by rw [HQ.out]; rfl, FIN.out.2⟩
  · have FIN : Hid (openE p (Dm.one st) = 165 ∧ Below w.heap.size w w2) := Lib.hid ⟨h1, by
      obtain ⟨hd, hq, ht⟩ := HBK.out
      have h0 := HB.out.size
      exact ((Dsk.Fr.of_below FB.out : Dsk.Fr (fun _ => False) w w1).trans hf fun k hk e => by omega).below (Nat.le_refl _) fun _ h => h.elim⟩
    clear hf h1
    go_wp2_with fail
    go_ret2
    exact .inr ⟨FIN.out.1, rfl, FIN.out.2⟩
end So
end Go.Proofs.YtbmabcddciibfaaGreat
namespace Go.Proofs.YtbmabcddciibfaaGreat
namespace So
open Go.RowKit
set_option maxRecDepth 100000
set_option linter.unusedVariables false
theorem two_box (w : World) (x y : Value) (T U : TypeId) (W0 : World) (h : (w.alloc (.cells #[x] T)).alloc (.cells #[y] U) = W0) :
    Below w.heap.size w W0 ∧ W0.cell? ⟨w.heap.size, 0, none⟩ = some x ∧ W0.cell? ⟨w.heap.size + 1, 0, none⟩ = some y ∧ W0.heap.size = w.heap.size + 2 := by
  subst h
  have h1 := heap_alloc_new w (.cells #[x] T)
  have h2 := heap_alloc_new (w.alloc (.cells #[x] T)) (.cells #[y] U)
  have hs : (w.alloc (.cells #[x] T)).heap.size = w.heap.size + 1 := by simp
  rw [hs] at h2
  have hb : Below (w.heap.size + 1) (w.alloc (.cells #[x] T)) ((w.alloc (.cells #[x] T)).alloc (.cells #[y] U)) := (Below.refl _ _).alloc (by simp) _
  have h1' := (hb.block w.heap.size (by omega)).trans h1
  exact ⟨((Below.refl _ w).alloc (Nat.le_refl _) _).alloc (by simp) _, by rw [cell_of_row _ _ _ _ _ _ h1']; rfl, by rw [cell_of_row _ _ _ _ _ _ h2]; rfl, by simp⟩
theorem spoil_pub {w : World} {b : Bk} {p : Pa} {inv : Bool} {st : Dm.St} {m : List Int} (h : Sk w b p inv st m) (hp : p.Ok) (hP : st.P.length ≤ 274877906944) :
    Calls Tryz.prog 24 #[.pointer (some ⟨b.q, 0, none⟩)] w fun e w' => e = .returned (.int .i64 (runs st (spoOps p)).2) ∧ SWent b p true (runs st (spoOps p)).1 [] w w' := by
  have hmf : ∀ (fn : Fn) (first cap : Array Value) (w : World), (Instr.makeFunc fn first cap).run Tryz.prog w = .ok (.func fn first cap) w := fun _ _ _ _ => rfl
  have AT := attempt_st h (enters_of Tryz.func66 (by kernel_rfl) rfl) (first := #[.pointer (some ⟨b.q, 0, none⟩)]) (cap := #[]) (fun x inv' st' m' => x = (runs st (spoOps p)).2 ∧ inv' = true ∧ st' = (runs st (spoOps p)).1 ∧ m' = []) fun W hW hb => (sspoil_any (h.below hb) hp hP).mono fun e w' ⟨h1, h2⟩ => ⟨_, _, _, _, h1, ⟨rfl, rfl, rfl, rfl⟩, h2⟩
  have AT2 := Lib.hid AT
  clear AT h hp hP
  go_enter Tryz.func24, Tryz.ntmps24
  go_wp2_with fail
  refine AT2.out.mono ?_
  rintro e w2 ⟨x, inv', st', m', rfl, ⟨hx, rfl, rfl, rfl⟩, hw⟩
  have HX := Lib.hid hx
  have HW := Lib.hid hw
  clear hx hw
  go_wp2_with fail
  go_ret
  exact ⟨by rw [← HX.out]; rfl, HW.out⟩
theorem rem_clo {W : World} {q g0 g1 : Nat} {v : Value} {X : Int} {Q : World → Prop} (c0 : W.cell? ⟨g0, 0, none⟩ = some (.pointer (some ⟨q, 0, none⟩))) (c1 : W.cell? ⟨g1, 0, none⟩ = some v)
    (h : Calls Tryz.prog 65 #[.pointer (some ⟨q, 0, none⟩), v] W fun e w' => e = endE X ∧ Q w') :
    Calls Tryz.prog 64 #[.pointer (some ⟨g0, 0, none⟩), .pointer (some ⟨g1, 0, none⟩)] W fun e w' => e = endE X ∧ Q w' := by
  by_cases hX : X = 0
  · subst hX
    rw [endE_zero] at h ⊢
    have HC := Lib.hid h
    clear h
    go_enter Tryz.func64, Tryz.ntmps64
    go_wp2_with fail
    refine HC.out.mono ?_
    rintro e w2 ⟨rfl, hq⟩
    go_wp2_with fail
    go_end0
    exact ⟨rfl, hq⟩
  · rw [endE_no hX] at h ⊢
    unfold faultE at h ⊢
    have HC := Lib.hid h
    clear h hX
    go_enter Tryz.func64, Tryz.ntmps64
    go_wp2_with fail
    refine HC.out.mono ?_
    rintro e w2 ⟨rfl, hq⟩
    go_wp2_with fail
    exact ⟨rfl, rfl, hq⟩
theorem add_clo {W : World} {q g0 g1 : Nat} {a : Option Addr} {n c : Nat} {X : Int} {Q : World → Prop} (c0 : W.cell? ⟨g0, 0, none⟩ = some (.pointer (some ⟨q, 0, none⟩))) (c1 : W.cell? ⟨g1, 0, none⟩ = some (.slice a n c))
    (h : Calls Tryz.prog 59 #[.pointer (some ⟨q, 0, none⟩), .slice a n c] W fun e w' => e = endE X ∧ Q w') :
    Calls Tryz.prog 58 #[.pointer (some ⟨g0, 0, none⟩), .pointer (some ⟨g1, 0, none⟩)] W fun e w' => e = endE X ∧ Q w' := by
  by_cases hX : X = 0
  · subst hX
    rw [endE_zero] at h ⊢
    have HC := Lib.hid h
    clear h
    go_enter Tryz.func58, Tryz.ntmps58
    go_wp2_with fail
    refine HC.out.mono ?_
    rintro e w2 ⟨rfl, hq⟩
    go_wp2_with fail
    go_end0
    exact ⟨rfl, hq⟩
  · rw [endE_no hX] at h ⊢
    unfold faultE at h ⊢
    have HC := Lib.hid h
    clear h hX
    go_enter Tryz.func58, Tryz.ntmps58
    go_wp2_with fail
    refine HC.out.mono ?_
    rintro e w2 ⟨rfl, hq⟩
    go_wp2_with fail
    exact ⟨rfl, rfl, hq⟩
def RemPost (b : Bk) (p : Pa) (inv : Bool) (st : Dm.St) (m l : List Int) (w : World) (e : Ending) (w' : World) : Prop :=
  ((remE inv m l ≠ 0 ∨ l = []) ∧ e = .returned (.int .i64 (remE inv m l)) ∧ SWent b p inv st m w w') ∨
  (remE inv m l = 0 ∧ l ≠ [] ∧ e = .returned (.int .i64 (runs st (remOps p m l (pagesOf (dropsP m l)))).2) ∧ SWent b p inv (runs st (remOps p m l (pagesOf (dropsP m l)))).1 (dropsM m l) w w')
set_option maxHeartbeats 1000000 in
theorem remove_pub {w : World} {b : Bk} {p : Pa} {inv : Bool} {st : Dm.St} {m : List Int} (h : Sk w b p inv st m) (hp : p.Ok) (hm : inv = false → m.length = p.N) {l : List Int} (n c : Nat) (hn : n = l.length) (hn2 : n ≤ 1048576) (hP : st.P.length ≤ 274877906944)
    (a : Option Addr) (hr : Tb.Rd w a l) (hra : ∀ g off, l ≠ [] → a = some ⟨g, off, none⟩ → ¬ b.fp g) (hwf : ∀ x ∈ l, (Lit.int .i64 x).wf = true) :
    Calls Tryz.prog 23 #[.pointer (some ⟨b.q, 0, none⟩), .slice a n c] w (RemPost b p inv st m l w) := by
  have hmf : ∀ (fn : Fn) (first cap : Array Value) (w : World), (Instr.makeFunc fn first cap).run Tryz.prog w = .ok (.func fn first cap) w := fun _ _ _ _ => rfl
  obtain ⟨W0, hW0⟩ : ∃ W0, (w.alloc (.cells #[.pointer (some ⟨b.q, 0, none⟩)] 45)).alloc (.cells #[.slice a n c] 31) = W0 := ⟨_, rfl⟩
  obtain ⟨hB, c0, c1, hsz⟩ := two_box w _ _ _ _ W0 hW0
  have h0 := h.below hB
  have IV := Lib.hid (sinv_any h0)
  have MR := Lib.hid (smayrem_any h0 n c hn hn2 a (hr.below hB) hwf)
  have HB := Lib.hid hB
  have SZ := Lib.hid hsz
  have HSK := Lib.hid h
  unfold RemPost
  cases inv with
  | true =>
    have FIN : Hid (remE true m l = 162) := Lib.hid (by unfold remE; rw [if_pos rfl])
    clear h h0 hB hsz hm hn hr hra hwf hp hP MR
    go_enter Tryz.func23, Tryz.ntmps23
    go_wp2_with fail
    clear hW0
    refine IV.out.mono ?_
    rintro e w1 ⟨rfl, rfl⟩
    go_wp2_with fail
    go_ret
    rw [FIN.out]
    exact .inl ⟨.inl (by decide), rfl, SWent.below HB.out (SWent.refl (HSK.out.below HB.out))⟩
  | false =>
    cases hmr : mayRem m l with
    | false =>
      rw [hmr] at MR
      have FIN : Hid (remE false m l = 161) := Lib.hid (by unfold remE; rw [if_neg (by decide), hmr, if_neg (by decide)])
      clear h h0 hB hsz hm hn hr hra hwf hp hP hmr
      go_enter Tryz.func23, Tryz.ntmps23
      go_wp2_with fail
      clear hW0
      refine IV.out.mono ?_
      rintro e w1 ⟨rfl, rfl⟩
      go_wp2_with fail
      refine MR.out.mono ?_
      rintro e w2 ⟨rfl, hb⟩
      have FB := Lib.hid (HB.out.trans (hb.mono HB.out.size))
      clear hb
      go_wp2_with fail
      go_ret
      rw [FIN.out]
      exact .inl ⟨.inl (by decide), rfl, SWent.below FB.out (SWent.refl (HSK.out.below FB.out))⟩
    | true =>
      rw [hmr] at MR
      have FIN : Hid (remE false m l = 0) := Lib.hid (by unfold remE; rw [if_neg (by decide), hmr, if_pos rfl])
      by_cases hl0 : l = []
      · have e1 : ((n : Int) == 0) = true := by rw [hn, hl0]; rfl
        have HL := Lib.hid hl0
        clear h h0 hB hsz hm hn hr hra hwf hp hP hmr hl0
        go_enter Tryz.func23, Tryz.ntmps23
        go_wp2_with fail
        clear hW0
        refine IV.out.mono ?_
        rintro e w1 ⟨rfl, rfl⟩
        go_wp2_with fail
        refine MR.out.mono ?_
        rintro e w2 ⟨rfl, hb⟩
        have FB := Lib.hid (HB.out.trans (hb.mono HB.out.size))
        have d1 := (hb.cell (p := ⟨w.heap.size + 1, 0, none⟩) (by show w.heap.size + 1 < _; rw [SZ.out]; omega)).trans c1
        clear hb
        go_wp2_with fail
        go_ret
        rw [FIN.out]
        exact .inl ⟨.inr HL.out, rfl, SWent.below FB.out (SWent.refl (HSK.out.below FB.out))⟩
      · have e1 : ((n : Int) == 0) = false := by
          have := List.length_pos_iff.2 hl0
          simp; omega
        have AT : Hid (∀ w1, Below W0.heap.size W0 w1 → Calls Tryz.prog 46 #[.func (.func 64) #[] #[.pointer (some ⟨w.heap.size, 0, none⟩), .pointer (some ⟨w.heap.size + 1, 0, none⟩)]] w1 fun e w' => e = .returned (.int .i64 (runs st (remOps p m l (pagesOf (dropsP m l)))).2) ∧ SWent b p false (runs st (remOps p m l (pagesOf (dropsP m l)))).1 (dropsM m l) w1 w') := Lib.hid fun w1 hb1 => by
          have hbw : Below w.heap.size w w1 := hB.trans (hb1.mono hB.size)
          refine (attempt_st (h.below hbw) (enters_of Tryz.func64 (by kernel_rfl) rfl) (fun x inv' st' m' => x = (runs st (remOps p m l (pagesOf (dropsP m l)))).2 ∧ inv' = false ∧ st' = (runs st (remOps p m l (pagesOf (dropsP m l)))).1 ∧ m' = dropsM m l) fun W hW hb => ?_).mono ?_
          · have hbW : Below w.heap.size w W := hbw.trans (hb.mono hbw.size)
            have hb2 : Below W0.heap.size W0 W := hb1.trans (hb.mono hb1.size)
            have := srem_any (h.below hbW) hp (hm rfl) hmr n c hn hn2 hP a (hr.below hbW) hra hwf
            refine (rem_clo ((hb2.cell (p := ⟨w.heap.size, 0, none⟩) (by show w.heap.size < _; omega)).trans c0) ((hb2.cell (p := ⟨w.heap.size + 1, 0, none⟩) (by show w.heap.size + 1 < _; omega)).trans c1) this).mono ?_
            rintro e w2 ⟨h1, h2⟩
            exact ⟨_, _, _, _, h1, ⟨rfl, rfl, rfl, rfl⟩, h2⟩
          · rintro e w' ⟨x, inv', st', m', rfl, ⟨rfl, rfl, rfl, rfl⟩, h2⟩
            exact ⟨rfl, h2⟩
        have HL := Lib.hid hl0
        clear h h0 hB hsz hm hn hr hra hwf hp hP hmr hl0
        go_enter Tryz.func23, Tryz.ntmps23
        go_wp2_with fail
        clear hW0
        refine IV.out.mono ?_
        rintro e w1 ⟨rfl, rfl⟩
        go_wp2_with fail
        refine MR.out.mono ?_
        rintro e w2 ⟨rfl, hb⟩
        have FB := Lib.hid (HB.out.trans (hb.mono HB.out.size))
        have d1 := (hb.cell (p := ⟨w.heap.size + 1, 0, none⟩) (by show w.heap.size + 1 < _; rw [SZ.out]; omega)).trans c1
        have AB := Lib.hid (AT.out w2 hb)
        clear hb AT
        go_wp2_with fail
        refine AB.out.mono ?_
        rintro e w3 ⟨rfl, hw⟩
        have HW := Lib.hid hw
        clear hw
        go_wp2_with fail
        go_ret
        exact .inr ⟨FIN.out, HL.out, rfl, SWent.below FB.out HW.out⟩
end So
end Go.Proofs.YtbmabcddciibfaaGreat
namespace Go.Proofs.YtbmabcddciibfaaGreat
namespace So
open Go.RowKit
set_option maxRecDepth 100000
set_option linter.unusedVariables false
def AddPost (b : Bk) (p : Pa) (inv : Bool) (st : Dm.St) (m : List Int) (l : List (Int × List UInt8)) (w : World) (e : Ending) (w' : World) : Prop :=
  ((addE inv m p.g l ≠ 0 ∨ l = []) ∧ e = .returned (.int .i64 (addE inv m p.g l)) ∧ SWent b p inv st m w w') ∨
  (addE inv m p.g l = 0 ∧ l ≠ [] ∧ e = .returned (.int .i64 (runs st (addOps p m l (pagesOf (putsP m l)))).2) ∧ ∃ m', SWent b p inv (runs st (addOps p m l (pagesOf (putsP m l)))).1 m' w w' ∧ ((runs st (addOps p m l (pagesOf (putsP m l)))).2 = 0 → m' = putsM m l))
set_option maxHeartbeats 2000000 in
theorem add_pub {w : World} {b : Bk} {p : Pa} {inv : Bool} {st : Dm.St} {m : List Int} (h : Sk w b p inv st m) (hp : p.Ok) (hm : inv = false → m.length = p.N) {l : List (Int × List UInt8)} (n c : Nat) (hn : n = l.length) (hn2 : n ≤ 1048576) (hP : st.P.length ≤ 68719476736)
    (a : Option Addr) (hr : RCop w a l) (hra : ∀ g off, l ≠ [] → a = some ⟨g, off, none⟩ → ¬ b.fp g) (hwf : ∀ x ∈ l, (Lit.int .i64 x.1).wf = true) :
    Calls Tryz.prog 21 #[.pointer (some ⟨b.q, 0, none⟩), .slice a n c] w (AddPost b p inv st m l w) := by
  have hmf : ∀ (fn : Fn) (first cap : Array Value) (w : World), (Instr.makeFunc fn first cap).run Tryz.prog w = .ok (.func fn first cap) w := fun _ _ _ _ => rfl
  obtain ⟨W0, hW0⟩ : ∃ W0, (w.alloc (.cells #[.pointer (some ⟨b.q, 0, none⟩)] 45)).alloc (.cells #[.slice a n c] 91) = W0 := ⟨_, rfl⟩
  obtain ⟨hB, c0, c1, hsz⟩ := two_box w _ _ _ _ W0 hW0
  have h0 := h.below hB
  have IV := Lib.hid (sinv_any h0)
  have MR := Lib.hid (smayadd_any h0 hp n c hn hn2 a (hr.below hB) hwf)
  have HB := Lib.hid hB
  have SZ := Lib.hid hsz
  have HSK := Lib.hid h
  have hok := h.tm.ok
  unfold AddPost
  cases inv with
  | true =>
    have FIN : Hid (addE true m p.g l = 162) := Lib.hid (by unfold addE; rw [if_pos rfl])
    clear h h0 hB hsz hm hn hr hra hwf hp hP MR hok
    go_enter Tryz.func21, Tryz.ntmps21
    go_wp2_with fail
    clear hW0
    refine IV.out.mono ?_
    rintro e w1 ⟨rfl, rfl⟩
    go_wp2_with fail
    go_ret
    rw [FIN.out]
    exact .inl ⟨.inl (by decide), rfl, SWent.below HB.out (SWent.refl (HSK.out.below HB.out))⟩
  | false =>
    cases hmr : mayAdd m p.g l with
    | false =>
      rw [hmr] at MR
      have FIN : Hid (addE false m p.g l = 1) := Lib.hid (by unfold addE; rw [if_neg (by decide), hmr, if_neg (by decide)])
      clear h h0 hB hsz hm hn hr hra hwf hp hP hmr hok
      go_enter Tryz.func21, Tryz.ntmps21
      go_wp2_with fail
      clear hW0
      refine IV.out.mono ?_
      rintro e w1 ⟨rfl, rfl⟩
      go_wp2_with fail
      refine MR.out.mono ?_
      rintro e w2 ⟨rfl, hb⟩
      have FB := Lib.hid (HB.out.trans (hb.mono HB.out.size))
      clear hb
      go_wp2_with fail
      go_ret
      rw [FIN.out]
      exact .inl ⟨.inl (by decide), rfl, SWent.below FB.out (SWent.refl (HSK.out.below FB.out))⟩
    | true =>
      rw [hmr] at MR
      -- the walk to the count of free places
      have CC : Hid (∀ W, Below W0.heap.size W0 W → Sk W b p false st m ∧ Below w.heap.size w W ∧ W.cell? ⟨w.heap.size, 0, none⟩ = some (.pointer (some ⟨b.q, 0, none⟩)) ∧ W.cell? ⟨w.heap.size + 1, 0, none⟩ = some (.slice a n c)) := Lib.hid fun W hW =>
        ⟨h0.below hW, hB.trans (hW.mono hB.size), (hW.cell (p := ⟨w.heap.size, 0, none⟩) (by show w.heap.size < _; omega)).trans c0, (hW.cell (p := ⟨w.heap.size + 1, 0, none⟩) (by show w.heap.size + 1 < _; omega)).trans c1⟩
      have LE : Hid (∀ W, Below W0.heap.size W0 W → Calls Tryz.prog 25 #[.pointer (some ⟨b.q, 0, none⟩)] W fun e w' => e = .returned (.int .i64 ((free m : Nat) : Int)) ∧ Below W.heap.size W w') := Lib.hid fun W hW => sleft_any (h0.below hW)
      obtain ⟨F, hF⟩ : ∃ F, F = free m := ⟨_, rfl⟩
      rw [← hF] at LE
      by_cases hle : n ≤ F
      · have d1 : decide ((F : Int) < (n : Int)) = false := by simp; omega
        have d2 : decide (F < n) = false := by simp; omega
        have d3 : decide ((n : Int) > (F : Int)) = false := by simp; omega
        have FIN : Hid (addE false m p.g l = 0) := Lib.hid (by unfold addE; rw [if_neg (by decide), hmr, if_pos rfl, if_pos (by omega)])
        by_cases hl0 : l = []
        · have e1 : ((n : Int) == 0) = true := by rw [hn, hl0]; rfl
          have HL := Lib.hid hl0
          clear h h0 hB hsz hm hn hr hra hwf hp hP hmr hl0 hF hle hok
          go_enter Tryz.func21, Tryz.ntmps21
          go_wp2_with fail
          clear hW0
          refine IV.out.mono ?_
          rintro e w1 ⟨rfl, rfl⟩
          go_wp2_with fail
          refine MR.out.mono ?_
          rintro e w2 ⟨rfl, hb⟩
          obtain ⟨-, -, f0, f1⟩ := CC.out w2 hb
          have B2 := Lib.hid hb
          clear hb
          go_wp2_with fail
          go_region_held3 (fun w' => w'.cell? ⟨w.heap.size, 0, none⟩ = some (.pointer (some ⟨b.q, 0, none⟩)) ∧ w'.cell? ⟨w.heap.size + 1, 0, none⟩ = some (.slice a n c))
            (first | (refine ⟨?_, ?_⟩ <;> assumption) | go_keep)
            (first | (go_at_call 25; refine (LE.out _ B2.out.drew).mono ?_; rintro e w3 ⟨rfl, hb⟩; have B3 : Hid (Below W0.heap.size W0 w3) := Lib.hid (B2.out.trans ((drew_below hb).mono B2.out.size)); obtain ⟨-, -, g0, g1⟩ := CC.out w3 B3.out))
          go_wp2_with fail
          go_ret
          rw [FIN.out]
          exact .inl ⟨.inr HL.out, rfl, SWent.below (CC.out _ B3.out).2.1 (SWent.refl (CC.out _ B3.out).1)⟩
        · have e1 : ((n : Int) == 0) = false := by
            have := List.length_pos_iff.2 hl0
            simp; omega
          obtain ⟨-, hadd, hlen⟩ := addE_zero hok FIN.out
          have AT : Hid (∀ w1, Below W0.heap.size W0 w1 → Calls Tryz.prog 46 #[.func (.func 58) #[] #[.pointer (some ⟨w.heap.size, 0, none⟩), .pointer (some ⟨w.heap.size + 1, 0, none⟩)]] w1 fun e w' => e = .returned (.int .i64 (runs st (addOps p m l (pagesOf (putsP m l)))).2) ∧ ∃ m', SWent b p false (runs st (addOps p m l (pagesOf (putsP m l)))).1 m' w1 w' ∧ ((runs st (addOps p m l (pagesOf (putsP m l)))).2 = 0 → m' = putsM m l)) := Lib.hid fun w1 hb1 => by
            have hbw : Below w.heap.size w w1 := hB.trans (hb1.mono hB.size)
            refine (attempt_st (h.below hbw) (enters_of Tryz.func58 (by kernel_rfl) rfl) (fun x inv' st' m' => x = (runs st (addOps p m l (pagesOf (putsP m l)))).2 ∧ inv' = false ∧ st' = (runs st (addOps p m l (pagesOf (putsP m l)))).1 ∧ ((runs st (addOps p m l (pagesOf (putsP m l)))).2 = 0 → m' = putsM m l)) fun W hW hb => ?_).mono ?_
            · have hbW : Below w.heap.size w W := hbw.trans (hb.mono hbw.size)
              have hb2 : Below W0.heap.size W0 W := hb1.trans (hb.mono hb1.size)
              have := sadd_any (h.below hbW) hp (hm rfl) hadd hlen n c hn hn2 hP a (hr.below hbW) hra
              have this2 : Calls Tryz.prog 59 #[.pointer (some ⟨b.q, 0, none⟩), .slice a n c] W fun e w' => e = endE (runs st (addOps p m l (pagesOf (putsP m l)))).2 ∧ ∃ m', SWent b p false (runs st (addOps p m l (pagesOf (putsP m l)))).1 m' W w' ∧ ((runs st (addOps p m l (pagesOf (putsP m l)))).2 = 0 → m' = putsM m l) := this.mono fun e w' ⟨X, m', h1, h2, h3, h4⟩ => ⟨by rw [h1, h2], m', h3, by rw [← h2]; exact h4⟩
              refine (add_clo ((hb2.cell (p := ⟨w.heap.size, 0, none⟩) (by show w.heap.size < _; omega)).trans c0) ((hb2.cell (p := ⟨w.heap.size + 1, 0, none⟩) (by show w.heap.size + 1 < _; omega)).trans c1) this2).mono ?_
              rintro e w2 ⟨h1, m', h2, h3⟩
              exact ⟨_, _, _, _, h1, ⟨rfl, rfl, rfl, h3⟩, h2⟩
            · rintro e w' ⟨x, inv', st', m', rfl, ⟨rfl, rfl, rfl, h3⟩, h2⟩
              exact ⟨rfl, m', h2, h3⟩
          have HL := Lib.hid hl0
          clear h h0 hB hsz hm hn hr hra hwf hp hP hmr hl0 hF hle hok hadd hlen
          go_enter Tryz.func21, Tryz.ntmps21
          go_wp2_with fail
          clear hW0
          refine IV.out.mono ?_
          rintro e w1 ⟨rfl, rfl⟩
          go_wp2_with fail
          refine MR.out.mono ?_
          rintro e w2 ⟨rfl, hb⟩
          obtain ⟨-, -, f0, f1⟩ := CC.out w2 hb
          have B2 := Lib.hid hb
          clear hb
          go_wp2_with fail
          go_region_held3 (fun w' => w'.cell? ⟨w.heap.size, 0, none⟩ = some (.pointer (some ⟨b.q, 0, none⟩)) ∧ w'.cell? ⟨w.heap.size + 1, 0, none⟩ = some (.slice a n c))
            (first | (refine ⟨?_, ?_⟩ <;> assumption) | go_keep)
            (first | (go_at_call 25; refine (LE.out _ B2.out.drew).mono ?_; rintro e w3 ⟨rfl, hb⟩; have B3 : Hid (Below W0.heap.size W0 w3) := Lib.hid (B2.out.trans ((drew_below hb).mono B2.out.size)); obtain ⟨-, -, g0, g1⟩ := CC.out w3 B3.out))
          have AB := Lib.hid (AT.out w3 B3.out)
          clear AT
          go_wp2_with fail
          refine AB.out.mono ?_
          rintro e w4 ⟨rfl, m', hw, hm'⟩
          have HW := Lib.hid (And.intro hw hm')
          clear hw hm'
          go_wp2_with fail
          go_ret
          exact .inr ⟨FIN.out, HL.out, rfl, m', SWent.below (CC.out _ B3.out).2.1 HW.out.1, HW.out.2⟩
      · have d1 : decide ((F : Int) < (n : Int)) = true := by simp; omega
        have d2 : decide (F < n) = true := by simp; omega
        have d3 : decide ((n : Int) > (F : Int)) = true := by simp; omega
        have FIN : Hid (addE false m p.g l = 111) := Lib.hid (by unfold addE; rw [if_neg (by decide), hmr, if_pos rfl, if_neg (by omega)])
        clear h h0 hB hsz hm hn hr hra hwf hp hP hmr hF hle hok
        go_enter Tryz.func21, Tryz.ntmps21
        go_wp2_with fail
        clear hW0
        refine IV.out.mono ?_
        rintro e w1 ⟨rfl, rfl⟩
        go_wp2_with fail
        refine MR.out.mono ?_
        rintro e w2 ⟨rfl, hb⟩
        obtain ⟨-, -, f0, f1⟩ := CC.out w2 hb
        have B2 := Lib.hid hb
        clear hb
        go_wp2_with fail
        go_region_held3 (fun w' => w'.cell? ⟨w.heap.size, 0, none⟩ = some (.pointer (some ⟨b.q, 0, none⟩)) ∧ w'.cell? ⟨w.heap.size + 1, 0, none⟩ = some (.slice a n c))
          (first | (refine ⟨?_, ?_⟩ <;> assumption) | go_keep)
          (first | (go_at_call 25; refine (LE.out _ B2.out.drew).mono ?_; rintro e w3 ⟨rfl, hb⟩; have B3 : Hid (Below W0.heap.size W0 w3) := Lib.hid (B2.out.trans ((drew_below hb).mono B2.out.size)); obtain ⟨-, -, g0, g1⟩ := CC.out w3 B3.out))
        go_wp2_with fail
        go_ret
        rw [FIN.out]
        exact .inl ⟨.inl (by decide), rfl, SWent.below (CC.out _ B3.out).2.1 (SWent.refl (CC.out _ B3.out).1)⟩
end So
end Go.Proofs.YtbmabcddciibfaaGreat
