/- Part 23 of the contracts and of the plain mathematics that the proof of the law rests on: StoAdd. -/
import Derived.Test.YtbmabcddciibfaaGreatWr21
import Derived.Test.YtbmabcddciibfaaGreatWr22
namespace Go.Proofs.YtbmabcddciibfaaGreat
namespace So
open Go.RowKit
set_option maxRecDepth 100000
set_option linter.unusedVariables false
theorem dataOps_take {p : Pa} {m : List Int} {l : List (Int × List UInt8)} {k i : Nat} {c : Int × List UInt8} (hx : l[k]? = some c) (hi : Tb.gap (putsM m (l.take k)) = some i) :
    putsM m (l.take (k + 1)) = (putsM m (l.take k)).set i c.1 ∧ putsP m (l.take (k + 1)) = putsP m (l.take k) ++ [i] ∧ dataOps p (putsP m (l.take (k + 1))) (l.take (k + 1)) = dataOps p (putsP m (l.take k)) (l.take k) ++ [.wr (p.data i) c.2] := by
  obtain ⟨h1, h2⟩ := List.getElem?_eq_some_iff.1 hx
  have e : l.take (k + 1) = l.take k ++ [c] := by rw [List.take_succ_eq_append_getElem h1, h2]
  rw [e, putsM_snoc, putsP_snoc, hi]
  refine ⟨rfl, rfl, ?_⟩
  unfold dataOps
  rw [List.zip_append (by rw [putsP_length]), List.map_append]
  rfl
theorem putsP_app (m : List Int) (a b : List (Int × List UInt8)) : putsP m (a ++ b) = putsP m a ++ putsP (putsM m a) b := by
  induction a generalizing m with
  | nil => rfl
  | cons c a ih =>
    show _ :: putsP _ (a ++ b) = (_ :: putsP _ a) ++ _
    rw [ih]
    rfl
theorem dataOps_split {p : Pa} {m : List Int} {l : List (Int × List UInt8)} {k i : Nat} {c : Int × List UInt8} (hx : l[k]? = some c) (hi : Tb.gap (putsM m (l.take k)) = some i) :
    ∃ B, dataOps p (putsP m l) l = dataOps p (putsP m (l.take k)) (l.take k) ++ .wr (p.data i) c.2 :: B := by
  obtain ⟨h1, h2⟩ := List.getElem?_eq_some_iff.1 hx
  have e : l = l.take k ++ c :: l.drop (k + 1) := by
    conv => lhs; rw [← List.take_append_drop k l, List.drop_eq_getElem_cons h1, h2]
  refine ⟨dataOps p (putsP ((putsM m (l.take k)).set i c.1) (l.drop (k + 1))) (l.drop (k + 1)), ?_⟩
  conv => lhs; rw [e]
  rw [putsP_app]
  unfold dataOps
  rw [List.zip_append (by rw [putsP_length]), List.map_append]
  congr 1
  show ((((Tb.gap (putsM m (l.take k))).getD 0) :: putsP ((putsM m (l.take k)).set ((Tb.gap (putsM m (l.take k))).getD 0) c.1) (l.drop (k + 1))).zip (c :: l.drop (k + 1))).map _ = _
  rw [hi]
  rfl
theorem dataOps_sec (p : Pa) {l : List (Int × List UInt8)} (hl : ∀ c ∈ l, c.2.length = 64 * p.g) (ps : List Nat) : ((dataOps p ps l).map sec).sum ≤ l.length * p.g := by
  induction l generalizing ps with
  | nil => unfold dataOps; rw [List.zip_nil_right]; exact Nat.zero_le _
  | cons c l ih =>
    cases ps with
    | nil => exact Nat.zero_le _
    | cons q ps =>
      have h1 := ih (fun c hc => hl c (List.mem_cons_of_mem _ hc)) ps
      have h2 := hl c List.mem_cons_self
      show sec (Op.wr (p.data q) c.2) + ((dataOps p ps l).map sec).sum ≤ (l.length + 1) * p.g
      have h3 : sec (Op.wr (p.data q) c.2) = p.g := by show c.2.length / 64 = p.g; rw [h2]; omega
      rw [h3, Nat.add_mul]
      omega
structure AdAt (w : World) (b0 : Bk) (p : Pa) (inv : Bool) (st : Dm.St) (m : List Int) (l : List (Int × List UInt8)) (k : Nat) (v : Value) (wr : World) : Prop where
  done : (runs st (dataOps p (putsP m (l.take k)) (l.take k))).2 = 0
  ex : ∃ b, Sk wr b p inv (runs st (dataOps p (putsP m (l.take k)) (l.take k))).1 (putsM m (l.take k)) ∧ Sp b0 b w wr ∧ Pl w b (putsP m (l.take k)) v k wr
theorem runs_stop2 {st : Dm.St} {A B D : List Op} {o : Op} (hD : ∃ C, D = A ++ o :: C) (h : (runs st A).2 = 0) (h2 : (step (runs st A).1 o).2 ≠ 0) : runs st (D ++ B) = step (runs st A).1 o := by
  obtain ⟨C, rfl⟩ := hD
  rw [List.append_assoc, List.cons_append]
  exact runs_stop h h2
theorem runs_mid {st : Dm.St} {A B : List Op} {o : Op} (h : (runs st A).2 = 0) :
    ((step (runs st A).1 o).2 ≠ 0 → runs st ((A ++ [o]) ++ B) = step (runs st A).1 o) ∧ ((step (runs st A).1 o).2 = 0 → runs st ((A ++ [o]) ++ B) = runs (step (runs st A).1 o).1 B) := by
  constructor
  · intro h2
    rw [List.append_assoc]
    exact runs_stop h h2
  · intro h2
    have e := runs_more (o := o) h
    rw [runs_app_yes _ (by rw [e]; exact h2), e]
structure ESpot (wa wx : World) (g : Nat) (s l : Value) : Prop where
  bel : Below wa.heap.size wa wx
  c0 : wx.cell? ⟨g, 0, none⟩ = some s
  c1 : wx.cell? ⟨g, 1, none⟩ = some l
  new : wa.heap.size ≤ g
theorem espot_a {wa w3 : World} (h : Below wa.heap.size wa w3) (z0 z1 s l : Value) : ESpot wa (((w3.alloc (.cells #[z0, z1] 25)).setCell ⟨w3.heap.size, 0, none⟩ s).setCell ⟨w3.heap.size, 1, none⟩ l) w3.heap.size s l := by
  have hr := duo_set (heap_alloc_new w3 (.cells #[z0, z1] 25)) s l
  obtain ⟨c0, c1, _⟩ := duo_cells hr
  exact ⟨below_duo (h.alloc h.size _) h.size _ _, c0, c1, h.size⟩
theorem espot_c {wa w3 : World} (h : Below wa.heap.size wa w3) (s l : Value) : ESpot wa (w3.alloc (.cells #[s, l] 25)) w3.heap.size s l := by
  obtain ⟨c0, c1, _⟩ := duo_cells (heap_alloc_new w3 (.cells #[s, l] 25))
  exact ⟨h.alloc h.size _, c0, c1, h.size⟩
theorem espot_n {wa w3 : World} {g : Nat} {z0 z1 : Value} (h : Below wa.heap.size wa w3) (hn : w3.heap[g]? = some (.cells #[z0, z1] 25 (0, 0))) (hg : wa.heap.size ≤ g) (s l : Value) :
    ESpot wa ((w3.setCell ⟨g, 0, none⟩ s).setCell ⟨g, 1, none⟩ l) g s l := by
  obtain ⟨c0, c1, _⟩ := duo_cells (duo_set hn s l)
  exact ⟨below_duo h hg _ _, c0, c1, hg⟩
theorem duo_other {w : World} {g q : Nat} (h : q < g) (x y : Value) (j : Nat) : ((w.setCell ⟨g, 0, none⟩ x).setCell ⟨g, 1, none⟩ y).cell? ⟨q, j, none⟩ = w.cell? ⟨q, j, none⟩ := two_other (by omega) x y j
theorem alloc_else {w : World} {q : Nat} (h : q < w.heap.size) (o : Obj) (j : Nat) : (w.alloc o).cell? ⟨q, j, none⟩ = w.cell? ⟨q, j, none⟩ := World.cell?_of_block (a := ⟨q, j, none⟩) (Below.heap_alloc _ _ _ h)
theorem drew_cell2 (w : World) (p : Addr) : w.drew.cell? p = w.cell? p := rfl
theorem keepd {W0 X w3 : World} (hb : Below X.heap.size X w3) (h : Below W0.heap.size W0 X) : Below W0.heap.size W0 w3 := h.trans (hb.mono h.size)
def AfterPut (w : World) (b b1 : Bk) (p : Pa) (inv : Bool) (sk : Dm.St) (m' : List Int) (ps : List Nat) (v : Value) (k B : Nat) (x : Int × List UInt8) (w2 : World) : Prop :=
  ∃ b2, Sk w2 b2 p inv sk m' ∧ Sp b b2 w w2 ∧ Pl w b2 ps v k w2 ∧ w2.heap[B]? = some (.cells #[.int .i64 x.1, .string (Om.B x.2)] 84 (0, 0)) ∧ ¬ b2.fp B ∧ b2.t.p = b1.t.p
theorem after_put {w wr W1 W w2 : World} {b b1 : Bk} {p : Pa} {inv : Bool} {sk : Dm.St} {m1 m' : List Int} {ps : List Nat} {v : Value} {k : Nat} {x : Int × List UInt8} (k1 : Sk wr b1 p inv sk m1) (s1 : Sp b b1 w wr) (pl : Pl w b1 ps v k wr)
    (hB1 : Below wr.heap.size wr W1) (hX : W1.heap[wr.heap.size]? = some (.cells #[.int .i64 x.1, .string (Om.B x.2)] 84 (0, 0))) (hW : Below W1.heap.size W1 W) (hw : Tb.WentM b1.t m' W w2) : AfterPut w b b1 p inv sk m' ps v k wr.heap.size x w2 := by
  obtain ⟨o', ht, hs⟩ := hw
  have hlt := Dsk.lt_of_heap hX
  have hb : Below wr.heap.size wr W := hB1.trans (hW.mono hB1.size)
  have kW := k1.below hb
  have plW := pl.below hb
  obtain ⟨h1, h2⟩ := kW.table ht hs
  have hn : ¬ b1.fp wr.heap.size := fun e => Nat.lt_irrefl _ (k1.lt _ e)
  refine ⟨_, h1, s1.trans ((Sp.of_below hb).trans h2), plW.move h2, ?_, fun e => ?_, hs.p⟩
  · rw [hs.fr.block _ (Nat.lt_of_lt_of_le hlt hW.size) (fun e => hn (.inr (.inr e))), hW.block _ hlt, hX]
  · rcases h2.fp _ e with e | e
    · exact hn e
    · have := hW.size; omega
def AfterWr (w : World) (b : Bk) (p : Pa) (inv : Bool) (st' : Dm.St) (m' : List Int) (ps : List Nat) (v : Value) (k q : Nat) (dp g B : Nat) (D L T : Value) (w6 : World) : Prop :=
  (∃ b3, Sk w6 b3 p inv st' m' ∧ Sp b b3 w w6 ∧ Pl w b3 ps v k w6) ∧ w6.cell? ⟨q, 3, none⟩ = some (.pointer (some ⟨dp, 0, none⟩)) ∧ w6.cell? ⟨g, 0, none⟩ = some D ∧ w6.cell? ⟨B, 1, none⟩ = some T
theorem after_wr {w w2 W5 W w6 : World} {b b2 : Bk} {p : Pa} {inv : Bool} {sk st' : Dm.St} {m' : List Int} {ps : List Nat} {v : Value} {k g B : Nat} {D L T : Value} (k2 : Sk w2 b2 p inv sk m') (s2 : Sp b b2 w w2) (pl2 : Pl w b2 ps v k w2)
    (sp : ESpot w2 W5 g D L) (hB : W5.cell? ⟨B, 1, none⟩ = some T) (hBn : ¬ b2.fp B) (hW : Below W5.heap.size W5 W) (hw : Dsk.Went b2.d st' W w6) : AfterWr w b p inv st' m' ps v k b.q b.d.p g B D L T w6 := by
  have hb : Below w2.heap.size w2 W := sp.bel.trans (hW.mono sp.bel.size)
  have kW := k2.below hb
  have plW := pl2.below hb
  obtain ⟨o', hd, hs⟩ := hw
  obtain ⟨h1, h2⟩ := kW.disk hd hs
  have sAll := s2.trans ((Sp.of_below hb).trans h2)
  have hc : ∀ (q j : Nat) (y : Value), W5.cell? ⟨q, j, none⟩ = some y → ¬ b2.d.fp q → w6.cell? ⟨q, j, none⟩ = some y := fun q j y hy hn => by
    have hl := World.block_lt_of_cell? _ _ hy
    have e1 : W.heap[q]? = W5.heap[q]? := hW.block q hl
    have e2 : w6.heap[q]? = W.heap[q]? := hs.fr.block q (Nat.lt_of_lt_of_le hl hW.size) hn
    rw [cell_same (p := ⟨q, j, none⟩) (e2.trans e1)]
    exact hy
  refine ⟨⟨_, h1, sAll, plW.move h2⟩, ?_, hc _ _ _ sp.c0 (fun e => ?_), hc _ _ _ hB (fun e => hBn (.inr (.inl e)))⟩
  · have := h1.reads
    rw [sAll.q, sAll.dp] at this
    exact this.2.2.2.1
  · have := k2.lt g (.inr (.inl e))
    have := sp.new
    omega
def AdNext (w : World) (b : Bk) (p : Pa) (inv : Bool) (st : Dm.St) (m : List Int) (l : List (Int × List UInt8)) (k : Nat) (v : Value) (i : Nat) (w6 : World) : Prop :=
  w6.ownsRow 0 3 1 v k (Tb.nums ((putsP m (l.take k)).map fun (q : Nat) => (q : Int))) ∧ (putsP m (l.take k)).length = k ∧ (w6.alloc (.cells #[.int .i64 (i : Int)] 3)).ownsRow 0 3 1 v k (Tb.nums ((putsP m (l.take k)).map fun (q : Nat) => (q : Int))) ∧
  ∀ v' w4, w4.ownsRow 0 3 1 v' (k + 1) (Tb.nums ((putsP m (l.take k)).map (fun (q : Nat) => (q : Int)) ++ [(i : Int)])) → Dsk.Fr (fun j => v.ownBlock = some j) (w6.alloc (.cells #[.int .i64 (i : Int)] 3)) w4 →
    (∀ j, v'.ownBlock = some j → v.ownBlock = some j ∨ (w6.alloc (.cells #[.int .i64 (i : Int)] 3)).heap.size ≤ j) → AdAt w b p inv st m l (k + 1) v' w4
set_option maxHeartbeats 8000000 in
theorem sadd_any {w : World} {b : Bk} {p : Pa} {inv : Bool} {st : Dm.St} {m : List Int} (h : Sk w b p inv st m) (hp : p.Ok) (hm : m.length = p.N) {l : List (Int × List UInt8)} (ha : Adding m l) (hl : ∀ c ∈ l, c.2.length = 64 * p.g) (n c : Nat) (hn : n = l.length) (hn2 : n ≤ 1048576) (hP : st.P.length ≤ 68719476736)
    (a : Option Addr) (hr : RCop w a l) (hra : ∀ g off, l ≠ [] → a = some ⟨g, off, none⟩ → ¬ b.fp g) :
    Calls Tryz.prog 59 #[.pointer (some ⟨b.q, 0, none⟩), .slice a n c] w fun e w' =>
      ∃ X m', e = endE X ∧ X = (runs st (addOps p m l (pagesOf (putsP m l)))).2 ∧ SWent b p inv (runs st (addOps p m l (pagesOf (putsP m l)))).1 m' w w' ∧ (X = 0 → m' = putsM m l) := by
  have A := added ha
  have HN := Lib.hid hn
  have HR : Hid (∀ wr, Dsk.Fr b.fp w wr → RCop wr a l) := Lib.hid fun wr hf => hr.keep hf hra
  have HST : Hid (p.Ok ∧ m.length = p.N ∧ Adding m l ∧ (∀ c ∈ l, c.2.length = 64 * p.g) ∧ st.P.length ≤ 68719476736 ∧ Dm.Ok st) := Lib.hid ⟨hp, hm, ha, hl, hP, h.dk.ok⟩
  have H0 : Hid (AdAt w b p inv st m l 0 (.slice none 0 0) w) := Lib.hid ⟨by rw [List.take_zero]; rfl, b, by rw [List.take_zero]; exact h, Sp.refl _ _, by rw [List.take_zero]; exact Pl.nil _ _ _⟩
  -- what stands behind the last round
  have FIN : Hid (∀ (wr : World) (v : Value), AdAt w b p inv st m l n v wr → ∃ x, Calls Tryz.prog 102 #[.pointer (some ⟨b.q, 0, none⟩)] wr fun e w2 => e = endE x ∧
      (x ≠ 0 → ∃ m', (runs st (addOps p m l (pagesOf (putsP m l)))).2 = x ∧ SWent b p inv (runs st (addOps p m l (pagesOf (putsP m l)))).1 m' w w2) ∧
      (x = 0 → ∃ a' c' y, v = .slice a' n c' ∧ Calls Tryz.prog 103 #[.pointer (some ⟨b.q, 0, none⟩), .slice a' n c'] w2 fun e w3 => e = endE y ∧ y = (runs st (addOps p m l (pagesOf (putsP m l)))).2 ∧ SWent b p inv (runs st (addOps p m l (pagesOf (putsP m l)))).1 (putsM m l) w w3)) := Lib.hid fun wr v hat => by
    obtain ⟨b1, k1, s1, pl⟩ := hat.ex
    have hdone := hat.done
    have hall : l.take n = l := List.take_of_length_le (by omega)
    rw [hall] at k1 pl hdone
    have hcount := runs_count h.dk.ok (dataOps p (putsP m l) l)
    have hsec := dataOps_sec p hl (putsP m l)
    have hg2 := hp.nums.g2
    have hmul : l.length * p.g ≤ 1048576 * 128 := Nat.mul_le_mul (by omega) hg2
    have FL := sflush_any k1 (by omega)
    have hfl := step_count k1.dk.ok .fl
    have hs0 : sec .fl = 0 := rfl
    rw [s1.q] at FL
    obtain ⟨r1, r2⟩ := runs_mid (B := pageOps p (putsM m l) (pagesOf (putsP m l)) ++ [.fl]) (o := .fl) hdone
    refine ⟨(step (runs st (dataOps p (putsP m l) l)).1 .fl).2, FL.mono ?_⟩
    rintro e w2 ⟨rfl, hw⟩
    refine ⟨rfl, fun hx => ⟨putsM m l, ?_, ?_⟩, fun hx => ?_⟩
    · show (runs st ((dataOps p (putsP m l) l ++ [.fl]) ++ (pageOps p (putsM m l) (pagesOf (putsP m l)) ++ [.fl]))).2 = _
      rw [r1 hx]
    · show SWent b p inv (runs st ((dataOps p (putsP m l) l ++ [.fl]) ++ (pageOps p (putsM m l) (pagesOf (putsP m l)) ++ [.fl]))).1 _ w w2
      rw [r1 hx]
      exact SWent.trans s1 hw
    · obtain ⟨b2, k2, s2⟩ := hw
      have hlen : (putsP m l).length = n := by rw [putsP_length, hn]
      have pl2 := pl.move s2
      have hints : Tb.Ints w2 v ((putsP m l).map fun (q : Nat) => (q : Int)) := by
        show World.ownsRow _ _ _ _ _ _ _
        rw [List.length_map, hlen]
        exact pl2.row
      obtain ⟨a', c', rfl, hrd⟩ := Tb.Rd.own hints
      rw [List.length_map, hlen]
      refine ⟨a', c', (runs st (addOps p m l (pagesOf (putsP m l)))).2, rfl, ?_⟩
      have := swps_any k2 hp (by rw [putsM_length, hm]) (ps := putsP m l) (fun q hq => by rw [← hm]; exact (A.free q hq).1) (by omega) (by omega) a' c' hrd
      rw [hlen, s2.q, s1.q] at this
      refine this.mono ?_
      rintro e w3 ⟨rfl, hw3⟩
      have e4 : runs st (addOps p m l (pagesOf (putsP m l))) = runs (step (runs st (dataOps p (putsP m l) l)).1 .fl).1 (pageOps p (putsM m l) (pagesOf (putsP m l)) ++ [.fl]) := r2 hx
      rw [e4]
      exact ⟨rfl, rfl, SWent.trans (s1.trans s2) hw3⟩
  -- a round
  have RND : Hid (∀ (wr : World) (k : Nat) (v : Value), k < n → AdAt w b p inv st m l k v wr → ∃ (x : Int × List UInt8) (g off i : Nat) (b1 : Bk), a = some ⟨g, off, none⟩ ∧ i < p.N ∧ x.2.length = 64 * p.g ∧
      wr.cell? ⟨g, off + k * 2, none⟩ = some (.int .i64 x.1) ∧ wr.cell? ⟨g, off + k * 2 + 1, none⟩ = some (.string (Om.B x.2)) ∧ b1.q = b.q ∧ Sk wr b1 p inv (runs st (dataOps p (putsP m (l.take k)) (l.take k))).1 (putsM m (l.take k)) ∧
      (∀ W1, wr.alloc (.cells #[.int .i64 x.1, .string (Om.B x.2)] 84) = W1 → ∀ W, Below W1.heap.size W1 W → Calls Tryz.prog 98 #[.pointer (some ⟨b1.t.p, 0, none⟩), .int .i64 x.1] W fun e w2 => e = .returned (.tuple #[.int .i64 (i : Int), .int .i64 0]) ∧
        AfterPut w b b1 p inv (runs st (dataOps p (putsP m (l.take k)) (l.take k))).1 (putsM m (l.take (k + 1))) (putsP m (l.take k)) v k wr.heap.size x w2) ∧
      ∃ X, ∀ (w2 W5 : World) (b2 : Bk) (g8 : Nat), Sk w2 b2 p inv (runs st (dataOps p (putsP m (l.take k)) (l.take k))).1 (putsM m (l.take (k + 1))) → Sp b b2 w w2 → Pl w b2 (putsP m (l.take k)) v k w2 → ESpot w2 W5 g8 (.int .i64 (p.data i : Int)) (.int .i64 (p.g : Int)) →
        W5.cell? ⟨wr.heap.size, 1, none⟩ = some (.string (Om.B x.2)) → ¬ b2.fp wr.heap.size → ∀ W, Below W5.heap.size W5 W → Calls Tryz.prog 62 #[.pointer (some ⟨b.d.p, 0, none⟩), .int .i64 (p.data i : Int), .string (Om.B x.2)] W fun e w6 => e = .returned (.int .i64 X) ∧
        (∃ st', AfterWr w b p inv st' (putsM m (l.take (k + 1))) (putsP m (l.take k)) v k b.q b.d.p g8 wr.heap.size (.int .i64 (p.data i : Int)) (.int .i64 (p.g : Int)) (.string (Om.B x.2)) w6) ∧
        (X = 0 → AdNext w b p inv st m l k v i w6) ∧
        (X ≠ 0 → (runs st (addOps p m l (pagesOf (putsP m l)))).2 = X ∧ SWent b p inv (runs st (addOps p m l (pagesOf (putsP m l)))).1 (putsM m (l.take (k + 1))) w w6)) := Lib.hid fun wr k v hk hat => by
    obtain ⟨x, hx⟩ : ∃ x, l[k]? = some x := ⟨l[k]'(by omega), List.getElem?_eq_getElem _⟩
    obtain ⟨b1, k1, s1, pl⟩ := hat.ex
    have hdone := hat.done
    have hsplit : l.take k ++ l.drop k = l := List.take_append_drop k l
    have hdrop : l.drop k = x :: l.drop (k + 1) := by
      obtain ⟨h1, h2⟩ := List.getElem?_eq_some_iff.1 hx
      rw [List.drop_eq_getElem_cons h1, h2]
    have hap : Adding (putsM m (l.take k)) (x :: l.drop (k + 1)) := by
      have h1 : Adding m (l.take k ++ l.drop k) := by rw [hsplit]; exact ha
      have h2 := h1.app
      rwa [hdrop] at h2
    obtain ⟨i, hgap, hilt, hput⟩ := hap.put
    have hiN : i < p.N := by rw [putsM_length, hm] at hilt; exact hilt
    have hx0 := hap.each x List.mem_cons_self
    have hwf : (Lit.int .i64 x.1).wf = true := by
      have hmin : IntKind.i64.min = -9223372036854775808 := rfl
      have hmax : IntKind.i64.max = 9223372036854775807 := rfl
      simp only [Lit.wf, Bool.and_eq_true, decide_eq_true_eq]
      omega
    obtain ⟨e1, e2, e3⟩ := dataOps_take (p := p) (m := m) hx hgap
    have hsp := dataOps_split (p := p) (m := m) hx hgap
    obtain ⟨g, off, hab, hgl, hc⟩ := (hr.keep s1.fr hra) (fun e => by rw [e] at hx; simp at hx)
    obtain ⟨hc0, hc1⟩ := hc k x hx
    have hxl := hl x (List.mem_of_getElem? hx)
    refine ⟨x, g, off, i, b1, hab, hiN, hxl, hc0, hc1, s1.q, k1, fun W1 hW1 W hW => ?_, (step (runs st (dataOps p (putsP m (l.take k)) (l.take k))).1 (.wr (p.data i) x.2)).2, fun w2 W5 b2 g8 k2 s2 pl2 sp hB hBn W hW => ?_⟩
    · obtain ⟨hB1, hX⟩ := copy_made wr W1 x hW1
      have hb : Below wr.heap.size wr W := hB1.trans (hW.mono hB1.size)
      have PUT := Tb.put_any (k1.tm.below hb) x.1 hwf
      rw [hput] at PUT
      refine PUT.mono ?_
      rintro e w2 ⟨rfl, hw⟩
      rw [e1]
      exact ⟨rfl, after_put k1 s1 pl hB1 hX hW hw⟩
    · have hcount := runs_count h.dk.ok (dataOps p (putsP m (l.take k)) (l.take k))
      have hsec := dataOps_sec p (l := l.take k) (fun c hc => hl c (List.mem_of_mem_take hc)) (putsP m (l.take k))
      have hg2 := hp.nums.g2
      have hg1 := hp.nums.g1
      have hll : (l.take k).length ≤ 1048576 := by rw [List.length_take]; omega
      have hmul : (l.take k).length * p.g ≤ 1048576 * 128 := Nat.mul_le_mul hll hg2
      have hend := Pa.data_end hp hiN
      have hhigh := hp.high
      have ha1 := hp.nums.a1
      have WR := Dsk.write_any ((k2.below (sp.bel.trans (hW.mono sp.bel.size))).dk) (p.data i : Int) x.2 (by omega) (by omega) (by omega)
      rw [s2.dp] at WR
      refine WR.mono ?_
      rintro e w6 ⟨rfl, hw⟩
      have aw := after_wr k2 s2 pl2 sp hB hBn hW hw
      refine ⟨rfl, ⟨_, aw⟩, fun h0 => ?_, fun h0 => ?_⟩
      · obtain ⟨⟨b3, k3, s3, pl3⟩, _⟩ := aw
        have er : runs st (dataOps p (putsP m (l.take (k + 1))) (l.take (k + 1))) = step (runs st (dataOps p (putsP m (l.take k)) (l.take k))).1 (.wr (p.data i) x.2) := by rw [e3]; exact runs_more hdone
        have k3' : Sk w6 b3 p inv (runs st (dataOps p (putsP m (l.take (k + 1))) (l.take (k + 1)))).1 (putsM m (l.take (k + 1))) := by rw [er]; exact k3
        refine ⟨pl3.row, pl3.len.symm, pl3.own (i : Int), fun v' w4 h1 h2 h3 => ?_⟩
        obtain ⟨q1, q2, q3⟩ := pl3.add k3' s3 h1 h2 h3
        refine ⟨by rw [er]; exact h0, b3, q2, q3, ?_⟩
        rw [e2]
        exact q1
      · obtain ⟨⟨b3, k3, s3, pl3⟩, _⟩ := aw
        have er : runs st (addOps p m l (pagesOf (putsP m l))) = step (runs st (dataOps p (putsP m (l.take k)) (l.take k))).1 (.wr (p.data i) x.2) := by
          unfold addOps
          rw [List.append_assoc]
          exact runs_stop2 hsp hdone h0
        rw [er]
        exact ⟨rfl, b3, k3, s3⟩
  clear h hp hm ha hl hn hP hr hra A
  go_enter Tryz.func59, Tryz.ntmps59
  go_wp2
  go_loopw [11, 4] (fun i s wr => ∃ (k : Nat) (v : Value), i = .int .i64 (k : Int) ∧ s = v ∧ k ≤ n ∧ Hid (AdAt w b p inv st m l k v wr)) (fun i _ _ => n - (Lib.intOf i).toNat)
  case atStart => exact ⟨0, _, rfl, rfl, Nat.zero_le _, H0⟩
  case round =>
    obtain ⟨k, v, rfl, hsv, hk, hat⟩ := hrel
    subst hsv
    by_cases hlt : k < n
    · have d1 : decide ((k : Int) < (n : Int)) = true := by simp; omega
      have d2 : decide (k < n) = true := by simp; omega
      have hw1 : IntKind.i64.wrap ((k : Int) + 1) = ((k + 1 : Nat) : Int) := by rw [IntWalk.i64_in _ (by omega)]; rfl
      obtain ⟨x, g, off, i, b1, hab, hi, hxl, hc0, hc1, hbq, k1, hput, X, hwr⟩ := RND.out wr k _ hlt hat.out
      subst hab
      obtain ⟨W1, hW1⟩ : ∃ W1, wr.alloc (.cells #[.int .i64 x.1, .string (Om.B x.2)] 84) = W1 := ⟨_, rfl⟩
      have PUT := Lib.hid (hput W1 hW1)
      have WRT := Lib.hid hwr
      obtain ⟨hB1, hX⟩ := copy_made wr W1 x hW1
      obtain ⟨x0, x1, xf⟩ := duo_cells hX
      have kW1 := k1.below hB1
      obtain ⟨-, -, -, -, -, -, -, -, -, -, c10, cf⟩ := kW1.reads
      rw [hbq] at c10 cf
      have CH := Lib.hid (fun w1 => schunk_ok HST.out.1 hi w1)
      have ME := Lib.hid (fun w1 => mustE_ok (p.data i : Int) (p.g : Int) w1)
      have MI := Lib.hid (fun w1 => mustI_ok (i : Int) w1)
      clear hput hwr hB1 hX kW1 k1 hat hi hxl hbq
      go_upto_region 4 with fail
      clear hW1
      go_region_held3 (fun w' => w'.cell? ⟨b.q, 10, none⟩ = some (.pointer (some ⟨b1.t.p, 0, none⟩)) ∧ w'.cell? ⟨wr.heap.size, 0, none⟩ = some (.int .i64 x.1))
        (first | (refine ⟨?_, ?_⟩ <;> assumption) | go_keep)
        (first
          | (go_at_call 98; refine (PUT.out _ (Below.refl _ _).drew).mono ?_; rintro e w2 ⟨rfl, hw⟩; have AP := Lib.hid hw; obtain ⟨b2, k2, s2, pl2, hx2, hb2, ht2⟩ := hw; have r2 := k2.reads; rw [s2.q, ht2] at r2; obtain ⟨-, -, -, -, -, -, -, -, -, -, p10, pf⟩ := r2; obtain ⟨y0, y1, yf⟩ := duo_cells hx2; clear k2 s2 pl2 hx2 hb2 ht2)
          | (go_at_call 100; refine (MI.out _).mono ?_; rintro e w3 ⟨rfl, rfl⟩))
      clear x0 x1 xf c10 cf p10 pf y0 y1 yf PUT MI
      obtain ⟨b2, k2, s2, pl2, hx2, hb2, ht2⟩ := AP.out
      have r2 := k2.reads
      rw [s2.q] at r2
      obtain ⟨q0, q1, q2, -, q4, q5, -, -, -, -, -, qf⟩ := r2
      have QL : Hid (b.q < w2.heap.size) := Lib.hid (by have := k2.lt b2.q (.inl rfl); rw [s2.q] at this; exact this)
      have KK : Hid (∀ W, Below w2.heap.size w2 W → W.cell? ⟨b.q, 0, none⟩ = some (.int .i64 (p.a : Int)) ∧ W.cell? ⟨b.q, 1, none⟩ = some (.int .i64 (p.n : Int)) ∧ W.cell? ⟨b.q, 2, none⟩ = some (.int .i64 (p.g : Int)) ∧ W.cell? ⟨b.q, 4, none⟩ = some (.int .i64 (p.st : Int)) ∧ W.cell? ⟨b.q, 5, none⟩ = some (.int .i64 (p.ln : Int))) := Lib.hid fun W hW => by
        have r := (k2.below hW).reads
        rw [s2.q] at r
        exact ⟨r.1, r.2.1, r.2.2.1, r.2.2.2.2.1, r.2.2.2.2.2.1⟩
      have STO : Hid (Sk w2 b2 p inv (runs st (dataOps p (putsP m (l.take k)) (l.take k))).1 (putsM m (l.take (k + 1))) ∧ Sp b b2 w w2 ∧ Pl w b2 (putsP m (l.take k)) _ k w2 ∧ w2.heap[wr.heap.size]? = some (.cells #[.int .i64 x.1, .string (Om.B x.2)] 84 (0, 0)) ∧ ¬ b2.fp wr.heap.size) := Lib.hid ⟨k2, s2, pl2, hx2, hb2⟩
      clear k2 s2 pl2 hx2 hb2 ht2 AP
      go_upto_region 5 with fail
      go_cut [8] from 25 to 37 (fun s8 wx => ∃ g8, s8 = .pointer (some ⟨g8, 0, none⟩) ∧ Hid (ESpot w2 wx g8 (.int .i64 (p.data i : Int)) (.int .i64 (p.g : Int))))
      case first =>
        go_region_held3 (fun w' => w'.cell? ⟨b.q, 0, none⟩ = some (.int .i64 (p.a : Int)) ∧ w'.cell? ⟨b.q, 1, none⟩ = some (.int .i64 (p.n : Int)) ∧ w'.cell? ⟨b.q, 2, none⟩ = some (.int .i64 (p.g : Int)) ∧ w'.cell? ⟨b.q, 4, none⟩ = some (.int .i64 (p.st : Int)) ∧ w'.cell? ⟨b.q, 5, none⟩ = some (.int .i64 (p.ln : Int)))
          (first
            | (refine ⟨?_, ?_, ?_, ?_, ?_⟩ <;> assumption)
            | (refine ⟨?_, ?_, ?_, ?_, ?_⟩ <;> (rw [alloc_else (w := w4) (Nat.lt_of_lt_of_le QL.out B4.out.size)]; assumption))
            | (refine ⟨?_, ?_, ?_, ?_, ?_⟩ <;> (rw [alloc_else (w := w3) (Nat.lt_of_lt_of_le QL.out B3.out.size)]; assumption))
            | (refine ⟨?_, ?_, ?_, ?_, ?_⟩ <;> (rw [drew_cell2, alloc_else (w := w2) QL.out]; assumption))
            | (refine ⟨?_, ?_, ?_, ?_, ?_⟩ <;> (rw [duo_other (g := w4.heap.size) (Nat.lt_of_lt_of_le QL.out B4.out.size), alloc_else (w := w4) (Nat.lt_of_lt_of_le QL.out B4.out.size)]; assumption))
            | (refine ⟨?_, ?_, ?_, ?_, ?_⟩ <;> (rw [duo_other (g := w3.heap.size) (Nat.lt_of_lt_of_le QL.out B3.out.size)]; assumption))
            | (refine ⟨?_, ?_, ?_, ?_, ?_⟩ <;> (rw [duo_other (g := w2.heap.size) QL.out]; assumption)))
          (first
            | (go_at_call 101; refine (ME.out _).mono ?_; rintro e w4 ⟨rfl, hb⟩; have B4 : Hid (Below w2.heap.size w2 w4) := Lib.hid (keepd hb (by first | exact B3.out | exact B3.out.alloc B3.out.size _)); obtain ⟨g0, g1, g2, g4, g5⟩ := KK.out _ B4.out; first | (have N4 := Lib.hid (row_new hb); obtain ⟨mz0, mz1, mzf⟩ := duo_cells N4.out) | (have N4 := Lib.hid (row_next hb N3.out); obtain ⟨mz0, mz1, mzf⟩ := duo_cells N4.out) | skip)
            | (go_at_call 95; refine (CH.out _).mono ?_; rintro e w3 ⟨rfl, hb⟩; have B3 : Hid (Below w2.heap.size w2 w3) := Lib.hid (keepd hb (by first | exact (Below.refl _ _).drew | exact ((Below.refl _ _).alloc (Nat.le_refl _) _).drew)); obtain ⟨f0, f1, f2, f4, f5⟩ := KK.out _ B3.out; first | (have N3 := Lib.hid (row_drew hb); obtain ⟨nz0, nz1, nzf⟩ := duo_cells N3.out) | skip))
        all_goals
          go_wp2_with fail
          go_meet
          first
          | exact ⟨_, rfl, Lib.hid (espot_n B4.out N4.out (by first | exact Nat.le_refl _ | exact B3.out.size) _ _)⟩
          | exact ⟨_, rfl, Lib.hid (espot_c B4.out _ _)⟩
          | exact ⟨_, rfl, Lib.hid (espot_a B4.out _ _ _ _)⟩
      case rest =>
      obtain ⟨g8, rfl, SP⟩ := hcut
      obtain ⟨W5, hW5⟩ : ∃ W5, wc = W5 := ⟨_, rfl⟩
      rw [hW5] at SP ⊢
      clear hW5 q0 q1 q2 q4 q5 qf CH ME KK
      obtain ⟨k2, s2, pl2, hx2, hb2⟩ := STO.out
      have hlt2 := Dsk.lt_of_heap hx2
      have hx5 := (SP.out.bel.block _ hlt2).trans hx2
      obtain ⟨-, y1, -⟩ := duo_cells hx5
      have d0 := SP.out.c0
      have k5 := k2.below SP.out.bel
      have r5 := k5.reads
      rw [s2.q, s2.dp] at r5
      obtain ⟨-, -, -, c3, -, -, -, -, -, -, -, cf⟩ := r5
      have HC := WRT.out w2 W5 b2 g8 k2 s2 pl2 SP.out y1 hb2
      clear k2 s2 pl2 hx2 hb2 hlt2 hx5 k5 STO WRT
      by_cases h0 : X = 0
      · have WC : Hid (∀ W, Below W5.heap.size W5 W → Calls Tryz.prog 62 #[.pointer (some ⟨b.d.p, 0, none⟩), .int .i64 (p.data i : Int), .string (Om.B x.2)] W fun e w6 => e = .returned (.int .i64 0) ∧
            (w6.cell? ⟨b.q, 3, none⟩ = some (.pointer (some ⟨b.d.p, 0, none⟩)) ∧ w6.cell? ⟨g8, 0, none⟩ = some (.int .i64 (p.data i : Int)) ∧ w6.cell? ⟨wr.heap.size, 1, none⟩ = some (.string (Om.B x.2))) ∧ AdNext w b p inv st m l k _ i w6) := Lib.hid fun W hW => (HC W hW).mono fun e w6 ⟨e1, ⟨_, e2⟩, e3, _⟩ => ⟨by rw [e1, h0], e2.2, e3 h0⟩
        have NE := Lib.hid (fun w1 => need_ok w1)
        clear HC h0
        go_upto_region 6 with fail
        go_region_held3 (fun w' => w'.cell? ⟨b.q, 3, none⟩ = some (.pointer (some ⟨b.d.p, 0, none⟩)) ∧ w'.cell? ⟨g8, 0, none⟩ = some (.int .i64 (p.data i : Int)) ∧ w'.cell? ⟨wr.heap.size, 1, none⟩ = some (.string (Om.B x.2)))
          (first | (refine ⟨?_, ?_, ?_⟩ <;> assumption) | go_keep)
          (first
            | (go_at_call 62; refine (WC.out _ (Below.refl _ _).drew).mono ?_; rintro e w6 ⟨rfl, ⟨z3, zg, zb⟩, hn⟩; have AN := Lib.hid hn; clear hn)
            | (go_at_call 61; refine (NE.out _).mono ?_; rintro e w7 ⟨rfl, rfl⟩))
        obtain ⟨hrow, hlen, hown, hadd⟩ := AN.out
        have HGL := Lib.hid hlen
        obtain ⟨va, vc, hv⟩ := Dsk.own_slice hrow
        subst hv
        have OWN := Lib.hid hown
        have ADD := Lib.hid hadd
        clear hrow hlen hown hadd z3 zg zb c3 cf d0 y1 NE WC AN
        go_wp2_with (at_builtin; refine Tb.wpList_addN rfl (.tmp 48) (.tmp 50) 31 Tryz.underlying31 rfl (.slice va k vc) k ((putsP m (l.take k)).map fun (q : Nat) => (q : Int)) rfl (by rw [List.length_map]; exact HGL.out.symm) (by omega) OWN.out w6.heap.size (i : Int) rfl (by simp) ?_; intro v' w8 h1 h2 h3; have G8 := Lib.hid (ADD.out v' w8 h1 h2 h3); clear h1 h2 h3)
        go_roundw
        case rel => exact ⟨k + 1, _, rfl, rfl, by omega, G8⟩
        case measure => simp [Lib.intOf]; omega
      · have H0 := Lib.hid h0
        have WC : Hid (∀ W, Below W5.heap.size W5 W → Calls Tryz.prog 62 #[.pointer (some ⟨b.d.p, 0, none⟩), .int .i64 (p.data i : Int), .string (Om.B x.2)] W fun e w6 => e = .returned (.int .i64 X) ∧
            (w6.cell? ⟨b.q, 3, none⟩ = some (.pointer (some ⟨b.d.p, 0, none⟩)) ∧ w6.cell? ⟨g8, 0, none⟩ = some (.int .i64 (p.data i : Int)) ∧ w6.cell? ⟨wr.heap.size, 1, none⟩ = some (.string (Om.B x.2))) ∧ (runs st (addOps p m l (pagesOf (putsP m l)))).2 = X ∧ SWent b p inv (runs st (addOps p m l (pagesOf (putsP m l)))).1 (putsM m (l.take (k + 1))) w w6) := Lib.hid fun W hW => (HC W hW).mono fun e w6 ⟨e1, ⟨_, e2⟩, _, e3⟩ => ⟨e1, e2.2, e3 h0⟩
        have NE := Lib.hid (fun w1 => need_no X h0 w1)
        unfold faultE at NE
        clear HC h0
        go_upto_region 6 with fail
        go_region_held (fun w' => w'.cell? ⟨b.q, 3, none⟩ = some (.pointer (some ⟨b.d.p, 0, none⟩)) ∧ w'.cell? ⟨g8, 0, none⟩ = some (.int .i64 (p.data i : Int)) ∧ w'.cell? ⟨wr.heap.size, 1, none⟩ = some (.string (Om.B x.2)))
          (first | (refine ⟨?_, ?_, ?_⟩ <;> assumption) | go_keep)
          (first
            | (go_at_call 62; refine (WC.out _ (Below.refl _ _).drew).mono ?_; rintro e w6 ⟨rfl, ⟨z3, zg, zb⟩, hn⟩; have AN := Lib.hid hn; clear hn)
            | (go_at_call 61; refine (NE.out _).mono ?_; rintro e w7 ⟨rfl, rfl⟩; refine Classical.byContradiction fun hn => ?_; have hno : False := hn ⟨rfl, X, _, (endE_no H0.out).symm, AN.out.1.symm, AN.out.2, fun e => (H0.out e).elim⟩; clear hn; refine way_out (by assumption) hno { tmps := #[], defers := [] } w6 ?_))
        exact hno.elim
    · obtain rfl : k = n := by omega
      have d1 : decide ((k : Int) < (k : Int)) = false := by simp
      have d2 : decide (k < k) = false := by simp
      obtain ⟨x, hcall⟩ := FIN.out wr _ hat.out
      clear FIN RND H0 hat
      by_cases h0 : x = 0
      · subst h0
        rw [endE_zero] at hcall
        have HC := Lib.hid hcall
        clear hcall
        go_wp2_with fail
        refine HC.out.mono ?_
        rintro e w3 ⟨rfl, -, hy⟩
        obtain ⟨a', c', y, hv, HY⟩ := hy (by first | trivial | rfl)
        subst hv
        clear hy
        by_cases h1 : y = 0
        · subst h1
          rw [endE_zero] at HY
          have HY := Lib.hid HY
          go_wp2_with fail
          refine HY.out.mono ?_
          rintro e w4 ⟨rfl, e3, hw⟩
          have F3 := Lib.hid (And.intro e3 hw)
          clear e3 hw
          go_wp2_with fail
          go_end0
          exact ⟨0, _, rfl, F3.out.1, F3.out.2, fun _ => rfl⟩
        · rw [endE_no h1] at HY
          have HY := Lib.hid HY
          have H1 := Lib.hid h1
          unfold faultE at HY
          clear h1
          go_wp2_with fail
          refine HY.out.mono ?_
          rintro e w4 ⟨rfl, e3, hw⟩
          have F3 := Lib.hid (And.intro e3 hw)
          clear e3 hw
          go_wp2_with fail
          exact ⟨rfl, _, _, (endE_no H1.out).symm, F3.out.1, F3.out.2, fun _ => rfl⟩
      · rw [endE_no h0] at hcall
        have HC := Lib.hid hcall
        have H1 := Lib.hid h0
        unfold faultE at HC
        clear h0 hcall
        go_wp2_with fail
        refine HC.out.mono ?_
        rintro e w3 ⟨rfl, hn, -⟩
        have F3 := Lib.hid (hn H1.out)
        clear hn
        go_wp2_with fail
        obtain ⟨m', f1, f2⟩ := F3.out
        exact ⟨rfl, _, m', (endE_no H1.out).symm, f1.symm, f2, fun e => (H1.out e).elim⟩
end So
end Go.Proofs.YtbmabcddciibfaaGreat
