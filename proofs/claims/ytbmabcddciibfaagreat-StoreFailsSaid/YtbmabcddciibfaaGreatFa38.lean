/- Part 38 of the contracts and of the plain mathematics that the proof of the law rests on: StoRC, StoDsk, StoFw, StoAlM. -/
import Derived.Test.YtbmabcddciibfaaGreatFa04
import Derived.Test.YtbmabcddciibfaaGreatFa05
import Derived.Test.YtbmabcddciibfaaGreatFa18
import Derived.Test.YtbmabcddciibfaaGreatFa20
import Derived.Test.YtbmabcddciibfaaGreatFa24
import Derived.Test.YtbmabcddciibfaaGreatFa25
import Derived.Test.YtbmabcddciibfaaGreatFa31
import Derived.Test.YtbmabcddciibfaaGreatFa34
import Derived.Test.YtbmabcddciibfaaGreatFa37
namespace Go.Proofs.YtbmabcddciibfaaGreat
namespace So
open Go.RowKit
set_option maxRecDepth 100000
set_option linter.unusedVariables false
theorem step_copy14 {P : Program} {w : World} {ops : Array Oper} {o : Oper} {a : Act} {K : Act → World → Prop} {Q : Exit → Act → World → Prop} {E : Prop} (hgd : o.guard = none) (s x : Operand) (t : TypeId)
    (ho : o.op = .call { callee := .builtin .append, args := #[s, x], argTypes := #[t, t] }) (e : TypeId) (i : TypeInfo) (z : Value) (size bytes : Nat) (ht : P.underlying t = some (.slice e)) (hi : P.info? e = some i) (hz : i.zero = some z)
    (hsize : i.size = size) (hby : i.bytes = bytes) (hzs : z.cells.size = size) (hsz : 0 < size) (v : Value) (n : Nat) (xs : List Value) (hs : a.eval s = .slice none 0 0) (hx : a.eval x = v) (hown : w.ownsRow 0 e size v n xs) (h1 : ∀ u ∈ xs, u.oneCell' = true)
    (h63 : n ≤ maxLen) (hbytes : n * bytes ≤ 140737488355328)
    (h : ∀ va vc w', w'.ownsRow 0 e size (.slice va n vc) n xs → (∀ k, (Value.slice va n vc).ownBlock = some k → w.heap.size ≤ k) → Below w.heap.size w w' → K (a.put o.dst (.slice va n vc)) w') :
    if Region.wanted o (yielded ops a.tmps) = true then Oper.wp P o a w K Q else E := by
  have hw : Region.wanted o (yielded ops a.tmps) = true := by simp [Region.wanted, hgd]
  rw [if_pos hw]
  obtain ⟨va, vc, w', hr, h2, h3, h4⟩ := Dsk.run_append_copy (P := P) w t o.type e i z size bytes ht hi hz hsize hby hzs hsz v n xs hown h1 h63 hbytes
  unfold Oper.wp execOp
  simp only [ho, resolve, invoke, builtin, Sem.run_bind, Sem.run_pure, Result.andThen_ok, List.map_toArray, List.map_cons, List.map_nil, hs, hx, hr]
  exact h va vc w' h2 h3 h4
theorem sc_one14 (S : List (List UInt8)) : ∀ u ∈ Dsk.scells S, u.oneCell' = true := by
  intro u hu
  unfold Dsk.scells at hu
  rw [List.mem_map] at hu
  obtain ⟨x, _, rfl⟩ := hu
  rfl
def RCopied (p : Pa) (M : Ms) (w : World) (e : Ending) (w' : World) : Prop := ∃ r, e = .returned (.pointer (some ⟨r.q, 0, none⟩)) ∧ Rs w' r p M ∧ (∀ k, r.fp k → w.heap.size ≤ k) ∧ Below w.heap.size w w'
def c0cells (p : Pa) (inv : Bool) (tv : Value) : Obj := .cells #[.int .i64 (p.a : Int), .int .i64 (p.n : Int), .int .i64 (p.g : Int), .int .i64 (p.st : Int), .int .i64 (p.ln : Int), .int .u32 (p.gen : Int), tv, .slice none 0 0, .bool inv] 58
theorem rcopied_fin {w w2 W1 w3 : World} {p : Pa} {M : Ms} {tv dv : Value} (hb : Below w.heap.size w w2) (hv : Tb.Ints w2 tv M.T) (hvn : ∀ k, tv.ownBlock = some k → w.heap.size ≤ k) (hW : w2.alloc (c0cells p M.inv tv) = W1)
    (hb3 : Below W1.heap.size W1 w3) (hd : w3.ownsRow 0 9 1 dv M.D.length (Dsk.scells M.D)) (hdn : ∀ k, dv.ownBlock = some k → W1.heap.size ≤ k) :
    RCopied p M w (.returned (.pointer (some ⟨w2.heap.size, 0, none⟩))) (w3.setCell ⟨w2.heap.size, 7, none⟩ dv) := by
  have hs1 : W1.heap.size = w2.heap.size + 1 := by rw [← hW]; simp
  have hb1 : Below w2.heap.size w2 W1 := by rw [← hW]; exact (Below.refl _ _).alloc (Nat.le_refl _) _
  have hr1 : W1.heap[w2.heap.size]? = some (c0cells p M.inv tv) := by rw [← hW]; exact heap_alloc_new w2 _
  have hr3 := (hb3.block w2.heap.size (by omega)).trans hr1
  have hvl : ∀ k, tv.ownBlock = some k → k < w2.heap.size := fun k hk => by obtain ⟨c, hc⟩ := Dsk.own_block hv k hk; exact Dsk.lt_of_heap hc
  have hne : ∀ j, j ≠ w2.heap.size → (w3.setCell ⟨w2.heap.size, 7, none⟩ dv).heap[j]? = w3.heap[j]? := fun j hj => Below.heap_setCell _ _ _ _ hj
  refine ⟨⟨w2.heap.size, tv, dv⟩, rfl, ⟨?_, Dsk.own_same hv fun k hk => ?_, Dsk.own_same hd fun k hk => hne k ?_, fun k hk h2 => ?_, fun h => ?_, fun h => ?_⟩, fun k hk => ?_, ?_⟩
  · rw [heap_setCell_same _ _ _ _ _ _ hr3]
    rfl
  · have := hvl k hk
    rw [hne k (by omega), hb3.block k (by omega), hb1.block k this]
  · have := hdn k hk
    omega
  · have := hvl k hk
    have := hdn k h2
    omega
  · exact Nat.lt_irrefl _ (hvl _ h)
  · have h : W1.heap.size ≤ w2.heap.size := hdn _ h
    omega
  · rcases hk with rfl | hk | hk
    · exact hb.size
    · exact hvn k hk
    · have := hdn k hk
      have := hb.size
      omega
  · have h13 : Below w.heap.size w w3 := (hb.trans (hb1.mono hb.size)).trans (hb3.mono (by have := hb.size; omega))
    exact h13.setCell hb.size _
set_option maxHeartbeats 2000000 in
theorem rcopied_any {w : World} {r : Rb} {p : Pa} {M : Ms} (h : Rs w r p M) (hT1 : M.T.length ≤ 1048576) (hD1 : M.D.length ≤ 1048576) :
    Calls Tryz.prog 10 #[.pointer (some ⟨r.q, 0, none⟩)] w (RCopied p M w) := by
  obtain ⟨i0, hi, hz0, hz1, hz2⟩ := info_parts info_str14
  obtain ⟨va, vc, hv⟩ := Dsk.own_slice h.row
  obtain ⟨da, dc, hdv⟩ := Dsk.own_slice h.drow
  obtain ⟨T, hT⟩ : ∃ T, T = M.T.length := ⟨_, rfl⟩
  obtain ⟨D, hD⟩ : ∃ D, D = M.D.length := ⟨_, rfl⟩
  have RD : Hid (∀ w2, Below w.heap.size w w2 → (w2.cell? ⟨r.q, 0, none⟩ = some (.int .i64 (p.a : Int)) ∧ w2.cell? ⟨r.q, 1, none⟩ = some (.int .i64 (p.n : Int)) ∧ w2.cell? ⟨r.q, 2, none⟩ = some (.int .i64 (p.g : Int)) ∧
      w2.cell? ⟨r.q, 3, none⟩ = some (.int .i64 (p.st : Int)) ∧ w2.cell? ⟨r.q, 4, none⟩ = some (.int .i64 (p.ln : Int)) ∧ w2.cell? ⟨r.q, 5, none⟩ = some (.int .u32 (p.gen : Int)) ∧
      w2.cell? ⟨r.q, 6, none⟩ = some (.slice va T vc) ∧ w2.cell? ⟨r.q, 8, none⟩ = some (.bool M.inv)) ∧ w2.cell? ⟨r.q, 7, none⟩ = some (.slice da D dc) ∧ w2.ownsRow 0 9 1 (.slice da D dc) D (Dsk.scells M.D)) := Lib.hid fun w2 hb => by
    have h2 := h.below hb
    obtain ⟨c0, c1, c2, c3, c4, c5, c6, c7, c8, cf⟩ := h2.reads
    have hd := h2.drow
    rw [hdv] at c7 hd
    rw [hv] at c6
    rw [hT, hD]
    exact ⟨⟨c0, c1, c2, c3, c4, c5, c6, c8⟩, c7, hd⟩
  have CO : Hid (∀ w2, Below w.heap.size w w2 → Calls Tryz.prog 44 #[.slice va T vc] w2 (Tb.MadeR M.T w2)) := Lib.hid fun w2 hb => by
    have h2 := (h.below hb).row
    rw [hv] at h2
    have := Tb.rcopy_any h2 hT1
    rw [hT]
    exact this
  obtain ⟨⟨c0, c1, c2, c3, c4, c5, c6, c8⟩, c7, -⟩ := RD.out w (Below.refl _ _)
  have ONE := Lib.hid (sc_one14 M.D)
  have HT := Lib.hid hT
  have HDD := Lib.hid hD
  have HD1 : Hid (D ≤ 1048576) := Lib.hid (by rw [hD]; exact hD1)
  obtain ⟨iv, hiv⟩ : ∃ iv, iv = M.inv := ⟨_, rfl⟩
  have HIV := Lib.hid hiv
  rw [← hiv] at c8 RD
  have HQ : Hid (r.q < w.heap.size) := Lib.hid (h.lt r.q (.inl rfl))
  clear h hv hdv hT hD hT1 hD1 hiv
  go_enter Tryz.func10, Tryz.ntmps10
  go_upto_region 1 with fail
  go_region_held3 (fun w' => w'.cell? ⟨r.q, 0, none⟩ = some (.int .i64 (p.a : Int)) ∧ w'.cell? ⟨r.q, 1, none⟩ = some (.int .i64 (p.n : Int)) ∧ w'.cell? ⟨r.q, 2, none⟩ = some (.int .i64 (p.g : Int)) ∧
      w'.cell? ⟨r.q, 3, none⟩ = some (.int .i64 (p.st : Int)) ∧ w'.cell? ⟨r.q, 4, none⟩ = some (.int .i64 (p.ln : Int)) ∧ w'.cell? ⟨r.q, 5, none⟩ = some (.int .u32 (p.gen : Int)) ∧
      w'.cell? ⟨r.q, 6, none⟩ = some (.slice va T vc) ∧ w'.cell? ⟨r.q, 8, none⟩ = some (.bool iv))
    (first | (refine ⟨?_, ?_, ?_, ?_, ?_, ?_, ?_, ?_⟩ <;> assumption) | (refine ⟨?_, ?_, ?_, ?_, ?_, ?_, ?_, ?_⟩ <;> (rw [alloc_else (w := w2) (Nat.lt_of_lt_of_le HQ.out B2.out.size)]; assumption)) | go_keep)
    (first | (go_at_call 44; refine (CO.out _ (Below.refl _ _).drew).mono ?_; rintro e w2 ⟨v, rfl, hv, hn, hb⟩; have B2 : Hid (Below w.heap.size w w2) := Lib.hid (keepd hb (Below.refl _ _).drew); obtain ⟨⟨f0, f1, f2, f3, f4, f5, f6, f8⟩, f7, -⟩ := RD.out w2 B2.out; obtain ⟨xa, xc, hxv⟩ := Dsk.own_slice hv; subst hxv; rw [← HT.out] at hv hn; have HV : Hid (Tb.Ints w2 (.slice xa T xc) M.T) := hv; have HVN : Hid (∀ k, (Value.slice xa T xc).ownBlock = some k → w.heap.size ≤ k) := hn; rw [← HT.out]; clear hv hn hb))
  go_upto_region 2 with fail
  obtain ⟨W1, hW1⟩ : ∃ W1, w2.alloc (.cells #[.int .i64 (p.a : Int), .int .i64 (p.n : Int), .int .i64 (p.g : Int), .int .i64 (p.st : Int), .int .i64 (p.ln : Int), .int .u32 (p.gen : Int), .slice xa T xc, .slice none 0 0, .bool iv] 58) = W1 := ⟨_, rfl⟩
  obtain ⟨Y, hY⟩ : ∃ Y, Y = w2.heap.size := ⟨_, rfl⟩
  rw [hW1, ← hY]
  have hb1 : Below w2.heap.size w2 W1 := by rw [← hW1]; exact (Below.refl _ _).alloc (Nat.le_refl _) _
  have hr1 : W1.heap[Y]? = some (.cells #[.int .i64 (p.a : Int), .int .i64 (p.n : Int), .int .i64 (p.g : Int), .int .i64 (p.st : Int), .int .i64 (p.ln : Int), .int .u32 (p.gen : Int), .slice xa T xc, .slice none 0 0, .bool iv] 58 (0, 0)) := by rw [hY, ← hW1]; exact heap_alloc_new w2 _
  obtain ⟨-, d7, down⟩ := RD.out W1 (B2.out.trans (hb1.mono B2.out.size))
  have x7 : W1.cell? ⟨Y, 7, none⟩ = some (.slice none 0 0) := by rw [cell_of_row _ _ _ _ _ _ hr1]; rfl
  have OWN : Hid (W1.drew.ownsRow 0 9 1 (.slice da D dc) D (Dsk.scells M.D)) := Dsk.own_same down fun _ _ => rfl
  have HX1 := Lib.hid hr1
  have HW1 := Lib.hid hW1
  have HY := Lib.hid hY
  clear f0 f1 f2 f3 f4 f5 f6 f7 f8 c0 c1 c2 c3 c4 c5 c6 c7 c8 hb1 hr1 down hW1 hY CO
  go_region_law (refine step_copy14 rfl (.tmp 31) (.tmp 35) 56 rfl 9 i0 _ 1 16 Tryz.underlying56 hi hz0 hz1 hz2 rfl (by decide) (.slice da D dc) D (Dsk.scells M.D) (by simp [Act.eval]) (by simp [Act.eval]) OWN.out ONE.out (by have := HD1.out; unfold maxLen; omega) (by have := HD1.out; omega) ?_; intro ea ec w3 hown3 hnew3 hb3; have HO3 := Lib.hid hown3; have HN3 : Hid (∀ k, (Value.slice ea D ec).ownBlock = some k → W1.heap.size ≤ k) := hnew3; have HB3 : Hid (Below W1.heap.size W1 w3) := (Below.refl _ _).drew.trans hb3; have HX3 := Lib.hid ((HB3.out.block Y (Dsk.lt_of_heap HX1.out)).trans HX1.out); have f4 : w3.frozen? ⟨Y, 7, none⟩ = false := frozen_of_row _ _ _ _ _ HX3.out; have c4 : w3.cell? ⟨Y, 7, none⟩ = some (.slice none 0 0) := (by rw [cell_of_row _ _ _ _ _ _ HX3.out]; rfl); clear hown3 hnew3 hb3)
  all_goals
    have FIN : Hid (RCopied p M w (.returned (.pointer (some ⟨Y, 0, none⟩))) (w3.setCell ⟨Y, 7, none⟩ (.slice ea D ec))) := Lib.hid (by
      rw [HY.out]
      exact rcopied_fin B2.out HV.out HVN.out (by rw [← HIV.out]; exact HW1.out) HB3.out (by rw [← HDD.out]; exact HO3.out) HN3.out)
    go_wp2_with fail
    go_ret
    exact FIN.out
end So
end Go.Proofs.YtbmabcddciibfaaGreat
namespace Go.Proofs.YtbmabcddciibfaaGreat
namespace So
open Go.RowKit
set_option linter.unusedVariables false
set_option maxRecDepth 100000
theorem Both.disk {w w' : World} {y : Bo} {p : Pa} {inv : Bool} {st st' : Dm.St} {m : List Int} {M : Ms} (h : Both w y p inv st m M) {o' : Dsk.Ob} (hd : Dsk.Dk w' o' st') (hs : Dsk.Step y.b.d o' w w') :
    ∃ y', Both w' y' p inv st' m M ∧ Bp y y' w w' ∧ y'.r = y.r ∧ y'.b.q = y.b.q := h.store ⟨_, h.sk.disk hd hs⟩
end So
end Go.Proofs.YtbmabcddciibfaaGreat
namespace Go.Proofs.YtbmabcddciibfaaGreat
namespace So
open Go.RowKit
set_option linter.unusedVariables false
set_option maxRecDepth 100000
theorem act_pend {p : Pa} (hp : p.Ok) {st : Dm.St} {M : Ms} (h : Live p st M) {x : Ac} {ops : List Op} (ho : ActOps p M x ops) : (runs st ops).1.P.length ≤ st.P.length + x.d.length / 64 := by
  unfold ActOps at ho
  split at ho
  · rcases ho with ⟨_, rfl⟩ | ⟨h1, _, cs, hc, rfl⟩
    · exact Nat.le_add_right _ _
    · obtain ⟨hi, ha, hl⟩ := addE_zero h.fit.tok h1
      rw [(live_add hp h ha hl hi hc).2.2]
      exact Nat.zero_le _
  · split at ho
    · rcases ho with ⟨_, rfl⟩ | ⟨h1, rfl⟩
      · exact Nat.le_add_right _ _
      · have := runs_count h.ok [wriOp p (findP M x.o) x.f.toNat x.d]
        have e : ([wriOp p (findP M x.o) x.f.toNat x.d].map sec).sum = x.d.length / 64 := by simp [wriOp, sec]
        rw [e] at this
        exact this
    · split at ho
      · rcases ho with ⟨_, rfl⟩ | ⟨h1, _, cs, hc, rfl⟩
        · exact Nat.le_add_right _ _
        · obtain ⟨hi, hm⟩ := remE_zero h1
          rw [(live_rem hp h hm hi hc).2.2]
          exact Nat.zero_le _
      · split at ho
        · rw [ho, (live_spo hp h).2.2]
          exact Nat.zero_le _
        · rw [ho]
          exact Nat.le_add_right _ _
def left (st : Dm.St) : Int := (st.P.length : Int) + st.fuse
theorem spend_left {st : Dm.St} (h : 0 ≤ st.fuse) : 0 ≤ (Dm.spendS st).fuse ∧ left (Dm.spendS st) ≤ left st ∧ (Dm.spendB st = true → (Dm.spendS st).fuse = st.fuse - 1) := by
  unfold Dm.spendS Dm.spendB left
  by_cases h0 : st.fuse = 0
  · rw [if_pos h0]
    refine ⟨h, Int.le_refl _, fun c => ?_⟩
    rw [decide_eq_true h0] at c
    cases c
  · rw [if_neg h0]
    cases hd : st.dead with
    | true => exact ⟨h, Int.le_refl _, fun c => by simp at c⟩
    | false =>
      rw [if_neg (by decide), if_pos (by omega)]
      exact ⟨by show 0 ≤ st.fuse - 1; omega, by show (st.P.length : Int) + (st.fuse - 1) ≤ _; omega, fun _ => rfl⟩
theorem puts_left {cs : List (List UInt8)} {st : Dm.St} {k : Nat} (h : 0 ≤ st.fuse) : 0 ≤ (Dm.puts st k cs).1.fuse ∧ left (Dm.puts st k cs).1 ≤ left st := by
  induction cs generalizing st k with
  | nil => exact ⟨h, Int.le_refl _⟩
  | cons c cs ih =>
    obtain ⟨h1, h2, h3⟩ := spend_left h
    unfold Dm.puts
    cases hb : Dm.spendB st with
    | false => simp only [Bool.false_eq_true, if_false]; exact ⟨h1, h2⟩
    | true =>
      simp only [if_true]
      have := ih (st := Dm.put (Dm.spendS st) k c) (k := k + 1) h1
      refine ⟨this.1, Int.le_trans this.2 ?_⟩
      have e := h3 hb
      unfold left
      show (((Dm.spendS st).P ++ [(k, c)]).length : Int) + (Dm.spendS st).fuse ≤ _
      rw [Dm.spendS_P, List.length_append, e]
      simp
      omega
theorem step_left {st : Dm.St} (h : 0 ≤ st.fuse) (o : Op) : 0 ≤ (step st o).1.fuse ∧ left (step st o).1 ≤ left st := by
  cases o with
  | fl =>
    show 0 ≤ (Dm.flush st).1.fuse ∧ left (Dm.flush st).1 ≤ left st
    obtain ⟨h1, h2, h3⟩ := spend_left h
    unfold Dm.flush
    split
    · refine ⟨h1, ?_⟩
      unfold left at h2 ⊢
      show (([] : List (Nat × List UInt8)).length : Int) + (Dm.spendS st).fuse ≤ _
      simp
      omega
    · exact ⟨h1, h2⟩
  | wr k d =>
    show 0 ≤ (Dm.write st (k : Int) d).1.fuse ∧ left (Dm.write st (k : Int) d).1 ≤ left st
    unfold Dm.write
    split
    · exact ⟨h, Int.le_refl _⟩
    · split
      · split
        · exact puts_left h
        · exact ⟨h, Int.le_refl _⟩
      · exact ⟨h, Int.le_refl _⟩
theorem runs_left {ops : List Op} {st : Dm.St} (h : 0 ≤ st.fuse) : 0 ≤ (runs st ops).1.fuse ∧ left (runs st ops).1 ≤ left st := by
  induction ops generalizing st with
  | nil => exact ⟨h, Int.le_refl _⟩
  | cons o r ih =>
    have h1 := step_left h o
    by_cases hs : (step st o).2 = 0
    · rw [runs_yes _ hs]
      have := ih h1.1
      exact ⟨this.1, Int.le_trans this.2 h1.2⟩
    · rw [runs_no _ hs]
      exact h1
theorem fail_one (st : Dm.St) (n : Int) : Dm.one (Dm.fail st n) = Dm.one st := rfl
theorem fail_ok {st : Dm.St} (h : Dm.Ok st) (n : Int) : Dm.Ok (Dm.fail st n) := ⟨h.sectors, h.writes, by show -1 ≤ max n (-1); omega, h.few⟩
structure Fa (W0 : World) (p : Pa) (X dp rq k : Nat) (y : Bo) (st : Dm.St) (M : Ms) (wr : World) : Prop where
  X : y.X = X
  dp : y.b.d.p = dp
  rq : y.r.q = rq
  both : Both wr y p M.inv st M.tab M
  live : Live p st M
  few : st.P.length ≤ 18 * k
  low : ∀ j, y.fp j → W0.heap.size ≤ j
  bel : Below W0.heap.size W0 wr
def FA (W0 : World) (p : Pa) (X dp rq k : Nat) (wr : World) : Prop := ∃ y st M, Fa W0 p X dp rq k y st M wr
theorem FA.next {W0 wr w2 : World} {p : Pa} {X dp rq k : Nat} (h : FA W0 p X dp rq k wr) (hb : Below wr.heap.size wr w2) : FA W0 p X dp rq k w2 := by
  obtain ⟨y, st, M, h⟩ := h
  exact ⟨y, st, M, h.X, h.dp, h.rq, h.both.below hb, h.live, h.few, h.low, h.bel.trans (hb.mono h.bel.size)⟩
theorem FA.bel {W0 wr : World} {p : Pa} {X dp rq k : Nat} (h : FA W0 p X dp rq k wr) : Below W0.heap.size W0 wr := by
  obtain ⟨y, st, M, h⟩ := h
  exact h.bel
theorem FA.cells {W0 wr : World} {p : Pa} {X dp rq k : Nat} (h : FA W0 p X dp rq k wr) : wr.cell? ⟨X, 0, none⟩ = some (.pointer (some ⟨dp, 0, none⟩)) ∧ wr.cell? ⟨X, 5, none⟩ = some (.pointer (some ⟨rq, 0, none⟩)) := by
  obtain ⟨y, st, M, h⟩ := h
  obtain ⟨c0, -, -, -, -, c5, -⟩ := h.both.reads
  rw [h.X, h.dp] at c0
  rw [h.X, h.rq] at c5
  exact ⟨c0, c5⟩
theorem FA.begin {W0 wr : World} {p : Pa} {e : Ending} (h : BegYes p W0 e wr) : ∃ X dp rq, e = .returned (.tuple #[.pointer (some ⟨X, 0, none⟩), .bool true, .bool true]) ∧ FA W0 p X dp rq 0 wr := by
  obtain ⟨y, st, he, h1, h2, h3, h4, h5⟩ := h
  exact ⟨y.X, y.b.d.p, y.r.q, he, y, st, _, rfl, rfl, rfl, h1, h2, by rw [h3]; exact Nat.zero_le _, h4, h5⟩
theorem FA.act {w W0 wr : World} {p : Pa} {X dp rq k : Nat} (h : FA W0 p X dp rq k wr) (hp : p.Ok) (hw : Below w.heap.size w W0) (hk : k ≤ 24) {x : Ac} {l : Al} (hin : AcIn w x l) (hf : FitA x) (lv : Value) :
    Calls Tryz.prog 8 #[.pointer (some ⟨X, 0, none⟩), caseV p lv, .agg (x.vals l).toArray] wr fun e w' => e = .returned (.bool true) ∧ FA W0 p X dp rq (k + 1) w' := by
  obtain ⟨y, st, M, h⟩ := h
  rw [← h.X]
  have hw0 := hw.size
  have f1 := h.few
  have f2 := hf.d
  have f3 := hf.cs
  have f4 := hf.rm
  refine (sact_any h.both hp h.live.fit h.live.stand (by omega) h.live.awake.dead h.live.len x l hin (hw.trans (h.bel.mono hw.size)) (fun j hj => Nat.le_trans hw0 (h.low j hj)) (by omega) (by omega) (by omega) lv).mono ?_
  rintro e w' ⟨res, ops, inv', m', y', he, ho, hb, hs, hl⟩
  obtain ⟨rfl, rfl, rfl⟩ := hl h.live
  have hpend := act_pend hp h.live ho
  refine ⟨he, y', _, _, hs.X, hs.dp.trans h.dp, hs.rq.trans h.rq, hb, (next_act hp h.live ho).live, by omega, fun j hj => (hs.fp j hj).elim (h.low j) (Nat.le_trans h.bel.size), h.bel.trans (hs.fr.below h.bel.size h.low)⟩
structure Fb (W0 : World) (p : Pa) (X dp rq : Nat) (y : Bo) (st : Dm.St) (M : Ms) (wr : World) : Prop where
  X : y.X = X
  dp : y.b.d.p = dp
  rq : y.r.q = rq
  both : Both wr y p M.inv st M.tab M
  rest : Rest p st M
  dead : st.dead = false
  len : st.S.length = p.a
  low : ∀ j, y.fp j → W0.heap.size ≤ j
  bel : Below W0.heap.size W0 wr
def FB (W0 : World) (p : Pa) (X dp rq : Nat) (wr : World) : Prop := ∃ y st M, Fb W0 p X dp rq y st M wr
theorem FB.next {W0 wr w2 : World} {p : Pa} {X dp rq : Nat} (h : FB W0 p X dp rq wr) (hb : Below wr.heap.size wr w2) : FB W0 p X dp rq w2 := by
  obtain ⟨y, st, M, h⟩ := h
  exact ⟨y, st, M, h.X, h.dp, h.rq, h.both.below hb, h.rest, h.dead, h.len, h.low, h.bel.trans (hb.mono h.bel.size)⟩
theorem FB.cells {W0 wr : World} {p : Pa} {X dp rq : Nat} (h : FB W0 p X dp rq wr) : wr.cell? ⟨X, 0, none⟩ = some (.pointer (some ⟨dp, 0, none⟩)) ∧ wr.cell? ⟨X, 5, none⟩ = some (.pointer (some ⟨rq, 0, none⟩)) := by
  obtain ⟨y, st, M, h⟩ := h
  obtain ⟨c0, -, -, -, -, c5, -⟩ := h.both.reads
  rw [h.X, h.dp] at c0
  rw [h.X, h.rq] at c5
  exact ⟨c0, c5⟩
theorem FB.bel {W0 wr : World} {p : Pa} {X dp rq : Nat} (h : FB W0 p X dp rq wr) : Below W0.heap.size W0 wr := by
  obtain ⟨y, st, M, h⟩ := h
  exact h.bel
theorem FA.flush {W0 wr : World} {p : Pa} {X dp rq k : Nat} (h : FA W0 p X dp rq k wr) (hk : k ≤ 1000) :
    Calls Tryz.prog 9 #[.pointer (some ⟨dp, 0, none⟩)] wr fun e w' => ∃ x, e = .returned (.int .i64 x) ∧ FB W0 p X dp rq w' := by
  obtain ⟨y, st, M, h⟩ := h
  rw [← h.dp]
  have f1 := h.few
  refine (Dsk.flush_any h.both.sk.dk (by omega)).mono ?_
  rintro e w' ⟨he, d', hd, hs⟩
  obtain ⟨_, hlv, hP⟩ := live_fl h.live
  obtain ⟨y', hb, hs2, e1, e2⟩ := h.both.disk hd hs
  refine ⟨_, he, y', _, M, hs2.X.trans h.X, hs2.dp, by rw [e1]; exact h.rq, hb, ⟨hlv.ok, hP, hlv.fit, hlv.stand⟩, hlv.awake.dead, hlv.len, fun j hj => (hs2.fp j hj).elim (h.low j) (Nat.le_trans h.bel.size), h.bel.trans (hs2.fr.below h.bel.size h.low)⟩
structure Cp (W0 : World) (p : Pa) (y : Bo) (M : Ms) (cq : Nat) (c : Rb) (wr : World) : Prop where
  q : c.q = cq
  rs : Rs wr c p M
  low : ∀ j, c.fp j → W0.heap.size ≤ j
  ap : ∀ j, c.fp j → ¬ y.fp j
theorem Cp.next {W0 wr w2 : World} {p : Pa} {y : Bo} {M : Ms} {cq : Nat} {c : Rb} (h : Cp W0 p y M cq c wr) (hb : Below wr.heap.size wr w2) : Cp W0 p y M cq c w2 := ⟨h.q, h.rs.below hb, h.low, h.ap⟩
theorem Cp.step {W0 wr w2 : World} {p : Pa} {y y' : Bo} {M : Ms} {cq : Nat} {c : Rb} (h : Cp W0 p y M cq c wr) (hs : Bp y y' wr w2) : Cp W0 p y' M cq c w2 :=
  ⟨h.q, h.rs.keep hs.fr h.ap, h.low, fun j hj hy => (hs.fp j hy).elim (h.ap j hj) fun c => by have := h.rs.lt j hj; omega⟩
def FC (W0 : World) (p : Pa) (X dp rq cq : Nat) (wr : World) : Prop := ∃ y st M c, Fb W0 p X dp rq y st M wr ∧ Cp W0 p y M cq c wr
theorem FC.next {W0 wr w2 : World} {p : Pa} {X dp rq cq : Nat} (h : FC W0 p X dp rq cq wr) (hb : Below wr.heap.size wr w2) : FC W0 p X dp rq cq w2 := by
  obtain ⟨y, st, M, c, h, hc⟩ := h
  exact ⟨y, st, M, c, ⟨h.X, h.dp, h.rq, h.both.below hb, h.rest, h.dead, h.len, h.low, h.bel.trans (hb.mono h.bel.size)⟩, hc.next hb⟩
theorem FC.bel {W0 wr : World} {p : Pa} {X dp rq cq : Nat} (h : FC W0 p X dp rq cq wr) : Below W0.heap.size W0 wr := by
  obtain ⟨y, st, M, c, h, -⟩ := h
  exact h.bel
theorem FC.cells {W0 wr : World} {p : Pa} {X dp rq cq : Nat} (h : FC W0 p X dp rq cq wr) : wr.cell? ⟨X, 0, none⟩ = some (.pointer (some ⟨dp, 0, none⟩)) := by
  obtain ⟨y, st, M, c, h, -⟩ := h
  obtain ⟨c0, -, -, -, -, c5, -⟩ := h.both.reads
  rw [h.X, h.dp] at c0
  exact c0
theorem FB.copied {W0 wr : World} {p : Pa} {X dp rq : Nat} (h : FB W0 p X dp rq wr) (hp : p.Ok) :
    Calls Tryz.prog 10 #[.pointer (some ⟨rq, 0, none⟩)] wr fun e w' => ∃ cq, e = .returned (.pointer (some ⟨cq, 0, none⟩)) ∧ FC W0 p X dp rq cq w' := by
  obtain ⟨y, st, M, h⟩ := h
  rw [← h.rq]
  refine (rcopied_any h.both.rs (by rw [h.rest.fit.tlen]; exact hp.nums.N1) (by rw [h.rest.fit.dlen]; exact hp.nums.N1)).mono ?_
  rintro e w' ⟨c, he, hrs, hn, hb⟩
  exact ⟨c.q, he, y, st, M, c, ⟨h.X, h.dp, rfl, h.both.below hb, h.rest, h.dead, h.len, h.low, h.bel.trans (hb.mono h.bel.size)⟩, ⟨rfl, hrs, fun j hj => Nat.le_trans h.bel.size (hn j hj), fun j hj hy => by have := h.both.lt j hy; have := hn j hj; omega⟩⟩
def FD (W0 : World) (p : Pa) (X dp rq cq : Nat) (wr : World) : Prop := ∃ y st M c, Fb W0 p X dp rq y st M wr ∧ Cp W0 p y M cq c wr ∧ 0 ≤ st.fuse ∧ st.fuse ≤ 39
theorem FD.next {W0 wr w2 : World} {p : Pa} {X dp rq cq : Nat} (h : FD W0 p X dp rq cq wr) (hb : Below wr.heap.size wr w2) : FD W0 p X dp rq cq w2 := by
  obtain ⟨y, st, M, c, h, hc, h1, h2⟩ := h
  exact ⟨y, st, M, c, ⟨h.X, h.dp, h.rq, h.both.below hb, h.rest, h.dead, h.len, h.low, h.bel.trans (hb.mono h.bel.size)⟩, hc.next hb, h1, h2⟩
theorem FD.bel {W0 wr : World} {p : Pa} {X dp rq cq : Nat} (h : FD W0 p X dp rq cq wr) : Below W0.heap.size W0 wr := by
  obtain ⟨y, st, M, c, h, -⟩ := h
  exact h.bel
theorem FC.fail {W0 wr : World} {p : Pa} {X dp rq cq : Nat} (h : FC W0 p X dp rq cq wr) (n : Nat) (hn : n < 40) :
    Calls Tryz.prog 11 #[.pointer (some ⟨dp, 0, none⟩), .int .i64 (n : Int)] wr fun e w' => e = .returned (.tuple #[]) ∧ FD W0 p X dp rq cq w' := by
  obtain ⟨y, st, M, c, h, hc⟩ := h
  rw [← h.dp]
  refine (Dsk.fail_any h.both.sk.dk (n : Int) (by omega) (by omega)).mono ?_
  rintro e w' ⟨he, d', hd, hs⟩
  obtain ⟨y', hb, hs2, e1, e2⟩ := h.both.disk hd hs
  refine ⟨he, y', _, M, c, ⟨hs2.X.trans h.X, hs2.dp, by rw [e1]; exact h.rq, hb, ⟨fail_ok h.rest.ok _, h.rest.none, h.rest.fit, by rw [fail_one]; exact h.rest.stand⟩, h.dead, h.len, fun j hj => (hs2.fp j hj).elim (h.low j) (Nat.le_trans h.bel.size), h.bel.trans (hs2.fr.below h.bel.size h.low)⟩, hc.step hs2, ?_, ?_⟩
  · show (0 : Int) ≤ max (n : Int) (-1); omega
  · show max (n : Int) (-1) ≤ 39; omega
structure Fe (W0 : World) (p : Pa) (X dp rq : Nat) (x : Ac) (y : Bo) (st : Dm.St) (M : Ms) (wr : World) : Prop where
  X : y.X = X
  dp : y.b.d.p = dp
  rq : y.r.q = rq
  both : ∃ inv m, Both wr y p inv st m (actM p M x)
  fit : Fit p M
  out : ∀ keep, Outcome p (Dm.one (Dm.restart st keep)) M (actM p M x)
  few : st.P.length ≤ 39
  len : st.S.length = p.a
  low : ∀ j, y.fp j → W0.heap.size ≤ j
  bel : Below W0.heap.size W0 wr
def FE (W0 : World) (p : Pa) (X dp rq cq : Nat) (x : Ac) (wr : World) : Prop := ∃ y st M c, Fe W0 p X dp rq x y st M wr ∧ Cp W0 p y M cq c wr
theorem FE.next {W0 wr w2 : World} {p : Pa} {X dp rq cq : Nat} {x : Ac} (h : FE W0 p X dp rq cq x wr) (hb : Below wr.heap.size wr w2) : FE W0 p X dp rq cq x w2 := by
  obtain ⟨y, st, M, c, h, hc⟩ := h
  obtain ⟨inv, m, hB⟩ := h.both
  exact ⟨y, st, M, c, ⟨h.X, h.dp, h.rq, ⟨inv, m, hB.below hb⟩, h.fit, h.out, h.few, h.len, h.low, h.bel.trans (hb.mono h.bel.size)⟩, hc.next hb⟩
theorem FE.bel {W0 wr : World} {p : Pa} {X dp rq cq : Nat} {x : Ac} (h : FE W0 p X dp rq cq x wr) : Below W0.heap.size W0 wr := by
  obtain ⟨y, st, M, c, h, -⟩ := h
  exact h.bel
theorem FE.cells {W0 wr : World} {p : Pa} {X dp rq cq : Nat} {x : Ac} (h : FE W0 p X dp rq cq x wr) : wr.cell? ⟨X, 0, none⟩ = some (.pointer (some ⟨dp, 0, none⟩)) := by
  obtain ⟨y, st, M, c, h, -⟩ := h
  obtain ⟨inv, m, hB⟩ := h.both
  obtain ⟨c0, -, -, -, -, c5, -⟩ := hB.reads
  rw [h.X, h.dp] at c0
  exact c0
theorem FD.act {w W0 wr : World} {p : Pa} {X dp rq cq : Nat} (h : FD W0 p X dp rq cq wr) (hp : p.Ok) (hw : Below w.heap.size w W0) {x : Ac} {l : Al} (hin : AcIn w x l) (hf : FitA x) (lv : Value) :
    Calls Tryz.prog 8 #[.pointer (some ⟨X, 0, none⟩), caseV p lv, .agg (x.vals l).toArray] wr fun e w' => ∃ res, e = .returned (.bool res) ∧ FE W0 p X dp rq cq x w' := by
  obtain ⟨y, st, M, c, h, hc, u0, u1⟩ := h
  rw [← h.X]
  have hw0 := hw.size
  have f2 := hf.d
  have f3 := hf.cs
  have f4 := hf.rm
  refine (sact_any h.both hp h.rest.fit h.rest.stand (by rw [h.rest.none]; decide) h.dead h.len x l hin (hw.trans (h.bel.mono hw.size)) (fun j hj => Nat.le_trans hw0 (h.low j hj)) (by omega) (by omega) (by omega) lv).mono ?_
  rintro e w' ⟨res, ops, inv', m', y', he, ho, hb, hs, hl⟩
  have hlf := runs_left (ops := ops) u0
  have hP0 : st.P.length = 0 := by rw [h.rest.none]; rfl
  refine ⟨res, he, y', _, M, c, ⟨hs.X, hs.dp.trans h.dp, hs.rq.trans h.rq, ⟨inv', m', hb⟩, h.rest.fit, fun keep => fails_act hp h.rest ho keep, ?_, ?_, fun j hj => (hs.fp j hj).elim (h.low j) (Nat.le_trans h.bel.size), h.bel.trans (hs.fr.below h.bel.size h.low)⟩, hc.step hs⟩
  · have := hlf.1
    have := hlf.2
    unfold left at this
    omega
  · rw [(runs_ok h.rest.ok ops).2]
    exact h.len
structure Ff (W0 : World) (p : Pa) (X dp rq : Nat) (x : Ac) (y : Bo) (st : Dm.St) (M : Ms) (wr : World) : Prop where
  X : y.X = X
  dp : y.b.d.p = dp
  rq : y.r.q = rq
  both : ∃ inv m, Both wr y p inv st m (actM p M x)
  fit : Fit p M
  out : Outcome p (Dm.one st) M (actM p M x)
  none : st.P = []
  dead : st.dead = false
  len : st.S.length = p.a
  low : ∀ j, y.fp j → W0.heap.size ≤ j
  bel : Below W0.heap.size W0 wr
def FF (W0 : World) (p : Pa) (X dp rq cq : Nat) (x : Ac) (wr : World) : Prop := ∃ y st M c, Ff W0 p X dp rq x y st M wr ∧ Cp W0 p y M cq c wr
theorem FF.next {W0 wr w2 : World} {p : Pa} {X dp rq cq : Nat} {x : Ac} (h : FF W0 p X dp rq cq x wr) (hb : Below wr.heap.size wr w2) : FF W0 p X dp rq cq x w2 := by
  obtain ⟨y, st, M, c, h, hc⟩ := h
  obtain ⟨inv, m, hB⟩ := h.both
  exact ⟨y, st, M, c, ⟨h.X, h.dp, h.rq, ⟨inv, m, hB.below hb⟩, h.fit, h.out, h.none, h.dead, h.len, h.low, h.bel.trans (hb.mono h.bel.size)⟩, hc.next hb⟩
theorem FF.bel {W0 wr : World} {p : Pa} {X dp rq cq : Nat} {x : Ac} (h : FF W0 p X dp rq cq x wr) : Below W0.heap.size W0 wr := by
  obtain ⟨y, st, M, c, h, -⟩ := h
  exact h.bel
theorem FF.cells {W0 wr : World} {p : Pa} {X dp rq cq : Nat} {x : Ac} (h : FF W0 p X dp rq cq x wr) : wr.cell? ⟨X, 0, none⟩ = some (.pointer (some ⟨dp, 0, none⟩)) ∧ wr.cell? ⟨X, 1, none⟩ = some (.int .i64 (p.a : Int)) ∧ wr.cell? ⟨X, 2, none⟩ = some (.int .i64 (p.n : Int)) ∧ wr.cell? ⟨X, 3, none⟩ = some (.int .i64 (p.g : Int)) := by
  obtain ⟨y, st, M, c, h, -⟩ := h
  obtain ⟨inv, m, hB⟩ := h.both
  obtain ⟨c0, c1, c2, c3, -⟩ := hB.reads
  rw [h.X] at c0 c1 c2 c3
  rw [h.dp] at c0
  exact ⟨c0, c1, c2, c3⟩
theorem FE.restart {w W0 wr : World} {p : Pa} {X dp rq cq : Nat} {x : Ac} {l : Al} (h : FE W0 p X dp rq cq x wr) (hw : Below w.heap.size w W0) (hin : AcIn w x l) (hk : x.kp.length ≤ 1000) :
    Calls Tryz.prog 12 #[.pointer (some ⟨dp, 0, none⟩), .slice l.ka x.kp.length l.kc] wr fun e w' => e = .returned (.tuple #[]) ∧ FF W0 p X dp rq cq x w' := by
  obtain ⟨y, st, M, c, h, hc⟩ := h
  obtain ⟨inv, m, hB⟩ := h.both
  rw [← h.dp]
  have hw0 := hw.size
  have hkept : Dsk.Kept wr y.b.d.fp l.ka x.kp := fun hn => by
    obtain ⟨b, off, e, hF, hb, hcs⟩ := hin.kr hn
    have wall : Below w.heap.size w wr := hw.trans (h.bel.mono hw.size)
    exact ⟨b, off, e, fun hf => by have := h.low b (.inr (.inl (.inr (.inl hf)))); omega, Nat.lt_of_lt_of_le hb wall.size, fun i hi => (wall.cell (p := ⟨b, off + i, none⟩) hb).trans (hcs i hi)⟩
  have few := h.few
  refine (Dsk.restart_any hB.sk.dk (by omega) x.kp l.ka l.kc (by omega) hkept).mono ?_
  rintro e w' ⟨he, d', hd, hs⟩
  obtain ⟨y', hb, hs2, e1, e2⟩ := hB.disk hd hs
  have hlen : (Dm.restart st x.kp).S.length = p.a := by
    show (Dm.settle st.S st.P x.kp).length = _
    rw [Dm.settle_length]
    exact h.len
  refine ⟨he, y', _, M, c, ⟨hs2.X.trans h.X, hs2.dp, by rw [e1]; exact h.rq, ⟨_, _, hb⟩, h.fit, h.out x.kp, rfl, rfl, hlen, fun j hj => (hs2.fp j hj).elim (h.low j) (Nat.le_trans h.bel.size), h.bel.trans (hs2.fr.below h.bel.size h.low)⟩, hc.step hs2⟩
structure Fg (W0 : World) (p : Pa) (X rq cq q : Nat) (x : Ac) (st : Dm.St) (M : Ms) (inv : Bool) (T : List Int) (b : Bk) (r c : Rb) (wr : World) : Prop where
  hq : b.q = q
  hrq : r.q = rq
  hcq : c.q = cq
  sk : Sk wr b p inv st T
  rs : Rs wr r p (actM p M x)
  cs : Rs wr c p M
  ptr : ∃ o, wr.heap[X]? = some (.cells o 48 (0, 0)) ∧ o[5]? = some (.pointer (some ⟨rq, 0, none⟩))
  fit : Fit p M
  yes : inv = true → (actM p M x).inv = true
  no : inv = false → M.inv = false ∧ Mix p (Dm.one st) M (actM p M x) T
  none : st.P = []
  dead : st.dead = false
  len : st.S.length = p.a
  bel : Below W0.heap.size W0 wr
def FG (W0 : World) (p : Pa) (X rq cq q : Nat) (x : Ac) (inv : Bool) (wr : World) : Prop := ∃ st M T b r c, Fg W0 p X rq cq q x st M inv T b r c wr
theorem FG.next {W0 wr w2 : World} {p : Pa} {X rq cq q : Nat} {x : Ac} {inv : Bool} (h : FG W0 p X rq cq q x inv wr) (hb : Below wr.heap.size wr w2) : FG W0 p X rq cq q x inv w2 := by
  obtain ⟨st, M, T, b, r, c, h⟩ := h
  obtain ⟨o, ho, ho2⟩ := h.ptr
  exact ⟨st, M, T, b, r, c, h.hq, h.hrq, h.hcq, h.sk.below hb, h.rs.below hb, h.cs.below hb, ⟨o, (hb.block _ (Dsk.lt_of_heap ho)).trans ho, ho2⟩, h.fit, h.yes, h.no, h.none, h.dead, h.len, h.bel.trans (hb.mono h.bel.size)⟩
theorem FG.bel {W0 wr : World} {p : Pa} {X rq cq q : Nat} {x : Ac} {inv : Bool} (h : FG W0 p X rq cq q x inv wr) : Below W0.heap.size W0 wr := by
  obtain ⟨st, M, T, b, r, c, h⟩ := h
  exact h.bel
theorem FG.inv {W0 wr : World} {p : Pa} {X rq cq q : Nat} {x : Ac} {inv : Bool} (h : FG W0 p X rq cq q x inv wr) : Calls Tryz.prog 14 #[.pointer (some ⟨q, 0, none⟩)] wr fun e w' => e = .returned (.bool inv) ∧ wr = w' := by
  obtain ⟨st, M, T, b, r, c, h⟩ := h
  rw [← h.hq]
  exact sinv_any h.sk
theorem FG.ptr {W0 wr : World} {p : Pa} {X rq cq q : Nat} {x : Ac} {inv : Bool} (h : FG W0 p X rq cq q x inv wr) : wr.cell? ⟨X, 5, none⟩ = some (.pointer (some ⟨rq, 0, none⟩)) := by
  obtain ⟨st, M, T, b, r, c, h⟩ := h
  obtain ⟨o, ho, ho2⟩ := h.ptr
  rw [cell_of_row _ _ _ _ _ _ ho]
  exact ho2
theorem FG.yes {W0 wr : World} {p : Pa} {X rq cq q : Nat} {x : Ac} (h : FG W0 p X rq cq q x true wr) : wr.cell? ⟨rq, 8, none⟩ = some (.bool true) := by
  obtain ⟨st, M, T, b, r, c, h⟩ := h
  obtain ⟨-, -, -, -, -, -, -, -, c8, -⟩ := h.rs.reads
  rw [h.hrq, h.yes rfl] at c8
  exact c8
theorem FG.no {W0 wr : World} {p : Pa} {X rq cq q : Nat} {x : Ac} (h : FG W0 p X rq cq q x false wr) : wr.cell? ⟨cq, 8, none⟩ = some (.bool false) := by
  obtain ⟨st, M, T, b, r, c, h⟩ := h
  obtain ⟨-, -, -, -, -, -, -, -, c8, -⟩ := h.cs.reads
  rw [h.hcq, (h.no rfl).1] at c8
  exact c8
theorem FG.found {W0 wr : World} {p : Pa} {X rq cq q : Nat} {x : Ac} (h : FG W0 p X rq cq q x false wr) (hp : p.Ok) (hk : x.k < 256) (c1 c2 c3 c4 c5 c6 c7 : Value) :
    Calls Tryz.prog 15 #[.pointer (some ⟨q, 0, none⟩), .pointer (some ⟨cq, 0, none⟩), .pointer (some ⟨rq, 0, none⟩), .agg #[.int .u8 (x.k : Int), c1, c2, c3, c4, c5, c6, c7]] wr fun e w' => e = .returned (.bool true) ∧ Below wr.heap.size wr w' := by
  obtain ⟨st, M, T, b, r, c, h⟩ := h
  rw [← h.hq, ← h.hcq, ← h.hrq]
  exact sfound_any x h.sk h.cs h.rs hp (h.no rfl).2 h.fit h.dead h.len (by rw [h.none]; decide) hk c1 c2 c3 c4 c5 c6 c7
theorem FF.open2 {W0 wr : World} {p : Pa} {X dp rq cq : Nat} {x : Ac} (h : FF W0 p X dp rq cq x wr) (hp : p.Ok) :
    Calls Tryz.prog 13 #[.pointer (some ⟨dp, 0, none⟩), .agg #[.int .i64 (p.a : Int), .int .i64 (p.n : Int), .int .i64 (p.g : Int)], .agg #[.int .i64 (p.st : Int), .int .i64 (p.ln : Int)], .int .u32 (p.gen : Int)] wr fun e w' => ∃ q inv, e = .returned (.tuple #[.pointer (some ⟨q, 0, none⟩), .int .i64 0]) ∧ FG W0 p X rq cq q x inv w' ∧ (w'.cell? ⟨X, 0, none⟩ = some (.pointer (some ⟨dp, 0, none⟩)) ∧ w'.cell? ⟨X, 1, none⟩ = some (.int .i64 (p.a : Int)) ∧ w'.cell? ⟨X, 2, none⟩ = some (.int .i64 (p.n : Int)) ∧ w'.cell? ⟨X, 3, none⟩ = some (.int .i64 (p.g : Int))) := by
  obtain ⟨y, st, M, c, h, hc⟩ := h
  obtain ⟨inv0, m0, hB⟩ := h.both
  obtain ⟨hE, hO⟩ := h.out.opened hp
  have hdp0 := h.dp
  rw [← hdp0]
  refine (open_any hp hB.sk.dk h.dead h.len (by rw [h.none]; decide)).mono ?_
  intro e w' ho
  rcases ho with ⟨-, b', he, hk2, hdp, hfp, hdf, hq, hf⟩ | ⟨h1, -⟩
  · have hX := Dsk.lt_of_heap hB.head
    have hdy : ∀ j, y.b.d.fp j → y.fp j := fun j hj => .inr (.inl (.inr (.inl hj)))
    have hh := (hf.block y.X hX (fun c => hB.bx (.inr (.inl c)))).trans hB.head
    rw [h.X] at hh
    refine ⟨b'.q, _, he, ⟨st, M, _, b', y.r, c, rfl, h.rq, hc.q, hk2, hB.rs.keep hf (fun j hr hd => hB.ap j (.inr (.inl hd)) hr), hc.rs.keep hf (fun j hj hd => hc.ap j hj (hdy j hd)), ⟨_, hh, ?_⟩, h.fit, ?_, ?_, h.none, h.dead, h.len, h.bel.trans (hf.below h.bel.size fun j hj => h.low j (hdy j hj))⟩, ?_, ?_, ?_, ?_⟩
    · show some (Value.pointer (some ⟨y.r.q, 0, none⟩)) = _
      rw [h.rq]
    · intro hi
      rcases hO with ⟨-, -, h3⟩ | ⟨h2, -⟩
      · exact h3
      · rw [hi] at h2; cases h2
    · intro hi
      rcases hO with ⟨h2, -⟩ | ⟨-, h3, h4⟩
      · rw [hi] at h2; cases h2
      · exact ⟨h3, h4⟩
    · rw [cell_of_row _ _ _ _ _ _ hh]; rfl
    · rw [cell_of_row _ _ _ _ _ _ hh]; rfl
    · rw [cell_of_row _ _ _ _ _ _ hh]; rfl
    · rw [cell_of_row _ _ _ _ _ _ hh]; rfl
  · rw [hE] at h1
    cases h1
theorem AcIn.up {w w' : World} {x : Ac} {l : Al} (h : AcIn w x l) (hb : Below w.heap.size w w') : AcIn w' x l :=
  ⟨h.k, h.o, h.f, h.n, h.d, h.cs, h.csd, h.cr.below hb, h.rm, h.rmd, h.rr.below hb, h.kp, fun hn => by
    obtain ⟨b, off, e, hF, hlt, hc⟩ := h.kr hn
    exact ⟨b, off, e, fun c => by have c : w'.heap.size ≤ b := c; have := hb.size; omega, Nat.lt_of_lt_of_le hlt hb.size, fun i hi => (hb.cell (p := ⟨b, off + i, none⟩) hlt).trans (hc i hi)⟩⟩
end So
end Go.Proofs.YtbmabcddciibfaaGreat
namespace Go.Proofs.YtbmabcddciibfaaGreat
namespace So
set_option linter.unusedVariables false
set_option maxRecDepth 100000
def al : Pa := ⟨60, 20, 2, 40, 8, 3, 5⟩
theorem al_ok : al.Ok := ⟨by decide, by decide, by decide, by decide, by decide, by decide, by decide⟩
theorem al_six : ({ al with gen := 6 } : Pa).Ok := ⟨by decide, by decide, by decide, by decide, by decide, by decide, by decide⟩
def ch (c : UInt8) : List UInt8 := Dm.pad [c] ++ Dm.pad [c]
theorem pad_len (c : UInt8) : (Dm.pad [c]).length = 64 := rfl
def al1 : List (Int × List UInt8) := [(7, ch 97), (2, ch 98)]
def al2 : List (Int × List UInt8) := [(1, ch 99), (4, ch 100)]
def alM0 : Ms := Ms.new al
theorem alE1 : addE false [-1, -1, -1] 2 al1 = 0 := by kernel_rfl
theorem alP1 : putsM [-1, -1, -1] al1 = [7, 2, -1] := by kernel_rfl
theorem alE2 : addE false [7, 2, -1] 2 al2 = 111 := by kernel_rfl
theorem alE3 : remE false [7, 2, -1] [7] = 0 := by kernel_rfl
theorem alP3 : dropsM [7, 2, -1] [7] = [-1, 2, -1] := by kernel_rfl
def alM1 : Ms := addM al alM0 al1
def alM3 : Ms := remM alM1 [7]
theorem alT1 : alM1.T = [7, 2, -1] ∧ alM1.inv = false := by
  have e : alM1 = alM0.adds al1 := by unfold alM1 addM; rw [if_pos]; exact alE1
  rw [e]
  exact ⟨alP1, rfl⟩
theorem alT3 : alM3.T = [-1, 2, -1] ∧ alM3.inv = false := by
  have e : alM3 = alM1.drops [7] := by unfold alM3 remM; rw [if_pos]; rw [alT1.1, alT1.2]; exact alE3
  rw [e]
  refine ⟨?_, alT1.2⟩
  show dropsM alM1.T [7] = _
  rw [alT1.1]
  exact alP3
theorem alD3 : alM3.D.getD 1 [] = ch 98 := by kernel_rfl
theorem alTab3 : alM3.tab = [-1, 2, -1] := by unfold Ms.tab; rw [alT3.2, if_neg (by decide), alT3.1]
theorem alFind : Tb.find [-1, 2, -1] 2 = some 1 := by kernel_rfl
theorem alAll : Tb.all [-1, 2, -1] = [(2, 1)] := by
  have e : Tb.used [-1, 2, -1] = [2] := rfl
  have k : Tb.keys [-1, 2, -1] = [2] := by
    unfold Tb.keys
    rw [e]
    exact List.mergeSort_singleton 2
  unfold Tb.all
  rw [k]
  rfl
theorem alRead : readE al alM3 2 1 1 = 0 ∧ readV al alM3 2 1 1 = Dm.pad [98] := by
  have hf : Tb.find alM3.T 2 = some 1 := by rw [alT3.1]; exact alFind
  have h1 : findE alM3 2 = 0 := by unfold findE; rw [alT3.2, if_neg (by decide), hf]; rfl
  have h2 : readE al alM3 2 1 1 = 0 := by unfold readE; rw [if_pos h1]; rfl
  refine ⟨h2, ?_⟩
  unfold readV
  rw [if_pos h2]
  have hp : findP alM3 2 = 1 := by unfold findP; rw [hf]; rfl
  rw [hp, alD3]
  rfl
def alS0 : Dm.St := (runs (Dm.fresh 60) (creOps al)).1
theorem alL0 : Live al alS0 alM0 ∧ alS0.P = [] := ⟨(live_cre al_ok).2.1, (live_cre al_ok).2.2⟩
def alS1 : Dm.St := (runs alS0 (addOps al [-1, -1, -1] al1 (pagesOf (putsP [-1, -1, -1] al1)))).1
theorem alL1 : (runs alS0 (addOps al [-1, -1, -1] al1 (pagesOf (putsP [-1, -1, -1] al1)))).2 = 0 ∧ Live al alS1 alM1 := by
  have h := next_add al_ok alL0.1 (l := al1) (ops := addOps al [-1, -1, -1] al1 (pagesOf (putsP [-1, -1, -1] al1))) (.inr ⟨alE1, by decide, _, pagesOf_chg _, rfl⟩)
  exact ⟨h.done, h.live⟩
def alS3 : Dm.St := (runs alS1 (remOps al [7, 2, -1] [7] (pagesOf (dropsP [7, 2, -1] [7])))).1
theorem alL3 : (runs alS1 (remOps al [7, 2, -1] [7] (pagesOf (dropsP [7, 2, -1] [7])))).2 = 0 ∧ Live al alS3 alM3 := by
  have h := next_rem al_ok alL1.2 (l := [7]) (ops := remOps al [7, 2, -1] [7] (pagesOf (dropsP [7, 2, -1] [7]))) (.inr ⟨by rw [alT1.1, alT1.2]; exact alE3, by decide, _, by rw [alT1.1]; exact pagesOf_chg _, by rw [alT1.1]⟩)
  exact ⟨h.done, h.live⟩
theorem alP0 : alS0.P.length = 0 := by rw [alL0.2]; rfl
theorem alPe1 : alS1.P = [] := by
  have h := alL1.1
  unfold alS1
  unfold addOps at h ⊢
  rw [← List.append_assoc] at h ⊢
  exact runs_fl h
theorem alPe3 : alS3.P = [] := by
  have h := alL3.1
  unfold alS3
  unfold remOps at h ⊢
  exact runs_fl h
theorem alOpen : openE al (Dm.one alS3) = 0 ∧ openI (Dm.one alS3) al = false ∧ openT al (Dm.one alS3) = [-1, 2, -1] := by
  have h := open_stand al_ok alL3.2.stand alL3.2.fit
  rw [alT3.2, alTab3] at h
  exact h
theorem alOther : openE { al with gen := 6 } (Dm.one alS3) = 165 := open_gen al_ok 6 (by decide) alL3.2.stand.head
theorem alRd : Dm.readS alS3 ((al.data 1 : Int) + 1) 1 = Dm.pad [98] := by
  have h := live_read al_ok alL3.2 alRead.1
  rw [alRead.2] at h
  have e : findP alM3 2 = 1 := by unfold findP; rw [alT3.1, alFind]; rfl
  rw [e] at h
  exact h.2
end So
end Go.Proofs.YtbmabcddciibfaaGreat
