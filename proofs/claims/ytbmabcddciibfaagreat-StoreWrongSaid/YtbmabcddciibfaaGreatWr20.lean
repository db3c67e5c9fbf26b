/- Part 20 of the contracts and of the plain mathematics that the proof of the law rests on: StoWrP, StoPgs, StoMay. -/
import Derived.Test.YtbmabcddciibfaaGreatWr08
import Derived.Test.YtbmabcddciibfaaGreatWr16
import Derived.Test.YtbmabcddciibfaaGreatWr18
import Derived.Test.YtbmabcddciibfaaGreatWr19
import Derived.LoopTactic
namespace Go.Proofs.YtbmabcddciibfaaGreat
namespace So
open Go.RowKit
set_option maxRecDepth 100000
set_option linter.unusedVariables false
theorem swp_ok {w : World} {b : Bk} {p : Pa} {inv : Bool} {st : Dm.St} {m : List Int} (h : Sk w b p inv st m) (hp : p.Ok) (hP : st.P.length ≤ 549755813888) (hm : m.length = p.N) {i : Nat} (hi : i < p.pg) (h0 : (Dm.write st (p.page i : Int) (Pm.sector p.gen (Tb.page m i))).2 = 0) :
    Calls Tryz.prog 110 #[.pointer (some ⟨b.q, 0, none⟩), .int .i64 (i : Int)] w fun e w' => e = .returned (.tuple #[]) ∧ SWent b p inv (Dm.write st (p.page i : Int) (Pm.sector p.gen (Tb.page m i))).1 m w w' := by
  have PG := Lib.hid (fun w1 => spage_ok hp hi w1)
  have hin := Pa.page_in hp hi
  have hhi := hp.high
  have ha1 := hp.nums.a1
  obtain ⟨k, hk⟩ : ∃ k, k = ((p.page i : Nat) : Int) := ⟨_, rfl⟩
  have hk2 : k ≤ 1048576 := by omega
  rw [← hk] at PG h0 ⊢
  have MI := Lib.hid (fun w1 => mustI_ok k w1)
  have ML := Lib.hid (fun v w1 => mustL_ok v w1)
  have hpl : i < Tb.pagesN m.length := by rw [hm]; exact hi
  have TP : Hid (∀ w1, Below w.heap.size w w1 → Calls Tryz.prog 140 #[.pointer (some ⟨b.t.p, 0, none⟩), .int .i64 (i : Int)] w1 (Tb.MadeP (Tb.page m i) 0 w1)) := Lib.hid fun w1 hb => by
    have := Tb.page_any (h.below hb).tm (i : Int)
    rwa [Tb.pageL_in hpl, Tb.pageE_in hpl] at this
  have EN : Hid (∀ w1 v, Tb.Ints w1 v (Tb.page m i) → Calls Tryz.prog 141 #[.int .u32 (p.gen : Int), v] w1 fun e w' => e = .returned (.tuple #[.string (Om.B (Pm.sector p.gen (Tb.page m i))), .int .i64 0]) ∧ Below w1.heap.size w1 w') := Lib.hid fun w1 v hv => penc_row hp (page_okL h.tm.ok i) hv
  have hlen : (Pm.sector p.gen (Tb.page m i)).length = 64 := Pm.sector_len _ _
  obtain ⟨ls, hls⟩ : ∃ l, l = Tb.page m i := ⟨_, rfl⟩
  rw [← hls] at EN TP h0 hlen ⊢
  obtain ⟨d, hd⟩ : ∃ d, d = Pm.sector p.gen ls := ⟨_, rfl⟩
  rw [← hd] at EN h0 hlen ⊢
  clear hd hls hpl
  have MU := Lib.hid (fun w1 => mustS_ok (.string (Om.B d)) w1)
  obtain ⟨x, hx⟩ : ∃ x, x = (Dm.write st k d).2 := ⟨_, rfl⟩
  have WR : Hid (∀ w1, Below w.heap.size w w1 → Calls Tryz.prog 62 #[.pointer (some ⟨b.d.p, 0, none⟩), .int .i64 k, .string (Om.B d)] w1 fun e w' => e = .returned (.int .i64 x) ∧ SWent b p inv (Dm.write st k d).1 m w w') := Lib.hid fun w1 hb => by
    have := Dsk.write_any (h.below hb).dk k d (by omega) (by omega) hP
    rw [← hx] at this
    exact this.mono fun e w' ⟨e1, e2⟩ => ⟨e1, ((h.below hb).went e2).below hb⟩
  have HB : Hid (∀ w1, Below w.heap.size w w1 → Sk w1 b p inv st m) := Lib.hid fun w1 hb => h.below hb
  rw [← hx] at h0
  subst h0
  have NE := Lib.hid (fun w1 => need_ok w1)
  obtain ⟨c0, c1, c2, -, c4, c5, -, -, -, -, -, cf⟩ := h.reads
  obtain ⟨st', hst'⟩ : ∃ s, s = (Dm.write st k d).1 := ⟨_, rfl⟩
  rw [← hst'] at WR ⊢
  clear h hP hp hst' hx hlen hin hhi ha1 hk hk2 hm hi
  go_enter Tryz.func110, Tryz.ntmps110
  go_wp2_with fail
  go_region_held3 (fun w' => w'.cell? ⟨b.q, 0, none⟩ = some (.int .i64 (p.a : Int)) ∧ w'.cell? ⟨b.q, 1, none⟩ = some (.int .i64 (p.n : Int)) ∧ w'.cell? ⟨b.q, 2, none⟩ = some (.int .i64 (p.g : Int)) ∧ w'.cell? ⟨b.q, 4, none⟩ = some (.int .i64 (p.st : Int)) ∧ w'.cell? ⟨b.q, 5, none⟩ = some (.int .i64 (p.ln : Int)))
    (first | (refine ⟨?_, ?_, ?_, ?_, ?_⟩ <;> assumption) | go_keep)
    (first
      | (go_at_call 124; refine (PG.out _).mono ?_; rintro e w1 ⟨rfl, hb⟩; have B1 := Lib.hid (drew_below hb); have k1 := HB.out _ B1.out; obtain ⟨q0, q1, q2, -, q4, q5, -, -, -, -, q10, qf⟩ := k1.reads; clear k1 hb)
      | (go_at_call 100; refine (MI.out _).mono ?_; rintro e w2 ⟨rfl, rfl⟩))
  clear c0 c1 c2 c4 c5 cf q0 q1 q2 q4 q5
  go_wp2_with fail
  refine (TP.out _ B1.out).mono ?_
  rintro e w2 ⟨v, rfl, hv, _, hb⟩
  have VI := Lib.hid hv
  have B2 := Lib.hid (B1.out.trans (hb.mono B1.out.size))
  have k2 := HB.out _ B2.out
  obtain ⟨-, -, -, u3, -, -, u6, -, -, -, -, uf⟩ := k2.reads
  clear hb hv k2 q10 qf
  go_wp2_with fail
  refine (ML.out _ _).mono ?_
  rintro e w3 ⟨rfl, rfl⟩
  go_wp2_with fail
  go_region_held3 (fun w' => w'.cell? ⟨b.q, 3, none⟩ = some (.pointer (some ⟨b.d.p, 0, none⟩)) ∧ w'.cell? ⟨b.q, 6, none⟩ = some (.int .u32 (p.gen : Int)))
    (first | (refine ⟨?_, ?_⟩ <;> assumption) | go_keep)
    (first
      | (go_at_call 141; refine (EN.out _ _ (ints_drew VI.out)).mono ?_; rintro e w4 ⟨rfl, hb⟩; have B4 := Lib.hid (B2.out.trans ((drew_below hb).mono B2.out.size)); have k4 := HB.out _ B4.out; obtain ⟨-, -, -, v3, -, -, v6, -, -, -, -, vf⟩ := k4.reads; clear k4 hb)
      | (go_at_call 55; refine (MU.out _).mono ?_; rintro e w5 ⟨rfl, rfl⟩)
      | (go_at_call 62; refine (WR.out _ B4.out).mono ?_; rintro e w6 ⟨rfl, hw⟩; have W6 := Lib.hid hw; obtain ⟨b6, k6, s6⟩ := hw; have r6 := k6.reads; rw [s6.q, s6.dp] at r6; obtain ⟨-, -, -, x3, -, -, x6, -, -, -, -, xf⟩ := r6; clear k6 s6)
      | (go_at_call 61; refine (NE.out _).mono ?_; rintro e w7 ⟨rfl, rfl⟩))
  go_end0
  exact ⟨rfl, W6.out⟩
theorem swp_no {w : World} {b : Bk} {p : Pa} {inv : Bool} {st : Dm.St} {m : List Int} (h : Sk w b p inv st m) (hp : p.Ok) (hP : st.P.length ≤ 549755813888) (hm : m.length = p.N) {i : Nat} (hi : i < p.pg) (h0 : (Dm.write st (p.page i : Int) (Pm.sector p.gen (Tb.page m i))).2 ≠ 0) :
    Calls Tryz.prog 110 #[.pointer (some ⟨b.q, 0, none⟩), .int .i64 (i : Int)] w fun e w' => e = faultE (Dm.write st (p.page i : Int) (Pm.sector p.gen (Tb.page m i))).2 ∧ SWent b p inv (Dm.write st (p.page i : Int) (Pm.sector p.gen (Tb.page m i))).1 m w w' := by
  have PG := Lib.hid (fun w1 => spage_ok hp hi w1)
  have hin := Pa.page_in hp hi
  have hhi := hp.high
  have ha1 := hp.nums.a1
  obtain ⟨k, hk⟩ : ∃ k, k = ((p.page i : Nat) : Int) := ⟨_, rfl⟩
  have hk2 : k ≤ 1048576 := by omega
  rw [← hk] at PG h0 ⊢
  have MI := Lib.hid (fun w1 => mustI_ok k w1)
  have ML := Lib.hid (fun v w1 => mustL_ok v w1)
  have hpl : i < Tb.pagesN m.length := by rw [hm]; exact hi
  have TP : Hid (∀ w1, Below w.heap.size w w1 → Calls Tryz.prog 140 #[.pointer (some ⟨b.t.p, 0, none⟩), .int .i64 (i : Int)] w1 (Tb.MadeP (Tb.page m i) 0 w1)) := Lib.hid fun w1 hb => by
    have := Tb.page_any (h.below hb).tm (i : Int)
    rwa [Tb.pageL_in hpl, Tb.pageE_in hpl] at this
  have EN : Hid (∀ w1 v, Tb.Ints w1 v (Tb.page m i) → Calls Tryz.prog 141 #[.int .u32 (p.gen : Int), v] w1 fun e w' => e = .returned (.tuple #[.string (Om.B (Pm.sector p.gen (Tb.page m i))), .int .i64 0]) ∧ Below w1.heap.size w1 w') := Lib.hid fun w1 v hv => penc_row hp (page_okL h.tm.ok i) hv
  have hlen : (Pm.sector p.gen (Tb.page m i)).length = 64 := Pm.sector_len _ _
  obtain ⟨ls, hls⟩ : ∃ l, l = Tb.page m i := ⟨_, rfl⟩
  rw [← hls] at EN TP h0 hlen ⊢
  obtain ⟨d, hd⟩ : ∃ d, d = Pm.sector p.gen ls := ⟨_, rfl⟩
  rw [← hd] at EN h0 hlen ⊢
  clear hd hls hpl
  have MU := Lib.hid (fun w1 => mustS_ok (.string (Om.B d)) w1)
  obtain ⟨x, hx⟩ : ∃ x, x = (Dm.write st k d).2 := ⟨_, rfl⟩
  have WR : Hid (∀ w1, Below w.heap.size w w1 → Calls Tryz.prog 62 #[.pointer (some ⟨b.d.p, 0, none⟩), .int .i64 k, .string (Om.B d)] w1 fun e w' => e = .returned (.int .i64 x) ∧ SWent b p inv (Dm.write st k d).1 m w w') := Lib.hid fun w1 hb => by
    have := Dsk.write_any (h.below hb).dk k d (by omega) (by omega) hP
    rw [← hx] at this
    exact this.mono fun e w' ⟨e1, e2⟩ => ⟨e1, ((h.below hb).went e2).below hb⟩
  have HB : Hid (∀ w1, Below w.heap.size w w1 → Sk w1 b p inv st m) := Lib.hid fun w1 hb => h.below hb
  rw [← hx] at h0 ⊢
  have NE := Lib.hid (fun w1 => need_no x h0 w1)
  obtain ⟨c0, c1, c2, -, c4, c5, -, -, -, -, -, cf⟩ := h.reads
  obtain ⟨st', hst'⟩ : ∃ s, s = (Dm.write st k d).1 := ⟨_, rfl⟩
  rw [← hst'] at WR ⊢
  clear h hP hp hst' hx hlen h0 hin hhi ha1 hk hk2 hm hi
  unfold faultE at NE ⊢
  go_enter Tryz.func110, Tryz.ntmps110
  go_wp2_with fail
  go_region_held3 (fun w' => w'.cell? ⟨b.q, 0, none⟩ = some (.int .i64 (p.a : Int)) ∧ w'.cell? ⟨b.q, 1, none⟩ = some (.int .i64 (p.n : Int)) ∧ w'.cell? ⟨b.q, 2, none⟩ = some (.int .i64 (p.g : Int)) ∧ w'.cell? ⟨b.q, 4, none⟩ = some (.int .i64 (p.st : Int)) ∧ w'.cell? ⟨b.q, 5, none⟩ = some (.int .i64 (p.ln : Int)))
    (first | (refine ⟨?_, ?_, ?_, ?_, ?_⟩ <;> assumption) | go_keep)
    (first
      | (go_at_call 124; refine (PG.out _).mono ?_; rintro e w1 ⟨rfl, hb⟩; have B1 := Lib.hid (drew_below hb); have k1 := HB.out _ B1.out; obtain ⟨q0, q1, q2, -, q4, q5, -, -, -, -, q10, qf⟩ := k1.reads; clear k1 hb)
      | (go_at_call 100; refine (MI.out _).mono ?_; rintro e w2 ⟨rfl, rfl⟩))
  clear c0 c1 c2 c4 c5 cf q0 q1 q2 q4 q5
  go_wp2_with fail
  refine (TP.out _ B1.out).mono ?_
  rintro e w2 ⟨v, rfl, hv, _, hb⟩
  have VI := Lib.hid hv
  have B2 := Lib.hid (B1.out.trans (hb.mono B1.out.size))
  have k2 := HB.out _ B2.out
  obtain ⟨-, -, -, u3, -, -, u6, -, -, -, -, uf⟩ := k2.reads
  clear hb hv k2 q10 qf
  go_wp2_with fail
  refine (ML.out _ _).mono ?_
  rintro e w3 ⟨rfl, rfl⟩
  go_wp2_with fail
  go_region_held (fun w' => w'.cell? ⟨b.q, 3, none⟩ = some (.pointer (some ⟨b.d.p, 0, none⟩)) ∧ w'.cell? ⟨b.q, 6, none⟩ = some (.int .u32 (p.gen : Int)))
    (first | (refine ⟨?_, ?_⟩ <;> assumption) | go_keep)
    (first
      | (go_at_call 141; refine (EN.out _ _ (ints_drew VI.out)).mono ?_; rintro e w4 ⟨rfl, hb⟩; have B4 := Lib.hid (B2.out.trans ((drew_below hb).mono B2.out.size)); have k4 := HB.out _ B4.out; obtain ⟨-, -, -, v3, -, -, v6, -, -, -, -, vf⟩ := k4.reads; clear k4 hb)
      | (go_at_call 55; refine (MU.out _).mono ?_; rintro e w5 ⟨rfl, rfl⟩)
      | (go_at_call 62; refine (WR.out _ B4.out).mono ?_; rintro e w6 ⟨rfl, hw⟩; have W6 := Lib.hid hw; obtain ⟨b6, k6, s6⟩ := hw; have r6 := k6.reads; rw [s6.q, s6.dp] at r6; obtain ⟨-, -, -, x3, -, -, x6, -, -, -, -, xf⟩ := r6; clear k6 s6)
      | (go_at_call 61; refine (NE.out _).mono ?_; rintro e w7 ⟨rfl, rfl⟩; refine Classical.byContradiction fun hn => ?_; have hno : False := hn ⟨rfl, rfl, W6.out⟩; clear hn; refine way_out (by assumption) hno { tmps := #[], defers := [] } w6 ?_))
  exact hno.elim
theorem swp_any {w : World} {b : Bk} {p : Pa} {inv : Bool} {st : Dm.St} {m : List Int} (h : Sk w b p inv st m) (hp : p.Ok) (hP : st.P.length ≤ 549755813888) (hm : m.length = p.N) {i : Nat} (hi : i < p.pg) :
    Calls Tryz.prog 110 #[.pointer (some ⟨b.q, 0, none⟩), .int .i64 (i : Int)] w fun e w' => e = endE (step st (pageOp p m i)).2 ∧ SWent b p inv (step st (pageOp p m i)).1 m w w' := by
  show Calls _ _ _ _ fun e w' => e = endE (Dm.write st (p.page i : Int) (Pm.sector p.gen (Tb.page m i))).2 ∧ SWent b p inv (Dm.write st (p.page i : Int) (Pm.sector p.gen (Tb.page m i))).1 m w w'
  by_cases h0 : (Dm.write st (p.page i : Int) (Pm.sector p.gen (Tb.page m i))).2 = 0
  · rw [h0]
    exact swp_ok h hp hP hm hi h0
  · rw [endE_no h0]
    exact swp_no h hp hP hm hi h0
end So
end Go.Proofs.YtbmabcddciibfaaGreat
namespace Go.Proofs.YtbmabcddciibfaaGreat
namespace So
open Go.RowKit
set_option maxRecDepth 100000
set_option linter.unusedVariables false
theorem runs_stop {st : Dm.St} {A B : List Op} {o : Op} (h : (runs st A).2 = 0) (h2 : (step (runs st A).1 o).2 ≠ 0) : runs st (A ++ o :: B) = step (runs st A).1 o := by
  rw [runs_app_yes _ h, runs_no _ h2]
theorem runs_more {st : Dm.St} {A : List Op} {o : Op} (h : (runs st A).2 = 0) : runs st (A ++ [o]) = step (runs st A).1 o := by
  rw [runs_app_yes _ h, runs_one_op]
def pagesI (ps : List Nat) : List Int := Lib.compact (sorted (ps.map fun (q : Nat) => ((q / 13 : Nat) : Int)))
def pagesOf (ps : List Nat) : List Nat := (pagesI ps).map Int.toNat
theorem pagesI_mem (ps : List Nat) (x : Int) : x ∈ pagesI ps ↔ ∃ q ∈ ps, ((q / 13 : Nat) : Int) = x := by
  unfold pagesI
  rw [compact_mem, sorted_mem, List.mem_map]
theorem pagesI_length (ps : List Nat) : (pagesI ps).length ≤ ps.length := by
  have := compact_length_le (sorted (ps.map fun (q : Nat) => ((q / 13 : Nat) : Int)))
  rw [sorted_length, List.length_map] at this
  exact this
theorem pagesOf_length (ps : List Nat) : (pagesOf ps).length = (pagesI ps).length := List.length_map ..
theorem pagesOf_chg (ps : List Nat) : Chg ps (pagesOf ps) := by
  intro i
  unfold pagesOf
  rw [List.mem_map]
  constructor
  · rintro ⟨x, hx, rfl⟩
    obtain ⟨q, hq, rfl⟩ := (pagesI_mem ps x).1 hx
    exact ⟨q, hq, by omega⟩
  · rintro ⟨q, hq, rfl⟩
    exact ⟨((q / 13 : Nat) : Int), (pagesI_mem ps _).2 ⟨q, hq, rfl⟩, by omega⟩
theorem pagesOf_get {ps : List Nat} {k : Nat} (h : k < (pagesI ps).length) : ∃ i : Nat, (pagesI ps)[k]? = some (i : Int) ∧ (pagesOf ps)[k]? = some i ∧ ∃ q ∈ ps, q / 13 = i := by
  have hx := List.getElem?_eq_getElem h
  obtain ⟨q, hq, e⟩ := (pagesI_mem ps _).1 (List.getElem_mem h)
  refine ⟨q / 13, by rw [hx, ← e], ?_, q, hq, rfl⟩
  unfold pagesOf
  rw [List.getElem?_map, hx, Option.map_some, ← e, Int.toNat_natCast]
theorem pageOps_take {p : Pa} {m : List Int} {cs : List Nat} {k i : Nat} (h : cs[k]? = some i) : pageOps p m (cs.take (k + 1)) = pageOps p m (cs.take k) ++ [pageOp p m i] := by
  obtain ⟨hk, e⟩ := List.getElem?_eq_some_iff.1 h
  unfold pageOps
  rw [List.take_succ_eq_append_getElem hk, List.map_append, e]
  rfl
theorem pageOps_split {p : Pa} {m : List Int} {cs : List Nat} {k i : Nat} (h : cs[k]? = some i) : pageOps p m cs = pageOps p m (cs.take k) ++ pageOp p m i :: pageOps p m (cs.drop (k + 1)) := by
  obtain ⟨hk, e⟩ := List.getElem?_eq_some_iff.1 h
  unfold pageOps
  conv => lhs; rw [← List.take_append_drop k cs, List.drop_eq_getElem_cons hk, e]
  rw [List.map_append, List.map_cons]
theorem pageOps_sec (p : Pa) (m : List Int) (cs : List Nat) : ((pageOps p m cs).map sec).sum = cs.length := by
  induction cs with
  | nil => rfl
  | cons i cs ih =>
    show sec (pageOp p m i) + ((pageOps p m cs).map sec).sum = _
    rw [ih, List.length_cons]
    show (Pm.sector p.gen (Tb.page m i)).length / 64 + cs.length = _
    rw [Pm.sector_len]
    omega
theorem fr_cell {F : Nat → Prop} {w w' : World} (h : Dsk.Fr F w w') {g off : Nat} (hg : g < w.heap.size) (hn : ¬ F g) : w'.cell? ⟨g, off, none⟩ = w.cell? ⟨g, off, none⟩ := cell_same (p := ⟨g, off, none⟩) (h.block g hg hn)
theorem rd_keep {F : Nat → Prop} {w w' : World} {a : Option Addr} {l : List Int} (h : Tb.Rd w a l) (hf : Dsk.Fr F w w') (hn : ∀ g off, a = some ⟨g, off, none⟩ → ¬ F g) : Tb.Rd w' a l := fun hne => by
  obtain ⟨g, off, ha, hg, hc⟩ := h hne
  refine ⟨g, off, ha, Nat.lt_of_lt_of_le hg hf.size, fun i x hx => ?_⟩
  rw [fr_cell hf hg (hn g off ha)]
  exact hc i x hx
structure PgAt (w2 : World) (b : Bk) (p : Pa) (inv : Bool) (st : Dm.St) (m : List Int) (cs : List Nat) (k : Nat) (wr : World) : Prop where
  done : (runs st (pageOps p m (cs.take k))).2 = 0
  went : SWent b p inv (runs st (pageOps p m (cs.take k))).1 m w2 wr
theorem PgAt.next {w2 wr w3 : World} {b b' : Bk} {p : Pa} {inv : Bool} {st : Dm.St} {m : List Int} {cs : List Nat} {k i : Nat} (h : PgAt w2 b p inv st m cs k wr) (hs : Sp b b' w2 wr) (hc : cs[k]? = some i)
    (h0 : (step (runs st (pageOps p m (cs.take k))).1 (pageOp p m i)).2 = 0) (hw : SWent b' p inv (step (runs st (pageOps p m (cs.take k))).1 (pageOp p m i)).1 m wr w3) : PgAt w2 b p inv st m cs (k + 1) w3 := by
  have e : runs st (pageOps p m (cs.take (k + 1))) = step (runs st (pageOps p m (cs.take k))).1 (pageOp p m i) := by rw [pageOps_take hc, runs_more h.done]
  exact ⟨by rw [e]; exact h0, by rw [e]; exact SWent.trans hs hw⟩
theorem PgAt.stop {w2 wr w3 : World} {b b' : Bk} {p : Pa} {inv : Bool} {st : Dm.St} {m : List Int} {cs : List Nat} {k i : Nat} (B : List Op) (h : PgAt w2 b p inv st m cs k wr) (hs : Sp b b' w2 wr) (hc : cs[k]? = some i)
    (h0 : (step (runs st (pageOps p m (cs.take k))).1 (pageOp p m i)).2 ≠ 0) (hw : SWent b' p inv (step (runs st (pageOps p m (cs.take k))).1 (pageOp p m i)).1 m wr w3) :
    (runs st (pageOps p m cs ++ B)).2 = (step (runs st (pageOps p m (cs.take k))).1 (pageOp p m i)).2 ∧ SWent b p inv (runs st (pageOps p m cs ++ B)).1 m w2 w3 := by
  have e : runs st (pageOps p m cs ++ B) = step (runs st (pageOps p m (cs.take k))).1 (pageOp p m i) := by rw [pageOps_split hc, List.append_assoc, List.cons_append, runs_stop h.done h0]
  exact ⟨by rw [e], by rw [e]; exact SWent.trans hs hw⟩
theorem quo_nat (q : Nat) : (q : Int).tdiv 13 = ((q / 13 : Nat) : Int) := by rw [Int.tdiv_eq_ediv_of_nonneg (by omega)]; rfl
set_option maxHeartbeats 1000000 in
theorem swps_any {w : World} {b : Bk} {p : Pa} {inv : Bool} {st : Dm.St} {m : List Int} (h : Sk w b p inv st m) (hp : p.Ok) (hm : m.length = p.N) {ps : List Nat} (hps : ∀ q ∈ ps, q < p.N) (hl : ps.length ≤ 1048576) (hP : st.P.length ≤ 274877906944)
    (a : Option Addr) (c : Nat) (hr : Tb.Rd w a (ps.map fun (q : Nat) => (q : Int))) :
    Calls Tryz.prog 103 #[.pointer (some ⟨b.q, 0, none⟩), .slice a ps.length c] w fun e w' =>
      e = endE (runs st (pageOps p m (pagesOf ps) ++ [.fl])).2 ∧ SWent b p inv (runs st (pageOps p m (pagesOf ps) ++ [.fl])).1 m w w' := by
  obtain ⟨n, hn⟩ : ∃ n, n = ps.length := ⟨_, rfl⟩
  rw [← hn] at hl ⊢
  have HN := Lib.hid hn
  have HSK := Lib.hid h
  have HR : Hid (∀ wr, Below w.heap.size w wr → Tb.Rd wr a (ps.map fun (q : Nat) => (q : Int))) := Lib.hid fun wr hb => hr.below hb
  have HST := Lib.hid (⟨hp, hm, hps, hP⟩ : p.Ok ∧ m.length = p.N ∧ (∀ q ∈ ps, q < p.N) ∧ st.P.length ≤ 274877906944)
  obtain ⟨L, hL⟩ : ∃ L, L = ps.map fun (q : Nat) => ((q / 13 : Nat) : Int) := ⟨_, rfl⟩
  have HL := Lib.hid hL
  clear h hr hp hm hps hP hn hL
  go_enter Tryz.func103, Tryz.ntmps103
  go_wp2
  go_loopw [11, 4] (fun i s wr => ∃ (k : Nat) (v : Value), i = .int .i64 (k : Int) ∧ s = v ∧ k ≤ n ∧ Hid (Tb.Grows w (L.take k) v k wr)) (fun i _ _ => n - (Lib.intOf i).toNat)
  case atStart => exact ⟨0, _, rfl, rfl, Nat.zero_le _, Lib.hid (by rw [List.take_zero]; exact Tb.Grows.nil (Below.refl _ _))⟩
  case round =>
    obtain ⟨k, v, rfl, rfl, hk, hg⟩ := hrel
    by_cases hlt : k < n
    · have d1 : decide ((k : Int) < (n : Int)) = true := by simp; omega
      have d2 : decide (k < n) = true := by simp; omega
      have hkp : k < ps.length := by have := HN.out; omega
      obtain ⟨q, hq⟩ : ∃ q, ps[k]? = some q := ⟨ps[k], List.getElem?_eq_getElem hkp⟩
      have hql := HST.out.2.2.1 q (List.mem_of_getElem? hq)
      have hN1 := HST.out.1.nums.N1
      have hqm : (ps.map fun (q : Nat) => (q : Int))[k]? = some (q : Int) := by rw [List.getElem?_map, hq]; rfl
      obtain ⟨g, off, hab, hb, hc⟩ := (HR.out wr hg.out.below) (fun e => by rw [e] at hqm; simp at hqm)
      subst hab
      have hc := hc k (q : Int) hqm
      have hLk : L[k]? = some ((q / 13 : Nat) : Int) := by rw [HL.out, List.getElem?_map, hq]; rfl
      have hLs : L.take (k + 1) = L.take k ++ [((q / 13 : Nat) : Int)] := by
        obtain ⟨h1, h2⟩ := List.getElem?_eq_some_iff.1 hLk
        rw [List.take_succ_eq_append_getElem h1, h2]
      obtain ⟨y, hy⟩ : ∃ y, y = ((q / 13 : Nat) : Int) := ⟨_, rfl⟩
      have e1 : (q : Int).tdiv 13 = y := by rw [hy]; exact quo_nat q
      have e2 : IntKind.i64.wrap y = y := IntWalk.i64_in _ (by omega)
      rw [← hy] at hLs
      have HLS := Lib.hid hLs
      have HGL := Lib.hid hg.out.len
      obtain ⟨va, vc, hv⟩ := Dsk.own_slice hg.out.row
      subst hv
      have OWN := Lib.hid (hg.out.own y)
      have hw1 : IntKind.i64.wrap ((k : Int) + 1) = ((k + 1 : Nat) : Int) := by rw [IntWalk.i64_in _ (by omega)]; rfl
      clear hq hql hN1 hqm hLk hLs hy hkp hb
      go_wp2_with (at_builtin; refine Tb.wpList_addN rfl (.tmp 15) (.tmp 18) 31 Tryz.underlying31 rfl (.slice va k vc) k (L.take k) rfl HGL.out (by omega) OWN.out wr.heap.size y rfl (by simp) ?_; intro v' w2 h1 h2 h3; have G2 := Lib.hid (hg.out.add h1 h2 h3); clear h1 h2 h3)
      go_roundw
      case rel => exact ⟨k + 1, _, rfl, rfl, by omega, by rw [HLS.out]; exact G2⟩
      case measure => simp [Lib.intOf]; omega
    · obtain rfl : k = n := by omega
      have d1 : decide ((k : Int) < (k : Int)) = false := by simp
      have d2 : decide (k < k) = false := by simp
      have hLl : L.length = k := by rw [HL.out, List.length_map, ← HN.out]
      obtain ⟨va, vc, hv⟩ := Dsk.own_slice hg.out.row
      subst hv
      have hints : Tb.Ints wr (.slice va k vc) L := by
        have h1 := hg.out.row
        rw [List.take_of_length_le (by omega)] at h1
        show World.ownsRow _ _ _ _ _ _ _
        rw [hLl]
        exact h1
      have hnew := hg.out.new
      have hbel := hg.out.below
      have SO := Lib.hid (isort_any hints (by omega))
      have SL : Hid ((sorted L).length = k) := Lib.hid (by rw [sorted_length, hLl])
      have NEW := Lib.hid hnew
      have BEL := Lib.hid hbel
      clear hg hints hnew hbel
      go_wp2_with fail
      refine SO.out.mono ?_
      rintro e w1 ⟨rfl, hs, hf⟩
      have B1 : Hid (Below w.heap.size w w1) := Lib.hid (BEL.out.trans (hf.below BEL.out.size NEW.out))
      have CO : Hid (Calls Tryz.prog 133 #[.slice va k vc] w1 fun e w' => e = .returned (.slice va (pagesI ps).length vc) ∧ Tb.Rd w' va (pagesI ps) ∧ Dsk.Fr (fun k1 => (Value.slice va k vc).ownBlock = some k1) w1 w') := Lib.hid (by
        have := icomp_any (l := sorted L) (w := w1) (a := va) (c := vc) (by rw [SL.out]; exact hs) (by rw [SL.out]; omega)
        rw [SL.out, HL.out] at this
        exact this)
      clear hs hf SO
      go_wp2_with fail
      refine CO.out.mono ?_
      rintro e w2 ⟨rfl, hrd, hf⟩
      have B2 : Hid (Below w.heap.size w w2) := Lib.hid (B1.out.trans (hf.below B1.out.size NEW.out))
      have ROW : Hid (∀ wr2, Dsk.Fr b.fp w2 wr2 → Tb.Rd wr2 va (pagesI ps)) := Lib.hid fun wr2 hfr => rd_keep hrd hfr fun g off hg hb => by
        have h1 := HSK.out.lt g hb
        have h2 := NEW.out g (by rw [hg]; rfl)
        omega
      have P0 : Hid (PgAt w2 b p inv st m (pagesOf ps) 0 w2) := Lib.hid ⟨by rw [List.take_zero]; rfl, by rw [List.take_zero]; exact SWent.refl (HSK.out.below B2.out)⟩
      have hple := pagesI_length ps
      rw [← HN.out] at hple
      obtain ⟨n2, hn2⟩ : ∃ n, n = (pagesI ps).length := ⟨_, rfl⟩
      rw [← hn2] at hple ⊢
      have HN2 := Lib.hid hn2
      clear hrd hf CO hn2
      go_wp2_with fail
      go_loopw [26] (fun v wr => ∃ k2 : Nat, v = .int .i64 (k2 : Int) ∧ k2 ≤ n2 ∧ Hid (PgAt w2 b p inv st m (pagesOf ps) k2 wr)) (fun v _ => n2 - (Lib.intOf v).toNat)
      case atStart => exact ⟨0, rfl, Nat.zero_le _, P0⟩
      case round =>
        obtain ⟨k2, rfl, hk2, hat⟩ := hrel
        obtain ⟨b', hsk, hsp⟩ := hat.out.went
        have hcount := (runs_count HSK.out.dk.ok (pageOps p m ((pagesOf ps).take k2)))
        rw [pageOps_sec, List.length_take] at hcount
        obtain ⟨hp, hm, hps, hP⟩ := HST.out
        by_cases hlt2 : k2 < n2
        · have d1 : decide ((k2 : Int) < (n2 : Int)) = true := by simp; omega
          have d2 : decide (k2 < n2) = true := by simp; omega
          have hw1 : IntKind.i64.wrap ((k2 : Int) + 1) = ((k2 + 1 : Nat) : Int) := by rw [IntWalk.i64_in _ (by omega)]; rfl
          obtain ⟨i, hxi, hci, q, hq, hqi⟩ := pagesOf_get (ps := ps) (k := k2) (by rw [← HN2.out]; exact hlt2)
          have hi : i < p.pg := by
            have := hps q hq
            unfold Pa.pg Tb.pagesN
            omega
          obtain ⟨g, off, hab, hb, hc⟩ := (ROW.out _ hat.out.went.fr) (fun e => by rw [e] at hxi; simp at hxi)
          subst hab
          have hc := hc k2 (i : Int) hxi
          have WP := swp_any hsk hp (by omega) hm hi
          rw [hsp.q] at WP
          have NX : Hid (∀ w3, (step (runs st (pageOps p m ((pagesOf ps).take k2))).1 (pageOp p m i)).2 = 0 → SWent b' p inv (step (runs st (pageOps p m ((pagesOf ps).take k2))).1 (pageOp p m i)).1 m _ w3 → PgAt w2 b p inv st m (pagesOf ps) (k2 + 1) w3) := Lib.hid fun w3 h0 hw => hat.out.next hsp hci h0 hw
          have NO : Hid (∀ w3, (step (runs st (pageOps p m ((pagesOf ps).take k2))).1 (pageOp p m i)).2 ≠ 0 → SWent b' p inv (step (runs st (pageOps p m ((pagesOf ps).take k2))).1 (pageOp p m i)).1 m _ w3 → (runs st (pageOps p m (pagesOf ps) ++ [.fl])).2 = (step (runs st (pageOps p m ((pagesOf ps).take k2))).1 (pageOp p m i)).2 ∧ SWent b p inv (runs st (pageOps p m (pagesOf ps) ++ [.fl])).1 m w2 w3) := Lib.hid fun w3 h0 hw => hat.out.stop [.fl] hsp hci h0 hw
          obtain ⟨x, hx⟩ : ∃ x, x = (step (runs st (pageOps p m ((pagesOf ps).take k2))).1 (pageOp p m i)).2 := ⟨_, rfl⟩
          rw [← hx] at WP NX NO
          clear hat hsk hsp hcount hp hm hps hP hxi hci hq hqi hi hb hx
          by_cases h0 : x = 0
          · subst h0
            rw [endE_zero] at WP
            have WP := Lib.hid WP
            go_wp2_with fail
            refine WP.out.mono ?_
            rintro e w3 ⟨rfl, hw⟩
            have G3 := Lib.hid (NX.out w3 (by first | rfl | trivial) hw)
            clear hw
            go_wp2_with fail
            go_roundw
            case rel => exact ⟨k2 + 1, rfl, by omega, G3⟩
            case measure => simp [Lib.intOf]; omega
          · rw [endE_no h0] at WP
            have WP := Lib.hid WP
            have H0 := Lib.hid h0
            clear h0
            unfold faultE at WP
            go_wp2_with fail
            refine WP.out.mono ?_
            rintro e w3 ⟨rfl, hw⟩
            have G3 := Lib.hid (NO.out w3 H0.out hw)
            clear hw
            go_wp2_with fail
            refine ⟨rfl, ?_, SWent.below B2.out G3.out.2⟩
            rw [G3.out.1, endE_no H0.out]
            rfl
        · obtain rfl : k2 = n2 := by omega
          have d1 : decide ((k2 : Int) < (k2 : Int)) = false := by simp
          have d2 : decide (k2 < k2) = false := by simp
          have hall : (pagesOf ps).take k2 = pagesOf ps := List.take_of_length_le (by rw [pagesOf_length, ← HN2.out]; exact Nat.le_refl _)
          have hdone := hat.out.done
          rw [hall] at hsk hcount hdone
          have FL := sflush_any hsk (by omega)
          rw [hsp.q] at FL
          have e2 : runs st (pageOps p m (pagesOf ps) ++ [.fl]) = step (runs st (pageOps p m (pagesOf ps))).1 .fl := runs_more hdone
          have FIN : Hid (∀ w3, SWent b' p inv (step (runs st (pageOps p m (pagesOf ps))).1 .fl).1 m _ w3 → SWent b p inv (runs st (pageOps p m (pagesOf ps) ++ [.fl])).1 m w w3) := Lib.hid fun w3 hw => by rw [e2]; exact SWent.below B2.out (SWent.trans hsp hw)
          have E2 : Hid (endE (runs st (pageOps p m (pagesOf ps) ++ [.fl])).2 = endE (step (runs st (pageOps p m (pagesOf ps))).1 .fl).2) := Lib.hid (by rw [e2])
          obtain ⟨x, hx⟩ : ∃ x, x = (step (runs st (pageOps p m (pagesOf ps))).1 .fl).2 := ⟨_, rfl⟩
          rw [← hx] at FL E2
          clear hat hsk hsp hcount hp hm hps hP hall hdone e2 hx
          by_cases h0 : x = 0
          · subst h0
            rw [endE_zero] at FL E2
            have FL := Lib.hid FL
            go_wp2_with fail
            refine FL.out.mono ?_
            rintro e w3 ⟨rfl, hw⟩
            have G3 := Lib.hid (FIN.out w3 hw)
            clear hw
            go_wp2_with fail
            go_end0
            exact ⟨E2.out.symm, G3.out⟩
          · rw [endE_no h0] at FL E2
            have FL := Lib.hid FL
            unfold faultE at FL E2
            clear h0
            go_wp2_with fail
            refine FL.out.mono ?_
            rintro e w3 ⟨rfl, hw⟩
            have G3 := Lib.hid (FIN.out w3 hw)
            clear hw
            go_wp2_with fail
            exact ⟨rfl, E2.out.symm, G3.out⟩
end So
end Go.Proofs.YtbmabcddciibfaaGreat
namespace Go.Proofs.YtbmabcddciibfaaGreat
namespace So
open Go.RowKit
set_option maxRecDepth 100000
set_option linter.unusedVariables false
theorem mayRem_take {m l : List Int} {k : Nat} {x : Int} (hx : l[k]? = some x) (h : (Tb.find m x).isSome = false) : mayRem m l = false := by
  unfold mayRem
  rw [Bool.and_eq_false_iff]
  left
  rw [List.all_eq_false]
  exact ⟨x, List.mem_of_getElem? hx, by rw [h]; decide⟩
theorem smayrem_any {w : World} {b : Bk} {p : Pa} {inv : Bool} {st : Dm.St} {m : List Int} (h : Sk w b p inv st m) {l : List Int} (n c : Nat) (hn : n = l.length) (hn2 : n ≤ 1048576) (a : Option Addr) (hr : Tb.Rd w a l) (hwf : ∀ x ∈ l, (Lit.int .i64 x).wf = true) :
    Calls Tryz.prog 63 #[.pointer (some ⟨b.q, 0, none⟩), .slice a n c] w fun e w' => e = .returned (.bool (mayRem m l)) ∧ Below w.heap.size w w' := by
  have HSK := Lib.hid h
  have HN := Lib.hid hn
  have HR : Hid (∀ wr, Below w.heap.size w wr → Tb.Rd wr a l) := Lib.hid fun wr hb => hr.below hb
  have HWF := Lib.hid hwf
  have AP : Hid (∀ wr, Below w.heap.size w wr → Calls Tryz.prog 99 #[.slice a n c] wr fun e w' => e = .returned (.bool (decide l.Nodup)) ∧ Below wr.heap.size wr w') := Lib.hid fun wr hb => apart_any n c hn hn2 (hr.below hb)
  clear h hn hr hwf
  go_enter Tryz.func63, Tryz.ntmps63
  go_wp2
  go_loopw [9] (fun v wr => ∃ k : Nat, v = .int .i64 (k : Int) ∧ k ≤ n ∧ Hid (Below w.heap.size w wr ∧ ∀ x ∈ l.take k, (Tb.find m x).isSome = true)) (fun v _ => n - (Lib.intOf v).toNat)
  case atStart => exact ⟨0, rfl, Nat.zero_le _, Lib.hid ⟨Below.refl _ _, fun x hx => by simp at hx⟩⟩
  case round =>
    obtain ⟨k, rfl, hk, hat⟩ := hrel
    by_cases hlt : k < n
    · have d1 : decide ((k : Int) < (n : Int)) = true := by simp; omega
      have d2 : decide (k < n) = true := by simp; omega
      have hw1 : IntKind.i64.wrap ((k : Int) + 1) = ((k + 1 : Nat) : Int) := by rw [IntWalk.i64_in _ (by omega)]; rfl
      obtain ⟨x, hx⟩ : ∃ x, l[k]? = some x := ⟨l[k]'(by have := HN.out; omega), List.getElem?_eq_getElem _⟩
      obtain ⟨g, off, hab, hb, hc⟩ := (HR.out wr hat.out.1) (fun e => by rw [e] at hx; simp at hx)
      subst hab
      have hc := hc k x hx
      have HA := shas_any (HSK.out.below hat.out.1) x (HWF.out x (List.mem_of_getElem? hx))
      have HX := Lib.hid hx
      clear hx hb
      cases hs : (Tb.find m x).isSome with
      | true =>
        rw [hs] at HA
        have HA := Lib.hid HA
        have HT : Hid (Below w.heap.size w wr ∧ ∀ y ∈ l.take (k + 1), (Tb.find m y).isSome = true) := Lib.hid ⟨hat.out.1, fun y hy => by
          obtain ⟨h1, h2⟩ := List.getElem?_eq_some_iff.1 HX.out
          rw [List.take_succ_eq_append_getElem h1, List.mem_append, List.mem_singleton] at hy
          rcases hy with hy | hy
          · exact hat.out.2 y hy
          · rw [hy, h2]; exact hs⟩
        clear hs hat
        go_wp2_with fail
        refine HA.out.mono ?_
        rintro e w1 ⟨rfl, rfl⟩
        go_wp2_with fail
        go_roundw
        case rel => exact ⟨k + 1, rfl, by omega, HT⟩
        case measure => simp [Lib.intOf]; omega
      | false =>
        rw [hs] at HA
        have HA := Lib.hid HA
        have FIN : Hid (mayRem m l = false ∧ Below w.heap.size w wr) := Lib.hid ⟨mayRem_take HX.out hs, hat.out.1⟩
        clear hs hat
        go_wp2_with fail
        refine HA.out.mono ?_
        rintro e w1 ⟨rfl, rfl⟩
        go_wp2_with fail
        go_ret
        exact ⟨by rw [FIN.out.1]; rfl, FIN.out.2⟩
    · obtain rfl : k = n := by omega
      have d1 : decide ((k : Int) < (k : Int)) = false := by simp
      have d2 : decide (k < k) = false := by simp
      have A := AP.out wr hat.out.1
      have E : Hid (decide l.Nodup = mayRem m l) := Lib.hid (by
        have : l.take k = l := List.take_of_length_le (by rw [← HN.out]; exact Nat.le_refl _)
        have h2 := hat.out.2
        rw [this] at h2
        unfold mayRem
        rw [List.all_eq_true.2 h2, Bool.true_and])
      rw [E.out] at A
      have A := Lib.hid A
      go_wp2_with fail
      refine A.out.mono ?_
      rintro e w1 ⟨rfl, hb⟩
      have FIN : Hid (Below w.heap.size w w1) := Lib.hid (hat.out.1.trans (hb.mono hat.out.1.size))
      clear hb
      go_wp2_with fail
      go_ret
      exact ⟨rfl, FIN.out⟩
def RCop (w : World) (a : Option Addr) (l : List (Int × List UInt8)) : Prop := l ≠ [] → ∃ b off, a = some ⟨b, off, none⟩ ∧ b < w.heap.size ∧ ∀ i c, l[i]? = some c → w.cell? ⟨b, off + i * 2, none⟩ = some (.int .i64 c.1) ∧ w.cell? ⟨b, off + i * 2 + 1, none⟩ = some (.string (Om.B c.2))
theorem RCop.keep {F : Nat → Prop} {w w' : World} {a : Option Addr} {l : List (Int × List UInt8)} (h : RCop w a l) (hf : Dsk.Fr F w w') (hn : ∀ g off, l ≠ [] → a = some ⟨g, off, none⟩ → ¬ F g) : RCop w' a l := fun hne => by
  obtain ⟨g, off, ha, hg, hc⟩ := h hne
  refine ⟨g, off, ha, Nat.lt_of_lt_of_le hg hf.size, fun i x hx => ?_⟩
  rw [fr_cell hf hg (hn g off hne ha), fr_cell hf hg (hn g off hne ha)]
  exact hc i x hx
theorem RCop.below {w w' : World} {a : Option Addr} {l : List (Int × List UInt8)} (h : RCop w a l) (hb : Below w.heap.size w w') : RCop w' a l := h.keep (F := fun _ => False) (Dsk.Fr.of_below hb) fun _ _ _ _ h => h
structure MaAt (w : World) (P : Nat) (L : List Int) (k : Nat) (v : Value) (o : Tb.Ob) (wr : World) : Prop where
  gr : Tb.Grows w (L.take k) v k wr
  tm : Tb.Tm wr o []
  op : o.p = P
  new : ∀ j, o.fp j → w.heap.size ≤ j
  dj : ∀ j, v.ownBlock = some j → ¬ o.fp j
theorem MaAt.put {w : World} {P : Nat} {L : List Int} {k : Nat} {v : Value} {o : Tb.Ob} {wr w1 w2 : World} (h : MaAt w P L k v o wr) (hb : Below wr.heap.size wr w1) (hw : Tb.WentM o [] w1 w2) : ∃ o', MaAt w P L k v o' w2 ∧ Dsk.Fr o.fp w1 w2 := by
  obtain ⟨o', ht, hs⟩ := hw
  have hws := h.gr.below.size
  have hown : ∀ j, v.ownBlock = some j → j < wr.heap.size := fun j hj => by obtain ⟨cur, hcc⟩ := Dsk.own_block h.gr.row j hj; exact Dsk.lt_of_heap hcc
  have hb1 : Below w.heap.size w w1 := h.gr.below.trans (hb.mono hws)
  refine ⟨o', ⟨⟨Dsk.own_same h.gr.row fun j hj => ?_, h.gr.len, h.gr.new, ?_⟩, ht, hs.p.trans h.op, fun j hj => ?_, fun j hj ho => ?_⟩, hs.fr⟩
  · have hj1 := hown j hj
    exact (hs.fr.block j (Nat.lt_of_lt_of_le hj1 hb.size) (h.dj j hj)).trans (hb.block j hj1)
  · exact hb1.trans (hs.fr.below hb1.size h.new)
  · rcases hs.fp j hj with h1 | h1
    · exact h.new j h1
    · exact Nat.le_trans hb1.size h1
  · rcases hs.fp j ho with h1 | h1
    · exact h.dj j hj h1
    · have := hown j hj
      have := hb.size
      omega
theorem MaAt.add {w : World} {P : Nat} {L : List Int} {k : Nat} {v v' : Value} {o : Tb.Ob} {wr w' : World} {y : Int} (h : MaAt w P L k v o wr) (hy : L[k]? = some y) (h1 : w'.ownsRow 0 3 1 v' (k + 1) (Tb.nums (L.take k ++ [y]))) (h2 : Dsk.Fr (fun j => v.ownBlock = some j) (wr.alloc (.cells #[.int .i64 y] 3)) w')
    (h3 : ∀ j, v'.ownBlock = some j → v.ownBlock = some j ∨ (wr.alloc (.cells #[.int .i64 y] 3)).heap.size ≤ j) : MaAt w P L (k + 1) v' o w' := by
  have hal : Below wr.heap.size wr (wr.alloc (.cells #[.int .i64 y] 3)) := (Below.refl _ _).alloc (Nat.le_refl _) _
  have hls : L.take (k + 1) = L.take k ++ [y] := by
    obtain ⟨e1, e2⟩ := List.getElem?_eq_some_iff.1 hy
    rw [List.take_succ_eq_append_getElem e1, e2]
  refine ⟨by rw [hls]; exact h.gr.add h1 h2 h3, (h.tm.below hal).keep h2 fun j hj he => h.dj j he hj, h.op, h.new, fun j hj ho => ?_⟩
  rcases h3 j hj with e | e
  · exact h.dj j e ho
  · have := h.tm.lt j ho
    have : (wr.alloc (.cells #[.int .i64 y] 3)).heap.size = wr.heap.size + 1 := by simp
    omega
theorem put_none (k : Int) : Tb.put [] k = ([], 0, if 0 ≤ k ∧ k ≤ 2147483646 then 111 else 1) := by
  by_cases h : 0 ≤ k ∧ k ≤ 2147483646
  · rw [if_pos h, Tb.put_full h (by rw [Tb.find_none]; intro _ hm; cases hm) (by rfl)]
  · rw [if_neg h, Tb.put_arg h]
end So
end Go.Proofs.YtbmabcddciibfaaGreat
