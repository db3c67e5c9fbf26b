/- Part 28 of the contracts and of the plain mathematics that the proof of the law rests on: StoRp, StoSpo, StoLd, StoTry. -/
import Derived.Test.YtbmabcddciibfaaGreatWr03
import Derived.Test.YtbmabcddciibfaaGreatWr08
import Derived.Test.YtbmabcddciibfaaGreatWr09
import Derived.Test.YtbmabcddciibfaaGreatWr15
import Derived.Test.YtbmabcddciibfaaGreatWr17
import Derived.Test.YtbmabcddciibfaaGreatWr18
import Derived.Test.YtbmabcddciibfaaGreatWr20
import Derived.Test.YtbmabcddciibfaaGreatWr27
namespace Go.Proofs.YtbmabcddciibfaaGreat
namespace So
open Go.RowKit
set_option maxRecDepth 100000
set_option linter.unusedVariables false
def RPage (p : Pa) (s : List UInt8) (w : World) (e : Ending) (w' : World) : Prop := Below w.heap.size w w' ∧
  ((pageB p s = true ∧ ∃ a c, e = .returned (.slice a (Pm.decL s).length c) ∧ Tb.Rd w' a (Pm.decL s)) ∨ (pageB p s = false ∧ e = faultE 165))
theorem rd_row {w : World} {a : Option Addr} {n : Nat} {l : List Int} (h : Row w w.heap.size a n (szs l)) (hn : n = l.length) : Tb.Rd w a l := fun hne => by
  have : 0 < l.length := List.length_pos_iff.2 hne
  obtain ⟨b, off, e, hb, hc⟩ := h (by omega)
  refine ⟨b, off, e, hb, fun i x hx => ?_⟩
  have hi := (List.getElem?_eq_some_iff.1 hx).1
  rw [hc i (by omega)]
  unfold szs
  rw [List.getD_eq_getElem?_getD, hx]
  rfl
set_option maxHeartbeats 2000000 in
theorem srp_any {w : World} {b : Bk} {p : Pa} {inv : Bool} {st : Dm.St} {m : List Int} (h : Sk w b p inv st m) (hp : p.Ok) (hd : st.dead = false) (hl : st.S.length = p.a) (hP : st.P.length ≤ 1099511627776) {i : Nat} (hi : i < p.pg) :
    Calls Tryz.prog 91 #[.pointer (some ⟨b.q, 0, none⟩), .int .i64 (i : Int)] w (RPage p (Dm.one st (p.page i)) w) := by
  have PG := Lib.hid (fun w1 => spage_ok hp hi w1)
  have MI := Lib.hid (fun w1 => mustI_ok (p.page i : Int) w1)
  have hin : p.page i < st.S.length := by have := Pa.page_in hp hi; have := hp.high; omega
  have RD : Hid (∀ w1, Below w.heap.size w w1 → _) := Lib.hid (fun w1 hb => sread_one (h.below hb).dk hd hP hin)
  obtain ⟨s, hs⟩ : ∃ s, s = Dm.one st (p.page i) := ⟨_, rfl⟩
  rw [← hs] at RD ⊢
  have MU := Lib.hid (fun w1 => mustS_ok (.string (Om.B s)) w1)
  have HDE : ∀ w1, Calls Tryz.prog 125 #[.string (Om.B s)] w1 fun e w' => ∃ a c, e = .returned (.tuple #[.int .u32 (Pm.decG s : Int), .slice a (Pm.decL s).length c, .int .i64 (Pm.decE s)]) ∧ Tb.Rd w' a (Pm.decL s) ∧ Below w1.heap.size w1 w' := fun w1 => (pdec_any s w1).mono fun e w' ⟨a, n, c, h1, h2, h3, h4⟩ => ⟨a, c, by rw [h1, h2], rd_row h3 h2, h4⟩
  obtain ⟨G, hG⟩ : ∃ G, G = Pm.decG s := ⟨_, rfl⟩
  obtain ⟨x, hx⟩ : ∃ x, x = Pm.decE s := ⟨_, rfl⟩
  obtain ⟨L, hL⟩ : ∃ L, L = Pm.decL s := ⟨_, rfl⟩
  obtain ⟨n, hn⟩ : ∃ n, n = L.length := ⟨_, rfl⟩
  rw [← hG, ← hx, ← hL, ← hn] at HDE
  have DE := Lib.hid HDE
  have HSK := Lib.hid h
  obtain ⟨c0, c1, c2, -, c4, c5, -, -, -, -, -, cf⟩ := h.reads
  have HEQ := Lib.hid (And.intro hG hx)
  unfold RPage
  rw [← hL, ← hn]
  have NN := Lib.hid (fun w1 => needRight_no w1)
  have NY := Lib.hid (fun w1 => needRight_yes w1)
  unfold faultE at NN ⊢
  clear h hp hd hl hP hin hs hi hG hx hL hn HDE
  go_enter Tryz.func91, Tryz.ntmps91
  go_wp2_with fail
  go_region_held3 (fun w' => w'.cell? ⟨b.q, 0, none⟩ = some (.int .i64 (p.a : Int)) ∧ w'.cell? ⟨b.q, 1, none⟩ = some (.int .i64 (p.n : Int)) ∧ w'.cell? ⟨b.q, 2, none⟩ = some (.int .i64 (p.g : Int)) ∧ w'.cell? ⟨b.q, 4, none⟩ = some (.int .i64 (p.st : Int)) ∧ w'.cell? ⟨b.q, 5, none⟩ = some (.int .i64 (p.ln : Int)))
    (first | (refine ⟨?_, ?_, ?_, ?_, ?_⟩ <;> assumption) | go_keep)
    (first
      | (go_at_call 124; refine (PG.out _).mono ?_; rintro e w1 ⟨rfl, hb⟩; have B1 := Lib.hid (drew_below hb); have k1 := HSK.out.below B1.out; obtain ⟨q0, q1, q2, q3, q4, q5, q6, -, -, -, q10, qf⟩ := k1.reads; clear k1 hb)
      | (go_at_call 100; refine (MI.out _).mono ?_; rintro e w2 ⟨rfl, rfl⟩))
  clear c0 c1 c2 c4 c5 cf q0 q1 q2 q4 q5
  go_wp2_with fail
  refine (RD.out _ B1.out).mono ?_
  rintro e w2 ⟨rfl, hb⟩
  have B2 := Lib.hid (B1.out.trans (hb.mono B1.out.size))
  clear hb q3 q6 q10 qf
  go_wp2_with fail
  refine (MU.out _).mono ?_
  rintro e w3 ⟨rfl, rfl⟩
  go_wp2_with fail
  refine (DE.out _).mono ?_
  rintro e w4 ⟨a, c, rfl, hr, hb⟩
  have B4 := Lib.hid (B2.out.trans (hb.mono B2.out.size))
  have HR := Lib.hid hr
  have k4 := HSK.out.below B4.out
  obtain ⟨-, -, -, -, -, -, r6, -, -, -, -, rf⟩ := k4.reads
  clear hb hr k4
  by_cases hx0 : x = 0
  · subst hx0
    by_cases hg : G = p.gen
    · have FIN : Hid (pageB p s = true) := Lib.hid (pageB_iff.2 ⟨HEQ.out.2.symm, by have := HEQ.out.1; omega⟩)
      have e1 : ((G : Int) == (p.gen : Int)) = true := by rw [hg]; simp
      clear hg NN
      go_wp2_with fail
      refine (NY.out _).mono ?_
      rintro e w5 ⟨rfl, rfl⟩
      go_wp2_with fail
      go_ret
      exact ⟨B4.out, .inl ⟨FIN.out, a, c, rfl, HR.out⟩⟩
    · have FIN : Hid (pageB p s = false) := Lib.hid (by
        rw [← Bool.not_eq_true, pageB_iff]
        rintro ⟨h1, h2⟩
        exact hg (by have := HEQ.out.1; omega))
      have e1 : ((G : Int) == (p.gen : Int)) = false := by rw [beq_eq_false_iff_ne]; omega
      clear hg NY
      go_wp2_with fail
      refine (NN.out _).mono ?_
      rintro e w5 ⟨rfl, rfl⟩
      go_wp2_with fail
      exact ⟨rfl, B4.out, .inr ⟨FIN.out, rfl⟩⟩
  · have FIN : Hid (pageB p s = false) := Lib.hid (by
      rw [← Bool.not_eq_true, pageB_iff]
      rintro ⟨h1, h2⟩
      exact hx0 (HEQ.out.2.trans h1))
    have e1 : (x == 0) = false := by simpa using hx0
    clear hx0 NY
    go_wp2_with fail
    refine (NN.out _).mono ?_
    rintro e w5 ⟨rfl, rfl⟩
    go_wp2_with fail
    exact ⟨rfl, B4.out, .inr ⟨FIN.out, rfl⟩⟩
theorem wpList_addR {w : World} {ops : Array Oper} {rest : List Oper} {o : Oper} {a : Act} {Q : Exit → Act → World → Prop} (hgd : o.guard = none) (s x : Operand) (t : TypeId) (ht : Tryz.prog.underlying t = some (.slice 3))
    (ho : o.op = .call { callee := .builtin .append, args := #[s, x], argTypes := #[t, t] }) (v : Value) (n : Nat) (l : List Int) (hs : a.eval s = v) (hl : n ≤ 1099511627776) (hown : w.ownsRow 0 3 1 v n (Tb.nums l))
    (src : Option Addr) (m c : Nat) (ls : List Int) (hm : m = ls.length) (hm1 : 0 < m) (hm2 : m ≤ 1048576) (hx : a.eval x = .slice src m c) (hr : Tb.Rd w src ls)
    (h : ∀ v' w', w'.ownsRow 0 3 1 v' (n + m) (Tb.nums (l ++ ls)) → Dsk.Fr (fun k => v.ownBlock = some k) w w' → (∀ k, v'.ownBlock = some k → v.ownBlock = some k ∨ w.heap.size ≤ k) → wpList Tryz.prog ops Q rest (a.put o.dst v') w') : wpList Tryz.prog ops Q (o :: rest) a w := by
  obtain ⟨i0, hi, hz0, hz1, hz2⟩ := info_parts Tb.info_int
  obtain ⟨b, off, rfl, hb, hc⟩ := hr (by intro e; rw [e] at hm; simp at hm; omega)
  refine Dsk.wpList_append_home hgd s x t ho 3 i0 _ 1 8 ht hi hz0 hz1 hz2 rfl (by decide) v n (Tb.nums l) hs hown ⟨b, off, none⟩ m c (Tb.nums ls) hx (by unfold Tb.nums; rw [List.length_map, hm, Nat.mul_one]) (fun j u hj => ?_) (fun u hu => ?_) (by unfold maxLen; omega) (by omega) fun v' w' h1 h2 h3 => ?_
  · unfold Tb.nums at hj
    rw [List.getElem?_map] at hj
    cases hy : ls[j]? with
    | none => rw [hy] at hj; cases hj
    | some y =>
      rw [hy] at hj
      injection hj with hj
      rw [← hj, show (⟨b, off, none⟩ : Addr).add j = ⟨b, off + j, none⟩ from by unfold Addr.add; split <;> simp_all]
      exact hc j y hy
  · unfold Tb.nums at hu
    obtain ⟨y, _, rfl⟩ := List.mem_map.1 hu
    rfl
  · refine h v' w' (by rw [Tb.nums, List.map_append]; exact h1) (Dsk.Fr.of_grown (F := fun k => v.ownBlock = some k) h2 fun k e => e) fun k hk => ?_
    rcases h3 with e | e
    · exact .inl (by rw [← e]; exact hk)
    · right
      rw [hk] at e
      injection e with e
      omega
end So
end Go.Proofs.YtbmabcddciibfaaGreat
namespace Go.Proofs.YtbmabcddciibfaaGreat
namespace So
open Go.RowKit
set_option maxRecDepth 100000
set_option linter.unusedVariables false
theorem Sk.setInv {w : World} {b : Bk} {p : Pa} {inv : Bool} {st : Dm.St} {m : List Int} (h : Sk w b p inv st m) (x : Bool) : Sk (w.setCell ⟨b.q, 9, none⟩ (.bool x)) b p x st m ∧ Sp b b w (w.setCell ⟨b.q, 9, none⟩ (.bool x)) := by
  have hf : Dsk.Fr (fun k => k = b.q) w (w.setCell ⟨b.q, 9, none⟩ (.bool x)) := Dsk.Fr.setCell (F := fun k => k = b.q) (Dsk.Fr.refl _ w) ⟨b.q, 9, none⟩ rfl _
  refine ⟨⟨?_, h.dk.keep hf fun k hk e => h.qd (e ▸ hk), h.tm.keep hf fun k hk e => h.qt (e ▸ hk), h.dt, h.qd, h.qt⟩, ⟨hf.mono fun k _ e => .inl e, fun _ h => .inl h, rfl, rfl, fun _ h => .inl h⟩⟩
  rw [heap_setCell_same _ _ _ _ _ _ h.head]
  rfl
theorem Sk.setTab {w w0 : World} {b : Bk} {p : Pa} {inv : Bool} {st : Dm.St} {m m' : List Int} (h : Sk w0 b p inv st m) {o : Tb.Ob} (ht : Tb.Tm w o m') (hn : ∀ k, o.fp k → w0.heap.size ≤ k) (hb : Below w0.heap.size w0 w) :
    Sk (w.setCell ⟨b.q, 10, none⟩ (.pointer (some ⟨o.p, 0, none⟩))) { b with t := o } p inv st m' ∧ Sp b { b with t := o } w0 (w.setCell ⟨b.q, 10, none⟩ (.pointer (some ⟨o.p, 0, none⟩))) := by
  have h1 := h.below hb
  have hf : Dsk.Fr (fun k => k = b.q) w (w.setCell ⟨b.q, 10, none⟩ (.pointer (some ⟨o.p, 0, none⟩))) := Dsk.Fr.setCell (F := fun k => k = b.q) (Dsk.Fr.refl _ w) ⟨b.q, 10, none⟩ rfl _
  have hq : b.q < w0.heap.size := h.lt b.q (.inl rfl)
  refine ⟨⟨?_, h1.dk.keep hf fun k hk e => h.qd (e ▸ hk), ht.keep hf fun k hk e => ?_, fun k hk ho => ?_, h.qd, fun ho => ?_⟩, ⟨((Dsk.Fr.of_below hb : Dsk.Fr b.fp w0 w).trans hf fun k hk e => .inl e), fun k hk => ?_, rfl, rfl, fun _ h => .inl h⟩⟩
  · rw [heap_setCell_same _ _ _ _ _ _ h1.head]
    rfl
  · have := hn k hk
    omega
  · have := hn k ho
    have := h.lt k (.inr (.inl hk))
    omega
  · have : w0.heap.size ≤ b.q := hn _ ho
    omega
  · rcases hk with hk | hk | hk
    · exact .inl (.inl hk)
    · exact .inl (.inr (.inl hk))
    · exact .inr (hn k hk)
theorem runs_two (st : Dm.St) (A : List Op) (o o' : Op) (h : (runs st A).2 = 0) :
    ((step (runs st A).1 o).2 ≠ 0 → runs st (A ++ [o] ++ [o']) = step (runs st A).1 o) ∧ ((step (runs st A).1 o).2 = 0 → runs st (A ++ [o] ++ [o']) = step (step (runs st A).1 o).1 o') := by
  constructor
  · intro h2
    rw [List.append_assoc]
    exact runs_stop h h2
  · intro h2
    have e := runs_more (o := o) h
    rw [runs_more (o := o') (by rw [e]; exact h2), e]
theorem head_flush {w0 w1 : World} {b b1 : Bk} {p : Pa} {inv : Bool} {st : Dm.St} {m : List Int} {A : List Op} (h : Sk w1 b1 p inv (runs st A).1 m) (s : Sp b b1 w0 w1) (hp : p.Ok) (hA : (runs st A).2 = 0) (hP : (runs st A).1.P.length ≤ 274877906944) :
    ∃ x, Calls Tryz.prog 106 #[.pointer (some ⟨b.q, 0, none⟩)] w1 fun e w2 => e = endE x ∧
      (x ≠ 0 → endE (runs st (A ++ [headOp p inv] ++ [.fl])).2 = endE x ∧ SWent b p inv (runs st (A ++ [headOp p inv] ++ [.fl])).1 m w0 w2) ∧
      (x = 0 → ∃ y, Calls Tryz.prog 102 #[.pointer (some ⟨b.q, 0, none⟩)] w2 fun e w3 => e = endE y ∧ endE (runs st (A ++ [headOp p inv] ++ [.fl])).2 = endE y ∧ SWent b p inv (runs st (A ++ [headOp p inv] ++ [.fl])).1 m w0 w3) := by
  obtain ⟨r1, r2⟩ := runs_two st A (headOp p inv) .fl hA
  have hc := step_count h.dk.ok (headOp p inv)
  have hs : sec (headOp p inv) = 1 := by show (Hm.sector p.gen (p.g : Int) (p.N : Int) inv).length / 64 = 1; rw [Hm.sector_len]
  have WH := swh_any h hp (by omega)
  rw [s.q] at WH
  refine ⟨(step (runs st A).1 (headOp p inv)).2, WH.mono ?_⟩
  rintro e w2 ⟨rfl, hw⟩
  refine ⟨rfl, fun hx => ?_, fun hx => ?_⟩
  · rw [r1 hx]
    exact ⟨rfl, SWent.trans s hw⟩
  · obtain ⟨b2, k2, s2⟩ := hw
    have FL := sflush_any k2 (by omega)
    rw [s2.q, s.q] at FL
    rw [r2 hx]
    refine ⟨(step (step (runs st A).1 (headOp p inv)).1 .fl).2, FL.mono ?_⟩
    rintro e w3 ⟨rfl, hw3⟩
    exact ⟨rfl, rfl, SWent.trans (s.trans s2) hw3⟩
set_option maxHeartbeats 1000000 in
theorem sspoil_any {w : World} {b : Bk} {p : Pa} {inv : Bool} {st : Dm.St} {m : List Int} (h : Sk w b p inv st m) (hp : p.Ok) (hP : st.P.length ≤ 274877906944) :
    Calls Tryz.prog 66 #[.pointer (some ⟨b.q, 0, none⟩)] w fun e w' => e = endE (runs st (spoOps p)).2 ∧ SWent b p true (runs st (spoOps p)).1 [] w w' := by
  obtain ⟨W0, hW0⟩ : ∃ W0, w.setCell ⟨b.q, 9, none⟩ (.bool true) = W0 := ⟨_, rfl⟩
  obtain ⟨h0, s0⟩ := h.setInv true
  rw [hW0] at h0 s0
  obtain ⟨-, -, -, -, -, -, -, -, -, c9, -, cf⟩ := h.reads
  have NW := Lib.hid (Tb.new_any 0 W0)
  have AF : Hid (∀ w1 o, Tb.Tm w1 o (List.replicate (Tb.newN 0) (-1)) → (∀ k, o.fp k → W0.heap.size ≤ k) → Below W0.heap.size W0 w1 → ∀ W1, w1.setCell ⟨b.q, 10, none⟩ (.pointer (some ⟨o.p, 0, none⟩)) = W1 → ∃ b1, Sk W1 b1 p true st [] ∧ Sp b b1 w W1) := Lib.hid fun w1 o ht hn hb W1 hW1 => by
    obtain ⟨h1, s1⟩ := h0.setTab ht hn hb
    rw [hW1] at h1 s1
    exact ⟨_, h1, s0.trans s1⟩
  have HST : Hid (p.Ok ∧ st.P.length ≤ 274877906944) := Lib.hid ⟨hp, hP⟩
  have r0 : ∀ w1, Below W0.heap.size W0 w1 → w1.cell? ⟨b.q, 10, none⟩ = some (.pointer (some ⟨b.t.p, 0, none⟩)) ∧ w1.frozen? ⟨b.q, 10, none⟩ = false := fun w1 hb => by
    obtain ⟨-, -, -, -, -, -, -, -, -, -, c10, cf⟩ := (h0.below hb).reads
    exact ⟨c10, cf 10⟩
  have RD := Lib.hid r0
  clear h hp hP h0 s0 r0
  show Calls _ _ _ _ fun e w' => e = endE (runs st ([] ++ [headOp p true] ++ [.fl])).2 ∧ SWent b p true (runs st ([] ++ [headOp p true] ++ [.fl])).1 [] w w'
  go_enter Tryz.func66, Tryz.ntmps66
  go_wp2_with fail
  refine NW.out.mono ?_
  rintro e w1 ⟨⟨o, rfl, ht, hn⟩, hb⟩
  obtain ⟨q10, qf⟩ := RD.out w1 hb
  obtain ⟨W1, hW1⟩ : ∃ W1, w1.setCell ⟨b.q, 10, none⟩ (.pointer (some ⟨o.p, 0, none⟩)) = W1 := ⟨_, rfl⟩
  obtain ⟨b1, k1, s1⟩ := AF.out w1 o ht hn hb W1 hW1
  obtain ⟨x, HC⟩ := head_flush (A := []) k1 s1 HST.out.1 rfl HST.out.2
  clear hW0 c9 cf ht hn hb AF k1 s1 RD NW
  by_cases h0 : x = 0
  · subst h0
    rw [endE_zero] at HC
    have HC := Lib.hid HC
    go_wp2_with fail
    clear hW1
    refine HC.out.mono ?_
    rintro e w2 ⟨rfl, -, hy⟩
    obtain ⟨y, HY⟩ := hy (by first | trivial | rfl)
    clear hy
    by_cases h1 : y = 0
    · subst h1
      rw [endE_zero] at HY
      have HY := Lib.hid HY
      go_wp2_with fail
      refine HY.out.mono ?_
      rintro e w3 ⟨rfl, e3, hw⟩
      have F3 := Lib.hid (⟨e3, hw⟩ : _ ∧ _)
      clear e3 hw
      go_wp2_with fail
      go_end0
      exact ⟨F3.out.1.symm, F3.out.2⟩
    · rw [endE_no h1] at HY
      have HY := Lib.hid HY
      unfold faultE at HY
      clear h1
      go_wp2_with fail
      refine HY.out.mono ?_
      rintro e w3 ⟨rfl, e3, hw⟩
      have F3 := Lib.hid (⟨e3, hw⟩ : _ ∧ _)
      clear e3 hw
      go_wp2_with fail
      exact ⟨rfl, F3.out.1.symm, F3.out.2⟩
  · rw [endE_no h0] at HC
    have HC := Lib.hid HC
    have H0 := Lib.hid h0
    unfold faultE at HC
    clear h0
    go_wp2_with fail
    clear hW1
    refine HC.out.mono ?_
    rintro e w2 ⟨rfl, hn, -⟩
    have F3 := Lib.hid (hn H0.out)
    clear hn
    go_wp2_with fail
    exact ⟨rfl, F3.out.1.symm, F3.out.2⟩
set_option maxHeartbeats 1000000 in
theorem screate_any {w : World} {b : Bk} {p : Pa} {inv : Bool} {st : Dm.St} {m : List Int} (h : Sk w b p inv st m) (hp : p.Ok) (hm : m.length = p.N) (hP : st.P.length ≤ 137438953472) :
    Calls Tryz.prog 71 #[.pointer (some ⟨b.q, 0, none⟩)] w fun e w' => e = endE (runs st ((pageOps p m (List.range p.pg) ++ [headOp p inv]) ++ [.fl])).2 ∧ SWent b p inv (runs st ((pageOps p m (List.range p.pg) ++ [headOp p inv]) ++ [.fl])).1 m w w' := by
  have PG := Lib.hid (spages_any h hp)
  have hpg : p.pg ≤ 1048576 := by have := hp.nums.N1; unfold Pa.pg Tb.pagesN; omega
  have HST : Hid (p.Ok ∧ m.length = p.N ∧ st.P.length ≤ 137438953472 ∧ Dm.Ok st ∧ Sk w b p inv st m) := Lib.hid ⟨hp, hm, hP, h.dk.ok, h⟩
  obtain ⟨cs, hcs⟩ : ∃ cs, cs = List.range p.pg := ⟨_, rfl⟩
  rw [← hcs]
  obtain ⟨n, hn⟩ : ∃ n, n = p.pg := ⟨_, rfl⟩
  rw [← hn] at PG hpg
  have HN := Lib.hid hn
  have HCS := Lib.hid hcs
  clear h hp hm hP hn hcs
  go_enter Tryz.func71, Tryz.ntmps71
  go_wp2_with fail
  refine PG.out.mono ?_
  rintro e w1 ⟨rfl, hb⟩
  have P0 : Hid (PgAt w b p inv st m cs 0 w1) := Lib.hid ⟨by rw [List.take_zero]; rfl, by rw [List.take_zero]; exact (SWent.refl HST.out.2.2.2.2).then hb⟩
  clear hb PG
  go_wp2_with fail
  go_loopw [5] (fun v wr => ∃ k2 : Nat, v = .int .i64 (k2 : Int) ∧ k2 ≤ n ∧ Hid (PgAt w b p inv st m cs k2 wr)) (fun v _ => n - (Lib.intOf v).toNat)
  case atStart => exact ⟨0, rfl, Nat.zero_le _, P0⟩
  case round =>
    obtain ⟨k2, rfl, hk2, hat⟩ := hrel
    obtain ⟨b', hsk, hsp⟩ := hat.out.went
    obtain ⟨hp, hm, hP, hok, hsk0⟩ := HST.out
    have hcount := (runs_count hok (pageOps p m (cs.take k2)))
    rw [pageOps_sec, List.length_take] at hcount
    by_cases hlt2 : k2 < n
    · have d1 : decide ((k2 : Int) < (n : Int)) = true := by simp; omega
      have d2 : decide (k2 < n) = true := by simp; omega
      have hw1 : IntKind.i64.wrap ((k2 : Int) + 1) = ((k2 + 1 : Nat) : Int) := by rw [IntWalk.i64_in _ (by omega)]; rfl
      have hci : cs[k2]? = some k2 := by rw [HCS.out, List.getElem?_range (by rw [← HN.out]; exact hlt2)]
      have WP := swp_any hsk hp (by omega) hm (i := k2) (by rw [← HN.out]; exact hlt2)
      rw [hsp.q] at WP
      have NX : Hid (∀ w3, (step (runs st (pageOps p m (cs.take k2))).1 (pageOp p m k2)).2 = 0 → SWent b' p inv (step (runs st (pageOps p m (cs.take k2))).1 (pageOp p m k2)).1 m _ w3 → PgAt w b p inv st m cs (k2 + 1) w3) := Lib.hid fun w3 h0 hw => hat.out.next hsp hci h0 hw
      have NO : Hid (∀ w3, (step (runs st (pageOps p m (cs.take k2))).1 (pageOp p m k2)).2 ≠ 0 → SWent b' p inv (step (runs st (pageOps p m (cs.take k2))).1 (pageOp p m k2)).1 m _ w3 → (runs st ((pageOps p m cs ++ [headOp p inv]) ++ [.fl])).2 = (step (runs st (pageOps p m (cs.take k2))).1 (pageOp p m k2)).2 ∧ SWent b p inv (runs st ((pageOps p m cs ++ [headOp p inv]) ++ [.fl])).1 m w w3) := Lib.hid fun w3 h0 hw => by
        rw [List.append_assoc]
        exact hat.out.stop ([headOp p inv] ++ [.fl]) hsp hci h0 hw
      obtain ⟨x, hx⟩ : ∃ x, x = (step (runs st (pageOps p m (cs.take k2))).1 (pageOp p m k2)).2 := ⟨_, rfl⟩
      rw [← hx] at WP NX NO
      clear hat hsk hsp hcount hp hm hP hok hsk0 hci hx
      by_cases h0 : x = 0
      · subst h0
        rw [endE_zero] at WP
        have WP := Lib.hid WP
        go_wp2_with fail
        refine WP.out.mono ?_
        rintro e w3 ⟨rfl, hw⟩
        have G3 := Lib.hid (NX.out w3 (by first | rfl | trivial) hw)
        clear hw
        go_wp2_with fail
        go_roundw
        case rel => exact ⟨k2 + 1, rfl, by omega, G3⟩
        case measure => simp [Lib.intOf]; omega
      · rw [endE_no h0] at WP
        have WP := Lib.hid WP
        have H0 := Lib.hid h0
        clear h0
        unfold faultE at WP
        go_wp2_with fail
        refine WP.out.mono ?_
        rintro e w3 ⟨rfl, hw⟩
        have G3 := Lib.hid (NO.out w3 H0.out hw)
        clear hw
        go_wp2_with fail
        refine ⟨rfl, ?_, G3.out.2⟩
        rw [G3.out.1, endE_no H0.out]
        rfl
    · obtain rfl : k2 = n := by omega
      have d1 : decide ((k2 : Int) < (k2 : Int)) = false := by simp
      have d2 : decide (k2 < k2) = false := by simp
      have hall : cs.take k2 = cs := List.take_of_length_le (by rw [HCS.out, List.length_range, ← HN.out]; exact Nat.le_refl _)
      have hdone := hat.out.done
      rw [hall] at hsk hcount hdone
      obtain ⟨x, HC⟩ := head_flush hsk hsp hp hdone (by omega)
      clear hat hsk hsp hcount hp hm hP hok hsk0 hall hdone
      by_cases h0 : x = 0
      · subst h0
        rw [endE_zero] at HC
        have HC := Lib.hid HC
        go_wp2_with fail
        refine HC.out.mono ?_
        rintro e w2 ⟨rfl, -, hy⟩
        obtain ⟨y, HY⟩ := hy (by first | trivial | rfl)
        clear hy
        by_cases h1 : y = 0
        · subst h1
          rw [endE_zero] at HY
          have HY := Lib.hid HY
          go_wp2_with fail
          refine HY.out.mono ?_
          rintro e w3 ⟨rfl, e3, hw⟩
          have F3 := Lib.hid (⟨e3, hw⟩ : _ ∧ _)
          clear e3 hw
          go_wp2_with fail
          go_end0
          exact ⟨F3.out.1.symm, F3.out.2⟩
        · rw [endE_no h1] at HY
          have HY := Lib.hid HY
          unfold faultE at HY
          clear h1
          go_wp2_with fail
          refine HY.out.mono ?_
          rintro e w3 ⟨rfl, e3, hw⟩
          have F3 := Lib.hid (⟨e3, hw⟩ : _ ∧ _)
          clear e3 hw
          go_wp2_with fail
          exact ⟨rfl, F3.out.1.symm, F3.out.2⟩
      · rw [endE_no h0] at HC
        have HC := Lib.hid HC
        have H0 := Lib.hid h0
        unfold faultE at HC
        clear h0
        go_wp2_with fail
        refine HC.out.mono ?_
        rintro e w2 ⟨rfl, hn, -⟩
        have F3 := Lib.hid (hn H0.out)
        clear hn
        go_wp2_with fail
        exact ⟨rfl, F3.out.1.symm, F3.out.2⟩
end So
end Go.Proofs.YtbmabcddciibfaaGreat
namespace Go.Proofs.YtbmabcddciibfaaGreat
namespace So
open Go.RowKit
set_option maxRecDepth 100000
set_option linter.unusedVariables false
theorem Sk.setHead {w : World} {b : Bk} {p : Pa} {inv : Bool} {st : Dm.St} {m : List Int} (h : Sk w b p inv st m) (x : Bool) {W : World}
    (hW : (((w.setCell ⟨b.q, 6, none⟩ (.int .u32 (p.gen : Int))).setCell ⟨b.q, 7, none⟩ (.int .i64 (p.g : Int))).setCell ⟨b.q, 8, none⟩ (.int .i64 (p.N : Int))).setCell ⟨b.q, 9, none⟩ (.bool x) = W) : Sk W b p x st m ∧ Dsk.Fr (fun k => k = b.q) w W := by
  have hf : Dsk.Fr (fun k => k = b.q) w W := by
    rw [← hW]
    exact ((((Dsk.Fr.refl (fun k => k = b.q) w).setCell (F := fun k => k = b.q) ⟨b.q, 6, none⟩ rfl _).setCell (F := fun k => k = b.q) ⟨b.q, 7, none⟩ rfl _).setCell (F := fun k => k = b.q) ⟨b.q, 8, none⟩ rfl _).setCell (F := fun k => k = b.q) ⟨b.q, 9, none⟩ rfl _
  refine ⟨⟨?_, h.dk.keep hf fun k hk e => h.qd (e ▸ hk), h.tm.keep hf fun k hk e => h.qt (e ▸ hk), h.dt, h.qd, h.qt⟩, hf⟩
  rw [← hW, heap_setCell_same _ _ _ _ _ _ (heap_setCell_same _ _ _ _ _ _ (heap_setCell_same _ _ _ _ _ _ (heap_setCell_same _ _ _ _ _ _ h.head)))]
  rfl
theorem fr_b {q : Nat} {w w1 w2 : World} (h : Dsk.Fr (fun k => k = q) w w1) (hb : Below w1.heap.size w1 w2) : Dsk.Fr (fun k => k = q) w w2 := h.trans (Dsk.Fr.of_below hb : Dsk.Fr (fun k => k = q) w1 w2) fun _ _ e => e
def LdPost (p : Pa) (st : Dm.St) (b : Bk) (w : World) (e : Ending) (w' : World) : Prop := Dsk.Fr (fun k => k = b.q) w w' ∧
  ((openE p (Dm.one st) = 0 ∧ e = .returned (.tuple #[]) ∧ ∃ b', Sk w' b' p (openI (Dm.one st) p) st (openT p (Dm.one st)) ∧ b'.q = b.q ∧ b'.d = b.d ∧ ∀ k, b'.t.fp k → w.heap.size ≤ k) ∨ (openE p (Dm.one st) = 165 ∧ e = faultE 165))
structure LdAt (p : Pa) (f : Nat → List UInt8) (w : World) (k : Nat) (v : Value) (wr : World) : Prop where
  gr : Tb.Grows w (numsTo p f k) v (k * 13) wr
  all : ∀ j, j < k → pageB p (f (p.page j)) = true
theorem page_len {p : Pa} {s : List UInt8} (h : pageB p s = true) : (Pm.decL s).length = 13 := ((Pm.okL_iff _).1 (Pm.again s (pageB_iff.1 h).1).1).1
theorem numsTo_wf (p : Pa) (f : Nat → List UInt8) (k : Nat) (h : ∀ j, j < k → pageB p (f (p.page j)) = true) : ∀ x ∈ numsTo p f k, (Lit.int .i64 x).wf = true := by
  intro x hx
  unfold numsTo at hx
  obtain ⟨i, hi, hx⟩ := List.mem_flatMap.1 hx
  rw [List.mem_range] at hi
  obtain ⟨hlen, hv⟩ := (Pm.okL_iff _).1 (Pm.again _ (pageB_iff.1 (h i hi)).1).1
  obtain ⟨j, hj⟩ := List.getElem?_of_mem hx
  have hjl := (List.getElem?_eq_some_iff.1 hj).1
  have h1 := (Pm.okC_iff _).1 (hv j (by omega))
  rw [List.getD_eq_getElem?_getD, hj, Option.getD_some] at h1
  have hmin : IntKind.i64.min = -9223372036854775808 := rfl
  have hmax : IntKind.i64.max = 9223372036854775807 := rfl
  simp only [Lit.wf, Bool.and_eq_true, decide_eq_true_eq]
  omega
theorem LdAt.next {p : Pa} {f : Nat → List UInt8} {w wr w2 w3 : World} {k : Nat} {v v' : Value} (h : LdAt p f w k v wr) (hk : pageB p (f (p.page k)) = true) (hb : Below wr.heap.size wr w2)
    (h1 : w3.ownsRow 0 3 1 v' (k * 13 + 13) (Tb.nums (numsTo p f k ++ Pm.decL (f (p.page k))))) (h2 : Dsk.Fr (fun j => v.ownBlock = some j) w2 w3) (h3 : ∀ j, v'.ownBlock = some j → v.ownBlock = some j ∨ w2.heap.size ≤ j) : LdAt p f w (k + 1) v' w3 := by
  have hws := h.gr.below.size
  have hb2 : Below w.heap.size w w2 := h.gr.below.trans (hb.mono hws)
  refine ⟨⟨by rw [numsTo_succ, Nat.add_mul, Nat.one_mul]; exact h1, by rw [numsTo_succ, List.length_append, page_len hk, ← h.gr.len]; omega, fun j hj => ?_, hb2.trans (h2.below hb2.size h.gr.new)⟩, fun j hj => ?_⟩
  · rcases h3 j hj with e | e
    · exact h.gr.new j e
    · have := hb2.size; omega
  · by_cases e : j = k
    · rw [e]; exact hk
    · exact h.all j (by omega)
theorem LdAt.own {p : Pa} {f : Nat → List UInt8} {w wr w2 : World} {k : Nat} {v : Value} (h : LdAt p f w k v wr) (hb : Below wr.heap.size wr w2) : w2.ownsRow 0 3 1 v (k * 13) (Tb.nums (numsTo p f k)) :=
  Dsk.own_same h.gr.row fun j hj => hb.block j (by obtain ⟨cur, hcc⟩ := Dsk.own_block h.gr.row j hj; exact Dsk.lt_of_heap hcc)
set_option maxHeartbeats 4000000 in
theorem sload_any {w : World} {b : Bk} {p : Pa} {st : Dm.St} {m : List Int} (h : Sk w b p false st m) (hp : p.Ok) (hd : st.dead = false) (hl : st.S.length = p.a) (hP : st.P.length ≤ 1099511627776) :
    Calls Tryz.prog 47 #[.pointer (some ⟨b.q, 0, none⟩)] w (LdPost p st b w) := by
  obtain ⟨f, hf⟩ : ∃ f, f = Dm.one st := ⟨_, rfl⟩
  have RH := srh_any h hp hd hl hP
  unfold LdPost
  rw [← hf] at RH ⊢
  have HSK := Lib.hid h
  have HST : Hid (p.Ok ∧ st.dead = false ∧ st.S.length = p.a ∧ st.P.length ≤ 1099511627776 ∧ f = Dm.one st) := Lib.hid ⟨hp, hd, hl, hP, hf⟩
  cases hh : headB p (f p.st) with
  | false =>
    rw [hh] at RH
    have R2 : Calls Tryz.prog 89 #[.pointer (some ⟨b.q, 0, none⟩)] w fun e w' => e = faultE 165 ∧ Below w.heap.size w w' := RH.mono fun e w' ⟨h1, h2⟩ => by
      rcases h2 with ⟨h3, _⟩ | ⟨_, h3⟩
      · cases h3
      · exact ⟨h3, h1⟩
    have RH2 := Lib.hid R2
    have FIN : Hid (openE p f = 165) := Lib.hid (by unfold openE; rw [hh, if_neg (by decide)])
    unfold faultE at RH2 ⊢
    clear R2 RH h hp hd hl hP hf hh
    go_enter Tryz.func47, Tryz.ntmps47
    go_wp2_with fail
    refine RH2.out.mono ?_
    rintro e w1 ⟨rfl, hb⟩
    have HB := Lib.hid (fr_b (Dsk.Fr.refl (fun k => k = b.q) w) hb)
    clear hb
    go_wp2_with fail
    exact ⟨rfl, HB.out, .inr ⟨FIN.out, rfl⟩⟩
  | true =>
    rw [hh] at RH
    obtain ⟨Bv, hBv⟩ : ∃ B, B = Hm.decB (f p.st) := ⟨_, rfl⟩
    rw [← hBv] at RH
    have R2 : Calls Tryz.prog 89 #[.pointer (some ⟨b.q, 0, none⟩)] w fun e w' => e = .returned (.agg #[.int .u32 (p.gen : Int), .int .i64 (p.g : Int), .int .i64 (p.N : Int), .bool Bv]) ∧ Below w.heap.size w w' := RH.mono fun e w' ⟨h1, h2⟩ => by
      rcases h2 with ⟨_, h3⟩ | ⟨h3, _⟩
      · exact ⟨h3, h1⟩
      · cases h3
    have RH2 := Lib.hid R2
    have HH := Lib.hid hh
    clear R2 RH h hp hd hl hP hf hh
    cases Bv with
    | true =>
      have FIN : Hid (openE p f = 0 ∧ openI f p = true ∧ openT p f = []) := Lib.hid ⟨by unfold openE; rw [HH.out, if_pos rfl, if_pos hBv.symm], hBv.symm, by unfold openT; rw [if_pos hBv.symm]⟩
      clear hBv
      go_enter Tryz.func47, Tryz.ntmps47
      go_wp2_with fail
      refine RH2.out.mono ?_
      rintro e w1 ⟨rfl, hb⟩
      obtain ⟨W1, hW1⟩ : ∃ W1, (((w1.setCell ⟨b.q, 6, none⟩ (.int .u32 (p.gen : Int))).setCell ⟨b.q, 7, none⟩ (.int .i64 (p.g : Int))).setCell ⟨b.q, 8, none⟩ (.int .i64 (p.N : Int))).setCell ⟨b.q, 9, none⟩ (.bool true) = W1 := ⟨_, rfl⟩
      obtain ⟨k1, hb1⟩ := (HSK.out.below hb).setHead true hW1
      have B1 := Lib.hid ((fr_b (Dsk.Fr.refl (fun k => k = b.q) w) hb).trans hb1 fun _ _ e => e)
      have N1 : Hid (w.heap.size ≤ W1.heap.size) := Lib.hid B1.out.size
      obtain ⟨-, -, -, -, -, -, e6, e7, e8, e9, e10, ef⟩ := (HSK.out.below hb).reads
      obtain ⟨-, -, -, -, -, -, -, -, -, c9, c10, cf⟩ := k1.reads
      have K1 := Lib.hid k1
      have NW := Lib.hid (Tb.new_any 0 W1)
      clear hb hb1 k1
      go_wp2_with fail
      clear hW1 e6 e7 e8 e9 e10 ef
      refine NW.out.mono ?_
      rintro e w2 ⟨⟨o, rfl, ht, hn⟩, hb⟩
      obtain ⟨W2, hW2⟩ : ∃ W2, w2.setCell ⟨b.q, 10, none⟩ (.pointer (some ⟨o.p, 0, none⟩)) = W2 := ⟨_, rfl⟩
      obtain ⟨k2, s2⟩ := K1.out.setTab ht hn hb
      rw [hW2] at k2 s2
      have K2 := Lib.hid k2
      have B2 : Hid (Dsk.Fr (fun k => k = b.q) w W2) := Lib.hid (by rw [← hW2]; exact (fr_b B1.out hb).setCell (F := fun k => k = b.q) ⟨b.q, 10, none⟩ rfl _)
      have NE : Hid (∀ k, o.fp k → w.heap.size ≤ k) := Lib.hid fun k hk => Nat.le_trans N1.out (hn k hk)
      obtain ⟨-, -, -, -, -, -, -, -, -, -, d10, df⟩ := (K1.out.below hb).reads
      clear ht hn hb k2 s2 c9 c10 cf
      go_wp2_with fail
      clear hW2
      refine bodyPost_ret (results_none rfl _ _ _) rfl ?_
      exact ⟨B2.out, .inl ⟨FIN.out.1, rfl, { b with t := o }, by rw [FIN.out.2.1, FIN.out.2.2]; exact K2.out, rfl, rfl, NE.out⟩⟩
    | false =>
      have HBV : Hid (Hm.decB (f p.st) = false) := Lib.hid hBv.symm
      have HPG : Hid (p.pg ≤ 1048576 ∧ p.N ≤ 1048576) := Lib.hid (by have := HST.out.1.nums.N1; unfold Pa.pg Tb.pagesN; omega)
      obtain ⟨n, hn⟩ : ∃ n, n = p.pg := ⟨_, rfl⟩
      have HN := Lib.hid hn
      have hn2 : n ≤ 1048576 := by have := HPG.out; omega
      clear hBv hn
      go_enter Tryz.func47, Tryz.ntmps47
      go_wp2_with fail
      refine RH2.out.mono ?_
      rintro e w1 ⟨rfl, hb⟩
      obtain ⟨W1, hW1⟩ : ∃ W1, (((w1.setCell ⟨b.q, 6, none⟩ (.int .u32 (p.gen : Int))).setCell ⟨b.q, 7, none⟩ (.int .i64 (p.g : Int))).setCell ⟨b.q, 8, none⟩ (.int .i64 (p.N : Int))).setCell ⟨b.q, 9, none⟩ (.bool false) = W1 := ⟨_, rfl⟩
      obtain ⟨k1, hb1⟩ := (HSK.out.below hb).setHead false hW1
      have B1 := Lib.hid ((fr_b (Dsk.Fr.refl (fun k => k = b.q) w) hb).trans hb1 fun _ _ e => e)
      have N1 : Hid (w.heap.size ≤ W1.heap.size) := Lib.hid B1.out.size
      obtain ⟨-, -, -, -, -, -, e6, e7, e8, e9, e10, ef⟩ := (HSK.out.below hb).reads
      obtain ⟨-, -, -, -, -, -, -, -, -, c9, c10, cf⟩ := k1.reads
      have K1 := Lib.hid k1
      have SP := spages_any k1 HST.out.1
      rw [← HN.out] at SP
      have SPG := Lib.hid SP
      clear hb hb1 k1 SP
      go_wp2_with fail
      clear hW1 e6 e7 e8 e9 e10 ef
      refine SPG.out.mono ?_
      rintro e w2 ⟨rfl, hb⟩
      have L0 : Hid (LdAt p f W1 0 (.slice none 0 0) w2) := Lib.hid ⟨Tb.Grows.nil hb, fun j hj => absurd hj (by omega)⟩
      clear hb c9 c10 cf SPG
      go_wp2_with fail
      go_loopw [22, 2] (fun i s wr => ∃ (k : Nat) (v : Value), i = .int .i64 (k : Int) ∧ s = v ∧ k ≤ n ∧ Hid (LdAt p f W1 k v wr)) (fun i _ _ => n - (Lib.intOf i).toNat)
      case atStart => exact ⟨0, _, rfl, rfl, Nat.zero_le _, L0⟩
      case round =>
        obtain ⟨k, v, rfl, hsv, hk, hat⟩ := hrel
        subst hsv
        by_cases hlt : k < n
        · have d1 : decide ((k : Int) < (n : Int)) = true := by simp; omega
          have d2 : decide (k < n) = true := by simp; omega
          have hw1 : IntKind.i64.wrap ((k : Int) + 1) = ((k + 1 : Nat) : Int) := by rw [IntWalk.i64_in _ (by omega)]; rfl
          have RP := srp_any (K1.out.below hat.out.gr.below) HST.out.1 HST.out.2.1 HST.out.2.2.1 HST.out.2.2.2.1 (i := k) (by rw [← HN.out]; exact hlt)
          rw [← HST.out.2.2.2.2] at RP
          cases hpb : pageB p (f (p.page k)) with
          | true =>
            have HPB := Lib.hid hpb
            have hpl := page_len hpb
            unfold RPage at RP
            rw [hpb, hpl] at RP
            have R2 : Calls Tryz.prog 91 #[.pointer (some ⟨b.q, 0, none⟩), .int .i64 (k : Int)] wr fun e w' => ∃ a c, e = .returned (.slice a 13 c) ∧ Tb.Rd w' a (Pm.decL (f (p.page k))) ∧ Below wr.heap.size wr w' := RP.mono fun e w' ⟨h1, h2⟩ => by
              rcases h2 with ⟨_, a, c, h3, h4⟩ | ⟨h3, _⟩
              · exact ⟨a, c, h3, h4, h1⟩
              · cases h3
            have RP2 := Lib.hid R2
            have HPL := Lib.hid hpl
            clear RP R2 hpb hpl
            go_wp2_with fail
            refine RP2.out.mono ?_
            rintro e w3 ⟨a, c, rfl, hr, hb⟩
            have HRD := Lib.hid hr
            have HBB := Lib.hid hb
            have OWN := Lib.hid (hat.out.own hb)
            clear hr hb
            obtain ⟨K, hK⟩ : ∃ K, K = k * 13 := ⟨_, rfl⟩
            rw [← hK] at OWN
            have HK := Lib.hid hK
            have hK2 : K ≤ 13631488 := by omega
            clear hK
            obtain ⟨va, vc, hv⟩ := Dsk.own_slice OWN.out
            subst hv
            go_wp2_with (at_builtin; refine wpList_addR rfl (.tmp 25) (.tmp 28) 31 Tryz.underlying31 rfl (.slice va K vc) K (numsTo p f k) rfl (by omega) OWN.out a 13 c (Pm.decL (f (p.page k))) HPL.out.symm (by omega) (by omega) rfl HRD.out ?_; intro v' w4 h1 h2 h3; have G4 : Hid (LdAt p f W1 (k + 1) v' w4) := Lib.hid (hat.out.next HPB.out HBB.out (by rw [← HK.out]; exact h1) h2 h3); clear h1 h2 h3)
            go_roundw
            case rel => exact ⟨k + 1, _, rfl, rfl, by omega, G4⟩
            case measure => simp [Lib.intOf]; omega
          | false =>
            unfold RPage at RP
            rw [hpb] at RP
            have R2 : Calls Tryz.prog 91 #[.pointer (some ⟨b.q, 0, none⟩), .int .i64 (k : Int)] wr fun e w' => e = faultE 165 ∧ Below wr.heap.size wr w' := RP.mono fun e w' ⟨h1, h2⟩ => by
              rcases h2 with ⟨h3, _⟩ | ⟨_, h3⟩
              · cases h3
              · exact ⟨h3, h1⟩
            have RP2 := Lib.hid R2
            have FIN : Hid (openE p f = 165) := Lib.hid (by
              unfold openE
              rw [HH.out, if_pos rfl, HBV.out, if_neg (by decide), if_neg]
              intro hpp
              unfold pagesB at hpp
              rw [List.all_eq_true] at hpp
              have := hpp k (List.mem_range.2 (by rw [← HN.out]; exact hlt))
              rw [hpb] at this
              cases this)
            unfold faultE at RP2
            clear RP R2 hpb
            go_wp2_with fail
            refine RP2.out.mono ?_
            rintro e w3 ⟨rfl, hb⟩
            have B3 : Hid (Dsk.Fr (fun k => k = b.q) w w3) := Lib.hid (fr_b (fr_b B1.out hat.out.gr.below) hb)
            clear hb
            go_wp2_with fail
            exact ⟨rfl, B3.out, .inr ⟨FIN.out, rfl⟩⟩
        · obtain rfl : k = n := by omega
          have d1 : decide ((k : Int) < (k : Int)) = false := by simp
          have d2 : decide (k < k) = false := by simp
          have hgr := hat.out.gr
          have hall := hat.out.all
          have kk := K1.out.below hgr.below
          obtain ⟨-, -, -, -, -, -, -, -, r8, -, r10, rf⟩ := kk.reads
          have hlen : (numsTo p f k).length = k * 13 := hgr.len.symm
          obtain ⟨K, hK⟩ : ∃ K, K = k * 13 := ⟨_, rfl⟩
          rw [← hK] at hlen
          have hints : Tb.Ints wr u2 (numsTo p f k) := by
            show World.ownsRow _ _ _ _ _ _ _
            rw [hlen, hK]
            exact hgr.row
          obtain ⟨va, vc, hv, hrd⟩ := Tb.Rd.own hints
          rw [hlen] at hv
          have LO := Tb.load_any (p := (p.N : Int)) (l := numsTo p f k) (w := wr) va vc (by rw [hlen]; omega) hrd (numsTo_wf p f k hall)
          rw [hlen] at LO
          have HPB : Hid (pagesB p f = true) := Lib.hid (by
            unfold pagesB
            rw [List.all_eq_true]
            intro i hi
            rw [List.mem_range, ← HN.out] at hi
            exact hall i hi)
          have EN : Hid (numsTo p f k = numsTo p f p.pg) := Lib.hid (by rw [HN.out])
          have BW := Lib.hid hgr.below
          have KK := Lib.hid kk
          clear hat hgr hall kk hints hrd hlen hK
          subst hv
          unfold Tb.Loaded at LO
          obtain ⟨y, hy⟩ : ∃ y, y = Tb.loadE (p.N : Int) (numsTo p f k) := ⟨_, rfl⟩
          rw [← hy] at LO
          have HY := Lib.hid hy
          clear hy
          have LOH := Lib.hid LO
          clear LO
          have NN := Lib.hid (fun w1 => needRight_no w1)
          have NY := Lib.hid (fun w1 => needRight_yes w1)
          unfold faultE at NN
          go_wp2_with fail
          refine LOH.out.mono ?_
          rintro e w3 ⟨hb, ⟨h0, rfl⟩ | ⟨h0, o, rfl, ht, hno⟩⟩
          · have e1 : (y == 0) = false := by simpa using h0
            have B3 : Hid (Dsk.Fr (fun k => k = b.q) w w3) := Lib.hid (fr_b (fr_b B1.out BW.out) hb)
            have FIN : Hid (openE p f = 165) := Lib.hid (by
              unfold openE
              rw [HH.out, if_pos rfl, HBV.out, if_neg (by decide), HPB.out, if_pos rfl, ← EN.out, ← HY.out, if_neg h0])
            clear hb h0
            go_wp2_with fail
            refine (NN.out _).mono ?_
            rintro e w4 ⟨rfl, rfl⟩
            go_wp2_with fail
            exact ⟨rfl, B3.out, .inr ⟨FIN.out, rfl⟩⟩
          · have k3 := KK.out.below hb
            obtain ⟨-, -, -, -, -, -, -, -, -, -, d10, df⟩ := k3.reads
            obtain ⟨W4, hW4⟩ : ∃ W4, w3.setCell ⟨b.q, 10, none⟩ (.pointer (some ⟨o.p, 0, none⟩)) = W4 := ⟨_, rfl⟩
            obtain ⟨k4, s4⟩ := KK.out.setTab ht hno hb
            rw [hW4] at k4 s4
            have K4 := Lib.hid k4
            have B4 : Hid (Dsk.Fr (fun k => k = b.q) w W4) := Lib.hid (by rw [← hW4]; exact (fr_b (fr_b B1.out BW.out) hb).setCell (F := fun k => k = b.q) ⟨b.q, 10, none⟩ rfl _)
            have NE : Hid (∀ k, o.fp k → w.heap.size ≤ k) := Lib.hid fun k hk => Nat.le_trans N1.out (Nat.le_trans BW.out.size (hno k hk))
            have FIN : Hid (openE p f = 0 ∧ openI f p = false ∧ openT p f = (numsTo p f k).take p.N) := Lib.hid (by
              refine ⟨?_, HBV.out, ?_⟩
              · unfold openE
                rw [HH.out, if_pos rfl, HBV.out, if_neg (by decide), HPB.out, if_pos rfl, ← EN.out, ← HY.out, if_pos h0]
              · unfold openT
                rw [HBV.out, if_neg (by decide), EN.out])
            subst h0
            clear ht hno hb k3 k4 s4
            go_wp2_with fail
            refine (NY.out _).mono ?_
            rintro e w4 ⟨rfl, rfl⟩
            go_wp2_with fail
            clear hW4
            go_end0
            refine ⟨B4.out, .inl ⟨FIN.out.1, rfl, { b with t := o }, ?_, rfl, rfl, NE.out⟩⟩
            rw [FIN.out.2.1, FIN.out.2.2]
            exact K4.out
end So
end Go.Proofs.YtbmabcddciibfaaGreat
namespace Go.Proofs.YtbmabcddciibfaaGreat
namespace So
open Go.RowKit
set_option maxRecDepth 100000
set_option linter.unusedVariables false
theorem tf_yes (x : Int) (w : World) : (Instr.typeAssert (.iface 141 (.agg #[.int .i64 x])) 20 141 true).run Tryz.prog w = .ok (.tuple #[.agg #[.int .i64 x], .bool true]) w := by kernel_rfl
theorem nil_no (x : Int) (w : World) : (binOp .eql 20 (.iface 141 (.agg #[.int .i64 x])) .nilIface).run Tryz.prog w = .ok (.bool false) w := by kernel_rfl
theorem nil_yes (w : World) : (binOp .eql 20 .nilIface .nilIface).run Tryz.prog w = .ok (.bool true) w := by kernel_rfl
theorem caught_fault (p : Addr) (x y : Int) (older : List PanicEntry) (w : World) (hc : w.cell? p = some (.int .i64 y)) (hz : w.frozen? p = false) (hp : p.block < w.heap.size) :
    CallsD Tryz.prog 88 #[.pointer (some p)] (.panicking ({ v := .iface 141 (.agg #[.int .i64 x]), recovered := false } :: older)) w fun e u' w' =>
      e = .returned (.tuple #[]) ∧ u' = (.panicking ({ v := .iface 141 (.agg #[.int .i64 x]), recovered := true } :: older)) ∧ w' = (w.alloc (.cells #[.int .i64 x] 141)).setCell p (.int .i64 x) := by
  have h1 := fun w => tf_yes x w
  have h2 := fun w => nil_no x w
  have hc1 : (w.alloc (.cells #[.int .i64 x] 141)).cell? p = some (.int .i64 y) := ((((Below.refl _ w).alloc (Nat.le_refl _) _).cell hp)).trans hc
  have hz1 : (w.alloc (.cells #[.int .i64 x] 141)).frozen? p = false := ((((Below.refl _ w).alloc (Nat.le_refl _) _).frozen hp)).trans hz
  refine callsD_of_wpS Tryz.func88 rfl fun c₀ cs hu => ?_
  apply wpS_seq
  apply wpS_region
  simp [wpOpsS, go_sem, recoverD, hu, Tryz.ntmps88, Exit.thenS]
  rw [show (#[Value.pointer (some p)] ++ (Array.replicate 11 undef).setIfInBounds 3 (.iface 141 (.agg #[.int .i64 x]))) = #[.pointer (some p), undef, undef, undef, (.iface 141 (.agg #[.int .i64 x])), undef, undef, undef, undef, undef, undef, undef] from rfl]
  refine wpS_of_wp ?_
  go_wp2
  simp [bodyPostS, results, Tryz.results88]
theorem caught_none (p : Addr) (w : World) :
    CallsD Tryz.prog 88 #[.pointer (some p)] .returning w fun e u' w' =>
      e = .returned (.tuple #[]) ∧ u' = .returning ∧ w' = w := by
  have h2 := nil_yes
  refine callsD_of_wpS Tryz.func88 rfl fun c₀ cs hu => ?_
  apply wpS_seq
  apply wpS_region
  simp [wpOpsS, go_sem, recoverD, hu, Tryz.ntmps88, Exit.thenS]
  rw [show (#[Value.pointer (some p)] ++ (Array.replicate 11 undef).setIfInBounds 3 .nilIface) = #[.pointer (some p), undef, undef, undef, .nilIface, undef, undef, undef, undef, undef, undef, undef] from rfl]
  refine wpS_of_wp ?_
  go_wp2
  cases c₀
  simp_all [bodyPostS, results, Tryz.results88]
theorem attempt_any {f : FuncId} {first cap : Array Value} {w : World} {Z : Int → World → Prop} (ef : ∀ args w, (callFunc f args).run Tryz.prog w = .ok (.enter f args) w)
    (hz : ∀ x w2, Z x w2 → w2.heap[w.heap.size]? = some (.cells #[.int .i64 0] 41 (0, 0)))
    (hc : Calls Tryz.prog f (first ++ cap) (w.alloc (.cells #[.int .i64 0] 41)) fun e w2 => ∃ x, e = endE x ∧ Z x w2) :
    Calls Tryz.prog 46 #[.func (.func f) first cap] w fun e w' => ∃ x w2, e = .returned (.int .i64 x) ∧ Z x w2 ∧ Dsk.Fr (fun k => k = w.heap.size) w2 w' := by
  have hmf : ∀ (fn : Fn) (first cap : Array Value) (w : World), (Instr.makeFunc fn first cap).run Tryz.prog w = .ok (.func fn first cap) w := fun _ _ _ _ => rfl
  have HC := Lib.hid hc
  have HZ := Lib.hid hz
  clear hc hz
  go_enter_defers Tryz.func46, Tryz.ntmps46
  go_wp2_with fail
  refine HC.out.mono ?_
  rintro e w1 ⟨x, rfl, hx⟩
  have hr := HZ.out x w1 hx
  have lt1 := (Array.getElem?_eq_some_iff.1 hr).1
  have c1 : w1.cell? ⟨w.heap.size, 0, none⟩ = some (.int .i64 0) := by rw [cell_of_row _ _ _ _ _ _ hr]; rfl
  have f1 : w1.frozen? ⟨w.heap.size, 0, none⟩ = false := frozen_of_row (j := 0) _ _ _ _ hr
  have HX := Lib.hid hx
  clear hx hr
  by_cases h0 : x = 0
  · subst h0
    rw [endE_zero]
    go_wp2
    refine leaves_cons (f := 88) (args := #[.pointer (some ⟨w.heap.size, 0, none⟩)]) (by simp) (by simp [go_sem]) ?_
    refine (caught_none ⟨w.heap.size, 0, none⟩ _).mono ?_
    rintro e u' w'' ⟨rfl, rfl, rfl⟩
    have h5 : (w1.setCell ⟨w.heap.size, 0, none⟩ (.int .i64 0)).cell? ⟨w.heap.size, 0, none⟩ = some (.int .i64 0) := World.cell?_setCell_same w1 _ _ c1
    simp [Leaves, settle, results, Tryz.results46, go_sem, h5]
    exact ⟨w1, HX.out, Dsk.Fr.setCell (F := fun k => k = w.heap.size) (Dsk.Fr.refl _ w1) ⟨w.heap.size, 0, none⟩ rfl _⟩
  · rw [endE_no h0]
    unfold faultE
    go_wp2
    refine leaves_cons (f := 88) (args := #[.pointer (some ⟨w.heap.size, 0, none⟩)]) (by simp) (by simp [go_sem]) ?_
    refine (caught_fault ⟨w.heap.size, 0, none⟩ x 0 [] _ c1 f1 lt1).mono ?_
    rintro e u' w'' ⟨rfl, rfl, rfl⟩
    have hb2 : Below w1.heap.size w1 (w1.alloc (.cells #[.int .i64 x] 141)) := (Below.refl _ _).alloc (Nat.le_refl _) _
    have c2 : (w1.alloc (.cells #[.int .i64 x] 141)).cell? ⟨w.heap.size, 0, none⟩ = some (.int .i64 0) := (hb2.cell lt1).trans c1
    have h5 : ((w1.alloc (.cells #[.int .i64 x] 141)).setCell ⟨w.heap.size, 0, none⟩ (.int .i64 x)).cell? ⟨w.heap.size, 0, none⟩ = some (.int .i64 x) := World.cell?_setCell_same _ _ _ c2
    simp [Leaves, settle, results, Tryz.results46, go_sem, h5]
    exact ⟨w1, HX.out, Dsk.Fr.setCell (F := fun k => k = w.heap.size) (Dsk.Fr.of_below hb2) ⟨w.heap.size, 0, none⟩ rfl _⟩
end So
end Go.Proofs.YtbmabcddciibfaaGreat
