/- The contract of command's Print: the walk. -/
import Derived.Test.YtdojclhcoboocaaDoorCmdPrB
import Derived.Deep.RegionHeld3
import Derived.Deep.CutBlock
import Derived.LoopTactic
namespace Go.Proofs.YtdojclhcoboocaaDoor
namespace Co
open Go.Shelf Go.RowKit Go.Lib Pd Dsk
set_option maxRecDepth 100000
set_option linter.unusedVariables false

set_option maxHeartbeats 4000000 in
theorem print_any (c : Cd) (hl : c.op.length ≤ 4294967295) (hd : c.data.length ≤ 4294967295) (w : World) (hv : Vs w) : Calls Tryd.prog 7 #[cval c] w (PrIs c w) := by
  obtain ⟨W0, hW0⟩ : ∃ W0, w.alloc (.cells #[.string (Om.B c.op), .int .i64 c.id, .int .i64 c.at_, .int .i64 c.n, .string (Om.B c.data)] 23) = W0 := ⟨_, rfl⟩
  have B0 : Hid (Below w.heap.size w W0) := Lib.hid (by rw [← hW0]; exact (Below.refl _ w).alloc (Nat.le_refl _) _)
  have C0 : Hid (Cb W0 w.heap.size c) := Lib.hid (by rw [← hW0]; exact heap_alloc_new w _)
  have S0 : W0.heap.size = w.heap.size + 1 := by rw [← hW0]; simp
  have FM : Hid (∀ W, Calls Tryd.prog 11 #[] W fun e w' => ∃ b, e = .returned (.map (some b)) ∧ Hid (b = W.heap.size) ∧ Hid (w'.heap[b]? = some (.map esC 6)) ∧ Below W.heap.size W w') := Lib.hid (fun W => (forms_any W).mono (by
    rintro e w' ⟨rfl, rfl⟩
    exact ⟨_, rfl, Lib.hid rfl, Lib.hid (heap_alloc_new _ _), (Below.refl _ _).alloc (Nat.le_refl _) _⟩))
  have c0 := C0.out.cell 0 _ rfl
  obtain ⟨Lf, hLf⟩ : ∃ Lf, Lf = (formC c.op).getD [] := ⟨_, rfl⟩
  obtain ⟨kn, hkn⟩ : ∃ kn, kn = (formC c.op).isSome := ⟨_, rfl⟩
  have LK : Hid (∀ W b, W.heap[b]? = some (.map esC 6) → (Instr.lookup 36 (.map (some b)) (.string (Om.B c.op)) true).run Tryd.prog W = .ok (.tuple #[.agg #[.string (Om.B Lf)], .bool kn]) W) := Lib.hid (fun W b h => by rw [hLf, hkn]; exact look_all c.op hl W b h)
  obtain ⟨fl, hfl⟩ : ∃ fl, fl = Om.B Lf := ⟨_, rfl⟩
  rw [← hfl] at LK
  have FL := Lib.hid hfl
  have LF := Lib.hid hLf
  have KN := Lib.hid hkn
  have HOP := Lib.hid hl
  have HDA := Lib.hid hd
  have V0 := Lib.hid hv
  clear hl hfl hLf hkn hd hv
  unfold cval
  go_enter Tryd.func7, Tryd.ntmps7
  go_upto_region 1 with fail
  clear hW0
  go_cut [4, 5] from 9 to 16 (fun s4 s5 wx => ∃ b, s4 = .pointer (some ⟨b, 0, none⟩) ∧ s5 = .bool kn ∧ Hid (Below W0.heap.size W0 wx ∧ W0.heap.size ≤ b ∧ wx.heap[b]? = some (.cells #[.string fl] 34 (0, 0))))
  case first =>
    go_region_held3 (fun w' => w'.cell? ⟨w.heap.size, 0, none⟩ = some (.string (Om.B c.op)))
      (first | go_keep | assumption)
      (first | (go_at_call 11; refine (FM.out _).mono ?_; rintro e w2 ⟨b2, rfl, hb2, hm2, hl2⟩; have HL2 := Lib.hid hl2; have lkA := LK.out w2 b2 hm2.out; have lkB := LK.out (w2.alloc (.cells #[.string ⟨#[]⟩] 34)) b2 ((((Below.refl _ w2).alloc (Nat.le_refl _) _).block _ (Array.getElem?_eq_some_iff.1 hm2.out).1).trans hm2.out); have c2 : w2.cell? ⟨w.heap.size, 0, none⟩ = some (.string (Om.B c.op)) := (by first | exact (hl2.cell (p := ⟨w.heap.size, 0, none⟩) (by show w.heap.size < _; rw [World.size_drew]; omega)).trans c0 | exact (hl2.cell (p := ⟨w.heap.size, 0, none⟩) (by simp [S0]; omega)).trans (((Below.refl _ W0.drew).alloc (Nat.le_refl _) _ |>.cell (p := ⟨w.heap.size, 0, none⟩) (by simp [S0])).trans c0)); (first | (have hz2 : w2.heap[w.heap.size + 1]? = some (.cells #[.string ⟨#[]⟩] 34 (0, 0)) := (hl2.block _ (by simp [S0])).trans (by rw [← S0]; exact heap_alloc_new W0.drew _); have z2 : w2.cell? ⟨w.heap.size + 1, 0, none⟩ = some (.string ⟨#[]⟩) := (by rw [cell_of_row _ _ _ _ _ _ hz2]; rfl); have z3 : w2.frozen? ⟨w.heap.size + 1, 0, none⟩ = false := frozen_of_row (j := 0) _ _ _ _ hz2; have HZ2 := Lib.hid hz2; clear hz2) | skip); clear hl2))
    all_goals
      go_wp2_with fail
      go_meet
      first
      | exact ⟨_, rfl, rfl, Lib.hid ⟨((Below.refl _ W0).drew.trans HL2.out).alloc (by have := HL2.out.size; exact this) _, by have := HL2.out.size; exact this, heap_alloc_new _ _⟩⟩
      | exact ⟨_, rfl, rfl, Lib.hid ⟨(((((Below.refl _ W0).drew).alloc (Nat.le_refl _) _).trans (HL2.out.mono (by simp))).setCell (p := ⟨w.heap.size + 1, 0, none⟩) (by show W0.heap.size ≤ w.heap.size + 1; omega) _), by omega, heap_setCell_same _ _ 0 _ _ _ HZ2.out⟩⟩
  case rest =>
  obtain ⟨b, rfl, rfl, HR⟩ := hcut
  obtain ⟨W1, hW1⟩ : ∃ W1, wc = W1 := ⟨_, rfl⟩
  rw [hW1] at HR ⊢
  clear hW1
  have HB1 : Hid (Below w.heap.size w W1) := Lib.hid (B0.out.trans (HR.out.1.mono B0.out.size))
  have C1 : Hid (Cb W1 w.heap.size c) := Lib.hid (C0.out.below HR.out.1)
  clear c0
  have c1 := C1.out.cell 1 _ rfl
  have c2 := C1.out.cell 2 _ rfl
  have c3 := C1.out.cell 3 _ rfl
  have c0 := C1.out.cell 0 _ rfl
  cases kn with
  | false =>
    have NO : Hid (printC c = none) := Lib.hid (by
      have h := KN.out
      unfold printC
      cases hf : formC c.op with
      | none => rfl
      | some L => rw [hf] at h; cases h)
    go_wp2
    go_ret2
    exact pr_no NO.out HB1.out
  | true =>
    have FO : Hid (formC c.op = some Lf) := Lib.hid (by
      have h := KN.out
      have h2 := LF.out
      cases hf : formC c.op with
      | none => rw [hf] at h; cases h
      | some L => rw [hf] at h2; rw [h2]; rfl)
    have NOK : Hid (okI c = false → printC c = none) := Lib.hid (fun h => by
      unfold printC
      rw [FO.out, Option.bind_some, if_neg (by rw [h]; simp)])
    cases h1 : okC c.id with
    | false =>
      have NO : Hid (printC c = none) := Lib.hid (NOK.out (by unfold okI; rw [h1]; rfl))
      go_wp2_with (go_at_call 12; refine (maybe_any _ _).mono ?_; rintro e w' ⟨rfl, rfl⟩; rw [h1])
      go_ret2
      exact pr_no NO.out HB1.out
    | true =>
      cases h2 : okC c.at_ with
      | false =>
        have NO : Hid (printC c = none) := Lib.hid (NOK.out (by unfold okI; rw [h1, h2]; rfl))
        go_wp2_with (go_at_call 12; refine (maybe_any _ _).mono ?_; rintro e w' ⟨rfl, rfl⟩; first | rw [h1] | rw [h2])
        go_ret2
        exact pr_no NO.out HB1.out
      | true =>
        cases h3 : okC c.n with
        | false =>
          have NO : Hid (printC c = none) := Lib.hid (NOK.out (by unfold okI; rw [h1, h2, h3]; rfl))
          go_wp2_with (go_at_call 12; refine (maybe_any _ _).mono ?_; rintro e w' ⟨rfl, rfl⟩; first | rw [h1] | rw [h2] | rw [h3])
          go_ret2
          exact pr_no NO.out HB1.out
        | true =>
          have OK : Hid (okI c = true) := Lib.hid (by unfold okI; rw [h1, h2, h3]; rfl)
          obtain ⟨tv0, w2, hcv, how2, hb2⟩ := conv_own W1 c.op HOP.out
          have hfc : w2.cell? ⟨b, 0, none⟩ = some (.string fl) := by rw [cell_of_row _ _ _ _ _ _ ((hb2.block _ (Array.getElem?_eq_some_iff.1 HR.out.2.2).1).trans HR.out.2.2)]; rfl
          have hs2 : w2.heap.size = w2.heap.size := rfl
          have P0 : Hid (Pi w W1.heap.size w.heap.size w2.heap.size fl 0 c tv0 c.op (w2.iter fl 0)) := Lib.hid (by
            have hqw : w.heap.size < W1.heap.size := (C1.out).lt
            have b6 := iter_below w2 fl 0
            refine ⟨(HB1.out.trans (hb2.mono HB1.out.size)).trans (b6.mono (Nat.le_trans HB1.out.size hb2.size)), how2.below b6, (C1.out.below hb2).below b6, World.iter_heap _ _ _, Nat.le_refl _, hqw, ?_, ?_, ?_⟩
            · have := hb2.size; omega
            · exact Nat.le_trans HB1.out.size hb2.size
            · exact Nat.le_trans hb2.size b6.size)
          clear how2 hb2 hs2
          go_wp2_with (first | (go_at_call 12; refine (maybe_any _ _).mono ?_; rintro e w' ⟨rfl, rfl⟩; first | rw [h1] | rw [h2] | rw [h3]) | fail)
          have LOW := formC_low FO.out
          have LX := Lib.hid LOW.2.1
          have L3 := LOW.1
          clear LOW
          obtain ⟨i0, hi, hz0, hz1, hz2⟩ := u8_info
          obtain ⟨m, hm⟩ : ∃ m, m = Lf.length := ⟨_, rfl⟩
          have MM := Lib.hid hm
          rw [← hm] at L3
          have hsz : fl.size = m := by rw [FL.out, Om.B_size, hm]
          obtain ⟨K, hK⟩ : ∃ K, K = w2.heap.size := ⟨_, rfl⟩
          obtain ⟨B, hBB⟩ : ∃ B, B = W1.heap.size := ⟨_, rfl⟩
          rw [← hK, ← hBB] at P0
          rw [← hK]
          clear hm hK hBB hcv hfc c0 c1 c2 c3 h1 h2 h3
          go_loopw [6] (fun tv wr => ∃ (pos : Nat) (d : Cd) (X : List UInt8), pos ≤ m ∧ Hid (X ++ (prC (Lf.drop pos) d).1 = c.op ++ (prC Lf c).1 ∧ (prC (Lf.drop pos) d).2 = (prC Lf c).2) ∧ Hid (okI d = true ∧ d.op = c.op ∧ d.data.length ≤ 4294967295 ∧ X.length ≤ 4294967295 + pos * 8589934700) ∧ Hid (Pi w B w.heap.size K fl pos d tv X wr)) (fun _ wr => m - wr.iterPos K)
          case atStart => exact ⟨0, c, c.op, Nat.zero_le _, Lib.hid ⟨rfl, rfl⟩, Lib.hid ⟨OK.out, rfl, HDA.out, by have := HOP.out; omega⟩, P0⟩
          case round =>
            obtain ⟨pos, d, X, hp, hpr, hgo, hpi⟩ := hrel
            have IT : Hid (wr.heap[K]? = some (.stringIter fl pos)) := Lib.hid hpi.out.it
            by_cases hlt : pos < m
            · have hpl : pos < Lf.length := by rw [← MM.out]; exact hlt
              obtain ⟨x, hx⟩ : ∃ x, Lf[pos]? = some x := ⟨Lf[pos], List.getElem?_eq_getElem hpl⟩
              have hps : pos < fl.size := by rw [hsz]; exact hlt
              have hxm := LX.out x (List.mem_of_getElem? hx)
              have hb : fl[pos] = x := by
                have e : ∀ (y : ByteArray) (hy : pos < y.size) (hl : pos < Lf.length), y = Om.B Lf → y[pos] = Lf[pos] := by rintro _ hy hl rfl; rfl
                rw [e fl hps hpl FL.out]
                exact (List.getElem?_eq_some_iff.1 hx).2
              have hnx : ∀ ty, (Instr.next (.pointer (some ⟨K, 0, none⟩)) true ty).run Tryd.prog wr = .ok (.tuple #[.bool true, .int .i64 pos, .int .i32 x.toNat]) (wr.iterAt K fl (pos + 1)) := fun ty => by
                rw [Lib.run_next_ascii_at wr K fl pos ty IT.out hps (by rw [hb]; rcases hxm with rfl | rfl | rfl | rfl <;> decide), hb]
              have HPN := Lib.hid hlt
              have STEP := Lib.hid (prC_step hx d)
              have XM := Lib.hid hxm
              have Q1 := Lib.hid (hpi.out.next (pos + 1))
              have QL : Hid (X.length ≤ 4294967295 + pos * 8589934700 ∧ pos ≤ 3) := Lib.hid ⟨hgo.out.2.2.2, by omega⟩
              have hin : X.length + (⟨#[32]⟩ : ByteArray).size ≤ 140737488355328 := by show X.length + 1 ≤ _; have := QL.out; omega
              have hBw := Q1.out.hB
              clear hb hx hps hpl hxm hlt
              go_wp2_with (at_builtin; refine wpList_appM rfl _ _ 39 9 rfl i0 Tryd.underlying39 Tryd.underlying9 hi hz0 hz1 hz2 B hBw _ X.length (Lib.byteCells X) rfl Q1.out.own ⟨#[32]⟩ rfl hin ?_)
              intro v1 w4 hown htw
              have Q2 := Lib.hid (Q1.out.app (Y := [32]) htw hown)
              have TK := Lib.hid (tak_any x XM.out d hgo.out.1 B w.heap.size _ v1 _ w4 Q2.out.cb Q2.out.qb Q2.out.own Q2.out.hB (by have h1 := QL.out; have h2 := hgo.out.2.2.1; rw [List.length_append]; show X.length + 1 + _ + 20 ≤ _; omega) (V0.out.below Q2.out.below).tab)
              unfold TakIs at TK
              clear hown htw hin hBw hnx
              go_wp2_with fail
              refine TK.out.mono ?_
              rintro e w5 ⟨⟨v2, rfl, how⟩, hcb, hfr, hit⟩
              have Q3 := Lib.hid (Q2.out.take hcb hfr hit how)
              have P1 : Hid (wr.iterPos K = pos) := Lib.hid (by unfold World.iterPos; rw [IT.out])
              have P2 : Hid (w5.iterPos K = pos + 1) := Lib.hid (by unfold World.iterPos; rw [Q3.out.it])
              clear how hcb hfr hit
              go_wp2
              go_roundw
              case rel =>
                refine ⟨pos + 1, clrC x d, X ++ [32] ++ wdC x d, by have := HPN.out; omega, Lib.hid ⟨?_, ?_⟩, Lib.hid ⟨okI_clr x d hgo.out.1, (op_clr x d).trans hgo.out.2.1, Nat.le_trans (data_clr x d) hgo.out.2.2.1, ?_⟩, Q3⟩
                · have h := hpr.out.1
                  rw [STEP.out] at h
                  rw [← h]
                  simp
                · have h := hpr.out.2
                  rw [STEP.out] at h
                  exact h
                · have h1 := wd_len x d hgo.out.1
                  have h2 := hgo.out.2.2.1
                  have h3 := QL.out.1
                  rw [List.length_append, List.length_append]
                  show X.length + 1 + _ ≤ _
                  omega
              case measure => rw [P1.out, P2.out]; have := HPN.out; omega
            · obtain rfl : pos = m := by omega
              have hnx : ∀ ty, (Instr.next (.pointer (some ⟨K, 0, none⟩)) true ty).run Tryd.prog wr = .ok (.tuple #[.bool false]) wr := fun ty => Lib.run_next_end_at wr K fl pos ty IT.out (by rw [hsz]; omega)
              have EN : Hid (X = c.op ++ (prC Lf c).1 ∧ d = (prC Lf c).2) := Lib.hid (by
                have h1 := hpr.out.1
                have h2 := hpr.out.2
                have e0 : prC [] d = ([], d) := rfl
                rw [MM.out, List.drop_length, e0] at h1 h2
                exact ⟨by rw [← h1]; exact (List.append_nil _).symm, h2⟩)
              have hcb := hpi.out.cb
              have CBX : Hid (wr.heap[w.heap.size]? = some (.cells #[.string (Om.B d.op), .int .i64 d.id, .int .i64 d.at_, .int .i64 d.n, .string (Om.B d.data)] 23 (0, 0))) := Lib.hid hcb
              have d0 := hcb.cell 0 _ rfl
              clear hcb
              have NOF : Hid (d ≠ ⟨d.op, 0, 0, 0, []⟩ → printC c = none) := Lib.hid (fun hfin => by
                unfold printC
                rw [FO.out, Option.bind_some, if_neg (fun h => hfin (by rw [hgo.out.2.1, ← h.2]; exact EN.out.2))])
              by_cases e1 : d.id = 0
              · rw [e1] at CBX
                by_cases e2 : d.at_ = 0
                · rw [e2] at CBX
                  by_cases e3 : d.n = 0
                  · rw [e3] at CBX
                    by_cases e4 : d.data = []
                    · rw [e4, show (Om.B ([] : List UInt8)) = ⟨#[]⟩ from rfl] at CBX
                      have hback := hpi.out.own.back
                      have YES : Hid (printC c = some X) := Lib.hid (by
                        have hfin : d = ⟨d.op, 0, 0, 0, []⟩ := by
                          obtain ⟨p1, p2, p3, p4, p5⟩ := d
                          subst e1 e2 e3 e4
                          rfl
                        unfold printC
                        rw [FO.out, Option.bind_some, if_pos ⟨OK.out, by rw [← EN.out.2, ← hgo.out.2.1]; exact hfin⟩, ← EN.out.1])
                      clear e1 e2 e3 e4
                      go_wp2_with (first | (refine wpList_load_row rfl 23 _ rfl w.heap.size rfl 23 #[.string (Om.B d.op), .int .i64 0, .int .i64 0, .int .i64 0, .string ⟨#[]⟩] (0, 0) _ CBX.out Tryd.underlying23 rfl size_cmd ?_))
                      go_ret2
                      exact pr_yes YES.out hpi.out.below
                    · have NO := Lib.hid (NOF.out (fun h => e4 (congrArg Cd.data h)))
                      have q4 : ¬ ((Om.B d.data).toList = []) := by rw [b_toList]; exact e4
                      go_wp2_with (first | (refine wpList_load_row rfl 23 _ rfl w.heap.size rfl 23 #[.string (Om.B d.op), .int .i64 0, .int .i64 0, .int .i64 0, .string (Om.B d.data)] (0, 0) _ CBX.out Tryd.underlying23 rfl size_cmd ?_))
                      go_ret2
                      exact pr_no NO.out hpi.out.below
                  · have NO := Lib.hid (NOF.out (fun h => e3 (congrArg Cd.n h)))
                    go_wp2_with (first | (refine wpList_load_row rfl 23 _ rfl w.heap.size rfl 23 #[.string (Om.B d.op), .int .i64 0, .int .i64 0, .int .i64 d.n, .string (Om.B d.data)] (0, 0) _ CBX.out Tryd.underlying23 rfl size_cmd ?_))
                    go_ret2
                    exact pr_no NO.out hpi.out.below
                · have NO := Lib.hid (NOF.out (fun h => e2 (congrArg Cd.at_ h)))
                  go_wp2_with (first | (refine wpList_load_row rfl 23 _ rfl w.heap.size rfl 23 #[.string (Om.B d.op), .int .i64 0, .int .i64 d.at_, .int .i64 d.n, .string (Om.B d.data)] (0, 0) _ CBX.out Tryd.underlying23 rfl size_cmd ?_))
                  go_ret2
                  exact pr_no NO.out hpi.out.below
              · have NO := Lib.hid (NOF.out (fun h => e1 (congrArg Cd.id h)))
                go_wp2_with (first | (refine wpList_load_row rfl 23 _ rfl w.heap.size rfl 23 #[.string (Om.B d.op), .int .i64 d.id, .int .i64 d.at_, .int .i64 d.n, .string (Om.B d.data)] (0, 0) _ CBX.out Tryd.underlying23 rfl size_cmd ?_))
                go_ret2
                exact pr_no NO.out hpi.out.below
end Co
end Go.Proofs.YtdojclhcoboocaaDoor
