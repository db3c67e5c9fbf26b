/- The contract of command's Parse: the walk. -/
import Derived.Test.YtdojclhcoboocaaDoorCmdPar
namespace Go.Proofs.YtdojclhcoboocaaDoor
namespace Co
open Go.RowKit Go.Lib Pd Dsk
set_option maxRecDepth 100000
set_option linter.unusedVariables false

set_option maxHeartbeats 4000000 in
theorem parse_any (s : List UInt8) (w : World) (hv : Vs w) (hl : s.length ≤ 4294967295) : Calls Tryd.prog 9 #[.string (Om.B s)] w (PCIs s w) := by
  obtain ⟨W0, hW0⟩ : ∃ W0, w.alloc (.cells #[.string ⟨#[]⟩, .int .i64 0, .int .i64 0, .int .i64 0, .string ⟨#[]⟩] 23) = W0 := ⟨_, rfl⟩
  have B0 : Hid (Below w.heap.size w W0) := Lib.hid (by rw [← hW0]; exact (Below.refl _ w).alloc (Nat.le_refl _) _)
  have Z0 : Hid (Zb w W0) := Lib.hid (by rw [← hW0]; exact heap_alloc_new w _)
  obtain ⟨op, hop⟩ : ∃ op, op = (cut s).1 := ⟨_, rfl⟩
  obtain ⟨o, ho⟩ : ∃ o, o = (cut s).2 := ⟨_, rfl⟩
  have WS : Hid (words s = op :: rest o) := Lib.hid (by rw [hop, ho]; exact words_cut s)
  have hol : op.length ≤ s.length := by rw [hop]; exact (cut_length s).1
  have LO : Hid ((o.getD []).length ≤ 4294967295) := Lib.hid (by
    cases h : o with
    | none => exact Nat.zero_le _
    | some r => have := (cut_length s).2 r (by rw [← ho, h]); show r.length ≤ _; omega)
  have CU := Lib.hid (cut_any s hl W0)
  unfold CutIs at CU
  rw [← hop, ← ho] at CU
  have V0 := Lib.hid hv
  have OL : Hid (op.length ≤ 4294967295) := Lib.hid (by omega)
  have FM := Lib.hid (fun W => forms_any W)
  clear hv hl hop ho hol
  go_enter Tryd.func9, Tryd.ntmps9
  go_wp2_with fail
  clear hW0
  refine CU.out.mono ?_
  rintro e w1 ⟨rfl, hb1⟩
  have B1 : Hid (Below w.heap.size w w1) := Lib.hid (B0.out.trans (hb1.mono B0.out.size))
  have Z1 := Lib.hid (Z0.out.below hb1)
  clear hb1
  go_wp2_with fail
  refine (FM.out w1).mono ?_
  rintro e w2 ⟨rfl, hw2⟩
  have M2 : Hid (w2.heap[w1.heap.size]? = some (.map esC 6)) := Lib.hid (by rw [hw2]; exact heap_alloc_new _ _)
  have b2 : Below w1.heap.size w1 w2 := by rw [hw2]; exact (Below.refl _ _).alloc (Nat.le_refl _) _
  have B2 : Hid (Below w.heap.size w w2) := Lib.hid (B1.out.trans (b2.mono B1.out.size))
  have Z2 := Lib.hid (Z1.out.below b2)
  clear b2 hw2
  cases hf : formC op with
  | none =>
    have lk := look_no hf w1.heap.size w2 M2.out (by have := OL.out; omega)
    have NO : Hid (parseC s = none) := Lib.hid (by unfold parseC; rw [WS.out]; show (formC op).bind _ = _; rw [hf]; rfl)
    have b3 : Below w2.heap.size w2 (w2.alloc (.cells #[.string ⟨#[]⟩] 34)) := (Below.refl _ _).alloc (Nat.le_refl _) _
    have Z3 := Lib.hid (Z2.out.below b3)
    have B3 : Hid (Below w.heap.size w (w2.alloc (.cells #[.string ⟨#[]⟩] 34))) := Lib.hid (B2.out.trans (b3.mono B2.out.size))
    have FN := Lib.hid (pc_no NO.out Z3.out B3.out)
    have RES : Hid ((w2.alloc (.cells #[.string ⟨#[]⟩] 34)).heap[w.heap.size]? = some (.cells #[.string ⟨#[]⟩, .int .i64 0, .int .i64 0, .int .i64 0, .string ⟨#[]⟩] 23 (0, 0))) := Z3
    clear hf b3
    go_wp2_with (refine wpList_store_row rfl 23 _ _ rfl w.heap.size #[.string ⟨#[]⟩, .int .i64 0, .int .i64 0, .int .i64 0, .string ⟨#[]⟩] rfl rfl 23 _ RES.out size_cmd rfl (by simp [Value.oneCell']) ?_)
    exact bodyPost_ret (results_cmd_tmp (p := 2) (u := 3) rfl _ _ w.heap.size _ _ _ _ _ _ rfl rfl FN.out.2) rfl FN.out.1
  | some L =>
    have lk := look_yes hf w1.heap.size w2 M2.out (by have := OL.out; omega)
    obtain ⟨l3, lx, _, _, _⟩ := formC_low hf
    have LX := Lib.hid lx
    have PS : Hid (parseC s = (paC L (rest o) ⟨op, 0, 0, 0, []⟩).bind fun p => if p.2 = [] then some p.1 else none) := Lib.hid (by unfold parseC; rw [WS.out]; show (formC op).bind _ = _; rw [hf]; rfl)
    have CL := Lib.hid (fun W => sclone_any op W OL.out)
    have b3 : Below w2.heap.size w2 (w2.alloc (.cells #[.string (Om.B L)] 34)) := (Below.refl _ _).alloc (Nat.le_refl _) _
    have FB : Hid ((w2.alloc (.cells #[.string (Om.B L)] 34)).heap[w2.heap.size]? = some (.cells #[.string (Om.B L)] 34 (0, 0))) := Lib.hid (heap_alloc_new _ _)
    have Z3 := Lib.hid (Z2.out.below b3)
    have B3 : Hid (Below w.heap.size w (w2.alloc (.cells #[.string (Om.B L)] 34))) := Lib.hid (B2.out.trans (b3.mono B2.out.size))
    obtain ⟨fl, hfl⟩ : ∃ fl, fl = Om.B L := ⟨_, rfl⟩
    have FLs : Hid (fl.size = L.length) := Lib.hid (by rw [hfl, Om.B_size])
    have FL := Lib.hid hfl
    rw [← hfl] at lk FB Z3 B3
    clear hf b3 hfl lx
    go_wp2_with fail
    refine (CL.out _).mono ?_
    rintro e w4 ⟨rfl, hb4⟩
    have B4 : Hid (Below w.heap.size w w4) := Lib.hid (B3.out.trans (hb4.mono B3.out.size))
    have Z4 := Lib.hid (Z3.out.below hb4)
    have F4 : Hid (w4.heap[w2.heap.size]? = some (.cells #[.string fl] 34 (0, 0))) := Lib.hid ((hb4.block _ (Array.getElem?_eq_some_iff.1 FB.out).1).trans FB.out)
    have b5 : Below w4.heap.size w4 (w4.alloc (.cells #[.string (Om.B op), .int .i64 0, .int .i64 0, .int .i64 0, .string ⟨#[]⟩] 23)) := (Below.refl _ _).alloc (Nat.le_refl _) _
    have f5 : (w4.alloc (.cells #[.string (Om.B op), .int .i64 0, .int .i64 0, .int .i64 0, .string ⟨#[]⟩] 23)).cell? ⟨w2.heap.size, 0, none⟩ = some (.string fl) := by
      rw [cell_of_row _ _ _ _ _ _ ((b5.block _ (Array.getElem?_eq_some_iff.1 F4.out).1).trans F4.out)]; rfl
    have Q0 : Hid (Qs w w4.heap.size (w4.heap.size + 1) L 0 ⟨op, 0, 0, 0, []⟩ ((w4.alloc (.cells #[.string (Om.B op), .int .i64 0, .int .i64 0, .int .i64 0, .string ⟨#[]⟩] 23)).iter fl 0)) := Lib.hid (by
      have hz := (Array.getElem?_eq_some_iff.1 Z4.out).1
      have s5 : (w4.alloc (.cells #[.string (Om.B op), .int .i64 0, .int .i64 0, .int .i64 0, .string ⟨#[]⟩] 23)).heap.size = w4.heap.size + 1 := by simp
      have b6 := iter_below (w4.alloc (.cells #[.string (Om.B op), .int .i64 0, .int .i64 0, .int .i64 0, .string ⟨#[]⟩] 23)) fl 0
      refine ⟨(B4.out.trans (b5.mono B4.out.size)).trans (b6.mono (B4.out.trans (b5.mono B4.out.size)).size), (Z4.out.below b5).below b6, Cb.below (heap_alloc_new w4 _) b6, ?_, hz, by omega, by omega⟩
      rw [← s5, ← FL.out]
      exact World.iter_heap _ _ _)
    obtain ⟨q, hq⟩ : ∃ q, q = w4.heap.size := ⟨_, rfl⟩
    have hq1 : (w4.alloc (.cells #[.string (Om.B op), .int .i64 0, .int .i64 0, .int .i64 0, .string ⟨#[]⟩] 23)).heap.size = q + 1 := by simp [hq]
    rw [← hq] at Q0
    have hq2 : w4.heap.size = q := hq.symm
    clear hb4 b5 hq
    go_wp2_with fail
    obtain ⟨n, hn⟩ : ∃ n, n = L.length := ⟨_, rfl⟩
    have NN := Lib.hid hn
    obtain ⟨K, hK⟩ : ∃ K, K = q + 1 := ⟨_, rfl⟩
    rw [← hK] at Q0 ⊢
    have hsz : fl.size = n := by rw [FLs.out, hn]
    clear hn hq1 hq2 lk f5 hK
    go_loopw [5, 6] (fun lf mr wr => ∃ (pos : Nat) (o' : Option (List UInt8)) (c : Cd), pos ≤ n ∧ lf = .string (Om.B (o'.getD [])) ∧ mr = .bool o'.isSome ∧ Hid ((o'.getD []).length ≤ 4294967295) ∧ Hid (paC L (rest o) ⟨op, 0, 0, 0, []⟩ = paC (L.drop pos) (rest o') c) ∧ Hid (Qs w q K L pos c wr)) (fun _ _ wr => n - wr.iterPos K)
    case atStart => exact ⟨0, o, _, Nat.zero_le _, rfl, rfl, LO, Lib.hid rfl, Q0⟩
    case round =>
      obtain ⟨pos, o', c, hp, rfl, rfl, hol, hpa, hqs⟩ := hrel
      have IT : Hid (wr.heap[K]? = some (.stringIter fl pos)) := Lib.hid (by rw [FL.out]; exact hqs.out.it)
      by_cases hlt : pos < n
      · have hpl : pos < L.length := by rw [← NN.out]; exact hlt
        obtain ⟨x, hx⟩ : ∃ x, L[pos]? = some x := ⟨L[pos], List.getElem?_eq_getElem hpl⟩
        have hps : pos < fl.size := by rw [hsz]; exact hlt
        have hxm := LX.out x (List.mem_of_getElem? hx)
        have hb : fl[pos] = x := by
          have e : ∀ (y : ByteArray) (hy : pos < y.size) (hl : pos < L.length), y = Om.B L → y[pos] = L[pos] := by rintro _ hy hl rfl; rfl
          rw [e fl hps hpl FL.out]
          exact (List.getElem?_eq_some_iff.1 hx).2
        have hnx : ∀ ty, (Instr.next (.pointer (some ⟨K, 0, none⟩)) true ty).run Tryd.prog wr = .ok (.tuple #[.bool true, .int .i64 pos, .int .i32 x.toNat]) (wr.iterAt K fl (pos + 1)) := fun ty => by
          rw [Lib.run_next_ascii_at wr K fl pos ty IT.out hps (by rw [hb]; rcases hxm with rfl | rfl | rfl | rfl <;> decide), hb]
        have HPN := Lib.hid hlt
        have STEP : Hid (paC L (rest o) ⟨op, 0, 0, 0, []⟩ = (putC x ((rest o').headD []) c).bind fun d => paC (L.drop (pos + 1)) (rest o').tail d) := Lib.hid (by rw [hpa.out, paC_step hx])
        have XM := Lib.hid hxm
        have Q1 : Hid (Qs w q K L (pos + 1) c (wr.iterAt K fl (pos + 1))) := Lib.hid (by rw [FL.out]; exact hqs.out.next (pos + 1))
        obtain ⟨l', hl'⟩ : ∃ l', l' = o'.getD [] := ⟨_, rfl⟩
        obtain ⟨e1, e2⟩ := rest_next o'
        have hcl := cut_length l'
        rw [← hl'] at e1 e2 hol ⊢
        obtain ⟨wd, hwd⟩ : ∃ wd, wd = (cut l').1 := ⟨_, rfl⟩
        obtain ⟨o2, ho2⟩ : ∃ o2, o2 = (cut l').2 := ⟨_, rfl⟩
        have CT := Lib.hid (fun W => cut_any l' hol.out W)
        unfold CutIs at CT
        rw [← hwd, ← ho2] at CT
        rw [← hwd] at e1 hcl
        rw [← ho2] at e2 hcl
        have E1 := Lib.hid e1
        have E2 := Lib.hid e2
        have LW : Hid (wd.length ≤ 4294967295) := Lib.hid (by have := hol.out; have := hcl.1; omega)
        have LO2 : Hid ((o2.getD []).length ≤ 4294967295) := Lib.hid (by
          cases h : o2 with
          | none => exact Nat.zero_le _
          | some r => have := hcl.2 r h; have := hol.out; show r.length ≤ _; omega)
        clear hb hx hps hpl hxm e1 e2 hcl hwd ho2 hl' hlt
        go_wp2_with fail
        refine (CT.out _).mono ?_
        rintro e w5 ⟨rfl, hb5⟩
        have Q5 := Lib.hid (Q1.out.new hb5)
        have PU := Lib.hid (put_any x XM.out wd c q w5 (V0.out.below Q5.out.below) LW.out Q5.out.cb)
        unfold PutIs at PU
        clear hb5
        go_wp2_with fail
        refine PU.out.mono ?_
        rintro e w6 ⟨rfl, ⟨d, hd1, hd2⟩, hf6⟩
        have Q6 := Lib.hid (Q5.out.put hf6 hd1)
        have D2 := Lib.hid hd2
        clear hd1 hd2 hf6
        cases hpu : putC x wd c with
        | none =>
          have NO : Hid (parseC s = none) := Lib.hid (by rw [PS.out, STEP.out, E1.out, hpu]; rfl)
          have FN := Lib.hid (pc_no NO.out Q6.out.res Q6.out.below)
          have RES : Hid (w6.heap[w.heap.size]? = some (.cells #[.string ⟨#[]⟩, .int .i64 0, .int .i64 0, .int .i64 0, .string ⟨#[]⟩] 23 (0, 0))) := Lib.hid Q6.out.res
          rw [show (none : Option Cd).isSome = false from rfl]
          clear hpu
          go_wp2_with (refine wpList_store_row rfl 23 _ _ rfl w.heap.size #[.string ⟨#[]⟩, .int .i64 0, .int .i64 0, .int .i64 0, .string ⟨#[]⟩] rfl rfl 23 _ RES.out size_cmd rfl (by simp [Value.oneCell']) ?_)
          exact bodyPost_ret (results_cmd_tmp (p := 2) (u := 3) rfl _ _ w.heap.size _ _ _ _ _ _ rfl rfl FN.out.2) rfl FN.out.1
        | some d2 =>
          have DD := Lib.hid (D2.out d2 hpu)
          have NX : Hid (paC L (rest o) ⟨op, 0, 0, 0, []⟩ = paC (L.drop (pos + 1)) (rest o2) d) := Lib.hid (by rw [STEP.out, E1.out, E2.out, hpu, DD.out]; rfl)
          rw [show (some d2 : Option Cd).isSome = true from rfl]
          have P1 : Hid (wr.iterPos K = pos) := Lib.hid (by unfold World.iterPos; rw [IT.out])
          have P2 : Hid (w6.iterPos K = pos + 1) := Lib.hid (by unfold World.iterPos; rw [Q6.out.it])
          clear hpu
          go_wp2
          go_roundw
          case rel => exact ⟨pos + 1, o2, d, by have := HPN.out; omega, rfl, rfl, LO2, NX, Q6⟩
          case measure => rw [P1.out, P2.out]; have := HPN.out; omega
      · obtain rfl : pos = n := by omega
        have hnx : ∀ ty, (Instr.next (.pointer (some ⟨K, 0, none⟩)) true ty).run Tryd.prog wr = .ok (.tuple #[.bool false]) wr := fun ty => Lib.run_next_end_at wr K fl pos ty IT.out (by rw [hsz]; omega)
        have EN : Hid (paC L (rest o) ⟨op, 0, 0, 0, []⟩ = some (c, rest o')) := Lib.hid (by rw [hpa.out, NN.out, List.drop_length]; rfl)
        cases hm : o'.isSome with
        | true =>
          have NO : Hid (parseC s = none) := Lib.hid (by rw [PS.out, EN.out, Option.bind_some, if_neg ((rest_more o').1 hm)])
          have FN := Lib.hid (pc_no NO.out hqs.out.res hqs.out.below)
          have RES : Hid (wr.heap[w.heap.size]? = some (.cells #[.string ⟨#[]⟩, .int .i64 0, .int .i64 0, .int .i64 0, .string ⟨#[]⟩] 23 (0, 0))) := Lib.hid hqs.out.res
          clear hm
          go_wp2_with (refine wpList_store_row rfl 23 _ _ rfl w.heap.size #[.string ⟨#[]⟩, .int .i64 0, .int .i64 0, .int .i64 0, .string ⟨#[]⟩] rfl rfl 23 _ RES.out size_cmd rfl (by simp [Value.oneCell']) ?_)
          exact bodyPost_ret (results_cmd_tmp (p := 2) (u := 3) rfl _ _ w.heap.size _ _ _ _ _ _ rfl rfl FN.out.2) rfl FN.out.1
        | false =>
          have YES : Hid (parseC s = some c) := Lib.hid (by
            have h0 : rest o' = [] := by
              cases ho : o' with
              | none => rfl
              | some r => rw [ho] at hm; cases hm
            rw [PS.out, EN.out, Option.bind_some, if_pos h0])
          have FN := Lib.hid (pc_yes YES.out hqs.out.res hqs.out.below)
          have RES : Hid (wr.heap[w.heap.size]? = some (.cells #[.string ⟨#[]⟩, .int .i64 0, .int .i64 0, .int .i64 0, .string ⟨#[]⟩] 23 (0, 0))) := Lib.hid hqs.out.res
          have CBX : Hid (wr.heap[q]? = some (.cells #[.string (Om.B c.op), .int .i64 c.id, .int .i64 c.at_, .int .i64 c.n, .string (Om.B c.data)] 23 (0, 0))) := Lib.hid hqs.out.cb
          clear hm
          go_wp2_with (first | (refine wpList_load_row rfl 23 _ rfl q rfl 23 #[.string (Om.B c.op), .int .i64 c.id, .int .i64 c.at_, .int .i64 c.n, .string (Om.B c.data)] (0, 0) _ CBX.out Tryd.underlying23 rfl size_cmd ?_) | (refine wpList_store_row rfl 23 _ _ rfl w.heap.size #[.string (Om.B c.op), .int .i64 c.id, .int .i64 c.at_, .int .i64 c.n, .string (Om.B c.data)] rfl rfl 23 _ RES.out size_cmd rfl (by simp [Value.oneCell']) ?_))
          exact bodyPost_ret (results_cmd_tmp (p := 2) (u := 3) rfl _ _ w.heap.size _ _ _ _ _ _ rfl rfl FN.out.2) rfl FN.out.1
end Co
end Go.Proofs.YtdojclhcoboocaaDoor
