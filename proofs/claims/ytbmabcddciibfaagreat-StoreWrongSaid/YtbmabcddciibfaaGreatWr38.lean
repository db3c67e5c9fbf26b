/- Part 38 of the contracts and of the plain mathematics that the proof of the law rests on: StoAl, StoAlive. -/
import Derived.Test.YtbmabcddciibfaaGreatWr04
import Derived.Test.YtbmabcddciibfaaGreatWr36
import Derived.Test.YtbmabcddciibfaaGreatWr37
namespace Go.Proofs.YtbmabcddciibfaaGreat
namespace So
open Go.RowKit
set_option linter.unusedVariables false
set_option maxRecDepth 100000
theorem par_info : (Tryz.prog.info? 23).map (·.size) = some (#[.int .i64 60, .int .i64 20, .int .i64 2] : Array Value).size := by kernel_rfl
theorem parted_any (w : World) : Calls Tryz.prog 29 #[] w fun e w' => e = .returned (.agg #[.int .i64 60, .int .i64 20, .int .i64 2]) ∧ Below w.heap.size w w' := by
  go_enter Tryz.func29, Tryz.ntmps29
  go_wp2_with fail
  refine bodyPost_ret (results_cell_row (p := 0) (ty := 23) rfl _ _ w.heap.size 23 _ (0, 0) _ rfl (heap_alloc_new _ _) Tryz.underlying23 rfl par_info) rfl ⟨rfl, ?_⟩
  exact (Below.refl _ _).alloc (Nat.le_refl _) _
theorem bload_one (c : UInt8) (w : World) : Calls Tryz.prog 72 #[.string (Om.B [c])] w fun e w' => ∃ r, e = .returned (.pointer (some ⟨r.p, 0, none⟩)) ∧ Dsk.Rk w' r (Dm.load [c]) ∧ (∀ k, r.fp k → w.heap.size ≤ k) ∧ Below w.heap.size w w' := Dsk.rload_any [c] w (by simp)
theorem chunk_any (c : UInt8) (w : World) : Calls Tryz.prog 31 #[.string (Om.B [c])] w fun e w' => e = .returned (.string (Om.B (ch c))) ∧ Below w.heap.size w w' := by
  have LO := Lib.hid (fun w1 => bload_one c w1)
  have hov := Dsk.no_over (Dm.pad [c]) (Dm.pad [c]) (by rw [pad_len]; decide)
  have happ := Om.B_append (Dm.pad [c]) (Dm.pad [c])
  obtain ⟨S, hS⟩ : ∃ S, S = Om.B [c] := ⟨_, rfl⟩
  obtain ⟨P, hP⟩ : ∃ P, P = Om.B (Dm.pad [c]) := ⟨_, rfl⟩
  obtain ⟨C, hC⟩ : ∃ C, C = Om.B (ch c) := ⟨_, rfl⟩
  rw [← hS] at LO ⊢
  rw [← hP] at hov happ
  rw [← hC]
  have hap2 : P ++ P = C := by rw [happ, hC]; rfl
  clear hS hC happ
  go_enter Tryz.func31, Tryz.ntmps31
  go_wp2_with fail
  refine (LO.out _).mono ?_
  rintro e w1 ⟨r, rfl, hr, -, hb⟩
  have B1 := Lib.hid hb
  have BY := Lib.hid (Dsk.rbytes_any hr)
  rw [Dm.load_flat, ← hP] at BY
  clear hr hb hP
  go_wp2_with fail
  refine BY.out.mono ?_
  rintro e w2 ⟨rfl, rfl⟩
  go_wp2_with fail
  go_ret
  exact ⟨rfl, B1.out⟩
theorem rcop_two (w : World) (x y : Int) (c d : List UInt8) : RCop (w.alloc (.cells #[.int .i64 x, .string (Om.B c), .int .i64 y, .string (Om.B d)] 84)) (some ⟨w.heap.size, 0, none⟩) [(x, c), (y, d)] := fun _ => by
  have hr := heap_alloc_new w (.cells #[.int .i64 x, .string (Om.B c), .int .i64 y, .string (Om.B d)] 84)
  refine ⟨w.heap.size, 0, rfl, by simp, fun i z hz => ?_⟩
  match i, hz with
  | 0, hz =>
    injection hz with hz
    subst hz
    exact ⟨by rw [cell_of_row _ _ _ _ _ _ hr]; rfl, by rw [cell_of_row _ _ _ _ _ _ hr]; rfl⟩
  | 1, hz =>
    injection hz with hz
    subst hz
    exact ⟨by rw [cell_of_row _ _ _ _ _ _ hr]; rfl, by rw [cell_of_row _ _ _ _ _ _ hr]; rfl⟩
theorem rd_single (w : World) (x : Int) : Tb.Rd (w.alloc (.cells #[.int .i64 x] 3)) (some ⟨w.heap.size, 0, none⟩) [x] := fun _ => by
  have hr := heap_alloc_new w (.cells #[.int .i64 x] 3)
  refine ⟨w.heap.size, 0, rfl, by simp, fun i z hz => ?_⟩
  match i, hz with
  | 0, hz =>
    injection hz with hz
    subst hz
    rw [cell_of_row _ _ _ _ _ _ hr]; rfl
def AlS (w : World) (dp q GL GE : Nat) (st : Dm.St) (m : List Int) (wr : World) : Prop := ∃ b, b.q = q ∧ b.d.p = dp ∧ Sk wr b al false st m ∧ (∀ k, b.fp k → w.heap.size ≤ k) ∧ ¬ b.fp GL ∧ ¬ b.fp GE ∧
  wr.heap[GL]? = some (.cells #[.int .i64 60, .int .i64 20, .int .i64 2] 44 (0, 0)) ∧ wr.heap[GE]? = some (.cells #[.int .i64 40, .int .i64 8] 25 (0, 0)) ∧ Below w.heap.size w wr
theorem AlS.next {w : World} {dp q GL GE : Nat} {st : Dm.St} {m : List Int} {wr w2 : World} (h : AlS w dp q GL GE st m wr) (hb : Below wr.heap.size wr w2) : AlS w dp q GL GE st m w2 := by
  obtain ⟨b, h1, h2, h3, h4, h5, h6, h7, h8, h9⟩ := h
  exact ⟨b, h1, h2, h3.below hb, h4, h5, h6, (hb.block _ (Dsk.lt_of_heap h7)).trans h7, (hb.block _ (Dsk.lt_of_heap h8)).trans h8, h9.trans (hb.mono h9.size)⟩
theorem AlS.cells {w : World} {dp q GL GE : Nat} {st : Dm.St} {m : List Int} {wr : World} (h : AlS w dp q GL GE st m wr) :
    wr.cell? ⟨GL, 0, none⟩ = some (.int .i64 60) ∧ wr.cell? ⟨GL, 1, none⟩ = some (.int .i64 20) ∧ wr.cell? ⟨GL, 2, none⟩ = some (.int .i64 2) ∧ wr.cell? ⟨GE, 0, none⟩ = some (.int .i64 40) ∧ wr.cell? ⟨GE, 1, none⟩ = some (.int .i64 8) := by
  obtain ⟨b, h1, h2, h3, h4, h5, h6, h7, h8, h9⟩ := h
  refine ⟨?_, ?_, ?_, ?_, ?_⟩ <;> first | (rw [cell_of_row _ _ _ _ _ _ h7]; rfl) | (rw [cell_of_row _ _ _ _ _ _ h8]; rfl)
theorem AlS.went {w : World} {dp q GL GE : Nat} {st st' : Dm.St} {m m' : List Int} {wr w2 : World} {b : Bk} (h1 : b.q = q) (h2 : b.d.p = dp) (h3 : Sk wr b al false st m) (h4 : ∀ k, b.fp k → w.heap.size ≤ k) (h5 : ¬ b.fp GL) (h6 : ¬ b.fp GE)
    (h7 : wr.heap[GL]? = some (.cells #[.int .i64 60, .int .i64 20, .int .i64 2] 44 (0, 0))) (h8 : wr.heap[GE]? = some (.cells #[.int .i64 40, .int .i64 8] 25 (0, 0))) (h9 : Below w.heap.size w wr) (hs : SWent b al false st' m' wr w2) : AlS w dp q GL GE st' m' w2 := by
  obtain ⟨b', k, s⟩ := hs
  have hGL := Dsk.lt_of_heap h7
  have hGE := Dsk.lt_of_heap h8
  refine ⟨b', s.q.trans h1, s.dp.trans h2, k, fun j hj => (s.fp j hj).elim (h4 j) (Nat.le_trans h9.size), fun hf => (s.fp _ hf).elim h5 (fun c => by omega), fun hf => (s.fp _ hf).elim h6 (fun c => by omega), (s.fr.block _ hGL h5).trans h7, (s.fr.block _ hGE h6).trans h8, h9.trans (s.fr.below h9.size h4)⟩
theorem AlS.add {w : World} {dp q GL GE : Nat} {st : Dm.St} {m : List Int} {wr : World} (h : AlS w dp q GL GE st m wr) (hm : m.length = 3) (hP : st.P.length ≤ 68719476736) (x y : Int) (c d : List UInt8) (hx : (Lit.int .i64 x).wf = true) (hy : (Lit.int .i64 y).wf = true) {E : Int} {st' : Dm.St} {m' : List Int}
    (hr : (addE false m al.g [(x, c), (y, d)] ≠ 0 ∧ E = addE false m al.g [(x, c), (y, d)] ∧ st' = st ∧ m' = m) ∨
      (addE false m al.g [(x, c), (y, d)] = 0 ∧ E = 0 ∧ (runs st (addOps al m [(x, c), (y, d)] (pagesOf (putsP m [(x, c), (y, d)])))).2 = 0 ∧ st' = (runs st (addOps al m [(x, c), (y, d)] (pagesOf (putsP m [(x, c), (y, d)])))).1 ∧ m' = putsM m [(x, c), (y, d)])) :
    Calls Tryz.prog 21 #[.pointer (some ⟨q, 0, none⟩), .slice (some ⟨wr.heap.size, 0, none⟩) 2 2] (wr.alloc (.cells #[.int .i64 x, .string (Om.B c), .int .i64 y, .string (Om.B d)] 84)) fun e w' => e = .returned (.int .i64 E) ∧ AlS w dp q GL GE st' m' w' := by
  have hb : Below wr.heap.size wr (wr.alloc (.cells #[.int .i64 x, .string (Om.B c), .int .i64 y, .string (Om.B d)] 84)) := (Below.refl _ _).alloc (Nat.le_refl _) _
  obtain ⟨b, h1, h2, h3, h4, h5, h6, h7, h8, h9⟩ := h
  have hlow : ¬ b.fp wr.heap.size := fun hf => Nat.lt_irrefl _ (h3.lt _ hf)
  rw [← h1]
  refine (add_pub (h3.below hb) al_ok (fun _ => hm) 2 2 rfl (by decide) hP (some ⟨wr.heap.size, 0, none⟩) (rcop_two wr x y c d) (fun g off _ e hf => by injection e with e; injection e with e; exact hlow (by rw [e]; exact hf)) (fun z hz => ?_)).mono ?_
  · rcases List.mem_cons.1 hz with rfl | hz
    · exact hx
    · rw [List.mem_singleton.1 hz]; exact hy
  · intro e w' hpost
    have fin : ∀ st' m', SWent b al false st' m' (wr.alloc (.cells #[.int .i64 x, .string (Om.B c), .int .i64 y, .string (Om.B d)] 84)) w' → AlS w dp b.q GL GE st' m' w' := fun st' m' hs => AlS.went rfl h2 h3 h4 h5 h6 h7 h8 h9 (SWent.below hb hs)
    rcases hpost with ⟨a1, he, hs⟩ | ⟨a1, -, he, m2, hs, hm2⟩
    · rcases hr with ⟨r1, rfl, rfl, rfl⟩ | ⟨r1, _⟩
      · exact ⟨he, fin _ _ hs⟩
      · rcases a1 with a1 | a1
        · exact absurd r1 a1
        · cases a1
    · rcases hr with ⟨r1, _⟩ | ⟨r1, rfl, r2, rfl, rfl⟩
      · exact absurd a1 r1
      · rw [r2] at he
        rw [hm2 r2] at hs
        exact ⟨he, fin _ _ hs⟩
theorem AlS.rem {w : World} {dp q GL GE : Nat} {wr : World} (h : AlS w dp q GL GE alS1 [7, 2, -1] wr) :
    Calls Tryz.prog 23 #[.pointer (some ⟨q, 0, none⟩), .slice (some ⟨wr.heap.size, 0, none⟩) 1 1] (wr.alloc (.cells #[.int .i64 7] 3)) fun e w' => e = .returned (.int .i64 0) ∧ AlS w dp q GL GE alS3 [-1, 2, -1] w' := by
  have hb : Below wr.heap.size wr (wr.alloc (.cells #[.int .i64 7] 3)) := (Below.refl _ _).alloc (Nat.le_refl _) _
  obtain ⟨b, h1, h2, h3, h4, h5, h6, h7, h8, h9⟩ := h
  have hlow : ¬ b.fp wr.heap.size := fun hf => Nat.lt_irrefl _ (h3.lt _ hf)
  rw [← h1]
  refine (remove_pub (h3.below hb) al_ok (fun _ => rfl) 1 1 rfl (by decide) (by rw [alPe1]; decide) (some ⟨wr.heap.size, 0, none⟩) (rd_single wr 7) (fun g off _ e hf => by injection e with e; injection e with e; exact hlow (by rw [e]; exact hf)) (fun z hz => ?_)).mono ?_
  · rw [List.mem_singleton.1 hz]; decide
  · intro e w' hpost
    rcases hpost with ⟨a1, he, hs⟩ | ⟨a1, -, he, hs⟩
    · rcases a1 with a1 | a1
      · exact absurd alE3 a1
      · cases a1
    · rw [alL3.1] at he
      rw [alP3] at hs
      exact ⟨he, AlS.went rfl h2 h3 h4 h5 h6 h7 h8 h9 (SWent.below hb hs)⟩
theorem AlS.open {w : World} {dp q GL GE : Nat} {wr : World} (h : AlS w dp q GL GE alS3 [-1, 2, -1] wr) :
    Calls Tryz.prog 13 #[.pointer (some ⟨dp, 0, none⟩), .agg #[.int .i64 60, .int .i64 20, .int .i64 2], .agg #[.int .i64 40, .int .i64 8], .int .u32 5] wr fun e w' => ∃ q2, e = .returned (.tuple #[.pointer (some ⟨q2, 0, none⟩), .int .i64 0]) ∧ AlS w dp q2 GL GE alS3 [-1, 2, -1] w' := by
  obtain ⟨b, h1, h2, h3, h4, h5, h6, h7, h8, h9⟩ := h
  have hop := open_any al_ok h3.dk alL3.2.awake.dead alL3.2.len (by rw [alPe3]; decide)
  obtain ⟨e1, e2, e3⟩ := alOpen
  rw [h2] at hop
  refine hop.mono ?_
  intro e w' ho
  have hGL := Dsk.lt_of_heap h7
  have hGE := Dsk.lt_of_heap h8
  rcases ho with ⟨-, b', he, hk, hdp, hfp, hdf, hq, hf⟩ | ⟨hno, -⟩
  · rw [e2, e3] at hk
    refine ⟨b'.q, he, b', rfl, hdp.trans h2, hk, fun j hj => (hfp j hj).elim (fun c => h4 j (.inr (.inl c))) (Nat.le_trans h9.size), fun hf2 => (hfp _ hf2).elim (fun c => h5 (.inr (.inl c))) (fun c => by omega), fun hf2 => (hfp _ hf2).elim (fun c => h6 (.inr (.inl c))) (fun c => by omega), (hf.block _ hGL fun c => h5 (.inr (.inl c))).trans h7, (hf.block _ hGE fun c => h6 (.inr (.inl c))).trans h8, h9.trans (hf.below h9.size fun j hj => h4 j (.inr (.inl hj)))⟩
  · rw [e1] at hno
    cases hno
theorem AlS.other {w : World} {dp q GL GE : Nat} {wr : World} (h : AlS w dp q GL GE alS3 [-1, 2, -1] wr) :
    Calls Tryz.prog 13 #[.pointer (some ⟨dp, 0, none⟩), .agg #[.int .i64 60, .int .i64 20, .int .i64 2], .agg #[.int .i64 40, .int .i64 8], .int .u32 6] wr fun e w' => e = .returned (.tuple #[.pointer none, .int .i64 165]) ∧ Below wr.heap.size wr w' := by
  obtain ⟨b, h1, h2, h3, h4, h5, h6, h7, h8, h9⟩ := h
  have hop := open_any al_six h3.dk alL3.2.awake.dead alL3.2.len (by rw [alPe3]; decide)
  rw [h2] at hop
  refine hop.mono ?_
  intro e w' ho
  rcases ho with ⟨hno, -⟩ | ⟨-, hn⟩
  · rw [alOther] at hno
    cases hno
  · exact hn
theorem AlS.read {w : World} {dp q GL GE : Nat} {wr : World} (h : AlS w dp q GL GE alS3 [-1, 2, -1] wr) :
    Calls Tryz.prog 20 #[.pointer (some ⟨q, 0, none⟩), .int .i64 2, .int .i64 1, .int .i64 1] wr fun e w' => e = .returned (.tuple #[.string (Om.B (Dm.pad [98])), .int .i64 0]) ∧ Below wr.heap.size wr w' := by
  obtain ⟨b, h1, h2, h3, h4, h5, h6, h7, h8, h9⟩ := h
  rw [← h1]
  refine (read_pub h3 al_ok (fun _ => rfl) 2 1 1 (by decide) (by decide) alL3.2.awake.dead alL3.2.len (by rw [alPe3]; decide)).mono ?_
  rintro e w' ⟨hb, hc⟩
  have e0 : rE false [-1, 2, -1] al 2 1 1 = 0 := by
    unfold rE
    have h1 : fE false [-1, 2, -1] 2 = 0 := by unfold fE; rw [if_neg (by decide), alFind]; rfl
    rw [if_pos h1, if_pos (inCh_iff.2 (by decide))]
  rcases hc with ⟨hne, _⟩ | ⟨_, i, hi, he⟩
  · exact absurd e0 hne
  · rw [alFind] at hi
    injection hi with hi
    subst hi
    rw [alRd] at he
    exact ⟨he, hb⟩
theorem AlS.all {w : World} {dp q GL GE : Nat} {wr : World} (h : AlS w dp q GL GE alS3 [-1, 2, -1] wr) :
    Calls Tryz.prog 27 #[.pointer (some ⟨q, 0, none⟩)] wr fun e w' => ∃ g c, e = .returned (.slice (some ⟨g, 0, none⟩) 1 c) ∧ g < w'.heap.size ∧ w'.cell? ⟨g, 0, none⟩ = some (.int .i64 2) ∧ w'.cell? ⟨g, 1, none⟩ = some (.int .i64 1) ∧ Below wr.heap.size wr w' := by
  obtain ⟨b, h1, h2, h3, h4, h5, h6, h7, h8, h9⟩ := h
  rw [← h1]
  have ha := sall_any h3
  rw [alAll] at ha
  refine ha.mono ?_
  rintro e w' ⟨v, rfl, hv, -, hb⟩
  obtain ⟨a, c, rfl⟩ := Tb.ents_slice hv
  obtain ⟨g, rfl, hg, c0, c1⟩ := Tb.ents_cell hv 0 (by decide)
  exact ⟨g, c, rfl, hg, c0, c1, hb⟩
end So
end Go.Proofs.YtbmabcddciibfaaGreat
namespace Go.Proofs.YtbmabcddciibfaaGreat
namespace So
open Go.RowKit
set_option linter.unusedVariables false
set_option maxRecDepth 100000
theorem bstr_at {l : List UInt8} {k : Nat} {c : UInt8} (h : l[k]? = some c) : ∃ hk : k < (Om.B l).size, (Om.B l)[k] = c := by
  obtain ⟨hk, he⟩ := List.getElem?_eq_some_iff.1 h
  exact ⟨by rw [Om.B_size]; exact hk, he⟩
theorem pad98 : (Dm.pad [98])[0]? = some 98 := by kernel_rfl
set_option maxHeartbeats 4000000 in
theorem salive_any (w : World) : Calls Tryz.prog 6 #[] w fun e w' => e = .returned (.bool true) ∧ Below w.heap.size w w' := by
  have C0 := Lib.hid (fun w => Dsk.new_any 60 w (by decide))
  have PA := Lib.hid (fun w1 => parted_any w1)
  have OF := Lib.hid (fun w1 => of_ok 60 20 2 w1 (by decide))
  have CA := Lib.hid (fun w1 => chunk_any 97 w1)
  have CB := Lib.hid (fun w1 => chunk_any 98 w1)
  have CC := Lib.hid (fun w1 => chunk_any 99 w1)
  have CD := Lib.hid (fun w1 => chunk_any 100 w1)
  go_enter Tryz.func6, Tryz.ntmps6
  go_wp2_with fail
  refine (C0.out _).mono ?_
  rintro e w1 ⟨d0, rfl, hd0, hf0, hb0⟩
  have D0 : Hid (Dsk.Dk w1 d0 (Dm.fresh 60) ∧ ∀ k, d0.fp k → w.heap.size ≤ k) := Lib.hid ⟨hd0, hf0⟩
  have B1 := Lib.hid hb0
  clear hd0 hf0 hb0 C0
  go_wp2_with fail
  refine (PA.out _).mono ?_
  rintro e w2 ⟨rfl, hb⟩
  have B2 : Hid (Below w1.heap.size w1 w2) := hb
  clear hb PA
  go_wp2_with fail
  refine (OF.out _).mono ?_
  rintro e w3 ⟨rfl, hb⟩
  have B3 := Lib.hid (keepd hb B2.out)
  clear hb OF
  obtain ⟨W5, hW5⟩ : ∃ W5, (w3.alloc (.cells #[.int .i64 60, .int .i64 20, .int .i64 2] 44)).alloc (.cells #[.int .i64 40, .int .i64 8] 25) = W5 := ⟨_, rfl⟩
  have hX := bxs_made w3 _ _ _ _ _ W5 hW5
  have hr1 : W5.heap[w3.heap.size]? = some (.cells #[.int .i64 60, .int .i64 20, .int .i64 2] 44 (0, 0)) := by
    rw [← hW5]
    exact (((Below.refl (w3.heap.size + 1) _).alloc (by simp) _).block w3.heap.size (by simp)).trans (heap_alloc_new w3 _)
  have hr2 : W5.heap[w3.heap.size + 1]? = some (.cells #[.int .i64 40, .int .i64 8] 25 (0, 0)) := by
    rw [← hW5]
    have := heap_alloc_new (w3.alloc (.cells #[.int .i64 60, .int .i64 20, .int .i64 2] 44)) (.cells #[.int .i64 40, .int .i64 8] 25)
    simpa using this
  obtain ⟨hb5, ⟨a0, a1, a2, b0, b1⟩, _⟩ := hX
  have B5 := Lib.hid (keepd hb5 B3.out)
  have D5 := Lib.hid (D0.out.1.below B5.out)
  have CR : Hid (Calls Tryz.prog 30 #[.pointer (some ⟨d0.p, 0, none⟩), .agg #[.int .i64 60, .int .i64 20, .int .i64 2], .agg #[.int .i64 40, .int .i64 8], .int .u32 5] W5 fun e w' => ∃ q, e = .returned (.tuple #[.pointer (some ⟨q, 0, none⟩), .int .i64 0]) ∧ AlS w d0.p q w3.heap.size (w3.heap.size + 1) alS0 [-1, -1, -1] w') := Lib.hid (by
    refine (create_ok al_ok (w := W5) (o := d0) D5.out).mono ?_
    rintro e w' ⟨b, he, hk, hdp, hfp, hdf, hq, hf⟩
    have hw : w.heap.size ≤ W5.heap.size := Nat.le_trans B1.out.size B5.out.size
    have h3 : w1.heap.size ≤ w3.heap.size := B3.out.size
    have hl1 := Dsk.lt_of_heap hr1
    have hl2 := Dsk.lt_of_heap hr2
    have hlow : ∀ j, d0.fp j → j < w1.heap.size := D0.out.1.lt
    have n1 : ¬ d0.fp w3.heap.size := fun c => by have := hlow _ c; omega
    have n2 : ¬ d0.fp (w3.heap.size + 1) := fun c => by have := hlow _ c; omega
    refine ⟨b.q, he, b, rfl, hdp, hk, fun j hj => (hfp j hj).elim (fun c => D0.out.2 j c) (Nat.le_trans hw), fun c => (hfp _ c).elim n1 (fun c => by omega), fun c => (hfp _ c).elim n2 (fun c => by omega), (hf.block _ hl1 n1).trans hr1, (hf.block _ hl2 n2).trans hr2, (B1.out.trans (B5.out.mono B1.out.size)).trans (hf.below hw fun j hj => D0.out.2 j hj)⟩)
  clear hb5 hr1 hr2 D0 D5 B2 B3 B5
  go_wp2_with fail
  clear hW5
  refine CR.out.mono ?_
  rintro e w6 ⟨q, rfl, hs⟩
  have S6 := Lib.hid hs
  clear hs CR a0 a1 a2 b0 b1
  go_wp2_with fail
  refine (CA.out _).mono ?_
  rintro e w7 ⟨rfl, hb⟩
  have S7 := Lib.hid (S6.out.next hb)
  clear hb S6
  go_wp2_with fail
  refine (CB.out _).mono ?_
  rintro e w8 ⟨rfl, hb⟩
  have S8 := Lib.hid (S7.out.next hb)
  clear hb S7
  have A8 := Lib.hid (S8.out.add rfl (by rw [alP0]; decide) 7 2 (ch 97) (ch 98) (by decide) (by decide) (E := 0) (st' := alS1) (m' := [7, 2, -1]) (.inr ⟨alE1, rfl, alL1.1, rfl, alP1.symm⟩))
  trace_state
  go_wp2_with fail
  refine A8.out.mono ?_
  rintro e w9 ⟨rfl, hs⟩
  have S9 := Lib.hid hs
  clear hs A8 S8
  go_wp2_with fail
  refine (CC.out _).mono ?_
  rintro e w10 ⟨rfl, hb⟩
  have S10 := Lib.hid (S9.out.next hb)
  clear hb S9
  go_wp2_with fail
  refine (CD.out _).mono ?_
  rintro e w11 ⟨rfl, hb⟩
  have S11 := Lib.hid (S10.out.next hb)
  clear hb S10
  have A11 := Lib.hid (S11.out.add rfl (by rw [alPe1]; decide) 1 4 (ch 99) (ch 100) (by decide) (by decide) (E := 111) (st' := alS1) (m' := [7, 2, -1]) (.inl ⟨by rw [show al.g = 2 from rfl]; rw [show addE false [7, 2, -1] 2 [(1, ch 99), (4, ch 100)] = 111 from alE2]; decide, alE2.symm, rfl, rfl⟩))
  go_wp2_with fail
  refine A11.out.mono ?_
  rintro e w12 ⟨rfl, hs⟩
  have S12 := Lib.hid hs
  have R12 := Lib.hid hs.rem
  clear hs A11 S11
  go_wp2_with fail
  refine R12.out.mono ?_
  rintro e w13 ⟨rfl, hs⟩
  have S13 := Lib.hid hs
  have O13 := Lib.hid hs.open
  clear hs R12 S12
  obtain ⟨a0, a1, a2, b0, b1⟩ := S13.out.cells
  go_wp2_with fail
  refine O13.out.mono ?_
  rintro e w14 ⟨q2, rfl, hs⟩
  have S14 := Lib.hid hs
  have R14 := Lib.hid hs.read
  clear hs O13 S13 a0 a1 a2 b0 b1
  go_wp2_with fail
  refine R14.out.mono ?_
  rintro e w15 ⟨rfl, hb⟩
  have S15 := Lib.hid (S14.out.next hb)
  have L15 := Lib.hid S15.out.all
  clear hb R14 S14
  obtain ⟨k0, q0⟩ := bstr_at pad98
  have q0' : ((Om.B (Dm.pad [98]))[0].toNat : Int) = 98 := congrArg (fun x : UInt8 => (x.toNat : Int)) q0
  have ls : (Om.B (Dm.pad [98])).size = 64 := by rw [Om.B_size]; rfl
  clear q0
  go_wp2_with fail
  refine L15.out.mono ?_
  rintro e w16 ⟨g, c, rfl, hg, c0, c1, hb⟩
  have S16 := Lib.hid (S15.out.next hb)
  have X16 := Lib.hid S16.out.other
  obtain ⟨a0, a1, a2, b0, b1⟩ := S16.out.cells
  have KC : Hid (∀ W, Below w16.heap.size w16 W → W.cell? ⟨g, 0, none⟩ = some (.int .i64 2) ∧ W.cell? ⟨g, 1, none⟩ = some (.int .i64 1)) := Lib.hid fun W hW => ⟨(hW.cell (p := ⟨g, 0, none⟩) hg).trans c0, (hW.cell (p := ⟨g, 1, none⟩) hg).trans c1⟩
  clear hb L15 S15 hg c0 c1
  go_wp2_with fail
  refine X16.out.mono ?_
  rintro e w17 ⟨rfl, hb⟩
  obtain ⟨c0, c1⟩ := KC.out _ hb
  have FB : Hid (Below w.heap.size w w17) := Lib.hid (by
    obtain ⟨b, -, -, -, -, -, -, -, -, h9⟩ := S16.out
    exact h9.trans (hb.mono h9.size))
  clear hb X16 a0 a1 a2 b0 b1
  go_wp2_with fail
  go_ret
  exact ⟨rfl, FB.out⟩
end So
end Go.Proofs.YtbmabcddciibfaaGreat
