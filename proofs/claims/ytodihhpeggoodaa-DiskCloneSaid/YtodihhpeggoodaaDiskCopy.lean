/- The contract of the document's Copy. -/
import Derived.Test.YtodihhpeggoodaaDiskAct
import Derived.Test.YtodihhpeggoodaaDiskClone
namespace Go.Proofs.Ytodihhpeggoodaa
namespace Dsk
open Go.RowKit
set_option linter.unusedVariables false

/-- 'append(nil, x...)', x an owned row, nil let in. -/
theorem run_append_copy {P : Program} (w : World) (t ty e : TypeId) (i : TypeInfo) (z : Value) (size bytes : Nat) (ht : P.underlying t = some (.slice e)) (hi : P.info? e = some i) (hz : i.zero = some z)
    (hsize : i.size = size) (hby : i.bytes = bytes) (hzs : z.cells.size = size) (hsz : 0 < size) (v : Value) (n : Nat) (xs : List Value) (hown : w.ownsRow 0 e size v n xs) (h1 : ∀ u ∈ xs, u.oneCell' = true)
    (h63 : n ≤ maxLen) (hbytes : n * bytes ≤ 140737488355328) :
    ∃ va vc w', (Builtin.append_ #[t, t] ty #[.slice none 0 0, v]).run P w = .ok (.slice va n vc) w' ∧ w'.ownsRow 0 e size (.slice va n vc) n xs ∧ (∀ k, (Value.slice va n vc).ownBlock = some k → w.heap.size ≤ k) ∧ Below w.heap.size w w' := by
  rcases hown.2 with ⟨rfl, h0⟩ | ⟨g, cap, cur, rfl, _⟩
  · subst h0
    have hxs : xs = [] := List.eq_nil_of_length_eq_zero (by have := hown.1; simpa using this)
    subst hxs
    refine ⟨none, 0, w, ?_, World.ownsRow_nil _ _ _ _, (fun k hk => by cases hk), Below.refl _ _⟩
    simp [Builtin.append_, run_underlying ht, sizeOf, typeInfo, hi, Builtin.lenOf, Builtin.firstCells]
  · obtain ⟨v', w', hr, ho, hg, hv⟩ := run_append_home (P := P) w t ty e i z size bytes ht hi hz hsize hby hzs hsz (.slice none 0 0) 0 [] (World.ownsRow_nil _ _ _ _) ⟨g, 0, none⟩ n cap xs hown.1 (fun j u hu => by
      rw [show (⟨g, 0, none⟩ : Addr).add j = ⟨g, j, none⟩ from by unfold Addr.add; split <;> simp_all, hown.cellAt j (by rw [← hown.1]; exact (List.getElem?_eq_some_iff.1 hu).1)]
      exact hu) h1 (by omega) (by rw [Nat.zero_add]; exact hbytes)
    rw [Nat.zero_add, List.nil_append] at ho
    obtain ⟨va, vc, hvv⟩ := own_slice ho
    subst hvv
    refine ⟨va, vc, w', hr, ho, fun k hk => ?_, (Below.refl _ _).grown hg (Nat.le_refl _) (fun k e => by cases e)⟩
    rcases hv with e | e
    · rw [hk] at e; cases e
    · rw [hk] at e; injection e with e; omega
/-- At a step of a region that draws. -/
theorem step_append_copy {P : Program} {w : World} {ops : Array Oper} {o : Oper} {a : Act} {K : Act → World → Prop} {Q : Exit → Act → World → Prop} {E : Prop} (hgd : o.guard = none) (s x : Operand) (t : TypeId)
    (ho : o.op = .call { callee := .builtin .append, args := #[s, x], argTypes := #[t, t] }) (e : TypeId) (i : TypeInfo) (z : Value) (size bytes : Nat) (ht : P.underlying t = some (.slice e)) (hi : P.info? e = some i) (hz : i.zero = some z)
    (hsize : i.size = size) (hby : i.bytes = bytes) (hzs : z.cells.size = size) (hsz : 0 < size) (v : Value) (n : Nat) (xs : List Value) (hs : a.eval s = .slice none 0 0) (hx : a.eval x = v) (hown : w.ownsRow 0 e size v n xs) (h1 : ∀ u ∈ xs, u.oneCell' = true)
    (h63 : n ≤ maxLen) (hbytes : n * bytes ≤ 140737488355328)
    (h : ∀ va vc w', w'.ownsRow 0 e size (.slice va n vc) n xs → (∀ k, (Value.slice va n vc).ownBlock = some k → w.heap.size ≤ k) → Below w.heap.size w w' → K (a.put o.dst (.slice va n vc)) w') :
    if Region.wanted o (yielded ops a.tmps) = true then Oper.wp P o a w K Q else E := by
  have hw : Region.wanted o (yielded ops a.tmps) = true := by simp [Region.wanted, hgd]
  rw [if_pos hw]
  obtain ⟨va, vc, w', hr, h2, h3, h4⟩ := run_append_copy (P := P) w t o.type e i z size bytes ht hi hz hsize hby hzs hsz v n xs hown h1 h63 hbytes
  unfold Oper.wp execOp
  simp only [ho, resolve, invoke, builtin, Sem.run_bind, Sem.run_pure, Result.andThen_ok, List.map_toArray, List.map_cons, List.map_nil, hs, hx, hr]
  exact h va vc w' h2 h3 h4
theorem scells_one (S : List (List UInt8)) : ∀ u ∈ scells S, u.oneCell' = true := by
  intro u hu
  unfold scells at hu
  rw [List.mem_map] at hu
  obtain ⟨x, _, rfl⟩ := hu
  rfl

set_option maxHeartbeats 1000000 in
theorem rcopy_any {w : World} {r : Ro} {st : Dm.St} (h : Rk w r st) (hP : st.P.length ≤ 1099511627776) :
    Calls Try.prog 20 #[.pointer (some ⟨r.p, 0, none⟩)] w fun e w' => RMade st w.heap.size w e w' := by
  obtain ⟨i0, hi, hz0, hz1, hz2⟩ := info_parts info_string
  obtain ⟨i1, hj, hy0, hy1, hy2⟩ := info_parts info_rwrite
  have hfew := h.ok.few
  have hplt := h.lt r.p (.inl rfl)
  obtain ⟨sa, sc, hsv⟩ := own_slice h.stands
  obtain ⟨pa, pc, hpv⟩ := own_slice h.pend
  have hst := h.stands
  have hpe := h.pend
  obtain ⟨h0, h1, h2, h3, _⟩ := h.reads
  rw [hsv] at h0 hst
  rw [hpv] at h1 hpe
  obtain ⟨ns, hns⟩ : ∃ n, n = st.S.length := ⟨_, rfl⟩
  obtain ⟨np, hnp⟩ : ∃ n, n = st.P.length := ⟨_, rfl⟩
  rw [← hns] at h0 hst hfew hsv
  rw [← hnp] at h1 hpe hP hpv
  have H := Lib.hid h
  have HST := Lib.hid hst
  have HPE := Lib.hid hpe
  have HNS := Lib.hid hns
  have HNP := Lib.hid hnp
  have HSV := Lib.hid hsv
  have HPV := Lib.hid hpv
  clear h hst hpe hns hnp hsv hpv
  go_enter Try.func20, Try.ntmps20
  go_wp2
  refine still_tail 9 (by kernel_rfl) (by kernel_rfl) ?_
  intro w2 hw2
  have g0 : w2.cell? ⟨r.p, 0, none⟩ = some (.slice sa ns sc) := by rw [hw2.out]; exact h0
  have g1 : w2.cell? ⟨r.p, 1, none⟩ = some (.slice pa np pc) := by rw [hw2.out]; exact h1
  have g2 : w2.cell? ⟨r.p, 2, none⟩ = some (.int .i64 st.fuse) := by rw [hw2.out]; exact h2
  have g3 : w2.cell? ⟨r.p, 3, none⟩ = some (.bool st.dead) := by rw [hw2.out]; exact h3
  have hp2 : r.p < w2.heap.size := by rw [hw2.out]; exact hplt
  have H2 : Hid (Rk w2 r st) := by rw [hw2.out]; exact H.out.same fun _ _ => rfl
  have B2 : Hid (Below w.heap.size w w2) := by rw [hw2.out]; exact (Below.refl _ _).drew
  clear h0 h1 h2 h3 hplt
  simp only [List.take_succ_cons, List.take_zero, List.drop_succ_cons, List.drop_zero]
  repeat still_step
  refine wpStill_nil ?_
  go_wp2
  obtain ⟨X, hX⟩ : ∃ X, X = w2.heap.size := ⟨_, rfl⟩
  generalize hW1 : w2.alloc (.cells #[.slice none 0 0, .slice none 0 0, .int .i64 st.fuse, .bool st.dead] 37) = W1
  have hbW : Below w2.heap.size w2 W1 := by rw [← hW1]; exact box_below _ _
  have HX : Hid (W1.heap[X]? = some (.cells #[.slice none 0 0, .slice none 0 0, .int .i64 st.fuse, .bool st.dead] 37 (0, 0))) := by rw [← hW1, hX]; exact heap_alloc_new _ _
  have HR1 := Lib.hid (H2.out.below hbW)
  have B1 := Lib.hid (B2.out.trans (hbW.mono B2.out.size))
  have hXw : w.heap.size ≤ X := by rw [hX]; exact B2.out.size
  have hXr : ∀ j, r.fp j → j < X := fun j hj => by rw [hX]; exact H2.out.lt j hj
  have c0 := (hbW.cell (p := ⟨r.p, 0, none⟩) hp2).trans g0
  have c1 := (hbW.cell (p := ⟨r.p, 1, none⟩) hp2).trans g1
  have x0 : W1.cell? ⟨X, 0, none⟩ = some (.slice none 0 0) := by rw [cell_of_row _ _ _ _ _ _ HX.out]; rfl
  have HXR := Lib.hid hXr
  rw [← hX]
  clear g0 g1 g2 g3 hp2 hW1 hbW hX hXr
  have OWN : Hid (W1.drew.ownsRow 0 9 1 (.slice sa ns sc) ns (scells st.S)) := by
    have := (HR1.out.same (w' := W1.drew) fun _ _ => rfl).stands
    rw [HSV.out, ← HNS.out] at this
    exact this
  have ONE := Lib.hid (scells_one st.S)
  go_region_law (refine step_append_copy rfl (.tmp 18) (.tmp 22) 34 rfl 9 i0 _ 1 16 Try.underlying34 hi hz0 hz1 hz2 rfl (by decide) (.slice sa ns sc) ns (scells st.S) (by simp [Act.eval]) (by simp [Act.eval]) OWN.out ONE.out (by unfold maxLen; omega) (by omega) ?_; intro va vc w3 hown3 hnew3 hb3; have HO3 := Lib.hid hown3; have HN3 : Hid (∀ k, (Value.slice va ns vc).ownBlock = some k → W1.heap.size ≤ k) := hnew3; have HB3 : Hid (Below W1.heap.size W1 w3) := (Below.refl _ _).drew.trans hb3; have HX3 := Lib.hid ((HB3.out.block X (lt_of_heap HX.out)).trans HX.out); have f4 : w3.frozen? ⟨X, 0, none⟩ = false := frozen_of_row _ _ _ _ _ HX3.out; have c4 : w3.cell? ⟨X, 0, none⟩ = some (.slice none 0 0) := (by rw [cell_of_row _ _ _ _ _ _ HX3.out]; rfl); clear hown3 hnew3 hb3)
  all_goals
    go_wp2
    generalize hW2 : w3.setCell ⟨X, 0, none⟩ (.slice va ns vc) = W2
    have hXw3 := lt_of_heap HX3.out
    have HX5 : Hid (W2.heap[X]? = some (.cells #[.slice va ns vc, .slice none 0 0, .int .i64 st.fuse, .bool st.dead] 37 (0, 0))) := by rw [← hW2]; exact heap_setCell_same _ _ _ _ _ _ HX3.out
    have hne : ∀ j, j ≠ X → W2.heap[j]? = w3.heap[j]? := fun j hj => by rw [← hW2]; exact Below.heap_setCell _ _ _ _ hj
    have hsz : W2.heap.size = w3.heap.size := by rw [← hW2]; simp [World.setCell]
    have hos : W2.os = w3.os ∧ W2.tape = w3.tape ∧ W2.output = w3.output := by rw [← hW2]; exact ⟨rfl, rfl, rfl⟩
    have HR2 : Hid (Rk W2 r st) := HR1.out.same fun j hj => (hne j (by have := HXR.out j hj; omega)).trans (HB3.out.block j (HR1.out.lt j hj))
    have BW : Hid (Below w.heap.size w W2) := ⟨hos.1.trans (HB3.out.os.trans B1.out.os), hos.2.1.trans (HB3.out.tape.trans B1.out.tape), hos.2.2.trans (HB3.out.output.trans B1.out.output), by rw [hsz]; exact Nat.le_trans B1.out.size HB3.out.size, fun j hj => (hne j (by omega)).trans ((HB3.out.block j (Nat.lt_of_lt_of_le hj B1.out.size)).trans (B1.out.block j hj))⟩
    have hXs : ∀ j, (Value.slice va ns vc).ownBlock = some j → j ≠ X := fun j hj => by have := HN3.out j hj; have := lt_of_heap HX.out; omega
    have OS : Hid (W2.ownsRow 0 9 1 (.slice va ns vc) ns (scells st.S)) := own_same HO3.out fun j hj => hne j (hXs j hj)
    obtain ⟨d0, d1, _, _, _⟩ := HR2.out.reads
    rw [HPV.out] at d1
    have x1 : W2.cell? ⟨X, 1, none⟩ = some (.slice none 0 0) := by rw [cell_of_row _ _ _ _ _ _ HX5.out]; rfl
    have OWN2 : Hid (W2.drew.ownsRow 0 45 2 (.slice pa np pc) np (wcells st.P)) := by
      have := (HR2.out.same (w' := W2.drew) fun _ _ => rfl).pend
      rw [HPV.out, ← HNP.out] at this
      exact this
    have ONE2 := Lib.hid (wcells_one st.P)
    have HXS := Lib.hid hXs
    have HNE := Lib.hid hne
    clear hW2 hne hos f4 c4 x0 c0 c1 d0 hXs OWN ONE
    go_region_law (refine step_append_copy rfl (.tmp 30) (.tmp 34) 35 rfl 45 i1 _ 2 24 Try.underlying35 hj hy0 hy1 hy2 rfl (by decide) (.slice pa np pc) np (wcells st.P) (by simp [Act.eval]) (by simp [Act.eval]) OWN2.out ONE2.out (by unfold maxLen; omega) (by omega) ?_; intro qa qc w5 hown5 hnew5 hb5; have HO5 := Lib.hid hown5; have HN5 : Hid (∀ k, (Value.slice qa np qc).ownBlock = some k → W2.heap.size ≤ k) := hnew5; have HB5 : Hid (Below W2.heap.size W2 w5) := (Below.refl _ _).drew.trans hb5; have HX6 := Lib.hid ((HB5.out.block X (lt_of_heap HX5.out)).trans HX5.out); have f5 : w5.frozen? ⟨X, 1, none⟩ = false := frozen_of_row _ _ _ _ _ HX6.out; have c5 : w5.cell? ⟨X, 1, none⟩ = some (.slice none 0 0) := (by rw [cell_of_row _ _ _ _ _ _ HX6.out]; rfl); clear hown5 hnew5 hb5)
    all_goals
      go_wp2
      go_ret
      have hXW : X < W2.heap.size := lt_of_heap HX5.out
      have hq : ∀ j, (Value.slice qa np qc).ownBlock = some j → j ≠ X := fun j hj => by have := HN5.out j hj; omega
      refine ⟨⟨X, .slice va ns vc, .slice qa np qc⟩, rfl, ⟨H.out.ok, ?_, ?_, ?_, H.out.high⟩, ?_, ?_⟩
      · rw [heap_setCell_same _ _ _ _ _ _ HX6.out]; rfl
      · rw [← HNS.out]
        refine own_same OS.out fun j hj => ?_
        obtain ⟨cur, hcc⟩ := own_block OS.out j hj
        exact (Below.heap_setCell _ _ _ _ (HXS.out j hj)).trans (HB5.out.block j (lt_of_heap hcc))
      · rw [← HNP.out]
        exact own_same HO5.out fun j hj => Below.heap_setCell _ _ _ _ (hq j hj)
      · rintro j (hj | hj | hj)
        · rw [hj]; exact hXw
        · have := HN3.out j hj; have := lt_of_heap HX.out; omega
        · have := HN5.out j hj; omega
      · exact (BW.out.trans (HB5.out.mono BW.out.size)).setCell (by exact hXw) _
end Dsk
end Go.Proofs.Ytodihhpeggoodaa
