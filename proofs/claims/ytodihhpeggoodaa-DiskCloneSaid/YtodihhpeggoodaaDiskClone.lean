/- Contracts of maps.Clone, slices.Clone, and of the disk's Clone. -/
import Derived.Test.YtodihhpeggoodaaDiskFlush
import Derived.Shelf.SlMaps.Clone
import Derived.Deep.RegionHeld3
import Derived.WalkSpells
import Derived.Lib.SliceRun
namespace Go.Proofs.Ytodihhpeggoodaa
namespace Dsk
open Go.RowKit
set_option linter.unusedVariables false

theorem mclone_any {w : World} {b : Nat} {es : Array MapEntry} {clock : Nat} (hb : w.heap[b]? = some (.map es clock)) :
    Calls Try.prog 35 #[.map (some b)] w fun e w' => e = .returned (.map (some w.heap.size)) ∧ w' = w.alloc (.map es clock) := by
  have hq := fun w => run_eql_map_nil_sl (P := Try.prog) w 57 _ _ (some b) Try.underlying57
  have HB := Lib.hid hb
  clear hb
  go_enter Try.func35, Try.ntmps35
  go_wp2
  rw [run_callFunc_extern Try.func41 (by kernel_rfl) (by kernel_rfl) (by kernel_rfl) (e := Extern.MapsClone.clone) (by kernel_rfl), run_maps_clone_sl w 57 HB.out]
  simp only [Result.andThen]
  rw [Oper.upon_value]
  go_wp2
  rw [run_typeAssert_map_sl _ 57 20 _ _ _ Try.underlying57]
  simp only [Result.andThen]
  rw [Oper.upon_value]
  go_wp2
  go_ret
  exact ⟨rfl, rfl⟩

theorem zero_row (k : Nat) : (Builtin.zeroCells #[.int .u8 0] k).toList = Lib.byteCells (List.replicate k 0) := by
  simp [Builtin.zeroCells, Lib.byteCells, Nat.mod_one, List.map_const']

/-- 'append(S{}, bytes...)', S{} a new row of no element. -/
theorem run_append_bytes {w : World} {ty : TypeId} {g sb c : Nat} {l sp : List UInt8} {t : TypeId} (hg : w.heap[g]? = some (.cells #[] 5 (0, 0))) (hs : w.heap[sb]? = some (.cells (Lib.byteCells (l ++ sp)).toArray t (0, 0))) (hl : l.length ≤ 1099511627776) :
    ∃ g' sp' w', (Builtin.append_ #[55, 55] ty #[.slice (some ⟨g, 0, none⟩) 0 0, .slice (some ⟨sb, 0, none⟩) l.length c]).run Try.prog w = .ok (.slice (some ⟨g', 0, none⟩) l.length (l.length + sp'.length)) w' ∧
      w'.heap[g']? = some (.cells (Lib.byteCells (l ++ sp')).toArray 5 (0, 0)) ∧ (g' = g ∨ g' = w.heap.size) ∧ w.grownBy w' (some g) := by
  obtain ⟨i0, hi, hz0, hz1, hz2⟩ := info_parts info_byte
  have hnews : ∀ j u, (Lib.byteCells l)[j]? = some u → w.cell? ((⟨sb, 0, none⟩ : Addr).add j) = some u := fun j u hu => by
    rw [show (⟨sb, 0, none⟩ : Addr).add j = ⟨sb, j, none⟩ from by unfold Addr.add; split <;> simp_all, cell_of_row _ _ _ _ _ _ hs]
    have hj : j < (Lib.byteCells l).length := (List.getElem?_eq_some_iff.1 hu).1
    rw [List.getElem?_toArray, Lib.byteCells_append, List.getElem?_append_left hj]; exact hu
  have hown : w.ownsRow 0 5 1 (.slice (some ⟨g, 0, none⟩) 0 0) 0 [] := ⟨rfl, .inr ⟨g, 0, #[], rfl, Nat.zero_le _, hg, Nat.le_refl _, Nat.zero_le _, rfl, rfl⟩⟩
  obtain ⟨v', w', hr, ho, hgr, _⟩ := run_append_home (P := Try.prog) w 55 ty 5 i0 _ 1 1 Try.underlying55 hi hz0 hz1 hz2 rfl (by decide) _ 0 [] hown ⟨sb, 0, none⟩ l.length c (Lib.byteCells l) (by rw [Lib.byteCells_length, Nat.mul_one]) hnews (Lib.byteCells_one l) (by unfold maxLen; omega) (by omega)
  by_cases h0 : l.length = 0
  · have hl0 : l = [] := List.eq_nil_of_length_eq_zero h0
    subst hl0
    have hr2 := run_append_room (P := Try.prog) w 55 ty 5 i0 Try.underlying55 hi g 0 0 #[] hg ⟨sb, 0, none⟩ 0 c [] (by simp) (fun j u hu => by simp at hu) (fun u hu => by cases hu) (Nat.le_refl _) (by simp)
    have hr3 := hr2.symm.trans hr
    injection hr3 with hv hw
    refine ⟨g, [], w', hr2.trans (by rw [hw]; rfl), ?_, .inl rfl, hgr⟩
    rw [← hw]
    have h9 : (w.setRow g (List.take (0 * i0.size) (#[] : Array Value).toList ++ [] ++ List.drop (0 * i0.size + ([] : List Value).length) (#[] : Array Value).toList).toArray).heap[g]? = some (.cells (List.take (0 * i0.size) (#[] : Array Value).toList ++ [] ++ List.drop (0 * i0.size + ([] : List Value).length) (#[] : Array Value).toList).toArray 5 (0, 0)) := setRow_heap _ _ _ _ _ _ hg
    rw [h9]
    simp [Lib.byteCells]
  · have hr2 := run_append_grow (P := Try.prog) w 55 ty 5 i0 _ Try.underlying55 hi hz0 ⟨g, 0, none⟩ 0 0 [] (by simp) (fun j u hu => by simp at hu) ⟨sb, 0, none⟩ l.length c (Lib.byteCells l) (by rw [Lib.byteCells_length, hz1, Nat.mul_one]) hnews (by omega) (by omega) (growslice_fits (by omega) (by rw [hz2]; omega))
    rw [hr2] at hr
    injection hr with hv hw
    subst hv
    obtain ⟨_, h2⟩ := ho
    rcases h2 with ⟨h2, _⟩ | ⟨g2, cap, cur, h2, _, h3, h4, _, h5, _⟩
    · cases h2
    · injection h2 with h2 h6 h7
      injection h2 with h2
      injection h2 with h2
      rw [← h7] at h4
      refine ⟨w.heap.size, List.replicate (grownCap w (0 + l.length) 0 5 - (0 + l.length)) 0, w', hr2.trans ?_, ?_, .inr rfl, hgr⟩
      · rw [hw, List.length_replicate, Nat.zero_add, Nat.add_sub_cancel' (by rw [Nat.zero_add] at h4; exact h4)]
      · rw [← hw]
        have e1 : (([] : List Value).toArray ++ (Lib.byteCells l).toArray ++ Builtin.zeroCells (Value.int .u8 0).cells (grownCap w (0 + l.length) 0 5 - (0 + l.length))) = (Lib.byteCells (l ++ List.replicate (grownCap w (0 + l.length) 0 5 - (0 + l.length)) 0)).toArray := by
          apply Array.ext'
          rw [Lib.byteCells_append, ← zero_row]
          simp [Value.cells]
        rw [e1]
        exact heap_alloc_new w.drew _
theorem info_write' : (Try.prog.info? 64).map (fun i => (i.zero, i.size, i.bytes)) = some (some (.agg #[.int .i64 0, .string ⟨#[]⟩]), 2, 24) := by kernel_rfl

theorem wpList_append_bytes {w : World} {ops : Array Oper} {rest : List Oper} {o : Oper} {a : Act} {Q : Exit → Act → World → Prop} (hgd : o.guard = none) (s x : Operand)
    (ho : o.op = .call { callee := .builtin .append, args := #[s, x], argTypes := #[55, 55] }) {g sb n c : Nat} {l sp : List UInt8} {t : TypeId} (hn : n = l.length) (hs : a.eval s = .slice (some ⟨g, 0, none⟩) 0 0) (hx : a.eval x = .slice (some ⟨sb, 0, none⟩) n c)
    (hg : w.heap[g]? = some (.cells #[] 5 (0, 0))) (hsb : w.heap[sb]? = some (.cells (Lib.byteCells (l ++ sp)).toArray t (0, 0))) (hl : l.length ≤ 1099511627776)
    (h : ∀ g' sp' w', Hid (w'.heap[g']? = some (.cells (Lib.byteCells (l ++ sp')).toArray 5 (0, 0))) → Hid (g' = g ∨ g' = w.heap.size) → Hid (w.grownBy w' (some g)) → wpList Try.prog ops Q rest (a.put o.dst (.slice (some ⟨g', 0, none⟩) n (n + List.length (α := UInt8) sp'))) w') : wpList Try.prog ops Q (o :: rest) a w := by
  subst hn
  refine wpList_plain hgd fun K hK => ?_
  obtain ⟨g', sp', w', hr, h1, h2, h3⟩ := run_append_bytes (ty := o.type) (c := c) hg hsb hl
  unfold Oper.wp execOp
  simp only [ho, resolve, invoke, builtin, Sem.run_bind, Sem.run_pure, Result.andThen_ok, List.map_toArray, List.map_cons, List.map_nil, hs, hx, hr]
  exact hK _ _ (h g' sp' w' h1 h2 h3)

def Cloned (l : List UInt8) (n : Nat) (w : World) (e : Ending) (w' : World) : Prop := ∃ g sp, e = .returned (.slice (some ⟨g, 0, none⟩) n (n + List.length (α := UInt8) sp)) ∧ w'.heap[g]? = some (.cells (Lib.byteCells (l ++ sp)).toArray 5 (0, 0)) ∧ w.heap.size ≤ g ∧ Below w.heap.size w w'
theorem bclone_any {w : World} {sb n c : Nat} {l sp : List UInt8} {t : TypeId} (hn : n = l.length) (hs : w.heap[sb]? = some (.cells (Lib.byteCells (l ++ sp)).toArray t (0, 0))) (hl : l.length ≤ 1099511627776) :
    Calls Try.prog 33 #[.slice (some ⟨sb, 0, none⟩) n c] w (Cloned l n w) := by
  have HS := Lib.hid hs
  have HN := Lib.hid hn
  have hlt := lt_of_heap hs
  have hq := fun w => Lib.run_eql_slice_nil (P := Try.prog) w 55 _ (some ⟨sb, 0, none⟩) n c 0 0 Try.underlying55
  clear hs hn
  go_enter Try.func33, Try.ntmps33
  go_wp2_with (at_builtin; refine wpList_append_bytes (sp := sp) (t := t) (l := l) rfl (.tmp 5) (.tmp 6) rfl HN.out rfl rfl ?d1 ?d2 hl ?_)
  case d1 => exact heap_alloc_new _ _
  case d2 => exact (Below.heap_alloc _ _ _ hlt).trans HS.out
  intro g' sp' w' h1 h2 h3
  go_wp2
  go_ret
  refine ⟨g', sp', rfl, h1.out, ?_, ?_⟩
  · rcases h2.out with e | e
    · rw [e]; exact Nat.le_refl _
    · rw [e]; simp
  · exact ((Below.refl _ _).alloc (Nat.le_refl _) _).trans ((Below.refl _ _).grown h3.out (by simp) (fun k e => by injection e with e; omega))

def PCloned (n : Nat) (xs : List Value) (w : World) (e : Ending) (w' : World) : Prop := ∃ v, e = .returned v ∧ w'.ownsRow 0 64 2 v n xs ∧ (∀ k, v.ownBlock = some k → w.heap.size ≤ k) ∧ Below w.heap.size w w'
theorem pclone_nil (w : World) : Calls Try.prog 34 #[.slice none 0 0] w (PCloned 0 [] w) := by
  have hq := fun w => Lib.run_eql_slice_nil (P := Try.prog) w 56 _ none 0 0 0 0 Try.underlying56
  go_enter Try.func34, Try.ntmps34
  go_wp2
  go_ret
  exact ⟨_, rfl, World.ownsRow_nil _ _ _ _, (fun k hk => by cases hk), Below.refl _ _⟩
theorem pclone_some {w : World} {g n c : Nat} {xs : List Value} (hown : w.ownsRow 0 64 2 (.slice (some ⟨g, 0, none⟩) n c) n xs) (h1 : ∀ u ∈ xs, u.oneCell' = true) (hl : n ≤ 1099511627776) :
    Calls Try.prog 34 #[.slice (some ⟨g, 0, none⟩) n c] w (PCloned n xs w) := by
  obtain ⟨i0, hi, hz0, hz1, hz2⟩ := info_parts info_write'
  have hq := fun w => Lib.run_eql_slice_nil (P := Try.prog) w 56 _ (some ⟨g, 0, none⟩) n c 0 0 Try.underlying56
  have HO := Lib.hid hown
  have H1 := Lib.hid h1
  have hlt : g < w.heap.size := by obtain ⟨cur, hc⟩ := own_block hown g rfl; exact lt_of_heap hc
  have hxl := hown.1
  have HXL := Lib.hid hxl
  clear hown h1 hxl
  go_enter Try.func34, Try.ntmps34
  go_wp2_with (at_builtin; refine wpList_append_home rfl (.tmp 5) (.tmp 6) 56 rfl 64 i0 _ 2 24 Try.underlying56 hi hz0 hz1 hz2 rfl (by decide) _ 0 [] rfl ?d0 ⟨g, 0, none⟩ n c xs rfl ?d1 ?d2 H1.out ?d3 ?d4 ?_)
  case d0 => exact ⟨rfl, .inr ⟨_, 0, #[], rfl, Nat.zero_le _, heap_alloc_new _ _, Nat.le_refl _, Nat.zero_le _, rfl, rfl⟩⟩
  case d1 => exact HXL.out
  case d2 =>
    intro j u hu
    have hj : j < xs.length := (List.getElem?_eq_some_iff.1 hu).1
    rw [show (⟨g, 0, none⟩ : Addr).add j = ⟨g, j, none⟩ from by unfold Addr.add; split <;> simp_all]
    rw [World.cell?_of_block (w := w) (a := ⟨g, j, none⟩) (Below.heap_alloc _ _ _ hlt), HO.out.cellAt j (by rw [← HXL.out]; exact hj)]
    exact hu
  case d3 => unfold maxLen; omega
  case d4 => omega
  intro v' w' ho hg hv
  have HO2 := Lib.hid ho
  have HG2 := Lib.hid hg
  have HV2 := Lib.hid hv
  clear ho hg hv
  go_wp2
  go_ret
  refine ⟨v', rfl, HO2.out, ?_, ?_⟩
  · intro k hk
    rcases HV2.out with e | e
    · rw [hk] at e; injection e with e; exact Nat.le_of_eq e.symm
    · rw [hk] at e; injection e with e; rw [e]; simp
  · exact ((Below.refl _ _).alloc (Nat.le_refl _) _).trans ((Below.refl _ _).grown HG2.out (by simp) (fun k e => by injection e with e; exact Nat.le_of_eq e))
theorem wcells_one (P : List (Nat × List UInt8)) : ∀ u ∈ wcells P, u.oneCell' = true := by
  intro u hu
  unfold wcells at hu
  rw [List.mem_flatMap] at hu
  obtain ⟨x, _, hx⟩ := hu
  rcases List.mem_cons.1 hx with rfl | hx
  · rfl
  · rw [List.mem_singleton.1 hx]; rfl
theorem pclone_any {w : World} {v : Value} {n : Nat} {P : List (Nat × List UInt8)} (hown : w.ownsRow 0 64 2 v n (wcells P)) (hl : n ≤ 1099511627776) :
    Calls Try.prog 34 #[v] w (PCloned n (wcells P) w) := by
  rcases hown.2 with ⟨rfl, h0⟩ | ⟨g, cap, cur, rfl, _⟩
  · subst h0
    have : wcells P = [] := List.eq_nil_of_length_eq_zero (by have := hown.1; simpa using this)
    rw [this]
    exact pclone_nil w
  · exact pclone_some hown (wcells_one P) hl

set_option maxHeartbeats 1000000 in
theorem clone_any {w : World} {o : Ob} {st : Dm.St} (h : Dk w o st) (hP : st.P.length ≤ 1099511627776) :
    Calls Try.prog 19 #[.pointer (some ⟨o.p, 0, none⟩)] w fun e w' => Made st w.heap.size w e w' := by
  obtain ⟨h0, h1, h2, h3, h4, _⟩ := h.reads
  obtain ⟨D, nm, hm, hnm, hmo⟩ := h.newest
  have hmlt := hm.lt
  obtain ⟨es, clock, hmb, hmF, hms, hmD⟩ := hm
  have hfew := h.ok.few
  have hflat := Dm.flat_length h.ok.sectors
  have hplt := lt_of_heap h.head
  have CB : Hid (∀ w1, Below w.heap.size w w1 → Calls Try.prog 33 #[.slice (some ⟨o.sb, 0, none⟩) (64 * st.S.length) (64 * st.S.length + o.sp.length)] w1 (Cloned st.S.flatten (64 * st.S.length) w1)) :=
    fun w1 hb => bclone_any hflat.symm (h.below hb).stands (by rw [hflat]; omega)
  have CP : Hid (∀ w1, Below w.heap.size w w1 → Calls Try.prog 34 #[o.pv] w1 (PCloned st.P.length (wcells st.P) w1)) :=
    fun w1 hb => pclone_any (h.below hb).pend hP
  have CM : Hid (∀ w1, Below w.heap.size w w1 → Calls Try.prog 35 #[.map (some o.mb)] w1 fun e w' => e = .returned (.map (some w1.heap.size)) ∧ w' = w1.alloc (.map es clock)) :=
    fun w1 hb => mclone_any ((hb.block _ hmlt).trans hmb)
  have H := Lib.hid h
  obtain ⟨pv, hpv⟩ : ∃ v, v = o.pv := ⟨_, rfl⟩
  obtain ⟨N, hN⟩ : ∃ N, N = 64 * st.S.length := ⟨_, rfl⟩
  obtain ⟨C, hC⟩ : ∃ C, C = 64 * st.S.length + o.sp.length := ⟨_, rfl⟩
  obtain ⟨dd, hdd⟩ : ∃ d, d = st.dead := ⟨_, rfl⟩
  rw [← hpv] at h1 CP
  rw [← hC, ← hN] at h0 CB
  rw [← hdd] at h4
  obtain ⟨pa, pn, pc, hps⟩ : ∃ pa pn pc, pv = .slice pa pn pc := by
    obtain ⟨a, c, e⟩ := own_slice h.pend
    exact ⟨a, _, c, hpv.trans e⟩
  subst hps
  have HN := Lib.hid hN
  have HDD := Lib.hid hdd
  have HMF := Lib.hid hmF
  have HMS := Lib.hid hms
  have HMD := Lib.hid hmD
  have HMO := Lib.hid hmo
  clear h hpv hN hC hdd hmb hmF hms hmD hmo hflat
  go_enter Try.func19, Try.ntmps19
  go_wp2
  go_region_held3 (fun w' => w'.cell? ⟨o.p, 0, none⟩ = some (.slice (some ⟨o.sb, 0, none⟩) N C) ∧ w'.cell? ⟨o.p, 1, none⟩ = some (.slice pa pn pc) ∧ w'.cell? ⟨o.p, 2, none⟩ = some (.map (some o.mb)) ∧ w'.cell? ⟨o.p, 3, none⟩ = some (.int .i64 o.f) ∧ w'.cell? ⟨o.p, 4, none⟩ = some (.bool dd))
    (first | go_keep | (refine ⟨?_, ?_, ?_, ?_, ?_⟩ <;> assumption) | (exact ⟨(BX.out.cell (p := ⟨o.p, 0, none⟩) hplt).trans h0, (BX.out.cell (p := ⟨o.p, 1, none⟩) hplt).trans h1, (BX.out.cell (p := ⟨o.p, 2, none⟩) hplt).trans h2, (BX.out.cell (p := ⟨o.p, 3, none⟩) hplt).trans h3, (BX.out.cell (p := ⟨o.p, 4, none⟩) hplt).trans h4⟩))
    (first | (go_at_call 33; refine (CB.out _ (Below.refl _ _).drew).mono ?_; rintro e w1 ⟨g, sp, rfl, k1, k2, k3⟩; have K1 := Lib.hid k1; have K2 : Hid (w.heap.size ≤ g) := k2; have BX : Hid (Below w.heap.size w w1) := (Below.refl _ _).drew.trans k3; have B1 := BX; clear k1 k2 k3) | (go_at_call 34; refine (CP.out _ B1.out).mono ?_; rintro e w2 ⟨v2, rfl, k4, k5, k6⟩; obtain ⟨va, vc, hv2⟩ := own_slice k4; subst hv2; have K4 := Lib.hid k4; have K5 := Lib.hid k5; have K6 := Lib.hid k6; have BX : Hid (Below w.heap.size w w2) := B1.out.trans (k6.mono B1.out.size); have B2 := BX; clear k4 k5 k6) | (go_at_call 35; refine (CM.out _ B2.out).mono ?_; rintro e w3 ⟨rfl, k7⟩; have K7 := Lib.hid k7; have BX : Hid (Below w.heap.size w w3) := (by rw [k7]; exact B2.out.alloc B2.out.size _); have B3 := BX; clear k7))
  go_wp2
  go_ret
  have z1 : w.heap.size ≤ w1.heap.size := B1.out.size
  have z2 : w1.heap.size ≤ w2.heap.size := K6.out.size
  have z3 : w3.heap.size = w2.heap.size + 1 := by rw [K7.out]; simp
  have hg1 := lt_of_heap K1.out
  have old : ∀ j, j < w2.heap.size → w3.heap[j]? = w2.heap[j]? := fun j hj => by rw [K7.out]; exact Below.heap_alloc _ _ _ hj
  refine ⟨⟨w3.heap.size, g, .slice va st.P.length vc, w2.heap.size, o.f, sp⟩, rfl, ⟨H.out.ok, ?_, ?_, ?_, ⟨D, nm, ⟨es, clock, ?_, HMF.out, HMS.out, HMD.out⟩, hnm, HMO.out⟩, H.out.fuse, H.out.low, H.out.high⟩, ?_, ?_⟩
  · rw [← HN.out, ← HDD.out]; exact heap_alloc_new w3 _
  · refine (Below.heap_alloc w3 _ _ (by show g < _; omega)).trans ((old g (by omega)).trans ((K6.out.block g hg1).trans K1.out))
  · refine own_same K4.out fun j hj => ?_
    obtain ⟨cur, hcc⟩ := own_block K4.out j hj
    have hj2 := lt_of_heap hcc
    exact (Below.heap_alloc w3 _ _ (by omega)).trans (old j hj2)
  · refine (Below.heap_alloc w3 _ _ (by show w2.heap.size < _; omega)).trans ?_
    rw [K7.out]
    exact heap_alloc_new w2 _
  · rintro k (hk | hk | hk | hk)
    · rw [hk]; show w.heap.size ≤ w3.heap.size; omega
    · rw [hk]; exact K2.out
    · exact Nat.le_trans z1 (K5.out k hk)
    · rw [hk]; show w.heap.size ≤ w2.heap.size; omega
  · exact B3.out.alloc (by omega) _
end Dsk
end Go.Proofs.Ytodihhpeggoodaa
