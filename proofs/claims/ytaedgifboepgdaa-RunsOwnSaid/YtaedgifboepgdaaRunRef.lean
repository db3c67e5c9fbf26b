/- Contracts of the document's Of and First. -/
import Derived.Test.YtaedgifboepgdaaRunRRight
namespace Go.Proofs.Ytaedgifboepgdaa
namespace Rn
open Go.RowKit Dsk Tb
set_option linter.unusedVariables false
set_option maxRecDepth 100000

/-- append onto a row of rows, at the operation. -/
theorem wpList_append_rows {w : World} {ops : Array Oper} {rest : List Oper} {o : Oper} {a : Act} {Q : Exit → Act → World → Prop} (hg : o.guard = none) (s x : Operand) (hop : o.op = .call { callee := .builtin .append, args := #[s, x], argTypes := #[24, 24] }) (base : Nat)
    (v : Value) (n : Nat) (vs : List Value) (hs : a.eval s = v) (hown : w.ownsRow base 22 1 v n vs) (b : Nat) (u : Value) (hu : u.oneCell' = true) (hx : a.eval x = .slice (some ⟨b, 0, none⟩) 1 1) (hc : w.heap[b]? = some (.cells #[u] 22 (0, 0))) (h63 : n < 8796093022208) (hbase : base ≤ w.heap.size)
    (h : ∀ v' w', w'.ownsRow base 22 1 v' (n + 1) (vs ++ [u]) → w.grownBy w' v.ownBlock → wpList Try.prog ops Q rest (a.put o.dst v') w') : wpList Try.prog ops Q (o :: rest) a w := by
  obtain ⟨v', w', hrun, r1, r2⟩ := run_append_rows w base o.type v n vs hown b u hu hc h63 hbase
  refine wpList_plain hg fun K hK => ?_
  unfold Oper.wp execOp
  simp only [hop, resolve, invoke, builtin, Sem.run_bind, Sem.run_pure, Result.andThen_ok, List.map_toArray, List.map_cons, List.map_nil, hs, hx, hrun]
  exact hK _ _ (h v' w' r1 r2)
/-- Behind an append of a new row of one. -/
theorem Rows.one {w w5 : World} {base : Nat} {v v' : Value} {vs : List Value} {L : List (List E)} {x y : Int} (h : Rows w base v vs L) (hb : base ≤ w.heap.size)
    (ho : w5.ownsRow base 22 1 v' (L.length + 1) (vs ++ [.slice (some ⟨w.heap.size, 0, none⟩) 1 1])) (hg : ((w.alloc (.cells #[.int .i64 x, .int .i64 y] 36)).alloc (.cells #[.slice (some ⟨w.heap.size, 0, none⟩) 1 1] 22)).grownBy w5 v.ownBlock) :
    Rows w5 base v' (vs ++ [.slice (some ⟨w.heap.size, 0, none⟩) 1 1]) (L ++ [[(x, y)]]) ∧ Below base w w5 := by
  have b2 : Below w.heap.size w ((w.alloc (.cells #[.int .i64 x, .int .i64 y] 36)).alloc (.cells #[.slice (some ⟨w.heap.size, 0, none⟩) 1 1] 22)) := (below_new _ _).alloc (by simp) _
  have h2 := h.next b2
  have hu : ((w.alloc (.cells #[.int .i64 x, .int .i64 y] 36)).alloc (.cells #[.slice (some ⟨w.heap.size, 0, none⟩) 1 1] 22)).ownsRow base 36 2 (.slice (some ⟨w.heap.size, 0, none⟩) 1 1) 1 (ecells [(x, y)]) := by
    refine World.ownsRow.alloc ⟨rfl, .inr ⟨w.heap.size, 1, _, rfl, hb, heap_alloc_new _ _, Nat.le_refl _, by unfold maxLen; omega, rfl, rfl⟩⟩ _
  refine ⟨h2.snoc hg (fun k hk => own_block h2.out k hk) ho hu, (b2.mono hb).grown hg (Nat.le_trans hb b2.size) fun k hk => (h2.out.lt k hk).1⟩
/-- The last row is another one. -/
theorem Rows.put {w : World} {base b c nv : Nat} {vs : List Value} {done : List (List E)} {cur cur2 : List E} {u : Value} (h : Rows w base (.slice (some ⟨b, 0, none⟩) nv c) vs (done ++ [cur])) (hnv : nv = done.length + 1) (hu : w.ownsRow base 36 2 u cur2.length (ecells cur2)) :
    Rows (w.setCell ⟨b, done.length, none⟩ u) base (.slice (some ⟨b, 0, none⟩) nv c) (vs.set done.length u) (done ++ [cur2]) ∧ base ≤ b ∧ Below base w (w.setCell ⟨b, done.length, none⟩ u) := by
  have hl : (done ++ [cur2]).length = nv := by simp [hnv]
  have hl1 : (done ++ [cur]).length = nv := by simp [hnv]
  have hs := h.size
  obtain ⟨curb, hcb⟩ := own_block h.out b rfl
  have hlt := h.out.lt b rfl
  refine ⟨⟨?_, fun i x r h1 h2 => ?_⟩, hlt.1, (Below.refl _ _).setCell (p := ⟨b, done.length, none⟩) hlt.1 _⟩
  · rw [hl]
    have := h.out
    rw [hl1] at this
    exact (this.stored done.length u).1
  · by_cases hi : i < done.length
    · rw [List.getElem?_set_ne (by omega)] at h1
      rw [List.getElem?_append_left hi] at h2
      exact own_set (h.ins i x r h1 (by rw [List.getElem?_append_left hi]; exact h2)) (by decide) (p := ⟨b, done.length, none⟩) hcb u
    · have hi2 : i = done.length := by
        have := (List.getElem?_eq_some_iff.1 h2).1
        simp at this; omega
      subst hi2
      rw [List.getElem?_set_self (by rw [hs]; simp)] at h1
      rw [List.getElem?_append_right (Nat.le_refl _)] at h2
      simp at h1 h2
      subst h1 h2
      exact own_set hu (by decide) (p := ⟨b, done.length, none⟩) hcb _
theorem rows_frozen {w : World} {base b c nv n : Nat} {vs : List Value} (h : w.ownsRow base 22 1 (.slice (some ⟨b, 0, none⟩) nv c) n vs) (j : Nat) : w.frozen? ⟨b, j, none⟩ = false := by
  obtain ⟨cur, hc⟩ := own_block h b rfl
  exact frozen_of_row (j := j) _ _ _ _ hc
/-- A copy of a run, and one more behind it. -/
theorem run_more {w4 w5 : World} {base : Nat} {va : Value} {cur : List E} {n : Nat} {x y : Int} {v' : Value} (hn : n = cur.length) (hown : w4.ownsRow base 36 2 va n (ecells cur)) 
    (h1 : w5.ownsRow 0 36 2 v' (n + 1) (ecells (cur ++ [(x, y)]))) (h2 : Fr (fun k => va.ownBlock = some k) (w4.alloc (.cells #[.int .i64 x, .int .i64 y] 36)) w5) (h3 : ∀ k, v'.ownBlock = some k → va.ownBlock = some k ∨ (w4.alloc (.cells #[.int .i64 x, .int .i64 y] 36)).heap.size ≤ k) (hb : base ≤ w4.heap.size) :
    w5.ownsRow base 36 2 v' (cur ++ [(x, y)]).length (ecells (cur ++ [(x, y)])) ∧ Below base w4 w5 := by
  subst hn
  refine ⟨?_, (((below_new w4 _).mono hb)).trans (h2.below (B := base) (by simp; omega) fun k hk => (hown.lt k hk).1)⟩
  rw [List.length_append]
  refine Geo.own_from h1 fun k hk => ?_
  rcases h3 k hk with e | e
  · exact (hown.lt k e).1
  · simp at e; omega
/-- The document's answer, so far. -/
structure RSt (w wr : World) (m : Int) (l : List E) (k : Nat) (v : Value) (vs : List Value) (L : List (List E)) : Prop where
  doc : Doc m l k L
  rows : Rows wr w.heap.size v vs L
  bel : Below w.heap.size w wr
theorem RSt.next {w wr w2 : World} {m : Int} {l : List E} {k : Nat} {v : Value} {vs : List Value} {L : List (List E)} (h : RSt w wr m l k v vs L) (hb : Below wr.heap.size wr w2) : RSt w w2 m l k v vs L := ⟨h.doc, h.rows.next hb, h.bel.trans (hb.mono h.bel.size)⟩

theorem rof_no {m : Int} {l : List E} {n c : Nat} (hin : In m l n c) (a : Option Addr) (w : World) (hrow : REnts w a l) (h : rightB m l = false) :
    Calls Try.prog 8 #[.int .i64 m, .slice a n c] w fun e w' => e = .returned (.tuple #[.slice none 0 0, .int .i64 1]) ∧ Below w.heap.size w w' := by
  have R := Lib.hid (rright_any hin a w hrow)
  rw [h] at R
  clear hin hrow h
  go_enter Try.func8, Try.ntmps8
  go_wp2_with fail
  refine R.out.mono ?_
  rintro e w1 ⟨rfl, hb⟩
  go_wp2_with fail
  go_ret2
  exact ⟨rfl, hb⟩
set_option maxHeartbeats 2000000 in
theorem rof_ok {m : Int} {l : List E} {n c : Nat} (hin : In m l n c) (hfew : n ≤ 1048576) (a : Option Addr) (w : World) (hrow : REnts w a l) (h : rightB m l = true) :
    Calls Try.prog 8 #[.int .i64 m, .slice a n c] w fun e w' => ∃ v vs, e = .returned (.tuple #[v, .int .i64 0]) ∧ Rows w' w.heap.size v vs (told m l) ∧ Below w.heap.size w w' := by
  have R := Lib.hid (rright_any hin a w hrow)
  rw [h] at R
  have HI := Lib.hid hin
  have HX := Lib.hid hrow
  have HR := Lib.hid h
  have hm1 := (right_iff.1 h).1
  clear hin hrow h
  go_enter Try.func8, Try.ntmps8
  go_wp2_with fail
  refine R.out.mono ?_
  rintro e w1 ⟨rfl, hb⟩
  have HB1 := Lib.hid hb
  clear hb R
  go_wp2_with fail
  go_loopw [7, 8] (fun v i wr => ∃ (k : Nat) (L : List (List E)) (va : Option Addr) (nv vc : Nat) (vs : List Value), k ≤ n ∧ v = .slice va nv vc ∧ i = .int .i64 k ∧ Hid (nv = L.length) ∧ Hid (RSt w wr m l k (.slice va nv vc) vs L)) (fun _ i _ => n - (numOf i).toNat)
  case atStart => exact ⟨0, [], none, 0, 0, [], Nat.zero_le _, rfl, rfl, Lib.hid rfl, ⟨Doc.start _ _, Rows.nil _ _, HB1.out⟩⟩
  case round =>
    obtain ⟨k, L, va, nv, vc, vs, hk, rfl, rfl, hnv, hst⟩ := hrel
    have hin := HI.out
    have hn := hin.len
    have hnl : nv ≤ k := by have := hst.out.doc.2.1; have := hnv.out; omega
    have hby := hin.bytes
    by_cases hlt : k < n
    · have t1 : decide ((k : Int) < (n : Int)) = true := by simp; omega
      have t2 : decide (k < n) = true := by simp; omega
      have hkl : k < l.length := by omega
      obtain ⟨b, off, x, z, h1, c0, c1, ex⟩ := ents_nth HX.out hst.out.bel hkl
      subst h1
      have hx01 : l[k] = (x, z) := (List.getElem?_eq_some_iff.1 ex).2
      have hx0 := pos_at HR.out hkl
      have hx1 := (hin.get hkl).2
      rw [hx01] at hx0 hx1
      have HXX : Hid (∀ h : k < l.length, l[k] = (x, z)) := fun _ => hx01
      have hk0 : (0 : Int) ≤ (k : Int) := by omega
      have hk1 : (k : Int) < (n : Int) := by omega
      have hw1 : IntKind.i64.wrap ((k : Int) + 1) = ((k + 1 : Nat) : Int) := by rw [IntWalk.i64_in _ (by omega)]; rfl
      have hw2 : IntKind.i64.wrap ((nv : Int) - 1) = (nv : Int) - 1 := IntWalk.i64_in _ (by omega)
      by_cases hkz : k = 0
      · have t4 : decide ((k : Int) > 0) = false := by simp; omega
        have t5 : decide (k > 0) = false := by simp; omega
        have DOC : Hid (Doc m l (k + 1) (L ++ [[(x, z)]])) := Lib.hid (by
          subst hkz
          obtain ⟨e, h⟩ := hst.out.doc.first hm1 hkl
          rw [e, ← hx01]; exact h)
        have c2 := c0
        clear hkz hx01 ex hin hkl hn
        go_wp2
        go_quiet (fail)
        have HB0 : Hid (Below wr.heap.size wr (wr.drewN nq)) := Lib.hid (Dsk.below_q (Below.refl _ _) nq)
        generalize wr.drewN nq = W0 at HB0 ⊢
        have HS0 := Lib.hid (hst.out.next HB0.out)
        have d0 := (HB0.out.cell (p := ⟨b, off + k * 2, none⟩) (World.block_lt_of_cell? _ _ c0)).trans c0
        have d1 := (HB0.out.cell (p := ⟨b, off + k * 2 + 1, none⟩) (World.block_lt_of_cell? _ _ c1)).trans c1
        have OWN : Hid (((W0.alloc (.cells #[.int .i64 x, .int .i64 z] 36)).alloc (.cells #[.slice (some ⟨W0.heap.size, 0, none⟩) 1 1] 22)).ownsRow w.heap.size 22 1 (.slice (va) nv vc) nv vs) := Lib.hid (by
          have := HS0.out.rows.out
          rw [← hnv.out] at this
          exact (this.alloc _).alloc _)
        have NEW : Hid (((W0.alloc (.cells #[.int .i64 x, .int .i64 z] 36)).alloc (.cells #[.slice (some ⟨W0.heap.size, 0, none⟩) 1 1] 22)).heap[W0.heap.size + 1]? = some (.cells #[.slice (some ⟨W0.heap.size, 0, none⟩) 1 1] 22 (0, 0))) := Lib.hid (by
          have := heap_alloc_new (W0.alloc (.cells #[.int .i64 x, .int .i64 z] 36)) (.cells #[.slice (some ⟨W0.heap.size, 0, none⟩) 1 1] 22)
          simpa using this)
        have HSZ : Hid (w.heap.size ≤ W0.heap.size) := Lib.hid HS0.out.bel.size
        have HK6 : Hid (nv < 8796093022208) := Lib.hid (by omega)
        clear c0 c1 c2
        go_wp2_with (at_builtin; refine wpList_append_rows rfl (.tmp 68) (.tmp 74) rfl w.heap.size (.slice (va) nv vc) nv vs rfl OWN.out (W0.heap.size + 1) (.slice (some ⟨W0.heap.size, 0, none⟩) 1 1) rfl rfl NEW.out HK6.out (Nat.le_trans HSZ.out (by simp; omega)) ?_; intro v5 w5 ho hg)
        obtain ⟨a5, c5, rfl⟩ := own_slice ho
        have FIN := Lib.hid (HS0.out.rows.one (x := x) (y := z) HSZ.out (by rw [← hnv.out]; exact ho) hg)
        clear ho hg
        go_roundw
        case rel => exact ⟨k + 1, L ++ [[(x, z)]], a5, nv + 1, c5, _, by omega, rfl, by go_num, Lib.hid (by rw [hnv.out]; simp), Lib.hid ⟨DOC.out, FIN.out.1, HS0.out.bel.trans FIN.out.2⟩⟩
        case measure => simp [numOf]; omega
      · have t4 : decide ((k : Int) > 0) = true := by simp; omega
        have t5 : decide (k > 0) = true := by simp; omega
        obtain ⟨j, hj⟩ : ∃ j, k = j + 1 := ⟨k - 1, by omega⟩
        obtain ⟨_, _, y, _, h2, c3, _, ey⟩ := ents_nth HX.out hst.out.bel (show j < l.length by omega)
        cases h2
        have hla : la l k = y := by rw [hj, la_succ (show j < l.length by omega), (List.getElem?_eq_some_iff.1 ey).2]
        have hy01 : 0 ≤ y ∧ y ≤ 9223372036854775807 := by
          have h1 := pos_at HR.out (show j < l.length by omega)
          have h2 := (hin.get (show j < l.length by omega)).2
          rw [(List.getElem?_eq_some_iff.1 ey).2] at h1 h2
          exact ⟨h1, h2⟩
        have i2 : (1 : Int) ≤ (k : Int) := by omega
        have i3 : (k : Int) ≤ (n : Int) := by omega
        have i4 : (k - 1 : Int).toNat = j := by omega
        have i5 : IntKind.i64.wrap ((k : Int) - 1) = (k : Int) - 1 := IntWalk.i64_in _ (by omega)
        obtain ⟨done, cur, hL, hcn, hcm, hck, _, _⟩ := hst.out.doc.split (by omega)
        have hdl : L.length = done.length + 1 := by rw [hL]; simp
        obtain ⟨bo, co, ca, cd, hvo, _, hbo, c2, _, hcd, hcu⟩ := hst.out.rows.get (i := done.length) (r := cur) (by rw [hL]; simp)
        have hnd : nv = done.length + 1 := by rw [hnv.out, hdl]
        injection hvo with hvo1 hvo2 hvo3
        subst hvo1
        have j0 : (0 : Int) ≤ (nv : Int) - 1 := by omega
        have j1 : (nv : Int) - 1 < (nv : Int) := by omega
        have j2 : ((nv : Int) - 1).toNat = done.length := by omega
        have HCU := Lib.hid hcu
        have HJ := Lib.hid hj
        have HLL := Lib.hid hL
        have HND := Lib.hid hnd
        have HCN := Lib.hid hcn
        obtain ⟨y1, hy1⟩ : ∃ y1, IntKind.i64.wrap (y + 1) = y1 := ⟨_, rfl⟩
        have hy2 : (y + 1 = x ∧ y1 = x) ∨ (y + 1 ≠ x ∧ y1 ≠ x) := by
          rw [← hy1]
          by_cases hyy : y + 1 ≤ 9223372036854775807
          · rw [IntWalk.i64_in _ (by omega)]; omega
          · have : y = 9223372036854775807 := by omega
            subst this
            have e : IntKind.i64.wrap (9223372036854775807 + 1) = -9223372036854775808 := by decide
            rw [e]; omega
        rcases hy2 with ⟨hyx, hyx1⟩ | ⟨hyx, hyx1⟩
        · have t6 : (y1 == x) = true := by simpa using hyx1
          by_cases hcl : (cur.length : Int) < m
          · have t7 : decide ((cur.length : Int) < m) = true := by simpa using hcl
            have DOC : Hid (Doc m l (k + 1) (done ++ [cur ++ [(x, z)]])) := Lib.hid (by
              have := hst.out.doc
              rw [hL] at this
              have h3 := this.more (by omega) hkl ⟨by rw [hla, hx01]; exact hyx, hcl⟩
              rw [hx01] at h3; exact h3)
            clear hkz hx01 ex ey hin hkl hn hla hj hyx hyx1 hcl hL hcn hcu hnd hdl hvo2 hvo3
            go_wp2
            go_quiet (fail)
            have HB0 : Hid (Below wr.heap.size wr (wr.drewN nq)) := Lib.hid (Dsk.below_q (Below.refl _ _) nq)
            generalize wr.drewN nq = W0 at HB0 ⊢
            have HS0 := Lib.hid (hst.out.next HB0.out)
            have d0 := (HB0.out.cell (p := ⟨b, off + k * 2, none⟩) (World.block_lt_of_cell? _ _ c0)).trans c0
            have d1 := (HB0.out.cell (p := ⟨b, off + k * 2 + 1, none⟩) (World.block_lt_of_cell? _ _ c1)).trans c1
            have d2 := (HB0.out.cell (p := ⟨bo, done.length, none⟩) (World.block_lt_of_cell? _ _ c2)).trans c2
            have d3 := ((below_new W0 (.cells #[] 36)).cell (p := ⟨bo, done.length, none⟩) (World.block_lt_of_cell? _ _ d2)).trans d2
            have HC0 := Lib.hid (HCU.out.below HB0.out)
            have hcur : cur ≠ [] := HCN.out
            obtain ⟨cb, coff, hca, hcb, hcells⟩ := ents_news HC0.out hcur
            subst hca
            have HCE : Hid (∀ j v, (ecells cur)[j]? = some v → (W0.alloc (.cells #[] 36)).cell? ((⟨cb, coff, none⟩ : Addr).add j) = some v) := Lib.hid fun j v hj => by
              rw [Addr.add_lit]
              exact Lib.cell?_alloc_some _ (hcells j v hj)
            have HCL : Hid ((ecells cur).length = cur.length * 2) := Lib.hid (ecells_length cur)
            obtain ⟨i0, hi, hz0, hz1, hz2⟩ := info_parts info_entry
            have HCB : Hid (cur.length ≤ 1048576) := Lib.hid (by omega)
            have HMX : Hid (0 + cur.length ≤ maxLen) := Lib.hid (by unfold maxLen; omega)
            have HMB : Hid ((0 + cur.length) * 16 ≤ 140737488355328) := Lib.hid (by omega)
            clear c0 c1 c2 hcells hcur hcb
            go_wp2_with (first
              | (at_builtin; refine wpList_append_own _ rfl (.tmp 51) (.tmp 55) 22 rfl W0.heap.size 36 i0 _ 2 16 Try.underlying22 hi hz0 hz1 hz2 rfl (by decide) (.slice (some ⟨W0.heap.size, 0, none⟩) 0 0) 0 [] rfl (World.ownsRow_made W0 #[] 0 (Nat.le_refl _) (Nat.zero_le _) rfl) ⟨cb, coff, none⟩ cur.length cd (ecells cur) rfl HCL.out HCE.out (ecells_one cur) HMX.out HMB.out (by simp) ?_; intro v6 w6 ho6 hg6 _; rw [Nat.zero_add, List.nil_append] at ho6; obtain ⟨a6, c6, hv6⟩ := own_slice ho6; subst hv6; have HB6 : Hid (Below W0.heap.size W0 w6) := Lib.hid ((below_new W0 _).grown hg6 (by simp) (by intro k hk; simp [Value.ownBlock] at hk; omega)); have HO6 := Lib.hid ho6; have e0 := (HB6.out.cell (p := ⟨b, off + k * 2, none⟩) (World.block_lt_of_cell? _ _ d0)).trans d0; have e1 := (HB6.out.cell (p := ⟨b, off + k * 2 + 1, none⟩) (World.block_lt_of_cell? _ _ d1)).trans d1; clear ho6 hg6)
              | (at_builtin; refine wpList_addE rfl (.tmp 57) (.tmp 62) rfl (.slice a6 cur.length c6) cur.length cur rfl rfl (by omega) ((Geo.own_zero HO6.out).alloc _) _ x z rfl (heap_alloc_new _ _) ?_; intro v7 w7 h1 h2 h3; obtain ⟨a7, c7, hv7⟩ := own_slice h1; subst hv7; obtain ⟨r1, r2⟩ := run_more rfl HO6.out h1 h2 h3 HB6.out.size; have HB7 : Hid (Below W0.heap.size W0 w7) := Lib.hid (HB6.out.trans r2); have HR7 := Lib.hid r1; have e2 := (HB7.out.cell (p := ⟨bo, done.length, none⟩) (World.block_lt_of_cell? _ _ d2)).trans d2; have e3 := rows_frozen (HS0.out.rows.next HB7.out).out done.length; clear h1 h2 h3 r1 r2))
            have HS7 := Lib.hid (HS0.out.next HB7.out)
            have FIN := Lib.hid (Rows.put (cur := cur) (by rw [← HLL.out]; exact HS7.out.rows) HND.out (Geo.own_from (Geo.own_zero HR7.out) fun k hk => by have := (HR7.out.lt k hk).1; have := HS0.out.bel.size; omega))
            go_roundw
            case rel => exact ⟨k + 1, done ++ [cur ++ [(x, z)]], some ⟨bo, 0, none⟩, nv, vc, _, by omega, rfl, by go_num, Lib.hid (by rw [HND.out]; simp), Lib.hid ⟨DOC.out, FIN.out.1, HS7.out.bel.trans FIN.out.2.2⟩⟩
            case measure => simp [numOf]; omega
          · have t7 : decide ((cur.length : Int) < m) = false := by simpa using hcl
            have DOC : Hid (Doc m l (k + 1) (L ++ [[(x, z)]])) := Lib.hid (by
              have := hst.out.doc
              rw [hL] at this
              have h3 := this.new hm1 (by omega) hkl (by intro h; exact hcl h.2)
              rw [hx01, ← hL] at h3; exact h3)
            clear hkz hx01 ex ey hin hkl hn hla hj hyx hyx1 hcl hL hcn hcu hnd hdl hvo2 hvo3
            go_wp2
            go_quiet (fail)
            have HB0 : Hid (Below wr.heap.size wr (wr.drewN nq)) := Lib.hid (Dsk.below_q (Below.refl _ _) nq)
            generalize wr.drewN nq = W0 at HB0 ⊢
            have HS0 := Lib.hid (hst.out.next HB0.out)
            have d0 := (HB0.out.cell (p := ⟨b, off + k * 2, none⟩) (World.block_lt_of_cell? _ _ c0)).trans c0
            have d1 := (HB0.out.cell (p := ⟨b, off + k * 2 + 1, none⟩) (World.block_lt_of_cell? _ _ c1)).trans c1
            have OWN : Hid (((W0.alloc (.cells #[.int .i64 x, .int .i64 z] 36)).alloc (.cells #[.slice (some ⟨W0.heap.size, 0, none⟩) 1 1] 22)).ownsRow w.heap.size 22 1 (.slice (some ⟨bo, 0, none⟩) nv vc) nv vs) := Lib.hid (by
              have := HS0.out.rows.out
              rw [← hnv.out] at this
              exact (this.alloc _).alloc _)
            have NEW : Hid (((W0.alloc (.cells #[.int .i64 x, .int .i64 z] 36)).alloc (.cells #[.slice (some ⟨W0.heap.size, 0, none⟩) 1 1] 22)).heap[W0.heap.size + 1]? = some (.cells #[.slice (some ⟨W0.heap.size, 0, none⟩) 1 1] 22 (0, 0))) := Lib.hid (by
              have := heap_alloc_new (W0.alloc (.cells #[.int .i64 x, .int .i64 z] 36)) (.cells #[.slice (some ⟨W0.heap.size, 0, none⟩) 1 1] 22)
              simpa using this)
            have HSZ : Hid (w.heap.size ≤ W0.heap.size) := Lib.hid HS0.out.bel.size
            have HK6 : Hid (nv < 8796093022208) := Lib.hid (by omega)
            clear c0 c1 c2
            go_wp2_with (at_builtin; refine wpList_append_rows rfl (.tmp 68) (.tmp 74) rfl w.heap.size (.slice (some ⟨bo, 0, none⟩) nv vc) nv vs rfl OWN.out (W0.heap.size + 1) (.slice (some ⟨W0.heap.size, 0, none⟩) 1 1) rfl rfl NEW.out HK6.out (Nat.le_trans HSZ.out (by simp; omega)) ?_; intro v5 w5 ho hg)
            obtain ⟨a5, c5, rfl⟩ := own_slice ho
            have FIN := Lib.hid (HS0.out.rows.one (x := x) (y := z) HSZ.out (by rw [← hnv.out]; exact ho) hg)
            clear ho hg
            go_roundw
            case rel => exact ⟨k + 1, L ++ [[(x, z)]], a5, nv + 1, c5, _, by omega, rfl, by go_num, Lib.hid (by rw [hnv.out]; simp), Lib.hid ⟨DOC.out, FIN.out.1, HS0.out.bel.trans FIN.out.2⟩⟩
            case measure => simp [numOf]; omega
        · have t6 : (y1 == x) = false := by simpa using hyx1
          have DOC : Hid (Doc m l (k + 1) (L ++ [[(x, z)]])) := Lib.hid (by
            have := hst.out.doc
            rw [hL] at this
            have h3 := this.new hm1 (by omega) hkl (by rw [hla, hx01]; intro h; exact hyx h.1)
            rw [hx01, ← hL] at h3; exact h3)
          clear hkz hx01 ex ey hin hkl hn hla hj hyx hyx1 hL hcn hcu hnd hdl hvo2 hvo3
          go_wp2
          go_quiet (fail)
          have HB0 : Hid (Below wr.heap.size wr (wr.drewN nq)) := Lib.hid (Dsk.below_q (Below.refl _ _) nq)
          generalize wr.drewN nq = W0 at HB0 ⊢
          have HS0 := Lib.hid (hst.out.next HB0.out)
          have d0 := (HB0.out.cell (p := ⟨b, off + k * 2, none⟩) (World.block_lt_of_cell? _ _ c0)).trans c0
          have d1 := (HB0.out.cell (p := ⟨b, off + k * 2 + 1, none⟩) (World.block_lt_of_cell? _ _ c1)).trans c1
          have OWN : Hid (((W0.alloc (.cells #[.int .i64 x, .int .i64 z] 36)).alloc (.cells #[.slice (some ⟨W0.heap.size, 0, none⟩) 1 1] 22)).ownsRow w.heap.size 22 1 (.slice (some ⟨bo, 0, none⟩) nv vc) nv vs) := Lib.hid (by
            have := HS0.out.rows.out
            rw [← hnv.out] at this
            exact (this.alloc _).alloc _)
          have NEW : Hid (((W0.alloc (.cells #[.int .i64 x, .int .i64 z] 36)).alloc (.cells #[.slice (some ⟨W0.heap.size, 0, none⟩) 1 1] 22)).heap[W0.heap.size + 1]? = some (.cells #[.slice (some ⟨W0.heap.size, 0, none⟩) 1 1] 22 (0, 0))) := Lib.hid (by
            have := heap_alloc_new (W0.alloc (.cells #[.int .i64 x, .int .i64 z] 36)) (.cells #[.slice (some ⟨W0.heap.size, 0, none⟩) 1 1] 22)
            simpa using this)
          have HSZ : Hid (w.heap.size ≤ W0.heap.size) := Lib.hid HS0.out.bel.size
          have HK6 : Hid (nv < 8796093022208) := Lib.hid (by omega)
          clear c0 c1 c2
          go_wp2_with (at_builtin; refine wpList_append_rows rfl (.tmp 68) (.tmp 74) rfl w.heap.size (.slice (some ⟨bo, 0, none⟩) nv vc) nv vs rfl OWN.out (W0.heap.size + 1) (.slice (some ⟨W0.heap.size, 0, none⟩) 1 1) rfl rfl NEW.out HK6.out (Nat.le_trans HSZ.out (by simp; omega)) ?_; intro v5 w5 ho hg)
          obtain ⟨a5, c5, rfl⟩ := own_slice ho
          have FIN := Lib.hid (HS0.out.rows.one (x := x) (y := z) HSZ.out (by rw [← hnv.out]; exact ho) hg)
          clear ho hg
          go_roundw
          case rel => exact ⟨k + 1, L ++ [[(x, z)]], a5, nv + 1, c5, _, by omega, rfl, by go_num, Lib.hid (by rw [hnv.out]; simp), Lib.hid ⟨DOC.out, FIN.out.1, HS0.out.bel.trans FIN.out.2⟩⟩
          case measure => simp [numOf]; omega
    · obtain rfl : k = n := by omega
      have t1 : decide ((k : Int) < (k : Int)) = false := by simp
      have t2 : decide (k < k) = false := by simp
      have hL : L = told m l := by have := hst.out.doc; rw [hn] at this; exact this.done
      have HL := Lib.hid hL
      clear hL hin hn
      go_wp2
      go_ret2
      exact ⟨_, vs, rfl, by rw [← HL.out]; exact hst.out.rows, hst.out.bel⟩
end Rn
end Go.Proofs.Ytaedgifboepgdaa
