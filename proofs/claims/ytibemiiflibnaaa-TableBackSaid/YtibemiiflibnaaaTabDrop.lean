/- The contracts of Put and Drop. -/
import Derived.Test.YtibemiiflibnaaaTabPut
namespace Go.Proofs.Ytibemiiflibnaaa
namespace Tb
open Go.RowKit Dsk Go.Maps
set_option linter.unusedVariables false
set_option maxRecDepth 100000

theorem find_full {n : Nat} {c : List Int} {k : Int} (h : find (full n c) k = none) (h0 : 0 ≤ k) : k ∉ c := fun hc => find_none.1 h h0 ((full_mem h0).2 hc)
theorem WentM.refl {w : World} {o : Ob} {m : List Int} (h : Tm w o m) : WentM o m w w := ⟨o, h, Step.refl _ _⟩
theorem WentM.below {o : Ob} {m : List Int} {w w1 w2 : World} (hb : Below w.heap.size w w1) (h : WentM o m w1 w2) : WentM o m w w2 := by
  obtain ⟨o2, hd, hs⟩ := h
  exact ⟨o2, hd, (Step.of_below hb).trans hs⟩

set_option maxHeartbeats 1000000 in
theorem put_any {w : World} {o : Ob} {m : List Int} (h : Tm w o m) (k : Int) (hk : (Lit.int .i64 k).wf = true) :
    Calls Try.prog 16 #[.pointer (some ⟨o.p, 0, none⟩), .int .i64 k] w fun e w' => e = .returned (.tuple #[.int .i64 (put m k).2.1, .int .i64 (put m k).2.2]) ∧ WentM o (put m k).1 w w' := by
  have HCH := Lib.hid (ischunk_any k w)
  by_cases hc : 0 ≤ k ∧ k ≤ 2147483646
  · rw [decide_eq_true hc] at HCH
    have FI := Lib.hid (find_any h k hk)
    have H := Lib.hid h
    cases hf : find m k with
    | some i =>
      rw [hf] at FI
      rw [put_has hc hf]
      clear hc hf h
      go_enter Try.func16, Try.ntmps16
      go_wp2_with (first
        | (go_at_call 31; refine HCH.out.mono ?_; rintro e w' ⟨rfl, rfl⟩)
        | (go_at_call 17; refine FI.out.mono ?_; rintro e w' ⟨rfl, rfl⟩))
      go_ret2
      exact ⟨rfl, WentM.refl H.out⟩
    | none =>
      rw [hf] at FI
      have LE := Lib.hid (left_any h)
      cases hg : gap m with
      | none =>
        have hfull := gap_none_iff.1 hg
        rw [← hfull, Nat.sub_self] at LE
        rw [put_full hc hf hg]
        clear hc hf h hg hfull
        go_enter Try.func16, Try.ntmps16
        go_wp2_with (first
          | (go_at_call 31; refine HCH.out.mono ?_; rintro e w' ⟨rfl, rfl⟩)
          | (go_at_call 17; refine FI.out.mono ?_; rintro e w' ⟨rfl, rfl⟩)
          | (go_at_call 21; refine LE.out.mono ?_; rintro e w' ⟨rfl, hb⟩; have HB := Lib.hid hb; clear hb))
        go_ret2
        exact ⟨rfl, WentM.below HB.out (WentM.refl (H.out.below HB.out))⟩
      | some i =>
        have hne : m.length ≠ (used m).length := fun e => by rw [gap_none_iff.2 e] at hg; cases hg
        have hle := used_length_le m
        obtain ⟨d, hd⟩ : ∃ d, d = m.length - (used m).length := ⟨_, rfl⟩
        have hd0 : 0 < d := by omega
        rw [← hd] at LE
        have d1 : ((d : Int) == 0) = false := by simp; omega
        have d2 : (d == 0) = false := by simp; omega
        rw [put_new hc hf hg]
        obtain ⟨n, c, g, ht, rfl⟩ := h
        have HT := Lib.hid ht
        have hkc := find_full hf hc.1
        have hnd : (used c).Nodup := by have := used_nodup ht.pr.ok; rwa [used_full] at this
        have hfew := ht.pr.few
        have hcl := ht.pr.len
        by_cases hge : g = []
        · subst hge
          have hlt : c.length < n := by
            rcases Nat.lt_or_ge c.length n with h' | h'
            · exact h'
            · have hil := gap_lt hg
              obtain ⟨⟨x, hx, hx0⟩, _⟩ := gap_some.1 hg
              rw [full_length ht.pr.len] at hil
              rw [full_left (by omega)] at hx
              have hv := ht.pr.vals hx
              have hx1 : x = -1 := by omega
              rw [hx1] at hx
              have := (ht.pr.mem (i : Int)).2 ⟨i, rfl, hx⟩
              simp at this
          have hi := ht.pr.gap_end hlt
          rw [hi] at hg
          injection hg with hg
          subst hg
          rw [full_snoc k hlt]
          have PR := Lib.hid (ht.pr.snoc hlt hc.1 hc.2 hkc)
          have HK := Lib.hid hkc
          have HN := Lib.hid hnd
          have FE : Hid (∀ w1, Below w.heap.size w w1 → Raw w1 o n c []) := Lib.hid fun w1 hb => (HT.out.below hb).raw
          obtain ⟨L, hL⟩ : ∃ L, L = c.length := ⟨_, rfl⟩
          have HL := Lib.hid hL
          have hc0 := hc.1
          have hfw : c.length ≤ 1048576 := by omega
          have HFW := Lib.hid hfw
          rw [← hL]
          clear hc hf hd hne hle hkc hnd ht hL hcl hlt hi hfw
          go_enter Try.func16, Try.ntmps16
          go_wp2_with (first
            | (go_at_call 31; refine HCH.out.mono ?_; rintro e w' ⟨rfl, rfl⟩)
            | (go_at_call 17; refine FI.out.mono ?_; rintro e w' ⟨rfl, rfl⟩)
            | (go_at_call 21; refine LE.out.mono ?_; rintro e w1 ⟨rfl, hb⟩; have HB := Lib.hid hb; clear hb; have R1 := Lib.hid (FE.out w1 HB.out); have F1 := Lib.hid (first_end R1.out); rw [← HL.out] at F1; have ST := Lib.hid (stand_end R1.out k hc0 HK.out hk HN.out HFW.out); rw [← HL.out] at ST)
            | (go_at_call 40; refine F1.out.mono ?_; rintro e w' ⟨rfl, rfl⟩)
            | (go_at_call 33; refine ST.out.mono ?_; rintro e w2 ⟨rfl, o2, hr2, hs2⟩; have R2 := Lib.hid hr2; have S2 := Lib.hid hs2; clear hr2 hs2))
          go_ret2
          exact ⟨rfl, o2, ⟨n, _, _, R2.out.tk PR.out, rfl⟩, (Step.of_below HB.out).trans S2.out⟩
        · obtain ⟨i', hi', hgi⟩ := ht.pr.gap_heap hge
          rw [hg] at hgi
          injection hgi with hgi
          subst hgi
          have hgl := ht.pr.glen
          have FE : Hid (∀ w1, Below w.heap.size w w1 → Calls Try.prog 40 #[.pointer (some ⟨o.p, 0, none⟩)] w1 fun e w' => e = .returned (.int .i64 (i : Int)) ∧ ∃ o' g', o'.p = o.p ∧ Step o o' w w' ∧ c[i]? = some (-1) ∧ Raw w' o' n c g' ∧ Pr n (c.set i k) g') := Lib.hid fun w1 hb => by
            have := first_gap (HT.out.below hb).raw hge HT.out.pr.heap (by omega)
            rw [hi'] at this
            refine this.mono ?_
            rintro e w' ⟨rfl, o', g', hr, hs, hp, hh⟩
            obtain ⟨e1, e2⟩ := HT.out.pr.fill hp hh hc.1 hc.2 hkc
            exact ⟨rfl, o', g', hs.p, (Step.of_below hb).trans hs, e1, hr, e2⟩
          have hil : i < c.length := by
            obtain ⟨j, hj, hcj⟩ := (ht.pr.mem _).1 (Hp.at_mem g 0 (List.length_pos_iff.2 hge))
            have := (List.getElem?_eq_some_iff.1 hcj).1
            omega
          rw [full_set k hil]
          have HK := Lib.hid hkc
          have HN := Lib.hid hnd
          have hc0 := hc.1
          have hfw : c.length ≤ 1048576 := by omega
          have HFW := Lib.hid hfw
          clear hc hf hd hne hle hkc hnd ht hcl hil hfw hi' hgl hg
          go_enter Try.func16, Try.ntmps16
          go_wp2_with (first
            | (go_at_call 31; refine HCH.out.mono ?_; rintro e w' ⟨rfl, rfl⟩)
            | (go_at_call 17; refine FI.out.mono ?_; rintro e w' ⟨rfl, rfl⟩)
            | (go_at_call 21; refine LE.out.mono ?_; rintro e w1 ⟨rfl, hb⟩; have HB := Lib.hid hb; clear hb)
            | (go_at_call 40; refine (FE.out _ HB.out).mono ?_; rintro e w2 ⟨rfl, o2, g2, hp2, hs2, hci, hr2, hpr2⟩; have S2 := Lib.hid hs2; have P2 := Lib.hid hpr2; have ST := Lib.hid (stand_in hr2 i k hci hc0 HK.out hk HN.out HFW.out); rw [hp2] at ST; clear hs2 hpr2 hci hr2 hp2)
            | (go_at_call 33; refine ST.out.mono ?_; rintro e w3 ⟨rfl, hr3, hs3⟩; have R3 := Lib.hid hr3; have S3 := Lib.hid hs3; clear hr3 hs3))
          go_ret2
          exact ⟨rfl, o2, ⟨n, _, _, R3.out.tk P2.out, rfl⟩, S2.out.trans S3.out⟩
  · rw [decide_eq_false hc] at HCH
    rw [put_arg hc]
    have H := Lib.hid h
    clear h hc
    go_enter Try.func16, Try.ntmps16
    go_wp2_with (go_at_call 31; refine HCH.out.mono ?_; rintro e w' ⟨rfl, rfl⟩)
    go_ret2
    exact ⟨rfl, WentM.refl H.out⟩

/-- A chunk's place is free again: behind the map's delete, and the write. -/
theorem Raw.freed {w w1 : World} {o : Ob} {n : Nat} {c g : List Int} (h : Raw w o n c g) {i : Nat} {b cap : Nat} (hv : o.cv = .slice (some ⟨b, 0, none⟩) c.length cap) {k : Int} (hi : c[i]? = some k) (h0 : 0 ≤ k) (hone : ∀ j : Nat, c[j]? = some k → j = i) {D : DataW Unit} (hm : MapOk D c) {x : Nat}
    (ho : w1.ownsMap Try.prog 3 (plainElem (H := Unit) Try.prog 3) o.mb x (D.del (.int .i64 k))) (ht : w.mapTurned w1 o.mb) :
    w1.cell? ⟨o.p, 2, none⟩ = some o.cv ∧ w1.cell? ⟨b, i, none⟩ = some (.int .i64 k) ∧ w1.frozen? ⟨b, i, none⟩ = false ∧ Raw (w1.setCell ⟨b, i, none⟩ (.int .i64 (-1))) o n (c.set i (-1)) g ∧ Step o o w (w1.setCell ⟨b, i, none⟩ (.int .i64 (-1))) := by
  obtain ⟨n1, n2, n3⟩ := h.p_ne
  obtain ⟨m1, m2⟩ := h.m_ne
  have hb : o.cv.ownBlock = some b := by rw [hv]; rfl
  have hbp : b ≠ o.p := fun e => n2 (by rw [hb, e])
  have hbm : b ≠ o.mb := fun e => m1 (by rw [hb, e])
  have hil := (List.getElem?_eq_some_iff.1 hi).1
  have f1 := fr_turned ht
  have hfm : ∀ y, y ≠ o.mb → w1.heap[y]? = w.heap[y]? := by
    intro y hy
    obtain ⟨es, cl, es', cl', hb', rfl⟩ := ht
    exact ChangeMaps.heap_setBlock_other hb' _ hy
  have hh : w1.heap[o.p]? = _ := (hfm _ (fun e => n1 e.symm)).trans h.head
  have hrow : Ints w1 (.slice (some ⟨b, 0, none⟩) c.length cap) c := by
    have := own_same (w' := w1) h.chunks fun y hy => hfm y (fun e => m1 (by rw [← e]; exact hy))
    rwa [hv] at this
  obtain ⟨b', e, _, hc, hf⟩ := ints_cell hrow i hil
  cases e
  have hat : Hp.at_ c i = k := by have := Hp.at_get c i hil; rw [hi] at this; injection this with this; exact this.symm
  rw [hat] at hc
  obtain ⟨r1, f2⟩ := ints_set hrow i (-1)
  have hset : ∀ y, y ≠ b → (w1.setCell ⟨b, i, none⟩ (.int .i64 (-1))).heap[y]? = w1.heap[y]? := fun y hy => Below.heap_setCell _ _ _ _ hy
  refine ⟨by rw [cell_of_row _ _ _ _ _ _ hh]; rfl, hc, hf, ⟨?_, ?_, ?_, ⟨_, map_tight (map_same ho (hset o.mb (fun e => hbm e.symm))), hm.del h0 hi hone⟩, h.apart⟩, ?_, fun y hy => .inl hy, rfl⟩
  · rw [hset _ (fun e => hbp e.symm)]; exact hh
  · rw [hv]; show World.ownsRow _ _ _ _ _ _ _; simpa using r1
  · exact own_same h.gaps fun y hy => (hset y (fun e => h.apart b hb (by rw [← e]; exact hy))).trans (hfm y (fun e => m2 (by rw [← e]; exact hy)))
  · exact (f1.mono fun x _ e => (by rw [e]; exact .inr (.inl rfl) : o.fp x)).trans f2 (fun x _ e => (by rw [e]; exact .inr (.inr (.inl hb))))

set_option maxHeartbeats 1000000 in
theorem drop_any {w : World} {o : Ob} {m : List Int} (h : Tm w o m) (k : Int) (hk : (Lit.int .i64 k).wf = true) :
    Calls Try.prog 18 #[.pointer (some ⟨o.p, 0, none⟩), .int .i64 k] w fun e w' => e = .returned (.tuple #[.int .i64 (drop m k).2.1, .int .i64 (drop m k).2.2]) ∧ WentM o (drop m k).1 w w' := by
  have FI := Lib.hid (find_any h k hk)
  have H := Lib.hid h
  cases hf : find m k with
  | none =>
    rw [hf] at FI
    rw [drop_none hf]
    clear hf h
    go_enter Try.func18, Try.ntmps18
    go_wp2_with (go_at_call 17; refine FI.out.mono ?_; rintro e w' ⟨rfl, rfl⟩)
    go_ret2
    exact ⟨rfl, WentM.refl H.out⟩
  | some i =>
    rw [hf] at FI
    rw [drop_has hf]
    obtain ⟨n, c, g, ht, rfl⟩ := h
    obtain ⟨h0, hfi, _⟩ := find_some.1 hf
    have hi := full_used hfi h0
    have hil := (List.getElem?_eq_some_iff.1 hi).1
    have hone : ∀ j : Nat, c[j]? = some k → j = i := fun j hj => by
      have := ht.pr.ok.uni j i k (by rw [full_left (List.getElem?_eq_some_iff.1 hj).1]; exact hj) hfi h0
      exact this
    rw [full_set (-1) hil]
    obtain ⟨a, cap, hv⟩ := ints_slice ht.chunks
    obtain ⟨b, rfl⟩ := ints_some (a := a) (c := cap) (l := c) (by rw [← hv]; exact ht.chunks) (by omega)
    obtain ⟨D, hD, hm⟩ := ht.placeOf
    obtain ⟨_, h1, _, _, _⟩ := ht.reads
    have hgl := ht.pr.glen
    have hcl := ht.pr.len
    have hfew := ht.pr.few
    have hKEY : Hid (keyOf Try.prog 3 (.int .i64 k) = some (.int .i64 k)) := Lib.hid (int_key k hk)
    have HD := Lib.hid hD
    have FR : Hid (∀ w1, w1.ownsMap Try.prog 3 (plainElem (H := Unit) Try.prog 3) o.mb (Maps.size D) (D.del (.int .i64 k)) → w.mapTurned w1 o.mb →
        w1.cell? ⟨o.p, 2, none⟩ = some (.slice (some ⟨b, 0, none⟩) c.length cap) ∧ w1.cell? ⟨b, i, none⟩ = some (.int .i64 k) ∧ w1.frozen? ⟨b, i, none⟩ = false ∧
        Calls Try.prog 41 #[.iface 70 (.pointer (some ⟨o.p, 3, none⟩)), .iface 3 (.int .i64 (i : Int))] (w1.setCell ⟨b, i, none⟩ (.int .i64 (-1))) fun e w' => e = .returned (.tuple #[]) ∧ WentM o (full n (c.set i (-1))) w w') := Lib.hid fun w1 ho1 ht1 => by
      obtain ⟨q1, q2, q3, r, s⟩ := ht.raw.freed hv hi h0 hone hm ho1 ht1
      rw [hv] at q1
      refine ⟨q1, q2, q3, (hpush_any r.gh (i : Int) ht.pr.heap (by omega)).mono ?_⟩
      rintro e w2 ⟨rfl, g2, gv2, h2, hp2, hh2, hs2⟩
      obtain ⟨r2, s2⟩ := r.gs h2 hs2
      exact ⟨rfl, _, ⟨n, _, g2, r2.tk (ht.pr.free hi h0 hp2 hh2), rfl⟩, s.trans s2⟩
    obtain ⟨L, hL⟩ : ∃ L, L = c.length := ⟨_, rfl⟩
    rw [← hL] at hil FR
    clear hf ht hfi hi hone hv hD hm hgl hcl hfew hL
    go_enter Try.func18, Try.ntmps18
    go_wp2_with (first
      | (go_at_call 17; refine FI.out.mono ?_; rintro e w' ⟨rfl, rfl⟩)
      | (at_delete; refine wpList_delete_own _ rfl _ _ 57 3 rfl 3 int_law Try.underlying57 _ o.mb (Maps.size D) D rfl HD.out _ _ rfl hKEY.out ?_; intro w1 ho1 ht1; obtain ⟨q1, q2, q3, hpu⟩ := FR.out w1 ho1 ht1; have PU := Lib.hid hpu; clear ho1 ht1 hpu)
      | (go_at_call 41; refine PU.out.mono ?_; rintro e w3 ⟨rfl, hw3⟩; have W3 := Lib.hid hw3; clear hw3))
    go_ret2
    exact ⟨rfl, W3.out⟩
end Tb
end Go.Proofs.Ytibemiiflibnaaa
