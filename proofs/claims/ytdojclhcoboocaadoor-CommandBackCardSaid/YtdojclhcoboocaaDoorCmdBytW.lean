/- The contract of command's bytesOf: the walk. -/
import Derived.Test.YtdojclhcoboocaaDoorCmdByt
namespace Go.Proofs.YtdojclhcoboocaaDoor
namespace Co
open Go.RowKit Go.Lib Pd
set_option maxRecDepth 100000
set_option linter.unusedVariables false

/-- What bytesOf tells. -/
def BytIs (l : List UInt8) (w : World) (e : Ending) (w' : World) : Prop := e = .returned (.tuple #[.string (Om.B ((bytesC l).getD [])), .bool (bytesC l).isSome]) ∧ Below w.heap.size w w'
theorem BytIs.no {l : List UInt8} {w w' : World} (h : bytesC l = none) (hb : Below w.heap.size w w') : BytIs l w (.returned (.tuple #[.string ⟨#[]⟩, .bool false])) w' := ⟨by rw [h]; rfl, hb⟩
theorem BytIs.yes {l d : List UInt8} {w w' : World} (h : bytesC l = some d) (hb : Below w.heap.size w w') : BytIs l w (.returned (.tuple #[.string (Om.B d), .bool true])) w' := ⟨by rw [h]; rfl, hb⟩
/-- What is so between two figures. -/
structure Bs (w : World) (K h : Nat) (l : List UInt8) (N : List Nat) (j : Nat) (W : World) : Prop where
  below : Below w.heap.size w W
  row : W.ownsRow w.heap.size 5 1 (.slice (some ⟨w.heap.size, 0, none⟩) h h) h (Lib.byteCells (rowD h N))
  it : W.heap[K]? = some (.stringIter (Om.B l) j)
  kb : w.heap.size < K
  nb : Nb (l.take j) N
theorem or_fig : ∀ (x f : Fin 16), bits BinOp.or IntKind.u8 ((x.1 : Int) * 16) (f.1 : Int) = ((UInt8.ofNat (16 * x.1 + f.1)).toNat : Int) := by decide +kernel
set_option maxHeartbeats 4000000 in
theorem bytesof_any (l : List UInt8) (w : World) (hl : l.length ≤ 4294967295) : Calls Tryd.prog 27 #[.string (Om.B l)] w (BytIs l w) := by
  by_cases h45 : l = [45]
  · subst h45
    have q : ((Om.B [45]).toList == ([45] : List UInt8)) = true := by rw [b_toList]; rfl
    go_enter Tryd.func27, Tryd.ntmps27
    go_wp2
    go_ret2
    exact BytIs.yes (d := []) rfl (Below.refl _ _)
  · have q : ((Om.B l).toList == ([45] : List UInt8)) = false := by rw [b_toList, beq_eq_false_iff_ne]; exact h45
    by_cases h0 : l = []
    · subst h0
      have q1 : ((Om.B []).toList == ([] : List UInt8)) = true := by rw [b_toList]; rfl
      go_enter Tryd.func27, Tryd.ntmps27
      go_wp2
      go_ret2
      exact BytIs.no rfl (Below.refl _ _)
    · have q0 : ((Om.B l).toList == ([] : List UInt8)) = false := by rw [b_toList, beq_eq_false_iff_ne]; exact h0
      have BC : Hid (bytesC l = hexP l) := Lib.hid (by unfold bytesC; rw [if_neg h45, if_neg h0])
      obtain ⟨m, hm⟩ : ∃ m, m = l.length := ⟨_, rfl⟩
      obtain ⟨fs, hfs⟩ : ∃ fs, fs = Om.B l := ⟨_, rfl⟩
      have hsz : fs.size = m := by rw [hfs, Om.B_size, hm]
      have FS := Lib.hid hfs
      have MM := Lib.hid hm
      have AT : Hid (∀ (j : Nat) (hj : j < fs.size) (c : UInt8), l[j]? = some c → fs[j] = c) := Lib.hid fun j hj c hc => by
        have e : ∀ (x : ByteArray) (hx : j < x.size) (hl : j < l.length), x = Om.B l → x[j] = l[j] := by rintro _ hx hl rfl; rfl
        rw [e fs hj (List.getElem?_eq_some_iff.1 hc).1 FS.out]
        exact (List.getElem?_eq_some_iff.1 hc).2
      rw [← hfs] at q q0 ⊢
      rw [← hm] at hl
      have hm0 : 0 < m := by rw [hm]; cases l with | nil => exact absurd rfl h0 | cons x y => simp
      by_cases hodd : m % 2 = 1
      · have NO : Hid (bytesC l = none) := Lib.hid (by rw [BC.out, hexP_odd l (by rw [← hm]; exact hodd)])
        have d1 : (((m : Int) % 2) == 0) = false := by rw [beq_eq_false_iff_ne]; omega
        clear hfs hm h45 h0
        go_enter Tryd.func27, Tryd.ntmps27
        go_wp2
        go_ret2
        exact BytIs.no NO.out (Below.refl _ _)
      · obtain ⟨h, hh⟩ : ∃ h, m = 2 * h := ⟨m / 2, by omega⟩
        have d1 : (((m : Int) % 2) == 0) = true := by rw [beq_iff_eq]; omega
        have d2 : (m : Int) / 2 = (h : Int) := by omega
        have HH := Lib.hid hh
        obtain ⟨i0, hi, hz0, hz1, hz2⟩ := info_parts info_u8'
        clear hfs hm h45 h0
        go_enter Tryd.func27, Tryd.ntmps27
        go_wp2_with (refine wpList_make_full _ rfl _ _ 39 rfl w.heap.size 5 i0 (.int .u8 0) 1 Tryd.underlying39 hi hz0 hz1 .i64 .i64 _ _ h rfl rfl rfl rfl ?c1 ?c2 ?c3 ?_)
        case c1 => rw [hz2]; omega
        case c2 => unfold maxLen; omega
        case c3 => exact Nat.le_refl _
        intro w1 hown hgrow
        have hown0 : w1.ownsRow w.heap.size 5 1 (.slice (some ⟨w.heap.size, 0, none⟩) h h) h (Lib.byteCells (rowD h [])) := by
          rw [toList_madeCells_one] at hown
          have e : Lib.byteCells (rowD h []) = List.replicate h (.int .u8 0) := by simp [rowD, pk, Lib.byteCells]
          rw [e]
          exact hown
        have hbel0 : Below w.heap.size w w1 := (Below.refl _ _).grown hgrow (Nat.le_refl _) (fun j hj => by cases hj)
        have hk0 : w.heap.size < w1.heap.size := by
          rcases hown0.2 with ⟨h1, _⟩ | ⟨g, cap, cur, hv, _, hg, _⟩
          · cases h1
          · cases hv; exact (Array.getElem?_eq_some_iff.1 hg).1
        obtain ⟨K, hK⟩ : ∃ K, K = w1.heap.size := ⟨_, rfl⟩
        have B0 : Hid (Bs w K h l [] 0 (w1.iter fs 0)) := Lib.hid ⟨hbel0.alloc hbel0.size _, own_below hown0 ((Below.refl _ _).alloc (Nat.le_refl _) _), by rw [hK, ← FS.out]; exact World.iter_heap w1 fs 0, by rw [hK]; exact hk0, rfl⟩
        have IL := Lib.hid (fun (c : UInt8) W (hc : c.toNat < 128) => indexrune_low figs c.toNat W hc)
        have IH := Lib.hid (fun r W (h1 : 128 ≤ r) (h2 : r ≤ 2147483647) => indexrune_high r h1 h2 W)
        have hK' : w1.heap.size = K := hK.symm
        clear hown hgrow hown0 hbel0 hk0 hK
        go_wp2_with fail
        go_loopw [] (fun wr => ∃ (j : Nat) (N : List Nat), j ≤ m ∧ Hid (Bs w K h l N j wr)) (fun wr => m - wr.iterPos K)
        case atStart => exact ⟨0, [], Nat.zero_le _, B0⟩
        case round =>
          obtain ⟨j, N, hj, hbs⟩ := hrel
          have hNl : N.length = j := by have h1 := nb_len hbs.out.nb; rw [List.length_take, ← MM.out] at h1; omega
          by_cases hlt : j < m
          · have hjl : j < l.length := by rw [← MM.out]; exact hlt
            obtain ⟨c, hc⟩ : ∃ c, l[j]? = some c := ⟨l[j], List.getElem?_eq_getElem hjl⟩
            have hps : j < fs.size := by rw [hsz]; exact hlt
            have hb : fs[j] = c := AT.out j hps c hc
            have CM : Hid (c ∈ l) := Lib.hid (List.mem_of_getElem? hc)
            have IT : Hid (wr.heap[K]? = some (.stringIter fs j)) := Lib.hid (by rw [FS.out]; exact hbs.out.it)
            have JM := Lib.hid hlt
            by_cases hlow : c.toNat < 128
            · have hnx : ∀ ty, (Instr.next (.pointer (some ⟨K, 0, none⟩)) true ty).run Tryd.prog wr = .ok (.tuple #[.bool true, .int .i64 j, .int .i32 c.toNat]) (wr.iterAt K fs (j + 1)) := fun ty => by
                rw [Lib.run_next_ascii_at wr K fs j ty IT.out hps (by rw [hb]; exact hlow), hb]
              have IC := Lib.hid (IL.out c (wr.iterAt K fs (j + 1)) hlow)
              rw [UInt8.ofNat_toNat, figs_at] at IC
              unfold figs at IC
              have BX : Hid (Below w.heap.size w (wr.iterAt K fs (j + 1))) := Lib.hid (Lib.below_iterAt hbs.out.below (Nat.le_of_lt hbs.out.kb) fs (j + 1))
              cases hf : nib c with
              | none =>
                rw [hf] at IC
                have NO : Hid (bytesC l = none) := Lib.hid (by rw [BC.out]; exact hexP_bad l c CM.out hf)
                clear hf hb hc hps hjl
                go_wp2_with fail
                refine IC.out.mono ?_
                rintro e w4 ⟨rfl, rfl⟩
                go_wp2
                go_ret2
                exact BytIs.no NO.out BX.out
              | some f =>
                rw [hf] at IC
                have hf16 := nib_lt hf
                obtain ⟨x, hx⟩ : ∃ x, x = curD N := ⟨_, rfl⟩
                have hx16 : x < 16 := by rw [hx]; exact curD_lt hbs.out.nb
                obtain ⟨Q, hQ⟩ : ∃ Q, Q = j / 2 := ⟨_, rfl⟩
                have hQh : Q < h := by omega
                have ROW : Hid ((wr.iterAt K fs (j + 1)).ownsRow w.heap.size 5 1 (.slice (some ⟨w.heap.size, 0, none⟩) h h) h (Lib.byteCells (rowD h N))) := Lib.hid (own_iterAt hbs.out.row IT.out (j + 1))
                have hcell : (wr.iterAt K fs (j + 1)).cell? ⟨w.heap.size, Q, none⟩ = some (.int .u8 (x : Int)) := by
                  rw [ROW.out.cellAt Q (by omega)]
                  have h1 := rowD_at (h := h) (N := N) (by omega)
                  rw [hNl, ← hQ, ← hx] at h1
                  simp only [Lib.byteCells, List.getElem?_map, h1, Option.map_some]
                  congr 2
                  rw [UInt8.toNat_ofNat']
                  omega
                have hfz := ROW.out.frozenAt Q
                have q2 : (j : Int) / 2 = (Q : Int) := by omega
                have q3 : (0 : Int) ≤ (Q : Int) := by omega
                have q4 : (Q : Int) < (h : Int) := by omega
                have q5 : (0 : Int) ≤ (j : Int) := by omega
                have qj : j ≤ 4294967295 := by omega
                have qq : Q ≤ 4294967295 := by omega
                have HQ := Lib.hid hQ
                have HX := Lib.hid hx
                have HN := Lib.hid hNl
                have NF := Lib.hid hf
                have CJ := Lib.hid hc
                clear hQ hx hNl
                clear hf hb hc hps hjl
                go_wp2_with fail
                refine IC.out.mono ?_
                rintro e w4 ⟨rfl, rfl⟩
                go_wp2
                have VAL : Hid (bits BinOp.or IntKind.u8 ((x : Int) * 16) (f : Int) = ((UInt8.ofNat (16 * x + f)).toNat : Int)) := Lib.hid (or_fig ⟨x, hx16⟩ ⟨f, hf16⟩)
                have ST := Lib.hid (ROW.out.stored Q (.int .u8 ((UInt8.ofNat (16 * x + f)).toNat : Int)))
                have IT2 : Hid ((wr.iterAt K fs (j + 1)).heap[K]? = some (.stringIter fs (j + 1))) := Lib.hid (Lib.iterAt_heap wr K fs j (j + 1) IT.out)
                have IT3 : Hid (((wr.iterAt K fs (j + 1)).setCell ⟨w.heap.size, Q, none⟩ (.int .u8 ((UInt8.ofNat (16 * x + f)).toNat : Int))).heap[K]? = some (.stringIter fs (j + 1))) := Lib.hid ((heap_setCell_other _ ⟨w.heap.size, Q, none⟩ _ _ (by have := hbs.out.kb; show K ≠ w.heap.size; omega)).trans IT2.out)
                rw [VAL.out]
                go_roundw
                case rel =>
                  refine ⟨j + 1, N ++ [f], by have := JM.out; omega, Lib.hid ⟨BX.out.setCell (p := ⟨w.heap.size, Q, none⟩) (Nat.le_refl _) _, ?_, by rw [← FS.out]; exact IT3.out, hbs.out.kb, nb_snoc hbs.out.nb CJ.out NF.out⟩⟩
                  have h1 := ST.out.1
                  have e : (Lib.byteCells (rowD h N)).set Q (.int .u8 ((UInt8.ofNat (16 * x + f)).toNat : Int)) = Lib.byteCells (rowD h (N ++ [f])) := by
                    rw [← rowD_set (h := h) (N := N) (by have := HN.out; have := JM.out; have := HH.out; omega) f, HX.out, HQ.out, HN.out]
                    simp [Lib.byteCells, List.map_set]
                  rw [e] at h1
                  exact h1
                case measure =>
                  have e1 : wr.iterPos K = j := by unfold World.iterPos; rw [IT.out]
                  have e2 : ((wr.iterAt K fs (j + 1)).setCell ⟨w.heap.size, Q, none⟩ (.int .u8 ((UInt8.ofNat (16 * x + f)).toNat : Int))).iterPos K = j + 1 := by unfold World.iterPos; rw [IT3.out]
                  rw [e1, e2]
                  have := JM.out
                  omega
            · have hhi := decode_high fs j hps (by rw [hb]; omega)
              have hle := decode_le fs j
              obtain ⟨rn, hrn⟩ : ∃ rn, rn = (Utf8.decode fs j).1 := ⟨_, rfl⟩
              obtain ⟨wd, hwd⟩ : ∃ wd, wd = (Utf8.decode fs j).2 := ⟨_, rfl⟩
              have hnx : ∀ ty, (Instr.next (.pointer (some ⟨K, 0, none⟩)) true ty).run Tryd.prog wr = .ok (.tuple #[.bool true, .int .i64 j, .int .i32 rn]) (wr.iterAt K fs (j + wd)) := fun ty => by
                rw [Lib.run_next_any_at wr K fs j ty IT.out hps, hrn, hwd]
              have IC := Lib.hid (IH.out rn (wr.iterAt K fs (j + wd)) (by rw [hrn]; exact hhi.1) (by rw [hrn]; exact hle))
              unfold figs at IC
              have BX : Hid (Below w.heap.size w (wr.iterAt K fs (j + wd))) := Lib.hid (Lib.below_iterAt hbs.out.below (Nat.le_of_lt hbs.out.kb) fs (j + wd))
              have NO : Hid (bytesC l = none) := Lib.hid (by
                rw [BC.out]
                refine hexP_bad l c CM.out ?_
                unfold nib
                rw [if_neg (by omega), if_neg (by omega)])
              clear hb hc hps hjl hhi hle hrn hwd
              go_wp2_with fail
              refine IC.out.mono ?_
              rintro e w4 ⟨rfl, hb4⟩
              have B4 : Hid (Below w.heap.size w w4) := Lib.hid (BX.out.trans (hb4.mono BX.out.size))
              clear hb4
              go_wp2
              go_ret2
              exact BytIs.no NO.out B4.out
          · obtain rfl : j = m := by omega
            have IT : Hid (wr.heap[K]? = some (.stringIter fs j)) := Lib.hid (by rw [FS.out]; exact hbs.out.it)
            have hnx : ∀ ty, (Instr.next (.pointer (some ⟨K, 0, none⟩)) true ty).run Tryd.prog wr = .ok (.tuple #[.bool false]) wr := fun ty => Lib.run_next_end_at wr K fs j ty IT.out (by rw [hsz]; omega)
            have NB : Hid (Nb l N) := Lib.hid (by have h1 := hbs.out.nb; rwa [MM.out, List.take_length] at h1)
            have YES : Hid (bytesC l = some (pk N)) := Lib.hid (by rw [BC.out]; exact hexP_ok l N NB.out (by rw [← MM.out]; omega))
            have hpk : (pk N).length = h := by rw [pk_len]; omega
            have hrd : rowD h N = pk N := by unfold rowD; rw [show h - (N.length + 1) / 2 = 0 by omega]; simp
            have hcv : (convert 39 9 (.slice (some ⟨w.heap.size, 0, none⟩) h h)).run Tryd.prog wr = .ok (.string (Om.B (pk N))) wr := by
              have h1 := run_convert_bytes_back (P := Tryd.prog) wr 39 9 5 ⟨w.heap.size, 0, none⟩ h (pk N) Tryd.underlying39 Tryd.underlying5 Tryd.underlying9 (fun i hi => by
                have hrow := hbs.out.row
                rw [hrd] at hrow
                rw [show (⟨w.heap.size, 0, none⟩ : Addr).add i = ⟨w.heap.size, i, none⟩ from by unfold Addr.add; split <;> simp_all, hrow.cellAt i (by omega)]
                simp [Lib.byteCells, hi])
              rw [hpk] at h1
              exact h1
            have BX := Lib.hid hbs.out.below
            clear hpk hrd hNl
            go_wp2_with fail
            go_ret2
            exact BytIs.yes YES.out BX.out
end Co
end Go.Proofs.YtdojclhcoboocaaDoor
