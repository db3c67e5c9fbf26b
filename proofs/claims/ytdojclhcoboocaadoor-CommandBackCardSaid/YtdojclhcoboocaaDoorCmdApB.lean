/- The contract of command's appendBytes. -/
import Derived.Test.YtdojclhcoboocaaDoorCmdApp
import Derived.Test.YtdojclhcoboocaaDoorCmdByt
import Derived.StillTailTactics
import Derived.Laws.MakeOwn
import Derived.BigQuiet
import Derived.Deep.RegionLaw
import Derived.Deep.AppendLies
namespace Go.Proofs.YtdojclhcoboocaaDoor
namespace Co
open Go.Shelf Go.RowKit Go.Lib Pd Dsk
set_option maxRecDepth 100000
set_option linter.unusedVariables false

theorem still_tail {P : Program} {id : Nat} {Q : Exit → Act → World → Prop} {a : Act} {w : World} {l : List Oper} (n : Nat) (hm : P.follows .mixedOrders = true) (hB : Region.lexTailB .any l.toArray n = true)
    (h : ∀ w2, Hid (w2 = w.drew) → wpStill P l.toArray w2 (fun a' => wpList P l.toArray Q (l.drop n) a' w2) (l.take n) a) : (Code.region id l.toArray true).wp P Q a w :=
  wp_region_still_tail n hm hB (h w.drew (show _ = _ from rfl))
theorem hexL_len (d : List UInt8) : (hexL d).length = 2 * d.length := by
  induction d with
  | nil => rfl
  | cons a r ih =>
    show (fg (a.toNat / 16) :: fg (a.toNat % 16) :: hexL r).length = 2 * (r.length + 1)
    rw [List.length_cons, List.length_cons, ih]
    omega
theorem and15' : ∀ c : Fin 256, bits BinOp.and IntKind.u8 (c.1 : Int) 15 = ((c.1 % 16 : Nat) : Int) := by decide +kernel
theorem and15 (c : UInt8) : bits BinOp.and IntKind.u8 (c.toNat : Int) 15 = ((c.toNat % 16 : Nat) : Int) := and15' ⟨c.toNat, c.toNat_lt⟩
theorem figs_get' : ∀ x : Fin 16, figs.data.toList[x.1]? = some (fg x.1) := by decide +kernel
theorem figs_get (x : Nat) (hx : x < 16) (h : x < figs.size) : figs[x]'h = fg x := by
  have e := figs_get' ⟨x, hx⟩
  rw [List.getElem?_eq_some_iff] at e
  exact e.2
theorem hexL_app (a b : List UInt8) : hexL (a ++ b) = hexL a ++ hexL b := by simp [hexL]
theorem hexL_take {d : List UInt8} {i : Nat} {c : UInt8} (h : d[i]? = some c) : hexL (d.take (i + 1)) = hexL (d.take i) ++ [fg (c.toNat / 16), fg (c.toNat % 16)] := by
  rw [List.take_add_one, h, hexL_app]
  rfl
theorem byteCells_app (a b : List UInt8) : Lib.byteCells (a ++ b) = Lib.byteCells a ++ Lib.byteCells b := by simp [Lib.byteCells]
/-- slices.Grow on such a row. -/
theorem grow_any (B n m : Nat) (sv : Value) (xs : List Value) (w : World) (hown : OwnM w B sv n xs) (hB : B ≤ w.heap.size) (hlim : n + m ≤ 140737488355328) :
    Calls Tryd.prog 31 #[sv, .int .i64 m] w fun e w' => ∃ v', e = .returned v' ∧ OwnM w' B v' n xs ∧ Tw B w w' := by
  have hown0 := hown
  obtain ⟨h1, g, cap, cur, fz, rfl, h3, h4, h5, h6, h7, h8, h9⟩ := hown
  have hcm : cap ≤ 9223372036854775807 := by unfold maxLen at h7; omega
  by_cases hroom : n + m ≤ cap
  · refine (Any8.slices_Grow_room cm8_Lays84 _ n cap m w h6 hcm (by omega) hroom).mono ?_
    rintro e w' ⟨rfl, rfl⟩
    exact ⟨_, rfl, hown0, Tw.refl _ _⟩
  · obtain ⟨i0, hi, hz0, hz1, hz2⟩ := u8_info
    have hG := Any8.slices_Grow_grow cm8_Lays84 i0 (.int .u8 0) hi hz0 (by omega) (some ⟨g, 0, none⟩) n cap m cur.toList w h6 (by omega) (by rw [hz2]; omega) (by omega) (by rw [hz1, Array.length_toList, h8, Nat.mul_one]) (by intro h; cases h) (by
      intro a ha j v hj
      cases ha
      rw [show (⟨g, 0, none⟩ : Addr).add j = ⟨g, j, none⟩ from by unfold Addr.add; split <;> simp_all]
      simp only [World.cell?, h4]
      rw [← hj]
      simp)
    rw [show cm8.t 25 = 5 from rfl] at hG
    refine hG.mono ?_
    · rintro e w' ⟨rfl, rfl⟩
      have hz1' : (Value.int IntKind.u8 0).cells.size = 1 := rfl
      have hge := grownCap_ge w (n + m) cap 5
      have hcl := grownCap_le_maxLen w (n + m) cap 5 (by unfold maxLen; omega)
      refine ⟨_, rfl, ⟨h1, w.heap.size, _, _, (0, 0), rfl, hB, heap_alloc_new w.drew _, .inl rfl, by omega, hcl, ?_, ?_⟩, tw_alloc hB _⟩
      · simp only [Array.size_append, size_zeroCells, hz1', h8]
        omega
      · simp only [Array.toList_append, List.append_assoc, Array.toArray_toList]
        rw [List.take_append_of_le_length (by rw [Array.length_toList, h8]; exact h6), h9]

set_option maxHeartbeats 4000000 in
theorem appbytes_any (d : List UInt8) (B n : Nat) (sv : Value) (xs : List Value) (w : World) (hown : OwnM w B sv n xs) (hB : B ≤ w.heap.size) (hlim : n + 2 * d.length + 1 ≤ 140737488355328) :
    Calls Tryd.prog 23 #[sv, .string (Om.B d)] w fun e w' => ∃ v', e = .returned v' ∧ OwnM w' B v' (n + (hexC d).length) (xs ++ Lib.byteCells (hexC d)) ∧ Tw B w w' := by
  obtain ⟨i0, hi, hz0, hz1, hz2⟩ := u8_info
  by_cases h0 : d = []
  · subst h0
    have q0 : ((Om.B ([] : List UInt8)).toList == ([] : List UInt8)) = true := by rw [b_toList]; rfl
    have hin : n + (⟨#[45]⟩ : ByteArray).size ≤ 140737488355328 := by show n + 1 ≤ _; omega
    go_enter Tryd.func23, Tryd.ntmps23
    go_wp2_with (at_builtin; refine wpList_appM rfl _ _ 39 9 rfl i0 Tryd.underlying39 Tryd.underlying9 hi hz0 hz1 hz2 B hB _ _ _ rfl hown ⟨#[45]⟩ rfl hin ?_)
    intro v' w1 hown' htw
    go_wp2
    go_ret
    exact ⟨v', rfl, hown', htw⟩
  · have q0 : ((Om.B d).toList == ([] : List UInt8)) = false := by rw [b_toList, beq_eq_false_iff_ne]; exact h0
    obtain ⟨m, hm⟩ : ∃ m, m = d.length := ⟨_, rfl⟩
    obtain ⟨fs, hfs⟩ : ∃ fs, fs = Om.B d := ⟨_, rfl⟩
    have hsz : fs.size = m := by rw [hfs, Om.B_size, hm]
    have FS := Lib.hid hfs
    have MM := Lib.hid hm
    have AT : Hid (∀ (j : Nat) (hj : j < fs.size) (c : UInt8), d[j]? = some c → fs[j] = c) := Lib.hid fun j hj c hc => by
      have e : ∀ (x : ByteArray) (hx : j < x.size) (hl : j < d.length), x = Om.B d → x[j] = d[j] := by rintro _ hx hl rfl; rfl
      rw [e fs hj (List.getElem?_eq_some_iff.1 hc).1 FS.out]
      exact (List.getElem?_eq_some_iff.1 hc).2
    have GR : Hid (Calls Tryd.prog 31 #[sv, .int .i64 (2 * (m : Int))] w fun e w' => ∃ v', e = .returned v' ∧ OwnM w' B v' n xs ∧ Tw B w w') := Lib.hid (by
      have h := grow_any B n (2 * m) sv xs w hown hB (by rw [hm]; omega)
      rw [show ((2 * m : Nat) : Int) = 2 * (m : Int) from by omega] at h
      exact h)
    have FIN : Hid (hexC d = hexL (d.take m)) := Lib.hid (by rw [hm, List.take_length]; exact if_neg h0)
    rw [← hfs] at q0 ⊢
    rw [← hm] at hlim
    clear hfs hm h0 hown
    go_enter Tryd.func23, Tryd.ntmps23
    go_wp2_with fail
    refine GR.out.mono ?_
    rintro e w1 ⟨v1, rfl, hown1, htw1⟩
    have OW1 := Lib.hid hown1
    have TW1 := Lib.hid htw1
    clear hown1 htw1
    go_wp2_with fail
    go_loopw [0, 17] (fun t k wr => ∃ i : Nat, k = .int .i64 (i : Int) ∧ i ≤ m ∧ Hid (OwnM wr B t (n + 2 * i) (xs ++ Lib.byteCells (hexL (d.take i)))) ∧ Hid (Tw B w wr)) (fun _ k _ => m - (RowKit.intOf k).toNat)
    case atStart =>
      refine ⟨0, rfl, Nat.zero_le _, ?_, TW1⟩
      refine Lib.hid ?_
      show OwnM w1 B v1 n (xs ++ [])
      rw [List.append_nil]
      exact OW1.out
    case round =>
      obtain ⟨i, rfl, hi', how, htw⟩ := hrel
      rename_i tv wr
      by_cases hlt : i < m
      · obtain ⟨c, hc⟩ : ∃ c, d[i]? = some c := ⟨d[i]'(by rw [← MM.out]; exact hlt), List.getElem?_eq_getElem _⟩
        have hps : i < fs.size := by rw [hsz]; exact hlt
        have hb : fs[i] = c := AT.out i hps c hc
        have HC := Lib.hid hc
        have hc256 := c.toNat_lt
        obtain ⟨x1, hx1⟩ : ∃ x1, x1 = c.toNat / 16 := ⟨_, rfl⟩
        obtain ⟨x2, hx2⟩ : ∃ x2, x2 = c.toNat % 16 := ⟨_, rfl⟩
        have hd1 : (c.toNat : Int) / 16 = (x1 : Int) := by omega
        have hd2 : bits BinOp.and IntKind.u8 (c.toNat : Int) 15 = (x2 : Int) := by rw [hx2]; exact and15 c
        have hl1 : x1 < 16 := by omega
        have hl2 : x2 < 16 := by omega
        have hg1 : ∀ h, (figs[x1]'h) = fg x1 := figs_get x1 hl1
        have hg2 : ∀ h, (figs[x2]'h) = fg x2 := figs_get x2 hl2
        unfold figs at hg1 hg2
        have hi1 : (x1 : Int) < 16 := by omega
        have hi2 : (x2 : Int) < 16 := by omega
        have HX1 := Lib.hid hx1
        have HX2 := Lib.hid hx2
        clear hx1 hx2 hc256
        clear hc
        go_wp2_with fail
        obtain ⟨W3, hW3⟩ : ∃ W3, W3 = (wr.alloc (.cells #[.int .u8 (fg x1).toNat, .int .u8 (fg x2).toNat] 5)).drew := ⟨_, rfl⟩
        have BL3 : Below wr.heap.size wr W3 := by rw [hW3]; exact ((Below.refl _ _).alloc (Nat.le_refl _) _).drew
        have OW3 : Hid (OwnM W3 B u0 (n + 2 * i) (xs ++ Lib.byteCells (hexL (d.take i)))) := Lib.hid (how.out.below BL3)
        have NW3 : Hid (∀ j u, [Value.int .u8 (fg x1).toNat, .int .u8 (fg x2).toNat][j]? = some u → W3.cell? ((⟨wr.heap.size, 0, none⟩ : Addr).add j) = some u) := Lib.hid (by rw [hW3]; exact World.news_of_block (cs := #[.int .u8 (fg x1).toNat, .int .u8 (fg x2).toNat]) (heap_alloc_new wr _))
        have hBr : B ≤ wr.heap.size := Nat.le_trans hB htw.out.1.size
        have HB3 : Hid (B ≤ W3.heap.size) := Lib.hid (Nat.le_trans hBr BL3.size)
        have TW3 : Hid (Tw B wr W3) := Lib.hid (tw_below hBr BL3)
        have ONE : Hid (∀ u ∈ [Value.int .u8 (fg x1).toNat, .int .u8 (fg x2).toNat], u.oneCell' = true) := Lib.hid (by simp [Value.oneCell'])
        have LIM : Hid (n + 2 * i + 2 ≤ 140737488355328) := Lib.hid (by omega)
        have HW3 := Lib.hid hW3
        clear BL3 hBr hW3
        go_region_law (rw [← HW3.out]; refine step_appMs rfl (.tmp 20) (.tmp 31) 39 rfl i0 Tryd.underlying39 hi hz0 hz1 hz2 B HB3.out u0 (n + 2 * i) _ (by simp [Act.eval]) OW3.out ⟨wr.heap.size, 0, none⟩ 2 2 _ (by simp [Act.eval]) rfl NW3.out ONE.out LIM.out ?_; intro v4 w4 hown4 htw4; have HO4 := Lib.hid hown4; have HT4 := Lib.hid htw4; clear hown4 htw4)
        all_goals
          go_wp2
          go_roundw
          case rel =>
            refine ⟨i + 1, by simp, by omega, Lib.hid ?_, Lib.hid (htw.out.trans (TW3.out.trans HT4.out))⟩
            have h := HO4.out
            rw [hexL_take HC.out, byteCells_app, ← List.append_assoc, ← HX1.out, ← HX2.out, show n + 2 * (i + 1) = n + 2 * i + 2 from by omega]
            exact h
          case measure => simp [RowKit.intOf]; omega
      · have hi2 : i = m := by omega
        subst hi2
        go_wp2
        go_ret
        refine ⟨_, rfl, ?_, htw.out⟩
        rw [FIN.out, hexL_len, List.length_take, ← MM.out, Nat.min_self]
        exact how.out
end Co
end Go.Proofs.YtdojclhcoboocaaDoor
