/- Contract of page's Decode. -/
import Derived.Test.YtegadlmakjceiaaPageCode
import Derived.Test.YtegadlmakjceiaaOctetGet2
import Derived.Deep.QuietTactic
import Derived.BigQuiet
namespace Go.Proofs.Ytegadlmakjceiaa
open Go.RowKit
set_option linter.unusedVariables false

/-- What is told of any bytes. -/
def DecIs (s : List UInt8) (w : World) (e : Ending) (w' : World) : Prop :=
  ∃ a n c, e = .returned (.tuple #[.int .u32 (Pm.decG s : Int), .slice a n c, .int .i64 (Pm.decE s)]) ∧ n = (Pm.decL s).length ∧ Row w' w'.heap.size a n (szs (Pm.decL s)) ∧ Below w.heap.size w w'
theorem dec_none (s : List UInt8) (w w' : World) (x : Int) (h : Pm.decE s = x ∧ Pm.decG s = 0 ∧ Pm.decL s = []) (hb : Below w.heap.size w w') : DecIs s w (.returned (.tuple #[.int .u32 0, .slice none 0 0, .int .i64 x])) w' :=
  ⟨none, 0, 0, by rw [h.1, h.2.1]; rfl, by rw [h.2.2]; rfl, Row.empty _ _ _ _, hb⟩
theorem dec_some (s : List UInt8) (w w' : World) (y : Nat) (a : Option Addr) (c : Nat) (h : Pm.decE s = 0 ∧ Pm.decG s = y ∧ Pm.decL s = Pm.vals (s.take 60)) (hr : Row w' w'.heap.size a 13 (szs (Pm.vals (s.take 60)))) (hb : Below w.heap.size w w') :
    DecIs s w (.returned (.tuple #[.int .u32 (y : Int), .slice a 13 c, .int .i64 0])) w' :=
  ⟨a, 13, c, by rw [h.1, h.2.1], by rw [h.2.2, Pm.vals_len], by rw [h.2.2]; exact hr, hb⟩

theorem pdec_cut (s : List UInt8) (w : World) (h : s.length ≠ 64) : Calls Try.prog 9 #[.string (Om.B s)] w (DecIs s w) := by
  have hne : (((Om.B s).size : Int) != 64) = true := by rw [bne_iff_ne, Om.B_size]; omega
  have hd := Pm.dec_cut s h
  have HD := Lib.hid hd
  clear hd h
  go_enter Try.func9, Try.ntmps9
  go_wp2
  go_ret3
  exact dec_none s w w 21 HD.out (Below.refl _ _)
theorem pdec_sum (s : List UInt8) (w : World) (h : s.length = 64) (hg : Cm.good s = false) : Calls Try.prog 9 #[.string (Om.B s)] w (DecIs s w) := by
  have hne : (((Om.B s).size : Int) != 64) = false := by rw [bne_eq_false_iff_eq, Om.B_size]; omega
  have hd := Pm.dec_sum s h hg
  have hc := fun w1 => open_any s w1 (by omega) (by omega)
  rw [hg] at hc
  have C := Lib.hid hc
  have HD := Lib.hid hd
  clear hd h hg hc
  go_enter Try.func9, Try.ntmps9
  go_wp2_with fail
  refine (C.out _).mono ?_
  rintro e w1 ⟨he, hb⟩
  obtain rfl : e = .returned (.tuple #[.string (Om.B []), .int .i64 31]) := he
  have HB := Lib.hid hb
  clear hb
  go_wp2
  go_ret3
  exact dec_none s w w1 31 HD.out HB.out

set_option maxHeartbeats 800000 in
theorem pdec_good (s : List UInt8) (w : World) (h : s.length = 64) (hg : Cm.good s = true) : Calls Try.prog 9 #[.string (Om.B s)] w (DecIs s w) := by
  have hne : (((Om.B s).size : Int) != 64) = false := by rw [bne_eq_false_iff_eq, Om.B_size]; omega
  have hc := fun w1 => open_any s w1 (by omega) (by omega)
  have hbl : (s.take 60).length = 60 := by rw [List.length_take]; omega
  have hform := Pm.dec_form s h hg
  have hok := Pm.dec_ok s h hg
  rw [hg, h] at hc
  unfold Pm.okB at hform hok
  obtain ⟨b, hb⟩ : ∃ b, b = s.take 60 := ⟨_, rfl⟩
  have hc' : ∀ w1, Calls Try.prog 18 #[.string (Om.B s)] w1 fun e w' => e = .returned (.tuple #[.string (Om.B b), .int .i64 0]) ∧ Below w1.heap.size w1 w' := fun w1 => by
    rw [hb]
    exact (hc w1).mono fun e w' h => h
  have hvb : Pm.vals (s.take 60) = Pm.vals b := by rw [hb]
  rw [← hb] at hform hok hbl
  have C := Lib.hid hc'
  have HF := Lib.hid hform
  have HK := Lib.hid hok
  have HVB := Lib.hid hvb
  clear hform hok hc hc' h hg hvb hb
  have hpg := Pm.pgen_lt b
  obtain ⟨g, hge⟩ : ∃ g, g = Pm.pgen b := ⟨_, rfl⟩
  rw [← hge] at HK hpg
  have HG := Lib.hid hge
  obtain ⟨q, hq⟩ : ∃ q, q = b.drop 56 := ⟨_, rfl⟩
  have hql : q.length ≤ 4611686018427387904 := by rw [hq, List.length_drop]; omega
  obtain ⟨z, hz⟩ : ∃ z, z = allZero q := ⟨_, rfl⟩
  obtain ⟨r, hr⟩ : ∃ r, r = Pm.okL (Pm.vals b) := ⟨_, rfl⟩
  have Z := Lib.hid (fun w1 => zero_any q w1 hql)
  have R := Lib.hid (fun B a c w1 h1 h2 => pread_any b B a c w1 h1 h2)
  have hrv : r = true → readV b = arr b 13 := fun e => by unfold readV; rw [← hr, if_pos e]
  have HRV := Lib.hid hrv
  rw [← hz] at Z
  rw [← hr] at R
  rw [← hq, ← hz, ← hr] at HF HK
  have G := Lib.hid (fun B a cap w1 h1 h2 => get_full b Pm.zs B a 14 cap w1 rfl (by omega) h1 h2 Pm.zs_ok (by rw [Pm.zs_off 14 (Nat.le_refl _)]; omega))
  have hdrop : b.drop (Om.off Pm.zs 14) = q := by rw [Pm.zs_off 14 (Nat.le_refl _), hq]
  unfold GetFull at G
  rw [hdrop] at G
  have hrs : (readV b).size = 13 := by unfold readV; split <;> exact arr_size _ _
  have hro : (readV b).all (·.oneCell') = true := by unfold readV; split <;> exact arr_one _ _
  have hinfo : (Try.prog.info? 47).map (·.size) = some (readV b).size := by rw [hrs]; kernel_rfl
  have HRS := Lib.hid hrs
  have HRO := Lib.hid hro
  have HIN := Lib.hid hinfo
  clear hge hq hz hr hrv hdrop hql hbl hrs hro hinfo
  go_enter Try.func9, Try.ntmps9
  go_wp2_with fail
  refine (C.out _).mono ?_
  rintro e w1 ⟨rfl, hb1⟩
  have HB1 := Lib.hid hb1
  clear hb1
  go_wp2_with fail
  refine (sizes_any _).mono ?_
  rintro e w2 ⟨rfl, hr2, hb2⟩
  have HR2 := Lib.hid hr2
  have HB2 := Lib.hid (HB1.out.trans (hb2.mono HB1.out.size))
  clear hr2 hb2
  go_wp2_with fail
  refine (G.out w2.heap.size _ _ _ (Nat.le_refl _) HR2.out).mono ?_
  rintro e w3 ⟨nb, rfl, hn1, hn2, hcells, hb3⟩
  have HB3 := Lib.hid (HB2.out.trans (hb3.mono HB2.out.size))
  have HC3 := Lib.hid hcells
  have hrow3 : Row w3 w3.heap.size (some ⟨nb, 1, none⟩) 13 (pats b) := fun _ => ⟨nb, 1, rfl, hn2, fun i hi => by rw [Nat.add_comm, hcells (i + 1) (by omega)]; rfl⟩
  have HROW3 := Lib.hid hrow3
  clear hcells hb3 hrow3 hn1
  go_wp2_with fail
  refine (R.out w3.heap.size _ _ _ (Nat.le_refl _) HROW3.out).mono ?_
  rintro e w4 ⟨rfl, hb4⟩
  have HB4 := Lib.hid (HB3.out.trans (hb4.mono HB3.out.size))
  have hc0 : w4.cell? ⟨nb, 0, none⟩ = some (.int .u64 (g : Int)) := by rw [hb4.cell (p := ⟨nb, 0, none⟩) hn2, HC3.out 0 (by omega), HG.out]; rfl
  have hnb4 : nb < w4.heap.size := Nat.lt_of_lt_of_le hn2 hb4.size
  clear hb4
  have hheap : ((w4.alloc (.cells #[.int .i64 0, .int .i64 0, .int .i64 0, .int .i64 0, .int .i64 0, .int .i64 0, .int .i64 0, .int .i64 0, .int .i64 0, .int .i64 0, .int .i64 0, .int .i64 0, .int .i64 0] 47)).setRow w4.heap.size (readV b)).heap[w4.heap.size]? = some (.cells (readV b) 47 (0, 0)) := setRow_heap _ _ _ _ _ _ (heap_alloc_new _ _)
  have hb5 : Below w4.heap.size w4 ((w4.alloc (.cells #[.int .i64 0, .int .i64 0, .int .i64 0, .int .i64 0, .int .i64 0, .int .i64 0, .int .i64 0, .int .i64 0, .int .i64 0, .int .i64 0, .int .i64 0, .int .i64 0, .int .i64 0] 47)).setRow w4.heap.size (readV b)) := below_setRow ((Below.refl _ _).alloc (Nat.le_refl _) _) (Nat.le_refl _) _
  have hc5 : ((w4.alloc (.cells #[.int .i64 0, .int .i64 0, .int .i64 0, .int .i64 0, .int .i64 0, .int .i64 0, .int .i64 0, .int .i64 0, .int .i64 0, .int .i64 0, .int .i64 0, .int .i64 0, .int .i64 0] 47)).setRow w4.heap.size (readV b)).cell? ⟨nb, 0, none⟩ = some (.int .u64 (g : Int)) := by rw [hb5.cell (p := ⟨nb, 0, none⟩) hnb4, hc0]
  have HH := Lib.hid hheap
  have HB5 := Lib.hid (HB4.out.trans (hb5.mono HB4.out.size))
  clear hc0 hb5 hheap
  cases r with
  | false =>
    have hdn := HF.out (by simp)
    have HD := Lib.hid hdn
    clear hdn hc5
    go_wp2_with (first | (refine wpList_store_row rfl 47 _ _ rfl w4.heap.size (readV b) rfl rfl 47 _ (heap_alloc_new _ _) HIN.out (by rw [HRS.out]; rfl) HRO.out ?_))
    go_ret3
    exact dec_none s w _ 32 HD.out HB5.out
  | true =>
    cases z with
    | false =>
      have hdn := HF.out (by simp)
      have HD := Lib.hid hdn
      clear hdn hc5
      go_wp2_with (first | (refine wpList_store_row rfl 47 _ _ rfl w4.heap.size (readV b) rfl rfl 47 _ (heap_alloc_new _ _) HIN.out (by rw [HRS.out]; rfl) HRO.out ?_))
      refine (Z.out _).mono ?_
      rintro e w5 ⟨rfl, rfl⟩
      go_wp2
      go_ret3
      exact dec_none s w _ 32 HD.out HB5.out
    | true =>
      have hdn := HK.out (by simp)
      rw [← HVB.out] at hdn
      have HD := Lib.hid hdn
      have hrv := HRV.out rfl
      have hrow5 : Row ((w4.alloc (.cells #[.int .i64 0, .int .i64 0, .int .i64 0, .int .i64 0, .int .i64 0, .int .i64 0, .int .i64 0, .int .i64 0, .int .i64 0, .int .i64 0, .int .i64 0, .int .i64 0, .int .i64 0] 47)).setRow w4.heap.size (readV b)) ((w4.alloc (.cells #[.int .i64 0, .int .i64 0, .int .i64 0, .int .i64 0, .int .i64 0, .int .i64 0, .int .i64 0, .int .i64 0, .int .i64 0, .int .i64 0, .int .i64 0, .int .i64 0, .int .i64 0] 47)).setRow w4.heap.size (readV b)).heap.size (some ⟨w4.heap.size, 0, none⟩) 13 (szs (Pm.vals b)) := fun _ => ⟨w4.heap.size, 0, rfl, by simp, fun i hi => by
        rw [cell_of_row _ _ _ _ _ _ HH.out, hrv, Nat.zero_add, arr_get b 13 i hi (Nat.le_refl _)]
        unfold szs
        rw [Pm.vals_get b i hi]⟩
      have HR5 := Lib.hid hrow5
      clear hdn hrv hrow5
      go_wp2_with (first | (refine wpList_store_row rfl 47 _ _ rfl w4.heap.size (readV b) rfl rfl 47 _ (heap_alloc_new _ _) HIN.out (by rw [HRS.out]; rfl) HRO.out ?_))
      refine (Z.out _).mono ?_
      rintro e w5 ⟨rfl, rfl⟩
      go_wp2
      go_quiet (fail)
      go_wp2
      go_ret3
      exact dec_some s w _ g _ _ HD.out (by rw [HVB.out]; exact HR5.out.below (below_drewN (Below.refl _ _) nq)) (below_drewN HB5.out nq)
/-- Decode, of any bytes. -/
theorem pdec_any (s : List UInt8) (w : World) : Calls Try.prog 9 #[.string (Om.B s)] w (DecIs s w) := by
  by_cases h : s.length = 64
  · cases hg : Cm.good s with
    | false => exact pdec_sum s w h hg
    | true => exact pdec_good s w h hg
  · exact pdec_cut s w h
end Go.Proofs.Ytegadlmakjceiaa
