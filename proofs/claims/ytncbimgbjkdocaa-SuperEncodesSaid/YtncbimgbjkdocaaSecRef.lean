/- The document's own sectors of letters and numbers: sealed, opened. -/
import Derived.Test.YtncbimgbjkdocaaSecMath
import Derived.Test.YtncbimgbjkdocaaRefSeal
import Derived.Test.YtncbimgbjkdocaaOctetRJoin
import Derived.Test.YtncbimgbjkdocaaOctetRGet
namespace Go.Proofs.Ytncbimgbjkdocaa
open Go.RowKit
set_option maxRecDepth 100000
set_option linter.unusedVariables false

theorem seal64_ref (l : List UInt8) (w : World) (h : l.length ≤ 60) :
    Calls Try.prog 29 #[.string (Om.B l), .int .i64 64] w fun e w' => e = .returned (.tuple #[.string (Om.B (sealed l 60)), .int .i64 0]) ∧ Below w.heap.size w w' := rseal_ok l 60 w (by omega) h
/-- sealed: the sector of letters and numbers. -/
theorem rsealed_any {t : List UInt8} {zs : List Int} (L : Sc.Lay t zs) (ns : List Nat) (B : Nat) (a c : Option Addr) (n cap cap' : Nat) (w : World) (hl : zs.length = n) (hm : ns.length = n) (hn : n ≤ 1099511627776) (hB : B ≤ w.heap.size)
    (hr : Row w B a n (szs zs)) (hq : Row w B c n (nbs ns)) (hu : ∀ i, ns.getD i 0 < 18446744073709551616) (hf : Om.fitAll zs ns zs.length = true) :
    Calls Try.prog 16 #[.string (Om.B t), .slice a n cap, .slice c n cap'] w fun e w' => e = .returned (.string (Om.B (Sc.sector t zs ns))) ∧ Below w.heap.size w w' := by
  have J := rjoin_any zs ns B a c n n cap cap' w hl hm hn hn hB hr hq hu
  have hj := join_ok zs ns (by rw [hl, hm]) L.sizes (by rw [hm, ← hl]; exact hf)
  rw [hj.1, hj.2] at J
  have hs : Sc.sector t zs ns = sealed (t ++ Om.joined zs ns ns.length) 60 := by unfold Sc.sector Sc.front; rw [hm, hl]
  have hle : (t ++ Om.joined zs ns ns.length).length ≤ 60 := by
    have := Sc.front_le L ns
    unfold Sc.front at this
    rw [hl] at this
    rw [hm]; exact this
  have hcat := no_over t (Om.joined zs ns ns.length) (by rw [List.length_append] at hle; omega)
  obtain ⟨l, hll⟩ : ∃ l, l = Om.joined zs ns ns.length := ⟨_, rfl⟩
  rw [hs]
  rw [← hll] at J hle hcat ⊢
  have JJ := Lib.hid J
  have S := Lib.hid (fun w1 => seal64_ref (t ++ l) w1 hle)
  have hap := Om.B_append t l
  clear J hj hs hle hll hr hq hu hf L hl hm
  go_enter Try.func16, Try.ntmps16
  go_wp2_with fail
  refine JJ.out.mono ?_
  rintro e w1 ⟨rfl, hb1⟩
  have HB1 := Lib.hid hb1
  clear hb1
  go_wp2_with fail
  refine (S.out _).mono ?_
  rintro e w2 ⟨rfl, hb2⟩
  have HB2 := Lib.hid (HB1.out.trans (hb2.mono HB1.out.size))
  clear hb2
  go_wp2
  go_ret
  exact ⟨rfl, HB2.out⟩

/-- What opened tells, where it gives numbers. -/
def OpOk (zs : List Int) (n : Nat) (s : List UInt8) (w : World) (e : Ending) (w' : World) : Prop :=
  ∃ a c, e = .returned (.tuple #[.slice a n c, .int .i64 0]) ∧ Row w' w'.heap.size a n (fun i => .int .u64 (Sc.numAt zs s i : Int)) ∧ Below w.heap.size w w'
def OpNo (x : Int) (w : World) (e : Ending) (w' : World) : Prop := e = .returned (.tuple #[.slice none 0 0, .int .i64 x]) ∧ Below w.heap.size w w'
theorem ropened_cut (t s : List UInt8) (a : Option Addr) (n cap : Nat) (w : World) (h : s.length ≠ 64) :
    Calls Try.prog 21 #[.string (Om.B s), .string (Om.B t), .slice a n cap] w (OpNo 21 w) := by
  have hne : (((Om.B s).size : Int) != 64) = true := by rw [bne_iff_ne, Om.B_size]; omega
  clear h
  go_enter Try.func21, Try.ntmps21
  go_wp2
  go_ret2
  exact ⟨rfl, Below.refl _ _⟩
theorem ropened_sum (t s : List UInt8) (a : Option Addr) (n cap : Nat) (w : World) (h : s.length = 64) (hg : Cm.good s = false) :
    Calls Try.prog 21 #[.string (Om.B s), .string (Om.B t), .slice a n cap] w (OpNo 31 w) := by
  have hne : (((Om.B s).size : Int) != 64) = false := by rw [bne_eq_false_iff_eq, Om.B_size]; omega
  have hc := fun w1 => ropen_any s w1 (by omega) (by omega)
  rw [hg] at hc
  have C := Lib.hid hc
  clear h hg hc
  go_enter Try.func21, Try.ntmps21
  go_wp2_with fail
  refine (C.out _).mono ?_
  rintro e w1 ⟨he, hb⟩
  obtain rfl : e = .returned (.tuple #[.string (Om.B []), .int .i64 31]) := he
  have HB := Lib.hid hb
  clear hb
  go_wp2
  go_ret2
  exact ⟨rfl, HB.out⟩
theorem B_same {p q : List UInt8} (h : p = q) : ((Om.B p).toList == (Om.B q).toList) = true := by rw [h]; exact beq_self_eq_true _
theorem open_parts_ref (s : List UInt8) (h : s.length = 64) (hg : Cm.good s = true) (w1 : World) : Calls Try.prog 35 #[.string (Om.B s)] w1 fun e w' => e = .returned (.tuple #[.string (Om.B (s.take 60)), .int .i64 0]) ∧ Below w1.heap.size w1 w' := by
  have hc := ropen_any s w1 (by omega) (by omega)
  rw [hg, h] at hc
  exact hc.mono fun e w' h => h
theorem ropened_magic {t s : List UInt8} (a : Option Addr) (n cap : Nat) (w : World) (h : s.length = 64) (hg : Cm.good s = true) (ht : (s.take 60).take 4 ≠ t) :
    Calls Try.prog 21 #[.string (Om.B s), .string (Om.B t), .slice a n cap] w (OpNo 22 w) := by
  have hne : (((Om.B s).size : Int) != 64) = false := by rw [bne_eq_false_iff_eq, Om.B_size]; omega
  have hbl : (s.take 60).length = 60 := by rw [List.length_take]; omega
  have C := Lib.hid (open_parts_ref s h hg)
  obtain ⟨b, hb⟩ : ∃ b, b = s.take 60 := ⟨_, rfl⟩
  rw [← hb] at ht hbl C
  have hx : (Om.B b).extract 0 4 = Om.B (b.take 4) := by rw [Om.extract_front, Om.L_B]
  have hbs : (Om.B b).size = 60 := hbl
  have hz := B_ne ht
  obtain ⟨f, hf⟩ : ∃ f, f = b.take 4 := ⟨_, rfl⟩
  rw [← hf] at hx hz
  clear h hg ht hb hbl hf
  go_enter Try.func21, Try.ntmps21
  go_wp2_with fail
  refine (C.out _).mono ?_
  rintro e w1 ⟨rfl, hb1⟩
  have HB := Lib.hid hb1
  clear hb1
  go_wp2
  go_ret2
  exact ⟨rfl, HB.out⟩

theorem ropened_rest {t : List UInt8} {zs : List Int} (L : Sc.Lay t zs) (s : List UInt8) (B : Nat) (a : Option Addr) (n cap : Nat) (w : World) (hl : zs.length = n) (hn : n ≤ 1099511627776) (hB : B ≤ w.heap.size) (hr : Row w B a n (szs zs))
    (h : s.length = 64) (hg : Cm.good s = true) (ht : (s.take 60).take 4 = t) (z : Bool) (hz : allZero (((s.take 60).drop 4).drop (Om.off zs zs.length)) = z) :
    Calls Try.prog 21 #[.string (Om.B s), .string (Om.B t), .slice a n cap] w (fun e w' => (z = false ∧ OpNo 32 w e w') ∨ (z = true ∧ OpOk zs n s w e w')) := by
  have hne : (((Om.B s).size : Int) != 64) = false := by rw [bne_eq_false_iff_eq, Om.B_size]; omega
  have hbl : (s.take 60).length = 60 := by rw [List.length_take]; omega
  have C := Lib.hid (open_parts_ref s h hg)
  have hfew := L.few
  have hsz := L.sizes
  unfold OpOk
  unfold Sc.numAt
  obtain ⟨b, hb⟩ : ∃ b, b = s.take 60 := ⟨_, rfl⟩
  rw [← hb] at ht hbl C hz ⊢
  have hx : (Om.B b).extract 0 4 = Om.B (b.take 4) := by rw [Om.extract_front, Om.L_B]
  have hbs : (Om.B b).size = 60 := hbl
  have hy : (Om.B b).extract 4 60 = Om.B (b.drop 4) := by
    have := Om.extract_end (Om.B b) 4
    rw [hbs, Om.L_B] at this
    exact this
  have hq := B_same ht
  obtain ⟨f, hf⟩ : ∃ f, f = b.take 4 := ⟨_, rfl⟩
  rw [← hf] at hx hq
  obtain ⟨l, hll⟩ : ∃ l, l = b.drop 4 := ⟨_, rfl⟩
  have hlen : l.length = 56 := by rw [hll, List.length_drop, hbl]
  rw [← hll] at hy hz ⊢
  have G := Lib.hid (fun w1 hB h => rget_ok l zs B a n cap w1 hl hn (by omega) hB h hsz (by rw [← hl]; omega))
  unfold RGetOk at G
  rw [hl] at hz
  obtain ⟨r, hre⟩ : ∃ r, r = l.drop (Om.off zs n) := ⟨_, rfl⟩
  have hrl : r.length ≤ 56 := by rw [hre, List.length_drop]; omega
  rw [← hre] at hz G
  have Z := Lib.hid (fun w1 => rzero_any r w1 (by omega))
  rw [hz] at Z
  have HR := Lib.hid hr
  clear h hg ht hb hbl hf L hfew hsz hll hlen hre hrl hz hr hl
  cases z with
  | false =>
    go_enter Try.func21, Try.ntmps21
    go_wp2_with fail
    refine (C.out _).mono ?_
    rintro e w1 ⟨rfl, hb1⟩
    have HB1 := Lib.hid hb1
    have hr1 := HR.out.below (hb1.mono hB)
    have HR1 := Lib.hid hr1
    clear hb1 hr1
    go_wp2_with fail
    refine (G.out _ (Nat.le_trans hB HB1.out.size) HR1.out).mono ?_
    rintro e w2 ⟨a2, c2, rfl, hr2, hb2⟩
    have HB2 := Lib.hid (HB1.out.trans (hb2.mono HB1.out.size))
    clear hb2 hr2
    go_wp2_with fail
    refine (Z.out _).mono ?_
    rintro e w3 ⟨rfl, rfl⟩
    go_wp2
    go_ret2
    exact .inl ⟨trivial, ⟨rfl, HB2.out⟩⟩
  | true =>
    go_enter Try.func21, Try.ntmps21
    go_wp2_with fail
    refine (C.out _).mono ?_
    rintro e w1 ⟨rfl, hb1⟩
    have HB1 := Lib.hid hb1
    have hr1 := HR.out.below (hb1.mono hB)
    have HR1 := Lib.hid hr1
    clear hb1 hr1
    go_wp2_with fail
    refine (G.out _ (Nat.le_trans hB HB1.out.size) HR1.out).mono ?_
    rintro e w2 ⟨a2, c2, rfl, hr2, hb2⟩
    have HB2 := Lib.hid (HB1.out.trans (hb2.mono HB1.out.size))
    have HR2 := Lib.hid hr2
    clear hb2 hr2
    go_wp2_with fail
    refine (Z.out _).mono ?_
    rintro e w3 ⟨rfl, rfl⟩
    go_wp2
    go_ret2
    exact .inr ⟨trivial, a2, c2, rfl, HR2.out, HB2.out⟩
/-- What opened tells of any bytes. -/
def OpIs (t : List UInt8) (zs : List Int) (n : Nat) (s : List UInt8) (w : World) (e : Ending) (w' : World) : Prop :=
  (Sc.opE t zs s ≠ 0 ∧ OpNo (Sc.opE t zs s) w e w') ∨ (Sc.opE t zs s = 0 ∧ OpOk zs n s w e w')
theorem ropened_any {t : List UInt8} {zs : List Int} (L : Sc.Lay t zs) (s : List UInt8) (B : Nat) (a : Option Addr) (n cap : Nat) (w : World) (hl : zs.length = n) (hn : n ≤ 1099511627776) (hB : B ≤ w.heap.size) (hr : Row w B a n (szs zs)) :
    Calls Try.prog 21 #[.string (Om.B s), .string (Om.B t), .slice a n cap] w (OpIs t zs n s w) := by
  by_cases h : s.length = 64
  · cases hg : Cm.good s with
    | false =>
      have e := Sc.op_sum (t := t) (zs := zs) h hg
      exact (ropened_sum t s a n cap w h hg).mono fun x w' hx => .inl ⟨by rw [e]; decide, by rw [e]; exact hx⟩
    | true =>
      by_cases ht : (s.take 60).take 4 = t
      · refine (ropened_rest L s B a n cap w hl hn hB hr h hg ht _ rfl).mono fun x w' hx => ?_
        rcases hx with ⟨hz, hx⟩ | ⟨hz, hx⟩
        · have e := Sc.op_form h hg ht hz
          exact .inl ⟨by rw [e]; decide, by rw [e]; exact hx⟩
        · exact .inr ⟨Sc.op_ok h hg ht hz, hx⟩
      · have e := Sc.op_magic (zs := zs) h hg ht
        exact (ropened_magic a n cap w h hg ht).mono fun x w' hx => .inl ⟨by rw [e]; decide, by rw [e]; exact hx⟩
  · have e := Sc.op_cut (t := t) (zs := zs) h
    exact (ropened_cut t s a n cap w h).mono fun x w' hx => .inl ⟨by rw [e]; decide, by rw [e]; exact hx⟩
end Go.Proofs.Ytncbimgbjkdocaa
