/- OctetGets: the numbers of any bytes, of any sizes, and what stands behind, are as the document says, or the error. No condition. -/
import Derived.Test.YtdkfhgcihkjkgaaRows
import Derived.Test.YtdkfhgcihkjkgaaOctetAlive
import Derived.Test.YtdkfhgcihkjkgaaOctetArgs
import Derived.Test.YtdkfhgcihkjkgaaOctetRGet
import Derived.WalkKit
import Derived.ProofKit
import Derived.OpenShut
import Derived.ShutString
import Derived.ChangeOld
import Derived.Below
namespace Go.Proofs.Ytdkfhgcihkjkgaa.octetGets
open Go.ChangeShapes Go.WideShapes Go.ChangeAt Go.RowKit
open Go.ChangeMaps (open_string shut_string)
set_option linter.unusedVariables false

theorem own : ownKnob Try.prog.godebug = none := by kernel_rfl
theorem laidOut : laidOutB Try.prog = true := by kernel_rfl

/-- WHAT THE WALK IS TOLD OF A SLICE OF INTEGERS THAT CAME IN: it is nil; or it leads to a row of 'cap' cells, the numbers 'zs' (the first 'len' are its elements, the rest its spare room), each fitting its kind. -/
def IsRow (k : IntKind) (w : World) (a : Option Addr) (len cap : Nat) (zs : List Int) : Prop :=
  (a = none ∧ len = 0 ∧ cap = 0 ∧ zs = []) ∨
  ∃ x, a = some x ∧ len ≤ cap ∧ cap ≤ maxLen ∧ zs.length = cap ∧ (∀ i, i < zs.length → w.cell? (x.add i) = some (.int k (zs.getD i 0))) ∧ ∀ n ∈ zs, (Lit.int k n).wf = true

theorem law_long (l : List UInt8) (a : Option Addr) (n cap : Nat) (w : World) (h : 400 < l.length ∨ 40 < n) (h1 : n ≤ 9223372036854775807) :
    Calls Try.prog 4 #[.string (Om.B l), .slice a n cap] w fun e w' => e = .returned (.bool true) ∧ Below w.heap.size w w' := by
  have hsz : (Om.B l).size = l.length := rfl
  by_cases hl : 400 < l.length
  · have d1 : decide (400 < ((Om.B l).size : Int)) = true := by rw [hsz]; simp; omega
    clear hsz
    go_enter Try.func4, Try.ntmps4
    go_wp2_with fail
    refine (alive_any _).mono ?_
    rintro e w1 ⟨rfl, hb1⟩
    go_wp2
    go_ret
    exact ⟨rfl, hb1⟩
  · have d1 : decide (400 < ((Om.B l).size : Int)) = false := by rw [hsz]; simp; omega
    have d2 : decide (40 < (n : Int)) = true := by simp; omega
    clear hsz
    go_enter Try.func4, Try.ntmps4
    go_wp2_with fail
    refine (alive_any _).mono ?_
    rintro e w1 ⟨rfl, hb1⟩
    go_wp2
    go_ret
    exact ⟨rfl, hb1⟩

theorem law_some (l : List UInt8) (zs : List Int) (a : Option Addr) (n cap : Nat) (w : World) (hl4 : l.length ≤ 400) (h1 : n ≤ 40) (hl : zs.length = n) (hr : Row w w.heap.size a n (szs zs)) :
    Calls Try.prog 4 #[.string (Om.B l), .slice a n cap] w fun e w' => e = .returned (.bool true) ∧ Below w.heap.size w w' := by
  have hsz : (Om.B l).size = l.length := rfl
  have d1 : decide (400 < ((Om.B l).size : Int)) = false := by rw [hsz]; simp; omega
  have d2 : decide (40 < (n : Int)) = false := by simp; omega
  clear hsz
  cases hok : Om.sizesOk zs with
  | false =>
    have hg := get_sizes l zs w.heap.size a n cap w hl (by omega) (Nat.le_refl _) hr hok
    have hq : ∀ w1, Below w.heap.size w w1 → Calls Try.prog 13 #[.string (Om.B l), .slice a n cap] w1 fun e w' => e = .returned (.tuple #[.slice none 0 0, .string (Om.B []), .int .i64 1]) ∧ Below w1.heap.size w1 w' :=
      fun w1 hb => rget_sizes l zs w.heap.size a n cap w1 hl (by omega) (by omega) hb.size (hr.below hb) hok
    have HG := Lib.hid hg
    have HQ := Lib.hid hq
    clear hg hq hl hr hok
    go_enter Try.func4, Try.ntmps4
    go_wp2_with fail
    refine HG.out.mono ?_
    rintro e w1 ⟨rfl, hb1⟩
    have HB1 := Lib.hid hb1
    clear hb1
    go_wp2_with fail
    refine (HQ.out w1 HB1.out).mono ?_
    rintro e w2 ⟨rfl, hb2⟩
    have hbel2 : Below w.heap.size w w2 := HB1.out.trans (hb2.mono HB1.out.size)
    have HB2 := Lib.hid hbel2
    clear hb2 hbel2
    go_wp2_with fail
    refine (same_any (fun _ => 0) 0 0 none none 0 0 0 _ (by omega) (Row.empty _ _ _ _) (Row.empty _ _ _ _)).mono ?_
    rintro e w3 ⟨rfl, d, rfl⟩
    go_wp2_with fail
    refine (alive_any _).mono ?_
    rintro e w4 ⟨rfl, hb4⟩
    have HB4 := Lib.hid hb4
    clear hb4
    go_wp2
    go_ret
    exact ⟨rfl, (below_drewN HB2.out d).trans (HB4.out.mono HB2.out.size)⟩
  | true =>
    by_cases ho : Om.off zs n ≤ l.length
    · have hg := get_ok l zs w.heap.size a n cap w hl (by omega) (Nat.le_refl _) hr hok ho
      have hq : ∀ w1, Below w.heap.size w w1 → Calls Try.prog 13 #[.string (Om.B l), .slice a n cap] w1 (RGetOk l zs n w1) :=
        fun w1 hb => rget_ok l zs w.heap.size a n cap w1 hl (by omega) (by omega) hb.size (hr.below hb) hok ho
      have HG := Lib.hid hg
      have HQ := Lib.hid hq
      clear hg hq hl hr hok ho
      go_enter Try.func4, Try.ntmps4
      go_wp2_with fail
      refine HG.out.mono ?_
      rintro e w1 ⟨g, c, rfl, hg1, hg2, hgc, hb1⟩
      have hrow1 : Row w1 w1.heap.size (some ⟨g, 0, none⟩) n (fun i => .int .u64 (Om.at_ l zs i : Int)) := fun _ => ⟨g, 0, rfl, hg2, fun i hi => by rw [Nat.zero_add]; exact hgc i hi⟩
      have HB1 := Lib.hid hb1
      have HR1 := Lib.hid hrow1
      clear hb1 hrow1 hgc
      go_wp2_with fail
      refine (HQ.out w1 HB1.out).mono ?_
      rintro e w2 ⟨a2, c2, rfl, hr2, hb2⟩
      have hbel2 : Below w.heap.size w w2 := HB1.out.trans (hb2.mono HB1.out.size)
      have hrow1' := HR1.out.below hb2
      have HB2 := Lib.hid hbel2
      have HR2 := Lib.hid hr2
      have HR1' := Lib.hid hrow1'
      clear hb2 hbel2 hr2 hrow1'
      go_wp2_with fail
      refine (same_any (fun i => Om.at_ l zs i) _ _ _ _ n _ _ _ (by omega) HR1'.out HR2.out).mono ?_
      rintro e w3 ⟨rfl, d, rfl⟩
      go_wp2_with fail
      refine (alive_any _).mono ?_
      rintro e w4 ⟨rfl, hb4⟩
      have HB4 := Lib.hid hb4
      clear hb4
      go_wp2
      go_ret
      exact ⟨rfl, (below_drewN HB2.out d).trans (HB4.out.mono HB2.out.size)⟩
    · have hg := get_few l zs w.heap.size a n cap w hl (by omega) (Nat.le_refl _) hr hok ho
      have hq : ∀ w1, Below w.heap.size w w1 → Calls Try.prog 13 #[.string (Om.B l), .slice a n cap] w1 fun e w' => e = .returned (.tuple #[.slice none 0 0, .string (Om.B []), .int .i64 21]) ∧ Below w1.heap.size w1 w' :=
        fun w1 hb => rget_few l zs w.heap.size a n cap w1 hl (by omega) (by omega) hb.size (hr.below hb) hok ho
      have HG := Lib.hid hg
      have HQ := Lib.hid hq
      clear hg hq hl hr hok ho
      go_enter Try.func4, Try.ntmps4
      go_wp2_with fail
      refine HG.out.mono ?_
      rintro e w1 ⟨rfl, hb1⟩
      have HB1 := Lib.hid hb1
      clear hb1
      go_wp2_with fail
      refine (HQ.out w1 HB1.out).mono ?_
      rintro e w2 ⟨rfl, hb2⟩
      have hbel2 : Below w.heap.size w w2 := HB1.out.trans (hb2.mono HB1.out.size)
      have HB2 := Lib.hid hbel2
      clear hb2 hbel2
      go_wp2_with fail
      refine (same_any (fun _ => 0) 0 0 none none 0 0 0 _ (by omega) (Row.empty _ _ _ _) (Row.empty _ _ _ _)).mono ?_
      rintro e w3 ⟨rfl, d, rfl⟩
      go_wp2_with fail
      refine (alive_any _).mono ?_
      rintro e w4 ⟨rfl, hb4⟩
      have HB4 := Lib.hid hb4
      clear hb4
      go_wp2
      go_ret
      exact ⟨rfl, (below_drewN HB2.out d).trans (HB4.out.mono HB2.out.size)⟩
/-! ### STEP 1: THE WALK: the Go text returns true, AND WRITES NOTHING THAT WAS THERE: 'Below w.heap.size w w'' (Derived/Below.lean: '.refl', '.alloc', '.drew', '.setCell' at a new block, '.trans'). Open each 'IsRow' by 'rcases' AHEAD of 'go_enter'; part every test ahead of the walk. -/
set_option maxRecDepth 100000 in
set_option maxHeartbeats 2000000 in
theorem walk (a0 : ByteArray) (a1 : Option Addr) (len1 cap1 : Nat) (z1 : List Int) (w : World) (w0 : a0.size ≤ maxLen) (w1 : IsRow .i64 w a1 len1 cap1 z1) :
    Calls Try.prog 4 #[.string a0, .slice a1 len1 cap1] w fun e w' => e = .returned (.bool true) ∧ Below w.heap.size w w' := by
  obtain ⟨zs, hl, hr, hb1⟩ := view_sizes w1
  obtain ⟨l, rfl⟩ : ∃ l, a0 = Om.B l := ⟨Om.L a0, (Om.B_L a0).symm⟩
  by_cases h : 400 < l.length ∨ 40 < len1
  · exact law_long l a1 len1 cap1 w h hb1
  · exact law_some l zs a1 len1 cap1 w (by omega) (by omega) hl hr

/-! ### THE ROW's STEP: WRITTEN OUT: LEAVE IT -/
set_option maxRecDepth 100000 in
theorem lifted (os : Os) (started : os.Started) (H : Type) (enc : TypeId × Value → H) :
    ReturnsInHanded {} Try.checked os 4 .any (Rows.octetGetsSpec.pre6 enc Try.prog Try.f4 Rows.octetGetsRow.domain false) (Rows.octetGetsSpec.post enc Try.prog Try.f4 false true false false) := by
  refine returnsInHanded_of_change (C := Try.checked) own started (by kernel_rfl) Try.func4
    (ChangeSpec.witness6 (enc := enc) (C := Try.checked) false ⟨#[], #[.string ByteArray.empty, .slice none 0 0], []⟩ 8 (by kernel_rfl) (by kernel_rfl) (by kernel_rfl) (by kernel_rfl)) ?_
  intro W base args ds gs before hval0 hW hcnd _
  have hval : ∀ (j : Nat) t v, Try.f4.params[j]? = some t → args[j]? = some v → Value.okWide Try.prog W .any base t v := hval0
  have hW' := hW
  obtain ⟨p, q, hA0, hV, rfl, hfz, hnd⟩ := hW
  have hA : DataW.TrodAll enc Try.prog W 0 (fun _ => true) true Try.f4.params.toList args.toList ds p := hA0
  rw [Try.params4] at hA hval
  obtain ⟨v0, vs0, d0, ds0, p0, q0, hargs, rfl, rfl, h0, r0⟩ := trodAll_cons hA
  obtain ⟨v1, vs1, d1, ds1, p1, q1, rfl, rfl, rfl, h1, r1⟩ := trodAll_cons r0
  obtain ⟨rfl, rfl, rfl⟩ := trodAll_nil r1
  obtain rfl : args = #[v0, v1] := by cases args; simp_all
  obtain ⟨rfl, rfl⟩ := trodVars_none hV
  obtain ⟨a0, rfl, rfl, rfl, w0⟩ := open_string Try.underlying9 (hval 0 9 v0 rfl rfl) h0
  obtain ⟨a1, len1, cap1, rfl⟩ := okWide_slice Try.underlying23 (hval 1 23 v1 rfl rfl)
  have k1 := h1
  have lt1 : ∀ x ∈ p1, x.block < W.heap.size := by obtain ⟨m, hm⟩ := k1; exact DataW.trod_lt m _ _ _ hm
  obtain ⟨z1, w1⟩ : ∃ zs, IsRow .i64 W a1 len1 cap1 zs := by
    obtain ⟨fuel, hf⟩ := h1
    rcases open_ints Try.underlying23 Try.underlying3 (by kernel_rfl) hf with ⟨hcs, _⟩ | ⟨x, l, c, zs, hcs, _, hl, hm, hz, _, hcell, hwz⟩
    · simp [Value.cells] at hcs
      obtain ⟨rfl, rfl, rfl⟩ := hcs
      exact ⟨[], .inl ⟨rfl, rfl, rfl, rfl⟩⟩
    · simp [Value.cells] at hcs
      obtain ⟨rfl, rfl, rfl⟩ := hcs
      exact ⟨zs, .inr ⟨_, rfl, hl, hm, by simpa using hz, hcell, hwz⟩⟩
  clear hA0 hval0
  refine (walk a0 a1 len1 cap1 z1 W w0 w1).mono fun e W' ⟨he, bel⟩ => ?_
  subst he
  exact ⟨_, rfl, _, _, _, [], _, [], hW', trodAll_mk1 (shut_bool Try.underlying4 _), (trodAll_cons_mk (shut_string Try.underlying9 w0) (trodAll_cons_mk (Below.trod laidOut (by kernel_rfl) (of_decide_eq_true (by kernel_rfl)) k1 bel lt1) trodAll_mk0)), rfl, bel.frame _, fun h => by cases h⟩

theorem over : Rows.octetGetsRow.holds Try.pinned (OpenSpec.ofChange Rows.octetGetsSpec) :=
  OpenClaim.holds_of_wide 4 Try.f4 rfl rfl rfl rfl rfl rfl rfl ⟨rfl, rfl, rfl, rfl, rfl⟩ rfl rfl rfl rfl rfl (by kernel_rfl) Try.func4 (by kernel_rfl)
    (of_decide_eq_true (by kernel_rfl)) (by unfold Func.isWrapper; first | (rw [if_pos (by decide +kernel)]; kernel_rfl) | (rw [if_neg (by decide +kernel)]; exact ⟨rfl, rfl⟩))
    (fun os started H enc _ => lifted os started H enc)

/-- ████ THE STATEMENT ████ -/
theorem proved : Rows.OctetGetsSaid := over
#print axioms proved
end Go.Proofs.Ytdkfhgcihkjkgaa.octetGets
