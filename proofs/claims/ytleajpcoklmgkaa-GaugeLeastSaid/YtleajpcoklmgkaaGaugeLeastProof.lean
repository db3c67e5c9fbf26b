/- GaugeLeast: of any numbers, told by their bits, the first of the least ones is as the document says. No condition. -/
import Derived.Test.YtleajpcoklmgkaaRows
import Derived.Test.YtleajpcoklmgkaaGaugeLeast
import Derived.OwnWalk
import Derived.Laws.OwnMore
import Derived.Laws.NewBlocks
import Derived.WalkKit
import Derived.ProofKit
import Derived.OpenShut
import Derived.ShutString
import Derived.ChangeOld
import Derived.Below
namespace Go.Proofs.Ytleajpcoklmgkaa.gaugeLeast
open Go.ChangeShapes Go.WideShapes Go.ChangeAt Go.RowKit
open Go.ChangeMaps (open_string shut_string)
set_option linter.unusedVariables false

theorem own : ownKnob Try.prog.godebug = none := by kernel_rfl
theorem laidOut : laidOutB Try.prog = true := by kernel_rfl

/-- WHAT THE WALK IS TOLD OF A SLICE OF INTEGERS THAT CAME IN: it is nil; or it leads to a row of 'cap' cells, the numbers 'zs' (the first 'len' are its elements, the rest its spare room), each fitting its kind. -/
def IsRow (k : IntKind) (w : World) (a : Option Addr) (len cap : Nat) (zs : List Int) : Prop :=
  (a = none ∧ len = 0 ∧ cap = 0 ∧ zs = []) ∨
  ∃ x, a = some x ∧ len ≤ cap ∧ cap ≤ maxLen ∧ zs.length = cap ∧ (∀ i, i < zs.length → w.cell? (x.add i) = some (.int k (zs.getD i 0))) ∧ ∀ n ∈ zs, (Lit.int k n).wf = true

theorem info_f : (Try.prog.info? 23).map (fun i => (i.zero, i.size, i.bytes)) = some (some (.float .f64 0), 1, 8) := by kernel_rfl
theorem lt_of_cell {w : World} {a : Addr} {v : Value} (h : w.cell? a = some v) : a.block < w.heap.size := by
  unfold World.cell? at h
  by_cases hb : a.block < w.heap.size
  · exact hb
  · rw [Array.getElem?_eq_none (by omega)] at h
    simp at h
theorem below_drewN {B : Nat} {a w : World} (h : Below B a w) (n : Nat) : Below B a (w.drewN n) := ⟨h.os, h.tape, h.output, h.size, h.block⟩
def row (zs : List Nat) (k : Nat) : List Value := (zs.take k).map (Value.float .f64)
theorem row_succ (zs : List Nat) (k : Nat) (h : k < zs.length) : row zs (k + 1) = row zs k ++ [.float .f64 (zs.getD k 0)] := by
  unfold row
  rw [List.take_add_one, List.map_append, List.getElem?_eq_getElem h]
  simp [List.getD, List.getElem?_eq_getElem h]
theorem row_at (zs : List Nat) (n i : Nat) (hn : n ≤ zs.length) (hi : i < n) : (row zs n)[i]? = some (.float .f64 (zs.getD i 0)) := by
  unfold row
  have : i < zs.length := by omega
  simp [hi, List.getD, List.getElem?_eq_getElem this]

theorem least_empty (a : Option Addr) (cap : Nat) (w : World) : Calls Try.prog 17 #[.slice a 0 cap] w fun e w' => e = .returned (.tuple #[.float .f64 0, .bool false]) ∧ w = w' := by
  go_enter Try.func17, Try.ntmps17
  go_wp2
  refine wp_loop_rounds 1 ?_
  rw [rounds_succ]
  go_wp2
  go_ret2
  exact ⟨rfl, rfl⟩
theorem rleast_empty (a : Option Addr) (cap : Nat) (w : World) : Calls Try.prog 18 #[.slice a 0 cap] w fun e w' => e = .returned (.int .i64 (-1)) ∧ w = w' := by
  go_enter Try.func18, Try.ntmps18
  go_wp2
  refine wp_loop_rounds 1 ?_
  rw [rounds_succ]
  go_wp2
  go_ret
  exact ⟨rfl, rfl⟩
theorem bits_zero (w : World) : Calls Try.prog 11 #[.float .f64 0] w fun e w' => e = .returned (.int .u64 0) ∧ w = w' := by
  have h := bits_any 0 w (by omega)
  rw [show Gm.bits 0 = 0 from by decide] at h
  exact h

theorem law_long (a : Option Addr) (len cap : Nat) (w : World) (h : 100 < len) (hm : len ≤ maxLen) : Calls Try.prog 4 #[.slice a len cap] w fun e w' => e = .returned (.bool true) ∧ Below w.heap.size w w' := by
  unfold maxLen at hm
  go_enter Try.func4, Try.ntmps4
  go_wp2_with fail
  refine (alive_any _).mono ?_
  rintro e w' ⟨rfl, rfl⟩
  go_wp2
  go_ret
  exact ⟨rfl, Below.refl _ _⟩

theorem law_empty (a : Option Addr) (cap : Nat) (w : World) : Calls Try.prog 4 #[.slice a 0 cap] w fun e w' => e = .returned (.bool true) ∧ Below w.heap.size w w' := by
  go_enter Try.func4, Try.ntmps4
  go_wp2_with fail
  refine wp_loop_rounds 1 ?_
  rw [rounds_succ]
  go_wp2_with fail
  refine (least_empty _ _ _).mono ?_
  rintro e w' ⟨rfl, rfl⟩
  go_wp2_with fail
  refine (rleast_empty _ _ _).mono ?_
  rintro e w' ⟨rfl, rfl⟩
  go_wp2_with fail
  refine (alive_any _).mono ?_
  rintro e w' ⟨rfl, rfl⟩
  go_wp2_with fail
  refine (bits_zero _).mono ?_
  rintro e w' ⟨rfl, rfl⟩
  go_wp2
  go_ret
  exact ⟨rfl, Below.refl _ _⟩

set_option maxRecDepth 100000 in
set_option maxHeartbeats 2000000 in
theorem law_some (zs : List Nat) (b off n cap : Nat) (w : World) (h1 : 1 ≤ n) (h100 : n ≤ 100) (hl : n ≤ zs.length) (hb : b < w.heap.size) (hz : ∀ i, zs.getD i 0 < 18446744073709551616)
    (hc : ∀ i, i < n → w.cell? ⟨b, off + i, none⟩ = some (.int .u64 ((zs.getD i 0 : Nat) : Int))) :
    Calls Try.prog 4 #[.slice (some ⟨b, off, none⟩) n cap] w fun e w' => e = .returned (.bool true) ∧ Below w.heap.size w w' := by
  obtain ⟨i0, hi, hz0, hz1, hz2⟩ := info_parts info_f
  have HZ := Lib.hid hz
  have HC := Lib.hid hc
  clear hz hc
  go_enter Try.func4, Try.ntmps4
  go_wp2
  go_loopw [3, 4] (fun v i wr => ∃ k : Nat, k ≤ n ∧ i = .int .i64 k ∧ wr.ownsRow w.heap.size 23 1 v k (row zs k) ∧ Below w.heap.size w wr) (fun _ i _ => n - (intOf i).toNat)
  case atStart => exact ⟨0, Nat.zero_le _, rfl, World.ownsRow_nil _ _ _ _, Below.refl _ _⟩
  case round =>
    obtain ⟨k, hk, rfl, hown, hbel⟩ := hrel
    by_cases hlt : k < n
    · have hcell : wr.cell? ⟨b, off + k, none⟩ = some (.int .u64 ((zs.getD k 0 : Nat) : Int)) := (hbel.cell (p := ⟨b, off + k, none⟩) hb).trans (HC.out k hlt)
      obtain ⟨x, hx⟩ : ∃ x, x = zs.getD k 0 := ⟨_, rfl⟩
      rw [← hx] at hcell
      have hsz := hbel.size
      have HX := Lib.hid hx
      have HB := Lib.hid hbel
      clear hx hbel
      go_wp2_with (first | (go_at_call 9; refine (of_any _ _).mono ?_; rintro e w' ⟨rfl, rfl⟩) | (at_builtin; refine wpList_append_own _ rfl _ _ 35 rfl w.heap.size 23 i0 (.float .f64 0) 1 8 Try.underlying35 hi hz0 hz1 hz2 rfl (by decide) _ _ _ rfl (hown.alloc _) ⟨wr.heap.size, 0, none⟩ 1 1 [.float .f64 x] rfl rfl ?c1 ?c2 ?c3 ?c4 ?c5 ?_))
      case c1 =>
        intro j u hj
        match j, hj with
        | 0, hj => simp at hj; subst hj; simp [Addr.add]
      case c2 => intro u hu; simp at hu; subst hu; rfl
      case c3 => unfold maxLen; omega
      case c4 => omega
      case c5 => simp; omega
      intro v' w1 hown' hgrow _
      have hbel1 : Below w.heap.size w w1 := (HB.out.alloc hsz _).grown hgrow (by simp; omega) (fun j hj => (hown.lt j hj).1)
      rw [HX.out, ← row_succ zs k (by omega)] at hown'
      clear hgrow hown hcell
      go_wp2
      go_roundw
      case rel => exact ⟨k + 1, by omega, by go_num, hown', hbel1⟩
      case measure => simp [intOf]; omega
    · obtain rfl : k = n := by omega
      have hform : ∃ g c, u3 = .slice (some ⟨g, 0, none⟩) k c := by
        rcases hown.2 with ⟨_, c⟩ | ⟨g, c, cur, hv, _⟩
        · omega
        · exact ⟨g, c, hv⟩
      obtain ⟨g, c, rfl⟩ := hform
      have hfc : ∀ i, i < k → wr.cell? ⟨g, 0 + i, none⟩ = some (.float .f64 (zs.getD i 0)) := fun i hi => by
        rw [Nat.zero_add, hown.cellAt i (by omega), row_at zs k i hl hi]
      have huc : ∀ i, i < k → wr.cell? ⟨b, off + i, none⟩ = some (.int .u64 ((zs.getD i 0 : Nat) : Int)) := fun i hi => (hbel.cell (p := ⟨b, off + i, none⟩) hb).trans (HC.out i hi)
      have HF := Lib.hid hfc
      have HU := Lib.hid huc
      have HB := Lib.hid hbel
      have hkk : ¬ k < k := hlt
      clear hfc huc hbel hown hlt HC hk
      go_wp2_with fail
      refine (least_any zs g 0 k c _ (by omega) HZ.out HF.out).mono ?_
      rintro e w' ⟨rfl, rfl⟩
      go_wp2_with fail
      refine (rleast_any zs b off k cap _ (by omega) HZ.out HU.out).mono ?_
      rintro e w' ⟨rfl, d, rfl⟩
      cases hbst : bst zs k with
      | none =>
        have l0 : lv zs k = 0 := by unfold lv; rw [hbst]
        have f0 : fd zs k = false := by unfold fd; rw [hbst]; rfl
        have p0 : pl zs k = -1 := by unfold pl; rw [hbst]
        clear hbst
        go_wp2_with fail
        refine (alive_any _).mono ?_
        rintro e w' ⟨rfl, rfl⟩
        go_wp2_with fail
        refine (bits_zero _).mono ?_
        rintro e w' ⟨rfl, rfl⟩
        go_wp2
        go_ret
        exact ⟨rfl, below_drewN HB.out d⟩
      | some j =>
        have hj := bst_lt zs k j hbst
        have l0 : lv zs k = zs.getD j 0 := by unfold lv; rw [hbst]
        have f0 : fd zs k = true := by unfold fd; rw [hbst]; rfl
        have p0 : pl zs k = (j : Int) := by unfold pl; rw [hbst]
        have hcj : (wr.drewN d).cell? ⟨b, off + j, none⟩ = some (.int .u64 ((zs.getD j 0 : Nat) : Int)) := HU.out j hj.1
        have hzj := HZ.out j
        have hjk : j < k := hj.1
        have hnn := hj.2
        obtain ⟨x, hx⟩ : ∃ x, x = zs.getD j 0 := ⟨_, rfl⟩
        rw [← hx] at l0 hcj hzj hnn
        have hbx : Gm.bits x = x := bits_num x hnn
        have hbc : ∀ w, Calls Try.prog 11 #[.float .f64 x] w fun e w' => e = .returned (.int .u64 (x : Int)) ∧ w = w' := fun w => by
          have := bits_any x w hzj
          rw [hbx] at this
          exact this
        have HBC := Lib.hid hbc
        have hg : decide ((j : Int) < 0) = false := by simp
        have HB2 := Lib.hid (below_drewN HB.out d)
        clear hbst hx hj hnn hbc hbx HU HF HB
        obtain ⟨wd, hwd⟩ : ∃ wd, wd = wr.drewN d := ⟨_, rfl⟩
        rw [← hwd] at hcj HB2
        rw [← hwd]
        clear hwd
        go_wp2_with fail
        go_quiet ((first | (go_at_call 10; exact quiet_left (alive_any _)) | (go_at_call 11; exact quiet_left (HBC.out _))))
        go_wp2
        go_ret
        exact ⟨rfl, below_drewN HB2.out _⟩
/-! ### STEP 1: THE WALK: the Go text returns true, AND WRITES NOTHING THAT WAS THERE: 'Below w.heap.size w w'' (Derived/Below.lean: '.refl', '.alloc', '.drew', '.setCell' at a new block, '.trans'). Open each 'IsRow' by 'rcases' AHEAD of 'go_enter'; part every test ahead of the walk. -/
set_option maxRecDepth 100000 in
set_option maxHeartbeats 2000000 in
theorem walk (a0 : Option Addr) (len0 cap0 : Nat) (z0 : List Int) (w : World) (w0 : IsRow .u64 w a0 len0 cap0 z0) :
    Calls Try.prog 4 #[.slice a0 len0 cap0] w fun e w' => e = .returned (.bool true) ∧ Below w.heap.size w w' := by
  rcases w0 with ⟨rfl, rfl, rfl, rfl⟩ | ⟨x, rfl, hlc, hm, hzl, hcell, hwf⟩
  · exact law_empty none 0 w
  · by_cases h100 : 100 < len0
    · exact law_long _ len0 cap0 w h100 (by omega)
    · by_cases h0 : len0 = 0
      · subst h0
        exact law_empty _ cap0 w
      · obtain ⟨b, off, rfl, hc⟩ := ints_at hcell (by omega)
        have hb : b < w.heap.size := lt_of_cell (hc 0 (by omega))
        have hr := range_u64 hwf
        have hget : ∀ i, (((z0.map Int.toNat).getD i 0 : Nat) : Int) = z0[i]?.getD 0 := fun i => by
          have := hr i
          by_cases hi : i < z0.length
          · simp [List.getD, List.getElem?_eq_getElem hi] at this ⊢
            omega
          · simp [List.getD, List.getElem?_eq_none (show z0.length ≤ i by omega)]
        refine law_some (z0.map Int.toNat) b off len0 cap0 w (by omega) (by omega) (by simp; omega) hb (fun i => ?_) (fun i hi => ?_)
        · have h1 := hget i
          have h2 := hr i
          omega
        · rw [hget i, hc i (by omega)]
          rfl

/-! ### THE ROW's STEP: WRITTEN OUT: LEAVE IT -/
set_option maxRecDepth 100000 in
theorem lifted (os : Os) (started : os.Started) (H : Type) (enc : TypeId × Value → H) :
    ReturnsInHanded {} Try.checked os 4 .any (Rows.gaugeLeastSpec.pre6 enc Try.prog Try.f4 Rows.gaugeLeastRow.domain false) (Rows.gaugeLeastSpec.post enc Try.prog Try.f4 false true false false) := by
  refine returnsInHanded_of_change (C := Try.checked) own started (by kernel_rfl) Try.func4
    (ChangeSpec.witness6 (enc := enc) (C := Try.checked) false ⟨#[], #[.slice none 0 0], []⟩ 8 (by kernel_rfl) (by kernel_rfl) (by kernel_rfl) (by kernel_rfl)) ?_
  intro W base args ds gs before hval0 hW hcnd _
  have hval : ∀ (j : Nat) t v, Try.f4.params[j]? = some t → args[j]? = some v → Value.okWide Try.prog W .any base t v := hval0
  have hW' := hW
  obtain ⟨p, q, hA0, hV, rfl, hfz, hnd⟩ := hW
  have hA : DataW.TrodAll enc Try.prog W 0 (fun _ => true) true Try.f4.params.toList args.toList ds p := hA0
  rw [Try.params4] at hA hval
  obtain ⟨v0, vs0, d0, ds0, p0, q0, hargs, rfl, rfl, h0, r0⟩ := trodAll_cons hA
  obtain ⟨rfl, rfl, rfl⟩ := trodAll_nil r0
  obtain rfl : args = #[v0] := by cases args; simp_all
  obtain ⟨rfl, rfl⟩ := trodVars_none hV
  obtain ⟨a0, len0, cap0, rfl⟩ := okWide_slice Try.underlying34 (hval 0 34 v0 rfl rfl)
  have k0 := h0
  have lt0 : ∀ x ∈ p0, x.block < W.heap.size := by obtain ⟨m, hm⟩ := k0; exact DataW.trod_lt m _ _ _ hm
  obtain ⟨z0, w0⟩ : ∃ zs, IsRow .u64 W a0 len0 cap0 zs := by
    obtain ⟨fuel, hf⟩ := h0
    rcases open_ints Try.underlying34 Try.underlying22 (by kernel_rfl) hf with ⟨hcs, _⟩ | ⟨x, l, c, zs, hcs, _, hl, hm, hz, _, hcell, hwz⟩
    · simp [Value.cells] at hcs
      obtain ⟨rfl, rfl, rfl⟩ := hcs
      exact ⟨[], .inl ⟨rfl, rfl, rfl, rfl⟩⟩
    · simp [Value.cells] at hcs
      obtain ⟨rfl, rfl, rfl⟩ := hcs
      exact ⟨zs, .inr ⟨_, rfl, hl, hm, by simpa using hz, hcell, hwz⟩⟩
  clear hA0 hval0
  refine (walk a0 len0 cap0 z0 W w0).mono fun e W' ⟨he, bel⟩ => ?_
  subst he
  exact ⟨_, rfl, _, _, _, [], _, [], hW', trodAll_mk1 (shut_bool Try.underlying4 _), (trodAll_cons_mk (Below.trod laidOut (by kernel_rfl) (of_decide_eq_true (by kernel_rfl)) k0 bel lt0) trodAll_mk0), rfl, bel.frame _, fun h => by cases h⟩

theorem over : Rows.gaugeLeastRow.holds Try.pinned (OpenSpec.ofChange Rows.gaugeLeastSpec) :=
  OpenClaim.holds_of_wide 4 Try.f4 rfl rfl rfl rfl rfl rfl rfl ⟨rfl, rfl, rfl, rfl, rfl⟩ rfl rfl rfl rfl rfl (by kernel_rfl) Try.func4 (by kernel_rfl)
    (of_decide_eq_true (by kernel_rfl)) (by unfold Func.isWrapper; first | (rw [if_pos (by decide +kernel)]; kernel_rfl) | (rw [if_neg (by decide +kernel)]; exact ⟨rfl, rfl⟩))
    (fun os started H enc _ => lifted os started H enc)

/-- ████ THE STATEMENT ████ -/
theorem proved : Rows.GaugeLeastSaid := over
#print axioms proved
end Go.Proofs.Ytleajpcoklmgkaa.gaugeLeast
