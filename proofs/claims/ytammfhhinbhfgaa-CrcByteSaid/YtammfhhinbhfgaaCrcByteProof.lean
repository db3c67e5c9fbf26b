/- CrcByte: sealed bytes are opened to the body, and bytes 0; with any one byte in the place of another one they are not. No condition. -/
import Derived.Test.YtammfhhinbhfgaaRows
import Derived.Test.YtammfhhinbhfgaaCrcByte
import Derived.WalkKit
import Derived.ProofKit
import Derived.ChangeOld
import Derived.Below
import Derived.OpenShut
import Derived.ShutString
import Derived.ChangeSame
namespace Go.Proofs.Ytammfhhinbhfgaa.crcByte
open Go.ChangeShapes Go.WideShapes Go.ChangeAt Go.RowKit
open Go.ChangeMaps (open_string shut_string)
set_option linter.unusedVariables false

theorem own : ownKnob Try.prog.godebug = none := by kernel_rfl
theorem laidOut : laidOutB Try.prog = true := by kernel_rfl
theorem cellsOne : Try.prog.cellsOf 5 = 1 := by kernel_rfl
theorem cellsTwo : Try.prog.cellsOf 22 = 2 := by kernel_rfl
theorem list2 {α : Type} (l : List α) (h : (⟨l⟩ : Array α).size = 2) : ∃ a b, l = [a, b] := by
  match l, h with
  | [a, b], _ => exact ⟨a, b, rfl⟩
theorem u8_wf {n : Int} (h : (Lit.int .u8 n).wf = true) : ∃ m : Nat, n = (m : Int) ∧ m < 256 := by
  simp [Lit.wf, IntKind.min, IntKind.max, IntKind.signed, IntKind.bits] at h
  exact ⟨n.toNat, by omega, by omega⟩

theorem walk (a0 : ByteArray) (a1 : Int) (x y : Int) (wx : (Lit.int .u8 x).wf = true) (wy : (Lit.int .u8 y).wf = true) (w : World) :
    Calls Try.prog 3 #[.string a0, .int .i64 a1, .agg #[.int .u8 x, .int .u8 y]] w fun e w' => e = .returned (.bool true) ∧ Below w.heap.size w w' := by
  obtain ⟨l, rfl⟩ : ∃ l, a0 = Om.B l := ⟨Om.L a0, (Om.B_L a0).symm⟩
  obtain ⟨m, rfl, hm⟩ := u8_wf wx
  obtain ⟨n, rfl, hn⟩ := u8_wf wy
  by_cases h : 200 < l.length ∨ 400 < a1
  · exact byte_long l a1 m n w h
  · by_cases h2 : a1 < 4 ∨ a1 - 4 < l.length
    · exact byte_no l a1 m n w (by omega) (by omega) h2
    · obtain ⟨k, rfl⟩ : ∃ k : Nat, a1 = ((k + 4 : Nat) : Int) := ⟨(a1 - 4).toNat, by omega⟩
      exact byte_ok l k m n w (by omega) (by omega) (by omega) hm hn

set_option maxRecDepth 100000 in
theorem lifted (os : Os) (started : os.Started) (H : Type) (enc : TypeId × Value → H) :
    ReturnsInHanded {} Try.checked os 3 .any (Rows.crcByteSpec.pre6 enc Try.prog Try.f3 Rows.crcByteRow.domain false) (Rows.crcByteSpec.post enc Try.prog Try.f3 false true false false) := by
  refine returnsInHanded_of_change (C := Try.checked) own started (by kernel_rfl) Try.func3
    (ChangeSpec.witness6 (enc := enc) (C := Try.checked) false ⟨#[], #[.string ByteArray.empty, .int .i64 0, .agg #[.int .u8 0, .int .u8 0]], []⟩ 8 (by kernel_rfl) (by kernel_rfl) (by kernel_rfl) (by kernel_rfl)) ?_
  intro W base args ds gs before hval0 hW hcnd _
  have hval : ∀ (j : Nat) t v, Try.f3.params[j]? = some t → args[j]? = some v → Value.okWide Try.prog W .any base t v := hval0
  have hW' := hW
  obtain ⟨p, q, hA0, hV, rfl, hfz, hnd⟩ := hW
  have hA : DataW.TrodAll enc Try.prog W 0 (fun _ => true) true Try.f3.params.toList args.toList ds p := hA0
  rw [Try.params3] at hA hval
  obtain ⟨v0, vs0, d0, ds0, p0, q0, hargs, rfl, rfl, h0, r0⟩ := trodAll_cons hA
  obtain ⟨v1, vs1, d1, ds1, p1, q1, rfl, rfl, rfl, h1, r1⟩ := trodAll_cons r0
  obtain ⟨v2, vs2, d2, ds2, p2, q2, rfl, rfl, rfl, h2, r2⟩ := trodAll_cons r1
  obtain ⟨rfl, rfl, rfl⟩ := trodAll_nil r2
  obtain rfl : args = #[v0, v1, v2] := by cases args; simp_all
  obtain ⟨rfl, rfl⟩ := trodVars_none hV
  obtain ⟨a0, rfl, rfl, rfl, w0⟩ := open_string Try.underlying9 (hval 0 9 v0 rfl rfl) h0
  obtain ⟨a1, rfl, rfl, rfl, w1⟩ := open_int Try.underlying3 (hval 1 3 v1 rfl rfl) h1
  obtain ⟨cs, rfl, hsz, _⟩ : ∃ cs, v2 = .agg cs ∧ cs.size = Try.prog.cellsOf 22 ∧ Row.okWide Try.prog W .any base 22 cs := by
    have := hval 2 22 v2 rfl rfl
    simpa [Value.okWide, Try.underlying22] using this
  rw [cellsTwo] at hsz
  obtain ⟨l⟩ := cs
  obtain ⟨c0, c1, rfl⟩ := list2 l hsz
  have k2 := h2
  have lt2 : ∀ x ∈ p2, x.block < W.heap.size := by obtain ⟨m, hm⟩ := k2; exact DataW.trod_lt m _ _ _ hm
  obtain ⟨x, y, rfl, rfl, wx, wy⟩ : ∃ x y, c0 = .int .u8 x ∧ c1 = .int .u8 y ∧ (Lit.int .u8 x).wf = true ∧ (Lit.int .u8 y).wf = true := by
    obtain ⟨fuel, hf⟩ := h2
    obtain ⟨xs, m, _, _, _, hl, hx⟩ := DataW.trod_array Try.underlying22 hf
    have hx0 := hx 0 (by omega)
    have hx1 := hx 1 (by omega)
    rw [cellsOne, List.getElem?_eq_getElem (by omega)] at hx0 hx1
    obtain ⟨x0, e0, _, w20⟩ := DataW.trod_int Try.underlying5 hx0
    obtain ⟨x1, e1, _, w21⟩ := DataW.trod_int Try.underlying5 hx1
    simp [Value.cells] at e0 e1
    exact ⟨x0, x1, e0, e1, w20, w21⟩
  clear hA0 hval0
  refine (walk a0 a1 x y wx wy W).mono fun e W' ⟨he, bel⟩ => ?_
  subst he
  exact ⟨_, rfl, _, _, _, [], _, [], hW', trodAll_mk1 (shut_bool Try.underlying4 _), (trodAll_cons_mk (shut_string Try.underlying9 w0) (trodAll_cons_mk (shut_int Try.underlying3 w1) (trodAll_cons_mk (Below.trod laidOut (by kernel_rfl) (of_decide_eq_true (by kernel_rfl)) k2 bel lt2) trodAll_mk0))), rfl, bel.frame _, fun h => by cases h⟩

theorem over : Rows.crcByteRow.holds Try.pinned (OpenSpec.ofChange Rows.crcByteSpec) :=
  OpenClaim.holds_of_wide 3 Try.f3 rfl rfl rfl rfl rfl rfl rfl ⟨rfl, rfl, rfl, rfl, rfl⟩ rfl rfl rfl rfl rfl (by kernel_rfl) Try.func3 (by kernel_rfl)
    (of_decide_eq_true (by kernel_rfl)) (by unfold Func.isWrapper; first | (rw [if_pos (by decide +kernel)]; kernel_rfl) | (rw [if_neg (by decide +kernel)]; exact ⟨rfl, rfl⟩))
    (fun os started H enc _ => lifted os started H enc)

theorem proved : Rows.CrcByteSaid := over
#print axioms proved
end Go.Proofs.Ytammfhhinbhfgaa.crcByte
