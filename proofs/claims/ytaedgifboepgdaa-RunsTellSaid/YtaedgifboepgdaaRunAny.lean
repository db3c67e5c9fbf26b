/- Both calls of any exceptions, the program's and the document's; two rows of runs held against each other. -/
import Derived.Test.YtaedgifboepgdaaRunFirst
import Derived.Test.YtaedgifboepgdaaRunRef
namespace Go.Proofs.Ytaedgifboepgdaa
namespace Rn
open Go.RowKit Dsk Tb
set_option linter.unusedVariables false
set_option maxRecDepth 100000

/-- What is told, or the error. -/
def res (m : Int) (l : List E) : List (List E) := if rightB m l = true then told m l else []
def err (m : Int) (l : List E) : Int := if rightB m l = true then 0 else 1
def hd (m : Int) (l : List E) : List E := (res m l).headD []
theorem res_yes {m : Int} {l : List E} (h : rightB m l = true) : res m l = told m l ∧ err m l = 0 := by unfold res err; rw [if_pos h, if_pos h]; exact ⟨rfl, rfl⟩
theorem res_no {m : Int} {l : List E} (h : rightB m l = false) : res m l = [] ∧ err m l = 1 := by unfold res err; rw [h]; exact ⟨rfl, rfl⟩
theorem res_len (m : Int) (l : List E) : (res m l).length ≤ l.length := by
  unfold res
  split
  · exact told_len m l
  · simp
theorem mem_len {L : List (List E)} {r : List E} (h : r ∈ L) : r.length ≤ L.flatten.length := by
  induction L with
  | nil => cases h
  | cons a L ih =>
    rw [List.flatten_cons, List.length_append]
    rcases List.mem_cons.1 h with rfl | h
    · omega
    · have := ih h; omega
theorem res_flat_len (m : Int) (l : List E) : (res m l).flatten.length ≤ l.length := by
  unfold res
  split
  · rw [told_flat]; exact Nat.le_refl _
  · simp
theorem res_each {m : Int} {l r : List E} (h : r ∈ res m l) : r.length ≤ l.length := Nat.le_trans (mem_len h) (res_flat_len m l)
theorem hd_len (m : Int) (l : List E) : (hd m l).length ≤ l.length := by
  unfold hd
  cases h : res m l with
  | nil => simp
  | cons r L => exact res_each (by rw [h]; simp)
variable {m : Int} {l : List E} {n c : Nat}
theorem of_any (hin : In m l n c) (a : Option Addr) (w : World) (hrow : REnts w a l) :
    Calls Try.prog 7 #[.int .i64 m, .slice a n c] w fun e w' => ∃ v vs, e = .returned (.tuple #[v, .int .i64 (err m l)]) ∧ Rows w' w.heap.size v vs (res m l) ∧ Below w.heap.size w w' := by
  cases h : rightB m l with
  | true => obtain ⟨e1, e2⟩ := res_yes h; rw [e1, e2]; exact of_ok hin a w hrow h
  | false =>
    obtain ⟨e1, e2⟩ := res_no h
    rw [e1, e2]
    exact (of_no hin a w hrow h).mono fun e w' ⟨h1, h2⟩ => ⟨_, _, h1, Rows.nil _ _, h2⟩
theorem rof_any (hin : In m l n c) (hfew : n ≤ 1048576) (a : Option Addr) (w : World) (hrow : REnts w a l) :
    Calls Try.prog 8 #[.int .i64 m, .slice a n c] w fun e w' => ∃ v vs, e = .returned (.tuple #[v, .int .i64 (err m l)]) ∧ Rows w' w.heap.size v vs (res m l) ∧ Below w.heap.size w w' := by
  cases h : rightB m l with
  | true => obtain ⟨e1, e2⟩ := res_yes h; rw [e1, e2]; exact rof_ok hin hfew a w hrow h
  | false =>
    obtain ⟨e1, e2⟩ := res_no h
    rw [e1, e2]
    exact (rof_no hin a w hrow h).mono fun e w' ⟨h1, h2⟩ => ⟨_, _, h1, Rows.nil _ _, h2⟩
theorem first_any (hin : In m l n c) (a : Option Addr) (w : World) (hrow : REnts w a l) :
    Calls Try.prog 9 #[.int .i64 m, .slice a n c] w fun e w' => ∃ p k d, e = .returned (.tuple #[.slice p k d, .int .i64 (err m l)]) ∧ k = (hd m l).length ∧ REnts w' p (hd m l) ∧ Below w.heap.size w w' := by
  unfold hd
  cases h : rightB m l with
  | true =>
    obtain ⟨e1, e2⟩ := res_yes h
    rw [e1, e2]
    refine (first_ok hin a w hrow h).mono ?_
    rintro e w' ⟨v, k, rfl, h1, h2⟩
    obtain ⟨p, d, rfl, hk, _, hr⟩ := ents_any h1
    exact ⟨p, k, d, rfl, hk, hr, h2⟩
  | false =>
    obtain ⟨e1, e2⟩ := res_no h
    rw [e1, e2]
    exact (first_no hin a w hrow h).mono fun e w' ⟨h1, h2⟩ => ⟨_, _, _, h1, rfl, REnts.nil _ _, h2⟩
theorem rfirst_any (hin : In m l n c) (hfew : n ≤ 1048576) (a : Option Addr) (w : World) (hrow : REnts w a l) :
    Calls Try.prog 10 #[.int .i64 m, .slice a n c] w fun e w' => ∃ p k d, e = .returned (.tuple #[.slice p k d, .int .i64 (err m l)]) ∧ k = (hd m l).length ∧ REnts w' p (hd m l) ∧ Below w.heap.size w w' := by
  have R := Lib.hid (rof_any hin hfew a w hrow)
  unfold hd
  cases h : rightB m l with
  | false =>
    obtain ⟨e1, e2⟩ := res_no h
    rw [e1, e2] at R
    rw [e1, e2]
    clear hin hrow h e1 e2 hfew
    go_enter Try.func10, Try.ntmps10
    go_wp2_with fail
    refine R.out.mono ?_
    rintro e w1 ⟨v, vs, rfl, hr, hb⟩
    clear R hr
    go_wp2_with fail
    go_ret2
    exact ⟨_, _, _, rfl, rfl, REnts.nil _ _, hb⟩
  | true =>
    obtain ⟨e1, e2⟩ := res_yes h
    rw [e1, e2] at R
    rw [e1, e2]
    obtain ⟨T, hT⟩ : ∃ T, T = told m l := ⟨_, rfl⟩
    have HTN : Hid (T.length ≤ 1048576) := Lib.hid (by rw [hT]; have := told_len m l; have := hin.len; omega)
    rw [← hT] at R ⊢
    clear hin hrow h e1 e2 hfew hT
    go_enter Try.func10, Try.ntmps10
    go_wp2_with fail
    refine R.out.mono ?_
    rintro e w1 ⟨v, vs, rfl, hr, hb⟩
    have HR := Lib.hid hr
    obtain ⟨va, vc, rfl⟩ := hr.value
    clear R hr
    cases T with
    | nil =>
      have t1 : ((([] : List (List E)).length : Int) == 0) = true := rfl
      go_wp2_with fail
      go_ret2
      exact ⟨_, _, _, rfl, rfl, REnts.nil _ _, hb⟩
    | cons r L =>
      obtain ⟨N, hN⟩ : ∃ N, N = (r :: L).length := ⟨_, rfl⟩
      obtain ⟨b, cc, p, d, hv, _, _, c0, _, _, hre⟩ := HR.out.get (i := 0) (r := r) rfl
      injection hv with hv1 hv2 hv3
      subst hv1
      have HRE := Lib.hid hre
      have t0 : 0 < N := by rw [hN]; simp
      rw [← hN]
      have t1 : (((N : Nat) : Int) == 0) = false := by simp; omega
      have t2 : (0 : Int) < (N : Int) := by omega
      clear hN hre hv2 hv3 HTN HR
      go_wp2_with fail
      go_ret2
      exact ⟨_, _, _, rfl, rfl, HRE.out, hb⟩
/-- Two rows of the same runs. -/
theorem same_any {w : World} {b1 b2 : Nat} {v u : Value} {vs us : List Value} {L : List (List E)} (hx : Rows w b1 v vs L) (hy : Rows w b2 u us L) (hl : L.length ≤ 1048576) (hr : ∀ r ∈ L, r.length ≤ 1048576) :
    Calls Try.prog 11 #[v, u] w fun e w' => e = .returned (.bool true) ∧ Below w.heap.size w w' := by
  obtain ⟨va, vc, rfl⟩ := hx.value
  obtain ⟨ua, uc, rfl⟩ := hy.value
  have HX := Lib.hid hx
  have HY := Lib.hid hy
  have HR := Lib.hid hr
  obtain ⟨n, hn⟩ : ∃ n, n = L.length := ⟨_, rfl⟩
  have HN := Lib.hid hn
  rw [← hn] at hl ⊢
  have hne : (((n : Nat) : Int) != (n : Int)) = false := by simp
  clear hx hy hn hr
  go_enter Try.func11, Try.ntmps11
  go_wp2
  go_loopw [5] (fun i wr => ∃ k : Nat, k ≤ n ∧ i = .int .i64 k ∧ Hid (Below w.heap.size w wr)) (fun i _ => n - (numOf i).toNat)
  case atStart => exact ⟨0, Nat.zero_le _, rfl, Lib.hid (Below.refl _ _)⟩
  case round =>
    obtain ⟨k, hk, rfl, hw⟩ := hrel
    by_cases hlt : k < n
    · have t1 : decide ((k : Int) < (n : Int)) = true := by simp; omega
      have t2 : decide (k < n) = true := by simp; omega
      have hkl : k < L.length := by have := HN.out; omega
      obtain ⟨r, hr⟩ : ∃ r, L[k]? = some r := ⟨_, List.getElem?_eq_getElem hkl⟩
      have hx := HX.out.next hw.out
      have hy := HY.out.next hw.out
      obtain ⟨ab, ac, ap, ad, e1, _, hab, c0, _, _, r0⟩ := hx.get hr
      obtain ⟨bb, bc, bp, bd, e2, _, hbb, c1, _, _, r1⟩ := hy.get hr
      injection e1 with e11 e12 e13
      injection e2 with e21 e22 e23
      subst e11 e21
      have hrl : r.length ≤ 1048576 := HR.out r (List.mem_of_getElem? hr)
      have SA : Hid (∀ W, Below wr.heap.size wr W → Calls Try.prog 12 #[.slice ap r.length ad, .slice bp r.length bd] W fun e w' => e = .returned (.bool true) ∧ Below W.heap.size W w') := Lib.hid fun W hW => esame_rows (r0.below hW) (r1.below hW) (by omega)
      obtain ⟨rl, hrl⟩ : ∃ rl, rl = r.length := ⟨_, rfl⟩
      rw [← hrl] at SA c0 c1
      have hk0 : (0 : Int) ≤ (k : Int) := by omega
      have hk1 : (k : Int) < (n : Int) := by omega
      have hw1 : IntKind.i64.wrap ((k : Int) + 1) = ((k + 1 : Nat) : Int) := by rw [IntWalk.i64_in _ (by omega)]; rfl
      clear hx hy hr e12 e13 e22 e23 r0 r1 hrl hkl
      go_wp2
      go_region_held3 (fun w' => w'.cell? ⟨ab, k, none⟩ = some (.slice ap rl ad) ∧ w'.cell? ⟨bb, k, none⟩ = some (.slice bp rl bd))
        (first | go_keep | (refine ⟨?_, ?_⟩ <;> assumption) | (exact ⟨(BX.out.cell (p := ⟨ab, k, none⟩) hab).trans c0, (BX.out.cell (p := ⟨bb, k, none⟩) hbb).trans c1⟩))
        (first | (go_at_call 12; refine (SA.out _ (Below.refl _ _).drew).mono ?_; rintro e w4 ⟨rfl, hb4⟩; have BX : Hid (Below wr.heap.size wr w4) := (Below.refl _ _).drew.trans hb4; clear hb4))
      have BW := Lib.hid (hw.out.trans (BX.out.mono hw.out.size))
      go_wp2
      go_roundw
      case rel => exact ⟨k + 1, by omega, by go_num, BW⟩
      case measure => simp [numOf]; omega
    · obtain rfl : k = n := by omega
      have t1 : decide ((k : Int) < (k : Int)) = false := by simp
      have t2 : decide (k < k) = false := by simp
      go_wp2
      go_ret
      exact ⟨rfl, hw.out⟩
end Rn
end Go.Proofs.Ytaedgifboepgdaa
