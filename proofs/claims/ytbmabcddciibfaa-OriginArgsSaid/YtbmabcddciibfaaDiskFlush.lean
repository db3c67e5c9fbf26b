/- The contracts of the disk's Flush and Restart. -/
import Derived.Test.YtbmabcddciibfaaDiskWrite
namespace Go.Proofs.Ytbmabcddciibfaa
namespace Dsk
open Go.RowKit
set_option maxRecDepth 100000
set_option linter.unusedVariables false
theorem settle_snoc (S : List (List UInt8)) (P : List (Nat × List UInt8)) (x : Nat × List UInt8) (keep : List Bool) :
    Dm.settle S (P ++ [x]) keep = if keep.getD P.length false then (Dm.settle S P keep).set x.1 x.2 else Dm.settle S P keep := by
  induction P generalizing S keep with
  | nil => cases keep <;> simp [Dm.settle]
  | cons y P ih =>
    show Dm.settle _ (P ++ [x]) keep.tail = _
    rw [ih]
    cases keep <;> simp [Dm.settle]
theorem take_snoc' {P : List (Nat × List UInt8)} {k : Nat} (h : k < P.length) : P.take (k + 1) = P.take k ++ [P[k]] := by rw [List.take_succ_eq_append_getElem h]
theorem settle_take {S : List (List UInt8)} {P : List (Nat × List UInt8)} {k : Nat} (h : k < P.length) (keep : List Bool) :
    Dm.settle S (P.take (k + 1)) keep = if keep.getD k false then (Dm.settle S (P.take k) keep).set P[k].1 P[k].2 else Dm.settle S (P.take k) keep := by
  rw [take_snoc' h, settle_snoc, List.length_take, Nat.min_eq_left (by omega)]
theorem all_get {P : List (Nat × List UInt8)} {k : Nat} (h : k < P.length) : (Dm.all P).getD k false = true := by simp [Dm.all, h]

/-- The two cells of a pending write. -/
theorem Dk.pair {w : World} {o : Ob} {st : Dm.St} (h : Dk w o st) {pa : Option Addr} {n pc : Nat} (hv : o.pv = .slice pa n pc) {k : Nat} (hk : k < st.P.length) :
    ∃ g, pa = some ⟨g, 0, none⟩ ∧ w.cell? ⟨g, k * 2, none⟩ = some (.int .i64 (st.P[k].1 : Int)) ∧ w.cell? ⟨g, k * 2 + 1, none⟩ = some (.string (Om.B st.P[k].2)) := by
  have hown := h.pend
  rcases hown.2 with ⟨_, hz⟩ | ⟨g, cap, cc, hv2, _⟩
  · omega
  · have hv3 := hv.symm.trans hv2
    injection hv3 with h1 h2 h3
    subst h1
    rw [hv2] at hown
    obtain ⟨c1, c2⟩ := wcells_get st.P k hk
    refine ⟨g, rfl, ?_, ?_⟩
    · rw [hown.cellAt (k * 2) (by omega), Nat.mul_comm]; exact c1
    · rw [hown.cellAt (k * 2 + 1) (by omega), Nat.mul_comm]; exact c2

/-- In the midst of settling. -/
structure Set (o : Ob) (st : Dm.St) (keep : List Bool) (k : Nat) (w wr : World) : Prop where
  dk : Dk wr o { st with S := Dm.settle st.S (st.P.take k) keep }
  step : Step o o w wr

theorem flush_no {w : World} {o : Ob} {st : Dm.St} (h : Dk w o st) (hno : Dm.spendB st = false) :
    Calls Try.prog 16 #[.pointer (some ⟨o.p, 0, none⟩)] w fun e w' => e = .returned (.int .i64 (Dm.flush st).2) ∧ Went o (Dm.flush st).1 w w' := by
  have e1 : Dm.flush st = (Dm.spendS st, 41) := by unfold Dm.flush; rw [if_neg (by rw [hno]; decide)]
  rw [e1]
  have hsp := spend_any h
  rw [hno] at hsp
  have HSP := Lib.hid hsp
  clear hsp hno e1 h
  go_enter Try.func16, Try.ntmps16
  go_wp2_with (go_at_call 31; refine HSP.out.mono ?_; rintro e w' ⟨rfl, hw'⟩; have HW := Lib.hid hw'; clear hw')
  go_ret
  exact ⟨rfl, HW.out⟩

theorem flush_yes {w : World} {o : Ob} {st : Dm.St} (h : Dk w o st) (hyes : Dm.spendB st = true) (hP : st.P.length ≤ 1099511627776) :
    Calls Try.prog 16 #[.pointer (some ⟨o.p, 0, none⟩)] w fun e w' => e = .returned (.int .i64 (Dm.flush st).2) ∧ Went o (Dm.flush st).1 w w' := by
  have e1 : Dm.flush st = (⟨Dm.settle st.S st.P (Dm.all st.P), [], (Dm.spendS st).fuse, (Dm.spendS st).dead⟩, 0) := by unfold Dm.flush; rw [if_pos hyes]
  rw [e1]
  have hsp := spend_any h
  rw [hyes] at hsp
  have hSS := Dm.spendS_S st
  have hPP := Dm.spendS_P st
  obtain ⟨st1, hst1⟩ : ∃ s, s = Dm.spendS st := ⟨_, rfl⟩
  rw [← hst1] at hsp hSS hPP ⊢
  rw [← hSS, ← hPP]
  rw [← hPP] at hP
  have HSP := Lib.hid hsp
  clear hsp hyes e1 h hSS hPP hst1
  go_enter Try.func16, Try.ntmps16
  go_wp2_with fail
  refine HSP.out.mono ?_
  rintro e w1 ⟨rfl, o1, hd1, hs1⟩
  have hp1 := hs1.p
  obtain ⟨_, h1, _, _, _, _⟩ := hd1.reads
  obtain ⟨pa, pc, hpv⟩ := own_slice hd1.pend
  rw [hp1, hpv] at h1
  obtain ⟨n, hn⟩ : ∃ n, n = st1.P.length := ⟨_, rfl⟩
  rw [← hn] at hpv h1 hP
  have HD1 := Lib.hid hd1
  have HS1 := Lib.hid hs1
  have HPV := Lib.hid hpv
  have HN := Lib.hid hn
  have HP1 := Lib.hid hp1
  clear HSP hd1 hs1 hpv hn hp1
  go_wp2
  go_loopw [15] (fun i wr => ∃ k : Nat, k ≤ n ∧ i = .int .i64 k ∧ Hid (Set o1 st1 (Dm.all st1.P) k w1 wr)) (fun i _ => n - (intOf i).toNat)
  case atStart => exact ⟨0, Nat.zero_le _, rfl, Lib.hid ⟨HD1.out, Step.refl _ _⟩⟩
  case round =>
    obtain ⟨k, hk, rfl, hset⟩ := hrel
    clear h1
    by_cases hlt : k < n
    · have hd : decide (k < n) = true := by simpa using hlt
      have hkk : k < st1.P.length := by rw [← HN.out]; exact hlt
      obtain ⟨g, rfl, c1, c2⟩ := hset.out.dk.pair HPV.out (k := k) hkk
      have hw := HD1.out.ok.writes _ (List.getElem_mem hkk)
      have hstep := settle_take (S := st1.S) hkk (Dm.all st1.P)
      rw [all_get hkk, if_pos rfl] at hstep
      obtain ⟨x, hx⟩ : ∃ x, x = st1.P[k] := ⟨_, rfl⟩
      have c1' : wr.cell? ⟨g, k * 2, none⟩ = some (.int .i64 (x.1 : Int)) := by rw [hx]; exact c1
      have c2' : wr.cell? ⟨g, k * 2 + 1, none⟩ = some (.string (Om.B x.2)) := by rw [hx]; exact c2
      rw [← hx] at hstep hw
      have HSTEP := Lib.hid hstep
      have HW := Lib.hid hw
      clear c1 c2 hstep hw hx
      go_wp2_with fail
      have hbel : Below wr.heap.size wr (wr.alloc (.cells #[.int .i64 (x.1 : Int), .string (Om.B x.2)] 69)) := (Below.refl _ _).alloc (Nat.le_refl _) _
      have hcall := settle_any (hset.out.dk.below hbel) x.1 x.2 (by show x.1 < (Dm.settle _ _ _).length; rw [Dm.settle_length]; exact HW.out.1) HW.out.2
      rw [HP1.out] at hcall
      refine hcall.mono ?_
      rintro e w2 ⟨rfl, hd2, hs2⟩
      have HD2 := Lib.hid hd2
      have HS2 := Lib.hid hs2
      have HBEL := Lib.hid hbel
      clear hd2 hs2 hbel hcall
      go_wp2
      go_roundw
      case rel =>
        refine ⟨k + 1, by omega, by go_num, Lib.hid ⟨?_, hset.out.step.trans ((Step.of_below HBEL.out).trans HS2.out)⟩⟩
        rw [HSTEP.out]
        exact HD2.out
      case measure => simp [intOf]; omega
    · obtain rfl : k = n := by omega
      have hd : decide (k < k) = false := by simp
      have hcall := forget_any hset.out.dk
      rw [HP1.out] at hcall
      have HCALL := Lib.hid hcall
      clear hcall
      go_wp2_with fail
      refine HCALL.out.mono ?_
      rintro e w2 ⟨rfl, hwent⟩
      have HW := Lib.hid hwent
      clear hwent
      go_wp2
      go_ret
      refine ⟨rfl, ?_⟩
      have hw := Went.trans (HS1.out.trans hset.out.step) HW.out
      rw [HN.out, List.take_length] at hw
      exact hw
theorem flush_any {w : World} {o : Ob} {st : Dm.St} (h : Dk w o st) (hP : st.P.length ≤ 1099511627776) :
    Calls Try.prog 16 #[.pointer (some ⟨o.p, 0, none⟩)] w fun e w' => e = .returned (.int .i64 (Dm.flush st).2) ∧ Went o (Dm.flush st).1 w w' := by
  cases hb : Dm.spendB st with
  | true => exact flush_yes h hb hP
  | false => exact flush_no h hb

/-- What is kept, in memory that is none of F. -/
def Kept (w : World) (F : Nat → Prop) (a : Option Addr) (ks : List Bool) : Prop :=
  0 < ks.length → ∃ b off, a = some ⟨b, off, none⟩ ∧ ¬ F b ∧ b < w.heap.size ∧ ∀ i, i < ks.length → w.cell? ⟨b, off + i, none⟩ = some (.bool (ks.getD i false))
theorem Kept.fr {w w' : World} {F G : Nat → Prop} {a : Option Addr} {ks : List Bool} (h : Kept w F a ks) (hf : Fr G w w') (hg : ∀ i, i < w.heap.size → G i → F i) : Kept w' F a ks := fun hn => by
  obtain ⟨b, off, e, hF, hb, hc⟩ := h hn
  refine ⟨b, off, e, hF, Nat.lt_of_lt_of_le hb hf.size, fun i hi => ?_⟩
  rw [← hc i hi]
  exact World.cell?_of_block (w := w) (a := ⟨b, off + i, none⟩) (hf.block b hb (fun c => hF (hg b hb c)))
theorem Kept.none (w : World) (F : Nat → Prop) (a : Option Addr) : Kept w F a [] := fun h => absurd h (by simp)

end Dsk
end Go.Proofs.Ytbmabcddciibfaa