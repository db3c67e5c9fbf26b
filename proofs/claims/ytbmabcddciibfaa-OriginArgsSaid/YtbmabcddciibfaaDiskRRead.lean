/- Contracts of the document's disk: One, Bytes, Read. -/
import Derived.Test.YtbmabcddciibfaaDiskRMem
namespace Go.Proofs.Ytbmabcddciibfaa
namespace Dsk
open Go.RowKit
set_option linter.unusedVariables false
theorem Rk.pair {w : World} {r : Ro} {st : Dm.St} (h : Rk w r st) {pa : Option Addr} {n pc : Nat} (hv : r.pv = .slice pa n pc) {k : Nat} (hk : k < st.P.length) :
    ∃ g, pa = some ⟨g, 0, none⟩ ∧ w.cell? ⟨g, k * 2, none⟩ = some (.int .i64 (st.P[k].1 : Int)) ∧ w.cell? ⟨g, k * 2 + 1, none⟩ = some (.string (Om.B st.P[k].2)) := by
  have hown := h.pend
  rcases hown.2 with ⟨_, hz⟩ | ⟨g, cap, cc, hv2, _⟩
  · omega
  · have hv3 := hv.symm.trans hv2
    injection hv3 with h1 h2 h3
    subst h1
    rw [hv2] at hown
    obtain ⟨c1, c2⟩ := wcells_get st.P k hk
    refine ⟨g, rfl, ?_, ?_⟩
    · rw [hown.cellAt (k * 2) (by omega), Nat.mul_comm]; exact c1
    · rw [hown.cellAt (k * 2 + 1) (by omega), Nat.mul_comm]; exact c2
theorem Rk.at {w : World} {r : Ro} {st : Dm.St} (h : Rk w r st) {sa : Option Addr} {n sc : Nat} (hv : r.sv = .slice sa n sc) {k : Nat} (hk : k < st.S.length) :
    ∃ g, sa = some ⟨g, 0, none⟩ ∧ r.sv.ownBlock = some g ∧ w.cell? ⟨g, k, none⟩ = some (.string (Om.B (st.S.getD k []))) ∧ w.frozen? ⟨g, k, none⟩ = false := by
  have hown := h.stands
  rcases hown.2 with ⟨_, hz⟩ | ⟨g, cap, cc, hv2, _⟩
  · omega
  · have hv3 := hv.symm.trans hv2
    injection hv3 with h1 h2 h3
    subst h1
    rw [hv2] at hown
    refine ⟨g, rfl, by rw [hv2]; rfl, ?_, hown.frozenAt k⟩
    rw [hown.cellAt k (by omega)]; exact scells_get hk

theorem last_take {P : List (Nat × List UInt8)} {k : Nat} (h : k < P.length) (a : Nat) (d : List UInt8) : Dm.last (P.take (k + 1)) a d = if P[k].1 = a then P[k].2 else Dm.last (P.take k) a d := by
  rw [take_snoc' h, Dm.last_snoc]

theorem flat_take {S : List (List UInt8)} {k : Nat} (h : k < S.length) : (S.take (k + 1)).flatten = (S.take k).flatten ++ S.getD k [] := by
  rw [List.take_succ_eq_append_getElem h, List.flatten_append]; simp [h]
theorem flat_len_le {S : List (List UInt8)} (h : ∀ x ∈ S, x.length = 64) (k : Nat) : (S.take k).flatten.length ≤ 64 * S.length := by
  rw [Dm.flat_length (fun x hx => h x (List.mem_of_mem_take hx)), List.length_take]; omega
theorem no_over (a b : List UInt8) (h : a.length + b.length < 4611686018427387904) : ¬ 9223372036854775807 < (Om.B a).size + (Om.B b).size := by
  rw [Om.B_size, Om.B_size]; omega

theorem rbytes_any {w : World} {r : Ro} {st : Dm.St} (h : Rk w r st) :
    Calls Try.prog 30 #[.pointer (some ⟨r.p, 0, none⟩)] w fun e w' => e = .returned (.string (Om.B st.S.flatten)) ∧ w = w' := by
  obtain ⟨h0, _⟩ := h.reads
  obtain ⟨sa, sc, hsv⟩ := own_slice h.stands
  rw [hsv] at h0
  have hfew := h.ok.few
  obtain ⟨m, hm⟩ : ∃ m, m = st.S.length := ⟨_, rfl⟩
  rw [← hm] at h0 hfew hsv
  have H := Lib.hid h
  have HSV := Lib.hid hsv
  have HM := Lib.hid hm
  clear h hsv hm
  go_enter Try.func30, Try.ntmps30
  go_wp2
  go_loop [3, 4] (fun s i => ∃ k : Nat, k ≤ m ∧ i = .int .i64 k ∧ s = .string (Om.B (st.S.take k).flatten)) (fun _ i => m - (intOf i).toNat)
  case atStart => exact ⟨0, Nat.zero_le _, rfl, rfl⟩
  case round =>
    obtain ⟨k, hk, rfl, rfl⟩ := hrel
    by_cases hlt : k < m
    · have hd : decide (k < m) = true := by simpa using hlt
      have hkk : k < st.S.length := by rw [← HM.out]; exact hlt
      obtain ⟨g', rfl, _, c1, _⟩ := H.out.at HSV.out (k := k) hkk
      have hf := flat_take hkk
      have hov := no_over (st.S.take k).flatten (st.S.getD k []) (by
        have := flat_len_le H.out.ok.sectors k
        have := H.out.ok.sectors _ (Dm.getD_mem hkk)
        rw [← HM.out] at *
        omega)
      have happ := Om.B_append (st.S.take k).flatten (st.S.getD k [])
      rw [← hf] at happ
      obtain ⟨x, hx⟩ : ∃ x, x = st.S.getD k [] := ⟨_, rfl⟩
      rw [← hx] at c1 hov happ
      clear hf hkk hx
      go_wp2
      go_round
      case rel => exact ⟨k + 1, by omega, by go_num, rfl⟩
      case measure => simp [intOf]; omega
    · obtain rfl : k = m := by omega
      have hd : decide (k < k) = false := by simp
      go_wp2
      go_ret
      refine ⟨?_, rfl⟩
      rw [HM.out, List.take_length]
      rfl

end Dsk
end Go.Proofs.Ytbmabcddciibfaa