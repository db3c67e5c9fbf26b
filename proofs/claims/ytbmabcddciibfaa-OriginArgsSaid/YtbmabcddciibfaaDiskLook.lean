/- Contracts of the disk's look, Bytes, Read. -/
import Derived.Test.YtbmabcddciibfaaDiskNew
import Derived.Lib.BufferRead
namespace Go.Proofs.Ytbmabcddciibfaa
namespace Dsk
open Go.RowKit
set_option maxRecDepth 100000
set_option linter.unusedVariables false
theorem zero_int (w : World) : (zeroValue 3).run Try.prog w = .ok (.int .i64 0) w := by kernel_rfl

/-- 'copy(dst, src)' of bytes, at the operation. -/
theorem wpList_copy_byt {P : Program} {w : World} {ops : Array Oper} {rest : List Oper} {o : Oper} {a : Act} {Q : Exit → Act → World → Prop} (hgd : o.guard = none) (d s : Operand) (dT sT : TypeId)
    (ho : o.op = .call { callee := .builtin .copy, args := #[d, s], argTypes := #[dT, sT] }) (elem : TypeId) (hu : P.underlying dT = some (.slice elem)) (hsz : (P.info? elem).map (·.size) = some 1)
    (g off dLen dCap sb so sLen sCap : Nat) (hd : a.eval d = .slice (some ⟨g, off, none⟩) dLen dCap) (hs : a.eval s = .slice (some ⟨sb, so, none⟩) sLen sCap) (cur src : List UInt8) (t t' : TypeId) (hg : w.heap[g]? = some (.cells (Lib.byteCells cur).toArray t (0, 0)))
    (hsr : w.heap[sb]? = some (.cells (Lib.byteCells src).toArray t' (0, 0))) (hle : sLen ≤ dLen) (hin : so + sLen ≤ src.length) (hfit : off + sLen ≤ cur.length)
    (h : ∀ w', Hid (w' = w.setRow g (Lib.byteCells (cur.take off ++ (src.drop so).take sLen ++ cur.drop (off + sLen))).toArray) → wpList P ops Q rest (a.put o.dst (goInt sLen)) w') : wpList P ops Q (o :: rest) a w := by
  have hlen : (Lib.byteCells ((src.drop so).take sLen)).length = sLen := by rw [Lib.byteCells_length, List.length_take, List.length_drop]; omega
  refine wpList_copy_own hgd d s dT sT ho elem hu hsz g off dLen dCap ⟨sb, so, none⟩ sLen sCap hd hs _ t hg (Lib.byteCells ((src.drop so).take sLen)) (by rw [hlen]; exact (Nat.min_eq_left hle).symm) ?_ (by rw [hlen]; simpa [Lib.byteCells] using hfit) (Lib.byteCells_one _) ?_
  · intro j v hv
    have hj : j < sLen := by
      have := (List.getElem?_eq_some_iff.1 hv).1
      omega
    have : (⟨sb, so, none⟩ : Addr).add j = ⟨sb, so + j, none⟩ := by unfold Addr.add; split <;> simp_all
    rw [this, cell_of_row _ _ _ _ _ _ hsr]
    rw [Lib.byteCells, List.getElem?_map, List.getElem?_take, if_pos hj, List.getElem?_drop] at hv
    simpa [Lib.byteCells] using hv
  · rw [hlen]
    refine h _ ?_
    show _ = _
    congr 2
    simp [Lib.byteCells]

/-- What look leaves: the bytes at block g from place off on. -/
theorem look_any {w : World} {o : Ob} {st : Dm.St} (h : Dk w o st) (k : Nat) (hk : k < st.S.length) (g off n : Nat) (cur : List UInt8) (hg : w.heap[g]? = some (.cells (Lib.byteCells cur).toArray 5 (0, 0))) (hne : ¬ o.fp g) (hn : 64 ≤ n) (hfit : off + 64 ≤ cur.length)
    (hP : st.P.length ≤ 1099511627776) :
    Calls Try.prog 36 #[.pointer (some ⟨o.p, 0, none⟩), .slice (some ⟨g, off, none⟩) n n, .int .i64 (k : Int)] w fun e w' => e = .returned (.tuple #[]) ∧ w' = w.setRow g (Lib.byteCells (cur.take off ++ Dm.one st k ++ cur.drop (off + 64))).toArray := by
  obtain ⟨h0, h1, h2, _, _, hf⟩ := h.reads
  obtain ⟨D, nm, hm, hnm, hmo⟩ := h.newest
  have hone := Dm.one_length h.ok k hk
  have hfew := h.ok.few
  have HM := Lib.hid hm
  have HKEY := Lib.hid (Maps.keyOf_int_mk Try.underlying3 (WalkArith.wf_i64 (n := (k : Int)) (by omega)))
  have HG := Lib.hid hg
  have HONE := Lib.hid hone
  rcases hmo.2 k with ⟨m1, m2⟩ | ⟨i, d, m1, m2, m3, m4⟩
  · have he : Dm.one st k = st.S.getD k [] := Dm.last_none m2 _
    have hget := Dm.flat_get h.ok.sectors k hk
    have hst := h.stands
    have hfl := Dm.flat_length h.ok.sectors
    obtain ⟨N, hN⟩ : ∃ N, N = 64 * st.S.length := ⟨_, rfl⟩
    obtain ⟨K, hK⟩ : ∃ K, K = 64 * k := ⟨_, rfl⟩
    have hKN : K + 64 ≤ N := by omega
    have hNb : N ≤ 67108864 := by omega
    have hki : IntKind.i64.wrap ((k : Int) * 64) = (K : Int) := by rw [IntWalk.i64_in _ (by omega)]; omega
    have b1 : (K : Int) ≤ (N : Int) := by omega
    have b2' : K + 64 ≤ N := hKN
    have b3 : K ≤ N := by omega
    rw [← hN] at h0 hfl
    rw [← hK] at hget
    obtain ⟨C, hC⟩ : ∃ C, C = N + o.sp.length := ⟨_, rfl⟩
    rw [← hC] at h0
    have hget : ((st.S.flatten ++ o.sp).drop K).take 64 = st.S.getD k [] := by
      rw [List.drop_append_of_le_length (by omega), List.take_append_of_le_length (by rw [List.length_drop]; omega)]; exact hget
    have hCN : N ≤ C := by omega
    clear hC
    have b2 : ¬ C = K := by omega
    have b4 : 64 ≤ C - K := by omega
    have b5 : (64 : Int) ≤ ((C - K : Nat) : Int) := by omega
    have b6 : K ≤ C := by omega
    have HST := Lib.hid hst
    have HGET := Lib.hid hget
    have HE := Lib.hid he
    have HFL := Lib.hid hfl
    clear hm hmo hg hone hst hget he hfl hN hK hf h h1 m2 hk
    go_enter Try.func36, Try.ntmps36
    go_wp2_with (first | (at_lookup; refine wpList_lookup_own_ok_int _ rfl _ _ 57 rfl 3 3 .i64 int_law Try.underlying57 Try.underlying3 (zero_int _) o.mb nm D rfl HM.out _ (.int .i64 (k : Int)) rfl HKEY.out ?_; intro c hat hwc; clear hat hwc) | (refine wpList_copy_byt rfl (.tmp 28) (.tmp 36) 56 56 rfl 5 Try.underlying56 info_u8 g off n n o.sb K 64 (C - K) rfl rfl _ _ _ _ HG.out HST.out hn (by rw [List.length_append, HFL.out]; omega) hfit ?_; intro w2 hw2))
    go_end0
    exact ⟨rfl, by rw [hw2.out, HGET.out, HE.out]; simp only [List.append_assoc]⟩
  · have hd : Dm.one st k = d := m4 _
    have hi : i < st.P.length := (List.getElem?_eq_some_iff.1 m3).1
    have hPi : st.P[i] = (k, d) := (List.getElem?_eq_some_iff.1 m3).2
    obtain ⟨pa, pc, hpv⟩ := own_slice h.pend
    have hown := h.pend
    rw [hpv] at h1 hown
    have hcell := (wcells_get st.P i hi).2
    rw [hPi] at hcell
    rcases hown.2 with ⟨_, hz⟩ | ⟨gg, cap, cc, hv, _⟩
    · omega
    · injection hv with hv1 _ hv3
      subst hv1
      subst hv3
      have hat := hown.cellAt (2 * i + 1) (by omega)
      rw [hcell, Nat.mul_comm] at hat
      have m2' := m2 (.lit (.int .i64 0))
      obtain ⟨n0, hn0⟩ : ∃ n0, n0 = st.P.length := ⟨_, rfl⟩
      rw [← hn0] at h1 hi hP
      have M2 := Lib.hid m2'
      have HD := Lib.hid hd
      clear hm hmo hg hone hf h h0 m2 m2' m3 m4 hpv hown hcell hPi hn0 hd
      go_enter Try.func36, Try.ntmps36
      go_wp2_with (first | (at_lookup; refine wpList_lookup_own_ok_int _ rfl _ _ 57 rfl 3 3 .i64 int_law Try.underlying57 Try.underlying3 (zero_int _) o.mb nm D rfl HM.out _ (.int .i64 (k : Int)) rfl HKEY.out ?_; intro c hatc hwc; rw [M2.out] at hatc; injection hatc with hatc; injection hatc with _ hatc; subst hatc; clear hwc) | (refine wpList_copy_str rfl (.tmp 18) (.tmp 26) 56 9 rfl 5 Try.underlying56 info_u8 g off n n d rfl rfl _ _ HG.out (by rw [← HD.out, HONE.out]; omega) (by rw [← HD.out, HONE.out]; omega) ?_; intro w2 hw2))
      refine bodyPost_ret (results_none rfl _ _ _) rfl ?_
      refine ⟨rfl, ?_⟩
      have h64 := HONE.out
      rw [HD.out] at h64 ⊢
      rw [hw2.out, h64]; simp only [List.append_assoc]
end Dsk
end Go.Proofs.Ytbmabcddciibfaa