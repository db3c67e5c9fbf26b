/- Contracts of the disk's Bytes and Read. -/
import Derived.Test.YtbmabcddciibfaaDiskLook
import Derived.Laws.IdiomStrings
import Derived.LoopTactic
namespace Go.Proofs.Ytbmabcddciibfaa
namespace Dsk
open Go.RowKit
set_option maxRecDepth 100000
set_option linter.unusedVariables false
theorem row_text {W : World} {g n cap : Nat} {l sp : List UInt8} {t : TypeId} (hg : W.heap[g]? = some (.cells (Lib.byteCells (l ++ sp)).toArray t (0, 0))) (hl : l.length = n) :
    (convert 56 9 (.slice (some ⟨g, 0, none⟩) n cap)).run Try.prog W = .ok (.string (Om.B l)) W := by
  subst hl
  exact run_convert_bytes_back (P := Try.prog) W 56 9 5 ⟨g, 0, none⟩ cap l Try.underlying56 Try.underlying5 Try.underlying9 (fun i hi => by
    rw [show (⟨g, 0, none⟩ : Addr).add i = ⟨g, i, none⟩ from by unfold Addr.add; split <;> simp_all, cell_of_row _ _ _ _ _ _ hg]
    rw [List.getElem?_toArray, Lib.byteCells_append, List.getElem?_append_left (by rw [Lib.byteCells_length]; exact hi)]
    simp [Lib.byteCells, hi])

/-- What was read so far, and 0 behind it. -/
def half (st : Dm.St) (a n k : Nat) : List UInt8 := Dm.span st a k ++ List.replicate (64 * (n - k)) 0
theorem half_length {st : Dm.St} (h : Dm.Ok st) {a n k : Nat} (hk : k ≤ n) (hn : a + n ≤ st.S.length) : (half st a n k).length = 64 * n := by
  unfold half
  rw [List.length_append, Dm.span_length h a k (by omega), List.length_replicate]; omega
theorem half_step {st : Dm.St} (h : Dm.Ok st) {a n k : Nat} (hk : k < n) (hn : a + n ≤ st.S.length) :
    (half st a n k).take (64 * k) ++ Dm.one st (a + k) ++ (half st a n k).drop (64 * k + 64) = half st a n (k + 1) := by
  have hl := Dm.span_length h a k (by omega)
  unfold half
  rw [Dm.span_succ, ← hl, List.take_left, ← List.drop_drop, List.drop_left, List.drop_replicate, List.append_assoc, List.append_assoc]
  congr 3
  omega
theorem half_zero (st : Dm.St) (a n : Nat) : half st a n 0 = List.replicate (64 * n) 0 := by simp [half, Dm.span]
theorem half_end (st : Dm.St) (a n : Nat) : half st a n n = Dm.span st a n := by simp [half]

theorem row_of_made {w w1 : World} {N : Nat} (h : w1.ownsRow w.heap.size 5 1 (.slice (some ⟨w.heap.size, 0, none⟩) N N) N (madeCells #[.int .u8 0] N).toList) : w1.heap[w.heap.size]? = some (.cells (Lib.byteCells (List.replicate N 0)).toArray 5 (0, 0)) := by
  rcases h.2 with ⟨h1, _⟩ | ⟨g, cap, cur, hv, _, hh, _, _, hcs, htk⟩
  · cases h1
  · injection hv with h1 _ h3
    injection h1 with h1
    injection h1 with h1
    subst h1
    subst h3
    rw [hh, ← zeros_cells N, ← htk, List.take_of_length_le (by rw [Array.length_toList]; omega)]

theorem read_no {w : World} {o : Ob} {st : Dm.St} (h : Dk w o st) (a n : Int) (ha : a ≤ 9223372036854775807) (hno : st.dead = true ∨ Dm.thereB st a n = false) :
    Calls Try.prog 24 #[.pointer (some ⟨o.p, 0, none⟩), .int .i64 a, .int .i64 n] w fun e w' => e = .returned (.tuple #[.string (Om.B (Dm.readS st a n)), .int .i64 (Dm.readE st a n)]) ∧ w = w' := by
  obtain ⟨_, _, _, _, h4, _⟩ := h.reads
  cases hdead : st.dead with
  | true =>
    have hs : Dm.readS st a n = [] := by unfold Dm.readS; rw [if_pos hdead]
    have he : Dm.readE st a n = 41 := by unfold Dm.readE; rw [if_pos hdead]
    rw [hs, he]
    rw [hdead] at h4
    clear hs he hdead hno h
    go_enter Try.func24, Try.ntmps24
    go_wp2
    go_ret2
    exact ⟨rfl, rfl⟩
  | false =>
    have hth : Dm.thereB st a n = false := hno.resolve_left (by rw [hdead]; decide)
    have hs : Dm.readS st a n = [] := by unfold Dm.readS; rw [if_neg (by rw [hdead]; decide), hth]; rfl
    have he : Dm.readE st a n = 2 := by unfold Dm.readE; rw [if_neg (by rw [hdead]; decide), hth]; rfl
    rw [hs, he]
    rw [hdead] at h4
    have hc := has_any h a n ha
    rw [hth] at hc
    have HC := Lib.hid hc
    clear hs he hdead hno h hth hc
    go_enter Try.func24, Try.ntmps24
    go_wp2_with (go_at_call 35; refine HC.out.mono ?_; rintro e w' ⟨rfl, rfl⟩)
    go_ret2
    exact ⟨rfl, rfl⟩

theorem read_yes {w : World} {o : Ob} {st : Dm.St} (h : Dk w o st) (a n : Nat) (hdead : st.dead = false) (hn : a + n ≤ st.S.length) (hP : st.P.length ≤ 1099511627776) :
    Calls Try.prog 24 #[.pointer (some ⟨o.p, 0, none⟩), .int .i64 (a : Int), .int .i64 (n : Int)] w fun e w' => e = .returned (.tuple #[.string (Om.B (Dm.span st a n)), .int .i64 0]) ∧ Below w.heap.size w w' := by
  obtain ⟨i0, hi, hz0, hz1, hz2⟩ := info_parts info_byte
  obtain ⟨_, _, _, _, h4, _⟩ := h.reads
  have hfew := h.ok.few
  have hc := has_any h (a : Int) (n : Int) (by omega)
  rw [(Dm.there_iff st a n).2 ⟨by omega, by omega, by omega⟩] at hc
  rw [hdead] at h4
  have HC := Lib.hid hc
  have H := Lib.hid h
  obtain ⟨N, hN⟩ : ∃ N, N = 64 * n := ⟨_, rfl⟩
  have hNi : (n : Int) * 64 = (N : Int) := by omega
  have hNb : N ≤ 67108864 := by omega
  have HN := Lib.hid hN
  clear hc h hN hdead
  go_enter Try.func24, Try.ntmps24
  go_wp2_with (first | (go_at_call 35; refine HC.out.mono ?_; rintro e w' ⟨rfl, rfl⟩) | (at_make; refine wpList_make_full _ rfl _ _ 56 rfl w.heap.size 5 i0 _ 1 Try.underlying56 hi hz0 hz1 _ _ _ _ N rfl rfl rfl rfl ?b2 ?b3 ?b4 ?_))
  case b2 => rw [hz2]; omega
  case b3 => unfold maxLen; omega
  case b4 => omega
  intro w1 hown hgr
  have HR := Lib.hid (row_of_made hown)
  have hb1 : Below w.heap.size w w1 := (Below.refl _ _).grown hgr (Nat.le_refl _) (fun k e => by cases e)
  have hsz : w.heap.size < w1.heap.size := (hown.lt w.heap.size rfl).2
  clear hown hgr
  have HB := Lib.hid hb1
  clear hb1
  go_wp2
  go_loopw [28] (fun i wr => ∃ k : Nat, k ≤ n ∧ i = .int .i64 k ∧ Hid (wr.heap[w.heap.size]? = some (.cells (Lib.byteCells (half st a n k)).toArray 5 (0, 0))) ∧ Hid (Below w.heap.size w wr)) (fun i _ => n - (intOf i).toNat)
  case atStart => exact ⟨0, Nat.zero_le _, rfl, (by rw [half_zero, ← HN.out]; exact HR.out), HB⟩
  case round =>
    obtain ⟨k, hk, rfl, hr, hb⟩ := hrel
    clear HR HB hsz
    by_cases hlt : k < n
    · obtain ⟨K, hK⟩ : ∃ K, K = 64 * k := ⟨_, rfl⟩
      have hKN : K + 64 ≤ N := by have := HN.out; omega
      have hki : IntKind.i64.wrap ((k : Int) * 64) = (K : Int) := by rw [IntWalk.i64_in _ (by omega)]; omega
      have hks : IntKind.i64.wrap ((a : Int) + (k : Int)) = ((a + k : Nat) : Int) := by rw [IntWalk.i64_in _ (by omega)]; omega
      have b1 : (K : Int) ≤ (N : Int) := by omega
      have b2 : ¬ N = K := by omega
      have b3 : K ≤ N := by omega
      have hd : decide (k < n) = true := by simpa using hlt
      have hl := half_length H.out.ok (Nat.le_of_lt hlt) hn
      have hcall := look_any (H.out.below hb.out) (a + k) (by omega) w.heap.size K (N - K) _ hr.out (fun e => Nat.lt_irrefl _ (H.out.lt _ e)) (by omega) (by rw [hl]; omega) hP
      rw [hK, half_step H.out.ok hlt hn, ← hK] at hcall
      have HCALL := Lib.hid hcall
      clear hcall hl hK
      go_wp2_with (go_at_call 36; refine HCALL.out.mono ?_; rintro e w' ⟨rfl, hw'⟩; have HW := Lib.hid hw'; clear hw')
      go_roundw
      case rel =>
        refine ⟨k + 1, by omega, by go_num, ?_, ?_⟩
        · show _ = _
          rw [HW.out]; exact setRow_heap _ _ _ _ _ _ hr.out
        · show Below _ _ _
          rw [HW.out]
          exact hb.out.trans ⟨rfl, rfl, rfl, by simp, fun j hj => setRow_other _ _ _ _ (by omega)⟩
      case measure => simp [intOf]; omega
    · obtain rfl : k = n := by omega
      have hcv := row_text (cap := N) (sp := []) (by rw [List.append_nil]; exact hr.out) (half_length H.out.ok (Nat.le_refl _) hn)
      rw [half_end, ← HN.out] at hcv
      go_wp2
      go_ret2
      exact ⟨rfl, hb.out⟩
end Dsk
end Go.Proofs.Ytbmabcddciibfaa