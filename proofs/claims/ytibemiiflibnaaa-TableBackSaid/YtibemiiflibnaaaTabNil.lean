/- The calls of no table at all. -/
import Derived.Test.YtibemiiflibnaaaTabRun
namespace Go.Proofs.Ytibemiiflibnaaa
namespace Tb
open Go.RowKit Dsk Go.Maps
set_option linter.unusedVariables false
set_option maxRecDepth 100000

theorem find_nil (k : Int) (w : World) : Calls Try.prog 17 #[.pointer none, .int .i64 k] w fun e w' => e = .returned (.tuple #[.int .i64 0, .bool false]) ∧ w = w' := by
  go_enter Try.func17, Try.ntmps17
  go_wp2
  go_ret2
  exact ⟨rfl, rfl⟩
theorem put_nil (k : Int) (w : World) : Calls Try.prog 16 #[.pointer none, .int .i64 k] w fun e w' => e = .returned (.tuple #[.int .i64 0, .int .i64 1]) ∧ w = w' := by
  go_enter Try.func16, Try.ntmps16
  go_wp2
  go_ret2
  exact ⟨rfl, rfl⟩
theorem drop_nil (k : Int) (w : World) : Calls Try.prog 18 #[.pointer none, .int .i64 k] w fun e w' => e = .returned (.tuple #[.int .i64 0, .int .i64 1]) ∧ w = w' := by
  go_enter Try.func18, Try.ntmps18
  go_wp2
  go_ret2
  exact ⟨rfl, rfl⟩
theorem len_nil (w : World) : Calls Try.prog 20 #[.pointer none] w fun e w' => e = .returned (.int .i64 0) ∧ w = w' := by
  go_enter Try.func20, Try.ntmps20
  go_wp2
  go_ret
  exact ⟨rfl, rfl⟩
theorem left_nil (w : World) : Calls Try.prog 21 #[.pointer none] w fun e w' => e = .returned (.int .i64 0) ∧ w = w' := by
  go_enter Try.func21, Try.ntmps21
  go_wp2
  go_ret
  exact ⟨rfl, rfl⟩

/-- The pages are told. -/
def B3 (w : World) (P : Nat) (mv : Value) (N : Nat) (aa : Option Addr) (L : Nat) (w3 : World) : Prop :=
  ∃ o m, o.p = P ∧ Two w3 o mv m ∧ m.length = N ∧ (∀ k, o.fp k → w.heap.size ≤ k) ∧ (∀ k, mv.ownBlock = some k → w.heap.size ≤ k) ∧ Below w.heap.size w w3 ∧ L = (flat m (pagesN m.length)).length ∧ Rd w3 aa (flat m (pagesN m.length))
theorem Run.pages {w wr : World} {P N : Nat} {mv : Value} (h : Run w P mv N wr) :
    Calls Try.prog 13 #[.pointer (some ⟨P, 0, none⟩), mv] wr fun e w3 => ∃ aa L cc, e = .returned (.tuple #[.slice aa L cc, .bool true]) ∧ B3 w P mv N aa L w3 := by
  obtain ⟨o, m, rfl, h2, h3, h4, h5, h6⟩ := h
  refine (pages_yes h2.tm h2.row).mono ?_
  rintro e w3 ⟨v, rfl, hi, hn, hb⟩
  obtain ⟨aa, cc, rfl, hr⟩ := Rd.own hi
  exact ⟨aa, _, cc, rfl, o, m, rfl, h2.below hb, h3, h4, h5, h6.trans (hb.mono h6.size), rfl, hr⟩
theorem flat_mem {m : List Int} (hm : ∀ x ∈ m, (Lit.int .i64 x).wf = true) {q : Nat} : ∀ x ∈ flat m q, (Lit.int .i64 x).wf = true := fun x hx => by
  obtain ⟨j, hj, rfl⟩ := List.mem_iff_getElem.1 hx
  have h1 := flat_get m q j (by rw [flat_length] at hj; exact hj)
  rw [List.getElem?_eq_getElem hj] at h1
  injection h1 with h1
  rw [h1]
  cases hc : m[j]? with
  | none => simp; decide
  | some y => simpa using hm y (List.mem_of_getElem? hc)
theorem ok_wf {m : List Int} (h : Ok m) : ∀ x ∈ m, (Lit.int .i64 x).wf = true := fun x hx => by
  have := h.vals x hx
  simp [Lit.wf, IntKind.min, IntKind.max, IntKind.signed, IntKind.bits]
  omega
/-- One more table, read from the pages. -/
def B4 (w : World) (P U : Nat) (mv : Value) (N : Nat) (w4 : World) : Prop :=
  ∃ o ou m, o.p = P ∧ ou.p = U ∧ Two w4 o mv m ∧ Tm w4 ou m ∧ m.length = N ∧ (∀ k, o.fp k → w.heap.size ≤ k) ∧ (∀ k, ou.fp k → w.heap.size ≤ k) ∧ (∀ k, mv.ownBlock = some k → w.heap.size ≤ k) ∧ (∀ k, ou.fp k → ¬ (o.fp k ∨ mv.ownBlock = some k)) ∧ Below w.heap.size w w4
theorem B3.load {w w3 : World} {P N L : Nat} {mv : Value} {aa : Option Addr} (cc : Nat) (h : B3 w P mv N aa L w3) :
    Calls Try.prog 11 #[.int .i64 (N : Int), .slice aa L cc] w3 fun e w4 => ∃ U, e = .returned (.tuple #[.pointer (some ⟨U, 0, none⟩), .int .i64 0]) ∧ B4 w P U mv N w4 := by
  obtain ⟨o, m, rfl, h2, h3, h4, h5, h6, rfl, hr⟩ := h
  have hok := h2.tm.ok
  have hfew := hok.few
  have hlen : (flat m (pagesN m.length)).length ≤ 4611686018427387904 := by rw [flat_length]; unfold pagesN; omega
  refine (load_any (p := (N : Int)) aa cc hlen hr (flat_mem (ok_wf hok))).mono ?_
  rintro e w4 ⟨hb, hh⟩
  have hg := flat_good hok
  rw [h3] at hg hh
  rcases hh with ⟨hne, _⟩ | ⟨_, ou, rfl, ht, hnew⟩
  · exact (hne hg).elim
  · rw [Int.toNat_natCast] at ht
    have hft := flat_take (m := m)
    rw [h3] at hft
    rw [hft] at ht
    refine ⟨ou.p, rfl, o, ou, m, rfl, rfl, h2.below hb, ht, h3, h4, fun k hk => Nat.le_trans h6.size (hnew k hk), h5, fun k hk hc => ?_, h6.trans (hb.mono h6.size)⟩
    have e1 := h2.blk k hc
    have e2 := hnew k hk
    omega
/-- And its clone's: of the first. -/
def B5 (w : World) (P U C : Nat) (mv : Value) (N : Nat) (w5 : World) : Prop :=
  ∃ o ou oc m, o.p = P ∧ ou.p = U ∧ oc.p = C ∧ Two w5 o mv m ∧ Tm w5 ou m ∧ Tm w5 oc m ∧ m.length = N ∧ (∀ k, o.fp k → w.heap.size ≤ k) ∧ (∀ k, ou.fp k → w.heap.size ≤ k) ∧ (∀ k, ou.fp k → ¬ (o.fp k ∨ mv.ownBlock = some k ∨ oc.fp k)) ∧ (∀ k, oc.fp k → ¬ o.fp k) ∧ Below w.heap.size w w5
theorem B4.clone {w w4 : World} {P U N : Nat} {mv : Value} (h : B4 w P U mv N w4) :
    Calls Try.prog 14 #[.pointer (some ⟨P, 0, none⟩)] w4 fun e w5 => ∃ C, e = .returned (.pointer (some ⟨C, 0, none⟩)) ∧ B5 w P U C mv N w5 := by
  obtain ⟨o, ou, m, rfl, rfl, h2, hu, h3, h4, h4u, h5, hap, h6⟩ := h
  refine (clone_any h2.tm).mono ?_
  rintro e w5 ⟨⟨oc, rfl, ht, hn⟩, hb⟩
  refine ⟨oc.p, rfl, o, ou, oc, m, rfl, rfl, rfl, h2.below hb, hu.below hb, ht, h3, h4, h4u, fun k hk hc => ?_, fun k hk hc => ?_, h6.trans (hb.mono h6.size)⟩
  · rcases hc with hc | hc | hc
    · exact hap k hk (.inl hc)
    · exact hap k hk (.inr hc)
    · have e1 := hn k hc
      have e2 := hu.lt k hk
      omega
  · have e1 := hn k hk
    have e2 := h2.tm.lt k hc
    omega
/-- Three tables, and the document's two. -/
def Four (w : World) (P U C : Nat) (mv nv : Value) (wr : World) : Prop :=
  ∃ o ou oc m mu, o.p = P ∧ ou.p = U ∧ oc.p = C ∧ Two wr o mv m ∧ Two wr ou nv mu ∧ Tm wr oc m ∧ (∀ k, o.fp k → w.heap.size ≤ k) ∧ (∀ k, ou.fp k → w.heap.size ≤ k) ∧ (∀ k, nv.ownBlock = some k → w.heap.size ≤ k) ∧
    (∀ k, (ou.fp k ∨ nv.ownBlock = some k) → ¬ (o.fp k ∨ mv.ownBlock = some k ∨ oc.fp k)) ∧ (∀ k, oc.fp k → ¬ o.fp k) ∧ Below w.heap.size w wr
theorem B5.copy {w w5 : World} {P U C N : Nat} {mv : Value} (h : B5 w P U C mv N w5) :
    Calls Try.prog 15 #[mv] w5 fun e w6 => ∃ na nc, e = .returned (.slice na N nc) ∧ Four w P U C mv (.slice na N nc) w6 := by
  obtain ⟨o, ou, oc, m, rfl, rfl, rfl, h2, hu, hc, rfl, h4, h4u, hap, hap2, h6⟩ := h
  have hfew := h2.tm.ok.few
  obtain ⟨a, c, rfl⟩ := ints_slice h2.row
  refine (rcopy_any h2.row hfew).mono ?_
  rintro e w6 ⟨v, rfl, hi, hn, hb⟩
  obtain ⟨na, nc, rfl⟩ := ints_slice hi
  refine ⟨na, nc, rfl, o, ou, oc, m, m, rfl, rfl, rfl, h2.below hb, ⟨hu.below hb, hi, fun k hk hv => ?_⟩, hc.below hb, h4, h4u, fun k hk => Nat.le_trans h6.size (hn k hk), fun k hk hcc => ?_, hap2, h6.trans (hb.mono h6.size)⟩
  · have e1 := hn k hv
    have e2 := hu.lt k hk
    omega
  · rcases hk with hk | hk
    · exact hap k hk hcc
    · have e1 := hn k hk
      rcases hcc with hcc | hcc | hcc
      · have e2 := h2.tm.lt k hcc; omega
      · have e2 := h2.blk k (.inr hcc); omega
      · have e2 := hc.lt k hcc; omega
theorem Four.below {w wr : World} {P U C : Nat} {mv nv : Value} (h : Four w P U C mv nv wr) : Below w.heap.size w wr := by obtain ⟨_, _, _, _, _, _, _, _, _, _, _, _, _, _, _, _, hb⟩ := h; exact hb
theorem Four.next {w wr w2 : World} {P U C : Nat} {mv nv : Value} (h : Four w P U C mv nv wr) (hb : Below wr.heap.size wr w2) : Four w P U C mv nv w2 := by
  obtain ⟨o, ou, oc, m, mu, e1, e2, e3, h1, h2, h3, n1, n2, n3, a1, a2, h6⟩ := h
  exact ⟨o, ou, oc, m, mu, e1, e2, e3, h1.below hb, h2.below hb, h3.below hb, n1, n2, n3, a1, a2, h6.trans (hb.mono h6.size)⟩
theorem Four.act {w wr : World} {P U C : Nat} {mv nv : Value} (h : Four w P U C mv nv wr) (d : Bool) (k : Int) (hk : (Lit.int .i64 k).wf = true) :
    Calls Try.prog 9 #[.pointer (some ⟨U, 0, none⟩), nv, .agg #[.bool d, .int .i64 k]] wr fun e w' => e = .returned (.bool true) ∧ Four w P U C mv nv w' := by
  obtain ⟨o, ou, oc, m, mu, rfl, rfl, rfl, h1, h2, h3, n1, n2, n3, a1, a2, h6⟩ := h
  refine (act_any h2 d k hk).mono ?_
  rintro e w' ⟨rfl, o', t', s'⟩
  obtain ⟨b1, b2⟩ := s'.below h6.size n2 n3
  have keep : ∀ j, j < wr.heap.size → (o.fp j ∨ mv.ownBlock = some j ∨ oc.fp j) → w'.heap[j]? = wr.heap[j]? := fun j hj hF => s'.fr.block j hj (fun hc => a1 j hc hF)
  refine ⟨rfl, o, o', oc, m, _, rfl, s'.p, rfl, h1.same fun j hj => keep j (h1.blk j hj) (hj.elim .inl (fun e => .inr (.inl e))), t', h3.same fun j hj => keep j (h3.lt j hj) (.inr (.inr hj)), n1, b2, n3, fun j hj hF => ?_, a2, h6.trans b1⟩
  rcases hj with hj | hj
  · rcases s'.fp j hj with hj | hj
    · exact a1 j (.inl hj) hF
    · rcases hF with hF | hF | hF
      · have := h1.tm.lt j hF; omega
      · have := h1.blk j (.inr hF); omega
      · have := h3.lt j hF; omega
  · exact a1 j (.inr hj) hF
theorem Four.same_u {w wr : World} {P U C : Nat} {mv nv : Value} (h : Four w P U C mv nv wr) (k : Int) (hk : (Lit.int .i64 k).wf = true) :
    Calls Try.prog 10 #[.pointer (some ⟨U, 0, none⟩), nv, .int .i64 k] wr fun e w' => e = .returned (.bool true) ∧ Four w P U C mv nv w' := by
  have h0 := h
  obtain ⟨o, ou, oc, m, mu, rfl, rfl, rfl, h1, h2, h3, n1, n2, n3, a1, a2, h6⟩ := h
  exact (same_yes h2.tm h2.row k hk).mono fun e w' hh => ⟨hh.1, h0.next hh.2⟩
theorem Four.same_c {w wr : World} {P U C : Nat} {mv nv : Value} (h : Four w P U C mv nv wr) (k : Int) (hk : (Lit.int .i64 k).wf = true) :
    Calls Try.prog 10 #[.pointer (some ⟨C, 0, none⟩), mv, .int .i64 k] wr fun e w' => e = .returned (.bool true) ∧ Four w P U C mv nv w' := by
  have h0 := h
  obtain ⟨o, ou, oc, m, mu, rfl, rfl, rfl, h1, h2, h3, n1, n2, n3, a1, a2, h6⟩ := h
  exact (same_yes h3 h1.row k hk).mono fun e w' hh => ⟨hh.1, h0.next hh.2⟩
theorem Four.same_t {w wr : World} {P U C : Nat} {mv nv : Value} (h : Four w P U C mv nv wr) (k : Int) (hk : (Lit.int .i64 k).wf = true) :
    Calls Try.prog 10 #[.pointer (some ⟨P, 0, none⟩), mv, .int .i64 k] wr fun e w' => e = .returned (.bool true) ∧ Four w P U C mv nv w' := by
  have h0 := h
  obtain ⟨o, ou, oc, m, mu, rfl, rfl, rfl, h1, h2, h3, n1, n2, n3, a1, a2, h6⟩ := h
  exact (same_yes h1.tm h1.row k hk).mono fun e w' hh => ⟨hh.1, h0.next hh.2⟩
/-- A table and the document's, in other blocks. -/
def Pair (w : World) (C : Nat) (mv : Value) (wr : World) : Prop := ∃ oc m, oc.p = C ∧ Tm wr oc m ∧ Ints wr mv m ∧ Below w.heap.size w wr
theorem Pair.next {w wr w2 : World} {C : Nat} {mv : Value} (h : Pair w C mv wr) (hb : Below wr.heap.size wr w2) : Pair w C mv w2 := by
  obtain ⟨oc, m, h1, h2, h3, h4⟩ := h
  exact ⟨oc, m, h1, h2.below hb, ints_next h3 hb, h4.trans (hb.mono h4.size)⟩
theorem Pair.same {w wr : World} {C : Nat} {mv : Value} (h : Pair w C mv wr) (k : Int) (hk : (Lit.int .i64 k).wf = true) :
    Calls Try.prog 10 #[.pointer (some ⟨C, 0, none⟩), mv, .int .i64 k] wr fun e w' => e = .returned (.bool true) ∧ Below w.heap.size w w' := by
  obtain ⟨oc, m, rfl, h2, h3, h4⟩ := h
  exact (same_yes h2 h3 k hk).mono fun e w' hh => ⟨hh.1, h4.trans (hh.2.mono h4.size)⟩
theorem Four.put {w wr : World} {P U C : Nat} {mv nv : Value} (h : Four w P U C mv nv wr) (k : Int) (hk : (Lit.int .i64 k).wf = true) :
    Calls Try.prog 16 #[.pointer (some ⟨P, 0, none⟩), .int .i64 k] wr fun e w' => ∃ x y, e = .returned (.tuple #[.int .i64 x, .int .i64 y]) ∧ Pair w C mv w' := by
  obtain ⟨o, ou, oc, m, mu, rfl, rfl, rfl, h1, h2, h3, n1, n2, n3, a1, a2, h6⟩ := h
  refine (put_any h1.tm k hk).mono ?_
  rintro e w' ⟨rfl, o', t', s'⟩
  refine ⟨_, _, rfl, oc, m, rfl, h3.same fun j hj => s'.fr.block j (h3.lt j hj) (a2 j hj), own_same h1.row fun j hj => s'.fr.block j (h1.blk j (.inr hj)) (fun e => h1.apart j e hj), h6.trans (s'.below h6.size n1).1⟩
end Tb
end Go.Proofs.Ytibemiiflibnaaa
