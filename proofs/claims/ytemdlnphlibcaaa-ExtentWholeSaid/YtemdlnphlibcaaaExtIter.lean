/- The iterator that tells a region's gaps: its contract. -/
import Derived.Test.YtemdlnphlibcaaaExtRising
import Derived.Test.YtemdlnphlibcaaaKeep
namespace Go.Proofs.Ytemdlnphlibcaaa
namespace Xm
open Go.RowKit Go.Shelf Geo
set_option linter.unusedVariables false
attribute [local go_sem] Oper.semAt_some

/-- The iterator's value: its two boxes. -/
theorem gaps_any (s l : Int) (q : Option Addr) (n d : Nat) (w : World) : Calls Try.prog 17 #[.agg #[.int .i64 s, .int .i64 l], .slice q n d] w fun e w' =>
    e = .returned (.func (.func 28) #[] #[.pointer (some ⟨w.heap.size, 0, none⟩), .pointer (some ⟨w.heap.size + 1, 0, none⟩)]) ∧
    w' = (w.alloc (.cells #[.int .i64 s, .int .i64 l] 23)).alloc (.cells #[.slice q n d] 24) := by
  go_enter Try.func17, Try.ntmps17
  go_wp2
  go_ret
  exact ⟨rfl, rfl⟩

/-- A gap's value. -/
def encG (x : Int × Int) : Array Value := #[.agg #[.int .i64 x.1, .int .i64 x.2]]
/-- A row whose block no round turns. -/
structure RowKept (p n₁ : Nat) (w : World) (q : Option Addr) (z : List (Int × Int)) : Prop where
  row : Exts w q z
  far : z ≠ [] → ∃ b off, q = some ⟨b, off, none⟩ ∧ b < n₁ ∧ b ≠ p
theorem cells_of {w : World} {a : Addr} {v : Value} (h : w.cell? a = some v) : ∃ o, w.heap[a.block]? = some o ∧ o.isCells = true := by
  unfold World.cell? at h
  cases ho : w.heap[a.block]? with
  | none => rw [ho] at h; simp at h
  | some o =>
    rw [ho] at h
    cases o with
    | cells => exact ⟨_, rfl, rfl⟩
    | _ => simp at h
theorem RowKept.kp {p n₁ : Nat} {w w' : World} {q : Option Addr} {z : List (Int × Int)} (h : RowKept p n₁ w q z) (hk : Kp p w w') (hown : ∀ r, ownAt p w = some r → n₁ ≤ r) : RowKept p n₁ w' q z := by
  refine ⟨fun hn => ?_, h.far⟩
  obtain ⟨b, off, e, hb, hc⟩ := h.row hn
  obtain ⟨b2, off2, e2, hb2, hp2⟩ := h.far hn
  rw [e] at e2; injection e2 with e2; injection e2 with e2 e3; subst e2 e3
  have h0 : 0 < z.length := by cases z with | nil => exact (hn rfl).elim | cons => simp
  obtain ⟨o, ho, hoc⟩ := cells_of (hc 0 h0).1
  have hs := hk.same b o ho hoc hp2 fun c => by have := hown b c; omega
  have key : ∀ j, w'.cell? ⟨b, j, none⟩ = w.cell? ⟨b, j, none⟩ := fun j => World.cell?_of_block (a := ⟨b, j, none⟩) (hs.trans ho.symm)
  exact ⟨b, off, e, Nat.lt_of_lt_of_le hb hk.size, fun i hi => ⟨(key _).trans (hc i hi).1, (key _).trans (hc i hi).2⟩⟩
theorem RowKept.next {p n₁ : Nat} {w w' : World} {q : Option Addr} {z : List (Int × Int)} (h : RowKept p n₁ w q z) (hb : Below w.heap.size w w') : RowKept p n₁ w' q z := ⟨h.row.next hb, h.far⟩

/-- In the midst of the gaps. -/
structure IMid (J : List (Int × Int) → World → Prop) (p n₁ bg : Nat) (s l : Int) (q : Option Addr) (z : List (Int × Int)) (pre : List (Int × Int)) (next : Int) (k : Nat) (w : World) : Prop where
  lo : s ≤ next
  hi : next ≤ s + l
  rest : ∀ i (h : i < z.length), k ≤ i → next ≤ z[i].1
  all : along s (s + l) z = pre ++ along next (s + l) (z.drop k)
  j : J pre w
  size : n₁ ≤ w.heap.size
  own : ∀ r, ownAt p w = some r → n₁ ≤ r ∧ r < w.heap.size
  g : Bx w bg s l
  row : RowKept p n₁ w q z
variable {J : List (Int × Int) → World → Prop} {p n₁ bg : Nat} {s l : Int} {q : Option Addr} {z pre : List (Int × Int)} {next : Int} {k : Nat} {w : World}
theorem IMid.drew (h : IMid J p n₁ bg s l q z pre next k w) {B0 : Nat} (hJ : AbidesFrom B0 J) : IMid J p n₁ bg s l q z pre next k w.drew :=
  ⟨h.lo, h.hi, h.rest, h.all, hJ _ _ _ none h.j (drew_grown w) (fun r e => by cases e), h.size, h.own, h.g, h.row.next (below_draw (Below.refl _ _))⟩
theorem IMid.newer (h : IMid J p n₁ bg s l q z pre next k w) {B0 : Nat} (hJ : AbidesFrom B0 J) (hpn : p < n₁) {w' : World} (hb : Below w.heap.size w w') : IMid J p n₁ bg s l q z pre next k w' := by
  have hown : ownAt p w' = ownAt p w := ownAt_same (hb.block p (by have := h.size; omega))
  refine ⟨h.lo, h.hi, h.rest, h.all, hJ _ _ _ none h.j ⟨hb.os, hb.tape, hb.output, hb.size, fun i hi _ => hb.block i hi⟩ (fun r e => by cases e), Nat.le_trans h.size hb.size, fun r hr => ?_, h.g.next hb, h.row.next hb⟩
  rw [hown] at hr
  exact ⟨(h.own r hr).1, Nat.lt_of_lt_of_le (h.own r hr).2 hb.size⟩
/-- No gap ahead of the next extent. -/
theorem IMid.skip (h : IMid J p n₁ bg s l q z pre next k w) (hz : Rise z) (hk : k < z.length) (hi : inB s l z[k] = true) (e : ¬ next < z[k].1) : IMid J p n₁ bg s l q z pre (z[k].1 + z[k].2) (k + 1) w := by
  obtain ⟨i1, i2, i3⟩ := in_iff.1 hi
  refine ⟨by omega, i3, fun i hi hki => List.pairwise_iff_getElem.1 hz k i hk hi (by omega), ?_, h.j, h.size, h.own, h.g, h.row⟩
  rw [h.all, List.drop_eq_getElem_cons hk, along, if_neg e]; rfl
/-- The world in which a round is asked: one gap more lies there. -/
theorem IMid.gap (h : IMid J p n₁ bg s l q z pre next k w) (hk : k < z.length) (e : next < z[k].1) :
    along s (s + l) z = pre ++ [(next, z[k].1 - next)] ++ along (z[k].1 + z[k].2) (s + l) (z.drop (k + 1)) := by
  rw [h.all, List.drop_eq_getElem_cons hk, along, if_pos e, List.append_assoc]
theorem IMid.last (h : IMid J p n₁ bg s l q z pre next k w) (hk : z.length ≤ k) : along s (s + l) z = pre ++ (if next < s + l then [(next, s + l - next)] else []) := by
  rw [h.all, List.drop_eq_nil_of_le hk]; rfl
/-- Behind a gap that was told. -/
theorem IMid.step (h : IMid J p n₁ bg s l q z pre next k w) (hz : Rise z) (hk : k < z.length) (hi : inB s l z[k] = true) (e : next < z[k].1) (hpn : p < n₁) (hgn : bg < n₁) (hgp : bg ≠ p) {w3 : World}
    (hj : J (pre ++ [(next, z[k].1 - next)]) w3) (hkp : Kp p w w3) : IMid J p n₁ bg s l q z (pre ++ [(next, z[k].1 - next)]) (z[k].1 + z[k].2) (k + 1) w3 := by
  obtain ⟨i1, i2, i3⟩ := in_iff.1 hi
  refine ⟨by omega, i3, fun i hi hki => List.pairwise_iff_getElem.1 hz k i hk hi (by omega), h.gap hk e, hj, Nat.le_trans h.size hkp.size, fun r hr => ⟨?_, hkp.high (fun r hr => (h.own r hr).2) r hr⟩, ?_, h.row.kp hkp fun r hr => (h.own r hr).1⟩
  · rcases hkp.row r hr with e | e
    · exact (h.own r e).1
    · have := h.size; omega
  · exact hkp.same bg _ h.g rfl hgp fun e => by have := (h.own bg e).1; omega
end Xm
end Go.Proofs.Ytemdlnphlibcaaa
