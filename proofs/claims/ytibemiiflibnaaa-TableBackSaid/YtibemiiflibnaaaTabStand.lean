/- The contracts of stand, skip and firstFree. -/
import Derived.Test.YtibemiiflibnaaaTabRaw
namespace Go.Proofs.Ytibemiiflibnaaa
namespace Tb
open Go.RowKit Dsk Go.Maps
set_option linter.unusedVariables false
set_option maxRecDepth 100000

theorem MapOk.more {D : DataW Unit} {c : List Int} (h : MapOk D c) : MapOk D (c ++ [-1]) := by
  refine ⟨h.1, fun k => ?_, fun i k hi h0 z => ?_⟩
  · rw [h.2.1 k, List.mem_append, List.mem_singleton]
    constructor
    · exact fun ⟨a, b⟩ => ⟨a, .inl b⟩
    · rintro ⟨a, b | b⟩
      · exact ⟨a, b⟩
      · omega
  · refine h.2.2 i k ?_ h0 z
    by_cases hl : i < c.length
    · rwa [List.getElem?_append_left hl] at hi
    · rw [List.getElem?_append_right (by omega)] at hi
      cases e : i - c.length with
      | zero => rw [e] at hi; simp at hi; omega
      | succ j => rw [e] at hi; simp at hi
theorem PlaceOf.more {w : World} {b : Nat} {c : List Int} (h : PlaceOf w b c) : PlaceOf w b (c ++ [-1]) := by
  obtain ⟨D, h1, h2⟩ := h
  exact ⟨D, h1, h2.more⟩
/-- One more free place stands there. -/
theorem Raw.more {w w2 : World} {o : Ob} {n : Nat} {c g : List Int} {b cap : Nat} (h : Raw w o n c g) (ha : GApp w o.cv c (-1) b cap w2) :
    Raw (w2.setCell ⟨o.p, 2, none⟩ (.slice (some ⟨b, 0, none⟩) (c.length + 1) cap)) { o with cv := .slice (some ⟨b, 0, none⟩) (c.length + 1) cap } n (c ++ [-1]) g ∧
    Step o { o with cv := .slice (some ⟨b, 0, none⟩) (c.length + 1) cap } w (w2.setCell ⟨o.p, 2, none⟩ (.slice (some ⟨b, 0, none⟩) (c.length + 1) cap)) := by
  obtain ⟨h1, h2, h3, h4, h5, h6, _, _⟩ := h.added ha
  exact ⟨⟨h1, h2, h3, h4.more, h5⟩, h6⟩
theorem fr_turned {w w' : World} {b : Nat} (h : w.mapTurned w' b) : Fr (fun k => k = b) w w' := Fr.of_grown h.grown fun k e => by injection e with e; exact e.symm
/-- A chunk is told a place: behind the two writes. -/
theorem Raw.placed {w : World} {o : Ob} {n : Nat} {c g : List Int} (h : Raw w o n c g) {i : Nat} {b cap : Nat} (hv : o.cv = .slice (some ⟨b, 0, none⟩) c.length cap) (hi : c[i]? = some (-1)) {k : Int} (h0 : 0 ≤ k) (hk : k ∉ c) (hnd : (used c).Nodup) :
    w.cell? ⟨b, i, none⟩ = some (.int .i64 (-1)) ∧ w.frozen? ⟨b, i, none⟩ = false ∧ (w.setCell ⟨b, i, none⟩ (.int .i64 k)).cell? ⟨o.p, 1, none⟩ = some (.map (some o.mb)) ∧
    ∃ D, (w.setCell ⟨b, i, none⟩ (.int .i64 k)).ownsMap Try.prog 3 (plainElem (H := Unit) Try.prog 3) o.mb (Maps.size D) D ∧ Maps.size D ≤ c.length ∧
      ∀ w3, w3.ownsMap Try.prog 3 (plainElem (H := Unit) Try.prog 3) o.mb (Maps.size D + 1) (D.put (.int .i64 k) (.lit (.int .i64 (i : Int)))) → (w.setCell ⟨b, i, none⟩ (.int .i64 k)).mapTurned w3 o.mb → Raw w3 o n (c.set i k) g ∧ Step o o w w3 := by
  obtain ⟨n1, n2, n3⟩ := h.p_ne
  obtain ⟨m1, m2⟩ := h.m_ne
  have hb : o.cv.ownBlock = some b := by rw [hv]; rfl
  have hbp : b ≠ o.p := fun e => n2 (by rw [hb, e])
  have hbm : b ≠ o.mb := fun e => m1 (by rw [hb, e])
  have hil := (List.getElem?_eq_some_iff.1 hi).1
  have hrow : Ints w (.slice (some ⟨b, 0, none⟩) c.length cap) c := by rw [← hv]; exact h.chunks
  obtain ⟨b', e, _, hc, hf⟩ := ints_cell hrow i hil
  cases e
  have hat : Hp.at_ c i = -1 := by have := Hp.at_get c i hil; rw [hi] at this; injection this with this; exact this.symm
  rw [hat] at hc
  obtain ⟨r1, f1⟩ := ints_set hrow i k
  obtain ⟨D, hD, hm⟩ := h.placeOf
  have hset : ∀ x, x ≠ b → (w.setCell ⟨b, i, none⟩ (.int .i64 k)).heap[x]? = w.heap[x]? := fun x hx => Below.heap_setCell _ _ _ _ hx
  have hD2 := map_same hD (hset o.mb (fun e => hbm e.symm))
  refine ⟨hc, hf, ?_, D, hD2, ?_, fun w3 ho3 ht3 => ?_⟩
  · rw [World.cell?_of_block (w := w) (a := ⟨o.p, 1, none⟩) (hset o.p (fun e => hbp e.symm))]
    exact h.reads.2.1
  · rw [(size_used hD hm hnd).2]; exact used_length_le _
  · have f3 := fr_turned ht3
    have hfm : ∀ x, x ≠ o.mb → w3.heap[x]? = (w.setCell ⟨b, i, none⟩ (.int .i64 k)).heap[x]? := by
      intro x hx
      obtain ⟨es, cl, es', cl', hb', rfl⟩ := ht3
      exact ChangeMaps.heap_setBlock_other hb' _ hx
    refine ⟨⟨?_, ?_, ?_, ⟨_, map_tight ho3, ?_⟩, h.apart⟩, ?_, fun x hx => .inl hx, rfl⟩
    · rw [hfm _ (fun e => n1 e.symm), hset _ (fun e => hbp e.symm)]; exact h.head
    · rw [hv]
      have r2 : Ints (w.setCell ⟨b, i, none⟩ (.int .i64 k)) (.slice (some ⟨b, 0, none⟩) c.length cap) (c.set i k) := by show World.ownsRow _ _ _ _ _ _ _; simpa using r1
      exact own_same r2 fun x hx => hfm x (by injection hx with hx; have hx : b = x := hx; omega)
    · exact own_same h.gaps fun x hx => (hfm x (fun e => m2 (by rw [← e]; exact hx))).trans (hset x (fun e => h.apart b hb (by rw [← e]; exact hx)))
    · refine hm.put h0 (by rw [List.getElem?_set, if_pos rfl, if_pos hil]) (fun j x hj hx hne => ?_) (fun x hx hne hxc => ?_) (fun j hj => ?_)
      · rw [List.getElem?_set] at hj
        by_cases e : i = j
        · rw [if_pos e, if_pos hil] at hj; injection hj with hj; exact absurd hj.symm hne
        · rwa [if_neg e] at hj
      · obtain ⟨j, hj⟩ := List.getElem?_of_mem hxc
        refine List.mem_of_getElem? (i := j) ?_
        rw [List.getElem?_set, if_neg (fun e => by rw [← e, hi] at hj; injection hj with hj; omega)]
        exact hj
      · rw [List.getElem?_set] at hj
        by_cases e : i = j
        · exact e.symm
        · rw [if_neg e] at hj
          exact absurd (List.mem_of_getElem? hj) hk
    · exact ((f1.mono fun x _ e => (by rw [e]; exact .inr (.inr (.inl hb)) : o.fp x)).trans f3 (fun x _ e => (by rw [e]; exact .inr (.inl rfl))))
end Tb
end Go.Proofs.Ytibemiiflibnaaa
