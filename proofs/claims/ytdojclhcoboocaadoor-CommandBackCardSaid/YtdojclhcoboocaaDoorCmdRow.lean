/- A row of bytes whose array may bear a mark behind its last cell (what '[]byte(s)' makes): append of strings and of bytes. -/
import Derived.Test.YtdojclhcoboocaaDoorCmdPut
import Derived.Lib.FrozenHead
import Derived.Lib.AppendStr
import Derived.Lib.OthersKept
import Derived.Laws.IdiomStrings
import Derived.Laws.Append
namespace Go.Proofs.YtdojclhcoboocaaDoor
namespace Co
open Go.RowKit Go.Lib Pd Dsk
set_option maxRecDepth 100000
set_option linter.unusedVariables false

/-- Bytes in an array of one's own, from block B on. -/
def OwnM (w : World) (B : Nat) (v : Value) (n : Nat) (xs : List Value) : Prop :=
  xs.length = n ∧ ∃ g cap cur fz, v = .slice (some ⟨g, 0, none⟩) n cap ∧ B ≤ g ∧ w.heap[g]? = some (.cells cur 5 fz) ∧ (fz.2 = 0 ∨ cap ≤ fz.1) ∧ n ≤ cap ∧ cap ≤ maxLen ∧ cur.size = cap ∧ cur.toList.take n = xs
/-- What such steps leave alone. -/
def Tw (B : Nat) (w w' : World) : Prop := Below B w w' ∧ Lib.OthersKept 5 none w w'
theorem Tw.refl (B : Nat) (w : World) : Tw B w w := ⟨Below.refl B w, Lib.OthersKept.refl _ _ _⟩
theorem Tw.trans {B : Nat} {a b c : World} (h : Tw B a b) (k : Tw B b c) : Tw B a c := ⟨h.1.trans k.1, h.2.trans k.2⟩
theorem tw_below {B : Nat} {w w' : World} (hB : B ≤ w.heap.size) (h : Below w.heap.size w w') : Tw B w w' := ⟨h.mono hB, fun k o hk _ _ => (h.block k (Array.getElem?_eq_some_iff.1 hk).1).trans hk⟩
theorem OwnM.below {w w' : World} {B n : Nat} {v : Value} {xs : List Value} (h : OwnM w B v n xs) (hb : Below w.heap.size w w') : OwnM w' B v n xs := by
  obtain ⟨h1, g, cap, cur, fz, h2, h3, h4, r⟩ := h
  exact ⟨h1, g, cap, cur, fz, h2, h3, (hb.block g (Array.getElem?_eq_some_iff.1 h4).1).trans h4, r⟩
theorem OwnM.cells {w : World} {B n g c : Nat} {xs : List Value} (h : OwnM w B (.slice (some ⟨g, 0, none⟩) n c) n xs) : ∀ j u, xs[j]? = some u → w.cell? ((⟨g, 0, none⟩ : Addr).add j) = some u := by
  obtain ⟨h1, g', cap, cur, fz, h2, h3, h4, h5, h6, h7, h8, h9⟩ := h
  cases h2
  intro j u hu
  have hj : j < xs.length := (List.getElem?_eq_some_iff.1 hu).1
  rw [← h9, List.getElem?_take] at hu
  split at hu
  · rw [show (⟨g, 0, none⟩ : Addr).add j = ⟨g, j, none⟩ from by unfold Addr.add; split <;> simp_all]
    simp only [World.cell?, h4]
    rw [← hu]
    simp
  · cases hu
theorem storeM (P : Program) (g o : Nat) (t : TypeId) (fz : Nat × Nat) : ∀ (vs : List Value) (i : Nat) (cur : Array Value) (w : World), w.heap[g]? = some (.cells cur t fz) → (fz.2 = 0 ∨ cur.size ≤ fz.1) → o + i + vs.length ≤ cur.size → (∀ v ∈ vs, v.oneCell' = true) →
    (storeCells ⟨g, o, none⟩ vs i).run P w = .ok () (w.setRow g (cur.toList.take (o + i) ++ vs ++ cur.toList.drop (o + i + vs.length)).toArray)
  | [], i, cur, w, hg, _, _, _ => by
    simp only [storeCells, List.append_nil, List.length_nil, Nat.add_zero, List.take_append_drop, Array.toArray_toList]
    rw [setRow_self w g cur t fz hg]
    rfl
  | v :: rest, i, cur, w, hg, hfz, hl, h1 => by
    have hi : o + i < cur.size := by simp at hl; omega
    have hadd : (⟨g, o, none⟩ : Addr).add i = ⟨g, o + i, none⟩ := by unfold Addr.add; split <;> simp_all
    have hcell : w.cell? ⟨g, o + i, none⟩ = some cur[o + i] := by simp [World.cell?, hg, hi]
    have hfro : w.frozen? ⟨g, o + i, none⟩ = false := by
      obtain ⟨lo, hi'⟩ := fz
      simp only [World.frozen?, hg, Bool.and_eq_false_iff, decide_eq_false_iff_not]
      simp only at hfz
      omega
    have hst : (store ((⟨g, o, none⟩ : Addr).add i) v).run P w = .ok () (w.setRow g (cur.setIfInBounds (o + i) v)) := by
      rw [hadd, run_store P w _ v _ (h1 v (by simp)), hcell]
      simp [hfro, setCell_eq_setRow w g (o + i) cur t fz v hg]
    have ih := storeM P g o t fz rest (i + 1) (cur.setIfInBounds (o + i) v) (w.setRow g (cur.setIfInBounds (o + i) v)) (setRow_heap w g cur _ t _ hg) (by simpa using hfz) (by simp at hl ⊢; omega) (fun x hx => h1 x (by simp [hx]))
    simp only [storeCells, Sem.run_bind, hst, Result.andThen_ok, ih, setRow_setRow]
    congr 3
    have e := list_seg_step cur.toList (o + i) v rest (by simp at hl ⊢; omega)
    simpa [Array.toList_setIfInBounds, Nat.add_assoc] using e
theorem tw_row {w : World} {B g : Nat} {cur : Array Value} {fz : Nat × Nat} (hB : B ≤ g) (hg : w.heap[g]? = some (.cells cur 5 fz)) (cs : Array Value) : Tw B w (w.setRow g cs) := by
  refine ⟨⟨rfl, rfl, rfl, by simp, fun k hk => setRow_other w g k _ (by omega)⟩, fun k o hk _ hne => ?_⟩
  rw [setRow_other w g k _ (fun e => by rw [e, hg] at hk; cases hk; exact hne _ _ rfl)]
  exact hk
theorem tw_alloc {w : World} {B : Nat} (hB : B ≤ w.heap.size) (o : Obj) : Tw B w (w.drew.alloc o) := tw_below hB (((Below.refl _ w).drew).alloc (Nat.le_refl _) o)
variable {P : Program}
/-- Both ways at once: what is appended are so many bytes. -/
theorem own_room {w : World} {B n g cap : Nat} {xs news : List Value} {cur : Array Value} {fz : Nat × Nat} (hx : xs.length = n) (hB : B ≤ g) (hg : w.heap[g]? = some (.cells cur 5 fz)) (hfz : fz.2 = 0 ∨ cap ≤ fz.1) (hcm : cap ≤ maxLen) (hcs : cur.size = cap) (ht : cur.toList.take n = xs) (hroom : n + news.length ≤ cap) :
    OwnM (w.setRow g (cur.toList.take n ++ news ++ cur.toList.drop (n + news.length)).toArray) B (.slice (some ⟨g, 0, none⟩) (n + news.length) cap) (n + news.length) (xs ++ news) := by
  refine ⟨by rw [List.length_append, hx], g, cap, _, fz, rfl, hB, setRow_heap w g cur _ _ _ hg, hfz, hroom, hcm, ?_, ?_⟩
  · simp only [List.size_toArray, List.length_append, List.length_take, List.length_drop, Array.length_toList]
    omega
  · have hlen : (xs ++ news).length = n + news.length := by rw [List.length_append, hx]
    rw [ht, ← hlen]
    exact List.take_left
theorem own_grow {w : World} {B n c : Nat} {xs news : List Value} (hx : xs.length = n) (hB : B ≤ w.heap.size) (hm : n + news.length ≤ c) (hcm : c ≤ maxLen) (tl : Array Value) (htl : tl.size = c - (n + news.length)) :
    OwnM (w.drew.alloc (.cells (xs.toArray ++ news.toArray ++ tl) 5)) B (.slice (some ⟨w.heap.size, 0, none⟩) (n + news.length) c) (n + news.length) (xs ++ news) := by
  refine ⟨by rw [List.length_append, hx], w.heap.size, c, _, (0, 0), rfl, hB, heap_alloc_new w.drew _, .inl rfl, hm, hcm, ?_, ?_⟩
  · simp only [Array.size_append, List.size_toArray, hx, htl]
    omega
  · have hlen : (xs ++ news).length = n + news.length := by rw [List.length_append, hx]
    simp only [Array.toList_append, List.append_assoc]
    rw [← List.append_assoc, ← hlen]
    exact List.take_left
theorem run_appM (t u : TypeId) (ty : TypeId) (i : TypeInfo) (ht : P.underlying t = some (.slice 5)) (hu : P.underlying u = some .string) (hi : P.info? 5 = some i) (hz : i.zero = some (.int .u8 0)) (hs : i.size = 1) (hb : i.bytes = 1)
    (w : World) (B : Nat) (hB : B ≤ w.heap.size) (v : Value) (n : Nat) (xs : List Value) (hown : OwnM w B v n xs) (s : ByteArray) (hlim : n + s.size ≤ 140737488355328) :
    ∃ v' w', (Builtin.append_ #[t, u] ty #[v, .string s]).run P w = .ok v' w' ∧ OwnM w' B v' (n + s.size) (xs ++ strCells s) ∧ Tw B w w' := by
  have hown0 := hown
  obtain ⟨h1, g, cap, cur, fz, rfl, h3, h4, h5, h6, h7, h8, h9⟩ := hown
  have hl := strCells_length s
  by_cases hroom : n + s.size ≤ cap
  · have hf := run_firstCells_string (P := P) w 1 s
    have hst := storeM P g n 5 fz (strCells s) 0 cur w h4 (by rw [h8]; exact h5) (by rw [hl]; omega) (strCells_oneCell s)
    simp only [Nat.add_zero, hl] at hst
    refine ⟨_, _, by simp [Builtin.append_, run_underlying ht, run_underlying hu, sizeOf, typeInfo, hi, hs, Builtin.lenOf, hroom, hf, Addr.add_lit, hst]; exact ⟨rfl, rfl⟩, ?_, tw_row h3 h4 _⟩
    have h := own_room (news := strCells s) h1 h3 h4 h5 h7 h8 h9 (by rw [hl]; exact hroom)
    rw [hl, List.append_assoc] at h
    exact h
  · have hr := run_append_grow_string (P := P) w t u ty 5 i (.int .u8 0) ht hu hi hz ⟨g, 0, none⟩ n cap xs (by rw [hs]; omega) hown0.cells s (by omega) (by omega) (by rw [hb]; exact growslice_fits (by omega) (by omega))
    have hge := grownCap_ge w (n + s.size) cap 5
    have hcm := grownCap_le_maxLen w (n + s.size) cap 5 (by unfold maxLen; omega)
    refine ⟨_, _, hr, ?_, tw_alloc hB _⟩
    have hz1 : (Value.int IntKind.u8 0).cells.size = 1 := rfl
    have h := own_grow (w := w) (news := strCells s) h1 hB (by rw [hl]; exact hge) hcm (Builtin.zeroCells (Value.int IntKind.u8 0).cells (grownCap w (n + s.size) cap 5 - (n + s.size))) (by rw [size_zeroCells, hz1, hl]; omega)
    rw [hl] at h
    exact h
theorem run_appMs (t : TypeId) (ty : TypeId) (i : TypeInfo) (ht : P.underlying t = some (.slice 5)) (hi : P.info? 5 = some i) (hz : i.zero = some (.int .u8 0)) (hs : i.size = 1) (hb : i.bytes = 1)
    (w : World) (B : Nat) (hB : B ≤ w.heap.size) (v : Value) (n : Nat) (xs : List Value) (hown : OwnM w B v n xs) (ad : Addr) (m c : Nat) (news : List Value) (hl : news.length = m) (hnews : ∀ j u, news[j]? = some u → w.cell? (ad.add j) = some u) (hone : ∀ u ∈ news, u.oneCell' = true) (hlim : n + m ≤ 140737488355328) :
    ∃ v' w', (Builtin.append_ #[t, t] ty #[v, .slice (some ad) m c]).run P w = .ok v' w' ∧ OwnM w' B v' (n + m) (xs ++ news) ∧ Tw B w w' := by
  have hown0 := hown
  obtain ⟨h1, g, cap, cur, fz, rfl, h3, h4, h5, h6, h7, h8, h9⟩ := hown
  by_cases hroom : n + m ≤ cap
  · have hf := run_firstCells_some (P := P) w 1 m ad m c news (by omega) hnews
    have hst := storeM P g n 5 fz news 0 cur w h4 (by rw [h8]; exact h5) (by omega) hone
    simp only [Nat.add_zero, hl] at hst
    refine ⟨_, _, by simp [Builtin.append_, run_underlying ht, sizeOf, typeInfo, hi, hs, Builtin.lenOf, hroom, hf, Addr.add_lit, hst]; exact ⟨rfl, rfl⟩, ?_, tw_row h3 h4 _⟩
    have h := own_room (news := news) h1 h3 h4 h5 h7 h8 h9 (by rw [hl]; exact hroom)
    rw [hl, List.append_assoc] at h
    exact h
  · have hr := run_append_grow (P := P) w t ty 5 i (.int .u8 0) ht hi hz ⟨g, 0, none⟩ n cap xs (by rw [hs]; omega) hown0.cells ad m c news (by rw [hs]; omega) hnews (by omega) (by omega) (by rw [hb]; exact growslice_fits (by omega) (by omega))
    have hge := grownCap_ge w (n + m) cap 5
    have hcm := grownCap_le_maxLen w (n + m) cap 5 (by unfold maxLen; omega)
    refine ⟨_, _, hr, ?_, tw_alloc hB _⟩
    have hz1 : (Value.int IntKind.u8 0).cells.size = 1 := rfl
    have h := own_grow (w := w) (news := news) h1 hB (by rw [hl]; exact hge) hcm (Builtin.zeroCells (Value.int IntKind.u8 0).cells (grownCap w (n + m) cap 5 - (n + m))) (by rw [size_zeroCells, hz1, hl]; omega)
    rw [hl] at h
    exact h
end Co
end Go.Proofs.YtdojclhcoboocaaDoor
