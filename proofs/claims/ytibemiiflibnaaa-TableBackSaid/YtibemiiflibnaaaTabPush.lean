/- Push and Pop of gaps, through the pointer to the table's field. -/
import Derived.Test.YtibemiiflibnaaaTabGaps
namespace Go.Proofs.Ytibemiiflibnaaa
namespace Tb
open Go.RowKit Dsk
set_option linter.unusedVariables false

/-- The field of gaps in a table's block, and its row. -/
structure Gh (w : World) (p : Nat) (v0 v1 v2 gv : Value) (g : List Int) : Prop where
  head : w.heap[p]? = some (.cells #[v0, v1, v2, gv] 60 (0, 0))
  row : Ints w gv g
theorem Gh.lt {w : World} {p : Nat} {v0 v1 v2 gv : Value} {g : List Int} (h : Gh w p v0 v1 v2 gv g) : p < w.heap.size := lt_of_heap h.head
theorem Gh.ne {w : World} {p : Nat} {v0 v1 v2 gv : Value} {g : List Int} (h : Gh w p v0 v1 v2 gv g) : gv.ownBlock ≠ some p := fun e => by
  obtain ⟨cur, hc⟩ := own_block h.row _ e
  rw [h.head] at hc; injection hc with hc; injection hc with _ hc; cases hc
theorem Gh.rlt {w : World} {p : Nat} {v0 v1 v2 gv : Value} {g : List Int} (h : Gh w p v0 v1 v2 gv g) (k : Nat) (hk : gv.ownBlock = some k) : k < w.heap.size := by
  obtain ⟨cur, hc⟩ := own_block h.row k hk; exact lt_of_heap hc
theorem Gh.same {w w' : World} {p : Nat} {v0 v1 v2 gv : Value} {g : List Int} (h : Gh w p v0 v1 v2 gv g) (hp : w'.heap[p]? = w.heap[p]?) (hr : ∀ k, gv.ownBlock = some k → w'.heap[k]? = w.heap[k]?) : Gh w' p v0 v1 v2 gv g :=
  ⟨hp.trans h.head, own_same h.row hr⟩
theorem Gh.below {w w' : World} {p : Nat} {v0 v1 v2 gv : Value} {g : List Int} (h : Gh w p v0 v1 v2 gv g) (hb : Below w.heap.size w w') : Gh w' p v0 v1 v2 gv g := h.same (hb.block p h.lt) fun k hk => hb.block k (h.rlt k hk)
theorem Gh.cell {w : World} {p : Nat} {v0 v1 v2 gv : Value} {g : List Int} (h : Gh w p v0 v1 v2 gv g) : w.cell? ⟨p, 3, none⟩ = some gv := by rw [cell_of_row _ _ _ _ _ _ h.head]; rfl
theorem Gh.frozen {w : World} {p : Nat} {v0 v1 v2 gv : Value} {g : List Int} (h : Gh w p v0 v1 v2 gv g) : w.frozen? ⟨p, 3, none⟩ = false := frozen_of_row _ _ _ _ _ h.head
/-- What may turn there; where the row lies behind it. -/
def Gf (p : Nat) (gv : Value) (k : Nat) : Prop := k = p ∨ gv.ownBlock = some k
structure Gs (p : Nat) (gv gv' : Value) (w w' : World) : Prop where
  fr : Fr (Gf p gv) w w'
  own : ∀ k, gv'.ownBlock = some k → gv.ownBlock = some k ∨ w.heap.size ≤ k
theorem Gs.refl (p : Nat) (gv : Value) (w : World) : Gs p gv gv w w := ⟨Fr.refl _ _, fun _ h => .inl h⟩
theorem Gs.of_below {p : Nat} {gv : Value} {w w' : World} (h : Below w.heap.size w w') : Gs p gv gv w w' := ⟨Fr.of_below h, fun _ h => .inl h⟩
theorem Gs.trans {p : Nat} {a b c : Value} {u v w : World} (h : Gs p a b u v) (k : Gs p b c v w) (hp : p < u.heap.size) : Gs p a c u w := by
  refine ⟨h.fr.trans k.fr fun i hi hb => ?_, fun i hi => ?_⟩
  · rcases hb with e | e
    · exact .inl e
    · rcases h.own i e with h1 | h1
      · exact .inr h1
      · omega
  · rcases k.own i hi with h1 | h1
    · exact h.own i h1
    · exact .inr (Nat.le_trans h.fr.size h1)

theorem nums_one (x : Int) : ∀ u ∈ ([.int .i64 x] : List Value), u.oneCell' = true := fun u hu => by rw [List.mem_singleton.1 hu]; rfl
/-- A number was added to a row: where it lies then. -/
structure GApp (w : World) (gv : Value) (l : List Int) (x : Int) (b cap : Nat) (w2 : World) : Prop where
  row : w2.ownsRow 0 3 1 (.slice (some ⟨b, 0, none⟩) (l.length + 1) cap) (l.length + 1) (nums (l ++ [x]))
  fr : Fr (fun k => gv.ownBlock = some k) w w2
  own : gv.ownBlock = some b ∨ w.heap.size ≤ b
theorem GApp.of {w : World} {gv : Value} {l : List Int} {n : Nat} {x : Int} {b cap : Nat} {w1 w2 : World} (hn : n = l.length) (hb : Below w.heap.size w w1) (hown : w2.ownsRow 0 3 1 (.slice (some ⟨b, 0, none⟩) (n + 1) cap) (n + 1) (nums l ++ [.int .i64 x])) (hg : w1.grownBy w2 gv.ownBlock)
    (hat : gv.ownBlock = some b ∨ b = w.heap.size + 1) : GApp w gv l x b cap w2 := by
  subst hn
  refine ⟨by rw [nums, List.map_append]; exact hown, (Fr.of_below hb).trans (Fr.of_grown (F := fun k => gv.ownBlock = some k) hg fun k e => e) (fun _ _ e => e), hat.imp id (fun e => by omega)⟩
theorem ints_add {b n cap : Nat} {w : World} {l : List Int} {x : Int} (hn : n = l.length) (h : w.ownsRow 0 3 1 (.slice (some ⟨b, 0, none⟩) (n + 1) cap) (n + 1) (nums (l ++ [x]))) : Ints w (.slice (some ⟨b, 0, none⟩) (n + 1) cap) (l ++ [x]) := by
  subst hn
  show World.ownsRow _ _ _ _ _ _ _
  rw [List.length_append, List.length_singleton]
  exact h

theorem assert_int (x : Int) (w : World) : (Instr.typeAssert (.iface 3 (.int .i64 x)) 20 3 false).run Try.prog w = .ok (.int .i64 x) w := by kernel_rfl
set_option maxHeartbeats 1000000 in
theorem gap_push {w : World} {p : Nat} {v0 v1 v2 gv : Value} {g : List Int} (h : Gh w p v0 v1 v2 gv g) (x : Int) (hg : g.length ≤ 1048576) :
    Calls Try.prog 96 #[.pointer (some ⟨p, 3, none⟩), .iface 3 (.int .i64 x)] w fun e w' => e = .returned (.tuple #[]) ∧ ∃ gv', Gh w' p v0 v1 v2 gv' (g ++ [x]) ∧ Gs p gv gv' w w' := by
  obtain ⟨i0, hi, hz0, hz1, hz2⟩ := info_parts info_int
  obtain ⟨a, c, rfl⟩ := ints_slice h.row
  have hc := h.cell
  have hf := h.frozen
  have hrow := h.row
  have hlt := h.lt
  obtain ⟨n, hn⟩ : ∃ n, n = g.length := ⟨_, rfl⟩
  rw [← hn] at hc hg
  have hal : Below w.heap.size w (w.alloc (.cells #[.int .i64 x] 3)).drew := ((Below.refl _ _).alloc (Nat.le_refl _) _).drew
  have OWN : Hid ((w.alloc (.cells #[.int .i64 x] 3)).drew.ownsRow 0 3 1 (.slice a n c) n (nums g)) := by
    have := own_same (w' := (w.alloc (.cells #[.int .i64 x] 3)).drew) hrow fun k hk => hal.block k (h.rlt k hk)
    rwa [← hn] at this
  have NEWS : Hid (∀ j u, ([.int .i64 x] : List Value)[j]? = some u → (w.alloc (.cells #[.int .i64 x] 3)).drew.cell? ((⟨w.heap.size, 0, none⟩ : Addr).add j) = some u) :=
    World.news_of_block (cs := #[.int .i64 x]) (show (w.alloc _).heap[w.heap.size]? = _ from heap_alloc_new _ _)
  have ONE := Lib.hid (nums_one x)
  have hca : (w.alloc (.cells #[.int .i64 x] 3)).cell? ⟨p, 3, none⟩ = some (.slice a n c) := (World.cell?_of_block (w := w) (a := ⟨p, 3, none⟩) (Below.heap_alloc _ _ _ hlt)).trans hc
  have H : Hid (Gh w p v0 v1 v2 (.slice a n c) g) := by rw [hn]; exact h
  have HN := Lib.hid hn
  have HAL := Lib.hid hal
  rw [← hn]
  have hta := assert_int x
  clear h hn hrow hal
  go_enter Try.func96, Try.ntmps96
  go_wp2
  go_region_law (refine step_append_lies _ rfl (.tmp 7) (.tmp 10) 58 rfl 0 3 i0 _ 1 8 Try.underlying58 hi hz0 hz1 hz2 rfl (by decide) (.slice a n c) n (nums g) (by simp [Act.eval]) OWN.out ⟨w.heap.size, 0, none⟩ 1 1 [.int .i64 x] (by simp [Act.eval]) rfl NEWS.out ONE.out (by omega) (by unfold maxLen; omega) (by omega) (Nat.zero_le _) (w.heap.size + 1) (by simp) ?_; intro b cap w2 hown2 hg2 hat2 hlt2; have APP := Lib.hid (GApp.of HN.out HAL.out hown2 hg2 hat2); have hh := (APP.out.fr.block p H.out.lt H.out.ne).trans H.out.head; have c4 : w2.cell? ⟨p, 3, none⟩ = some (.slice a n c) := (by rw [cell_of_row _ _ _ _ _ _ hh]; rfl); have f4 : w2.frozen? ⟨p, 3, none⟩ = false := frozen_of_row _ _ _ _ _ hh; clear hh hown2 hg2 hat2 hlt2)
  all_goals
    go_wp2
    go_end0
    have hh := (APP.out.fr.block p H.out.lt H.out.ne).trans H.out.head
    have hne : b ≠ p := fun e => by
      rcases APP.out.own with h1 | h1
      · exact H.out.ne (by rw [h1, e])
      · have := H.out.lt; omega
    refine ⟨rfl, .slice (some ⟨b, 0, none⟩) (n + 1) cap, ⟨?_, ?_⟩, ?_, ?_⟩
    · rw [heap_setCell_same _ _ _ _ _ _ hh]; rfl
    · have hr := APP.out.row
      rw [← HN.out] at hr
      exact own_same (ints_add HN.out hr) fun k hk => Below.heap_setCell _ _ _ _ (by intro e; injection hk with hk; exact hne (hk.trans e))
    · exact Fr.setCell (F := Gf p (.slice a n c)) (APP.out.fr.mono fun k _ e => .inr e) _ (.inl rfl) _
    · intro k hk
      injection hk with hk
      subst hk
      exact APP.out.own
theorem ints_take {w : World} {a : Option Addr} {c n : Nat} {g : List Int} (h : Ints w (.slice a g.length c) g) (hn : g.length = n + 1) : Ints w (.slice a n c) (g.take n) := by
  have hl : (g.take n).length = n := by simp [hn]
  show World.ownsRow _ _ _ _ _ _ _
  rw [hl]
  rcases h.2 with ⟨_, h0⟩ | ⟨b, cap, cur, hv, hb, hh, h1, h2, h3, h4⟩
  · omega
  · injection hv with e1 e2 e3
    subst e1
    subst e3
    refine ⟨by simpa using hl, .inr ⟨b, c, cur, rfl, hb, hh, by omega, h2, h3, ?_⟩⟩
    have := congrArg (List.take (n * 1)) h4
    rw [List.take_take, show min (n * 1) (g.length * 1) = n * 1 by omega] at this
    rw [this, Nat.mul_one, nums, nums, List.map_take]
theorem gap_pop {w : World} {p : Nat} {v0 v1 v2 gv : Value} {g : List Int} (h : Gh w p v0 v1 v2 gv g) (n : Nat) (hn : g.length = n + 1) (hg : g.length ≤ 1048576) :
    Calls Try.prog 95 #[.pointer (some ⟨p, 3, none⟩)] w fun e w' => e = .returned (.iface 3 (.int .i64 (Hp.at_ g n))) ∧ ∃ gv', Gh w' p v0 v1 v2 gv' (g.take n) ∧ Gs p gv gv' w w' := by
  obtain ⟨a, c, rfl⟩ := ints_slice h.row
  have hc := h.cell
  have hf := h.frozen
  obtain ⟨b, rfl, hb, hcn, _⟩ := ints_cell h.row n (by omega)
  have hcap : n + 1 ≤ c := by
    rcases h.row.2 with ⟨h1, h0⟩ | ⟨b', cap, cur, hv, _, _, h1, _⟩
    · omega
    · injection hv with _ _ e; omega
  have HT := Lib.hid (ints_take h.row hn)
  obtain ⟨x, hx⟩ : ∃ x, x = Hp.at_ g n := ⟨_, rfl⟩
  rw [← hx] at hcn ⊢
  rw [hn] at hc hg
  have H := Lib.hid h
  have HN := Lib.hid hn
  clear hx h hn
  have k1 : n ≤ c := by omega
  have k2 : IntKind.i64.wrap ((n : Int) + 1 - 1) = (n : Int) := by rw [IntWalk.i64_in _ (by omega)]; omega
  have k3 : (n : Int) + 1 - 1 = (n : Int) := by omega
  have k4 : ((n + 1 : Nat) : Int) = (n : Int) + 1 := by omega
  go_enter Try.func95, Try.ntmps95
  go_wp2
  go_ret
  have hne : b ≠ p := fun e => H.out.ne (by rw [← e]; rfl)
  refine ⟨rfl, .slice (some ⟨b, 0, none⟩) n c, ⟨?_, ?_⟩, ?_, ?_⟩
  · rw [heap_setCell_same _ _ _ _ _ _ H.out.head]; rfl
  · exact own_same HT.out fun k hk => Below.heap_setCell _ _ _ _ (by intro e; injection hk with hk; exact hne (hk.trans e))
  · exact Fr.setCell (Fr.refl (Gf p _) _) _ (.inl rfl) _
  · exact fun k hk => .inl hk
end Tb
end Go.Proofs.Ytibemiiflibnaaa
