/- Contract of Split. -/
import Derived.Test.YtkjlcjiegoillaaGeomIter
import Derived.Test.YtkjlcjiegoillaaAppendHome
namespace Go.Proofs.Ytkjlcjiegoillaa
namespace Geo
open Go.RowKit Go.Shelf
set_option linter.unusedVariables false
attribute [local go_sem] Oper.semAt_some

/-- The cells of pieces. -/
def pcells (l : List Em.Pc) : List Value := l.flatMap fun x => [.int .i64 (x.c : Int), .int .i64 (x.f : Int), .int .i64 (x.n : Int)]
theorem pcells_length (l : List Em.Pc) : (pcells l).length = l.length * 3 := by
  unfold pcells
  induction l with
  | nil => rfl
  | cons x l ih => simp only [List.flatMap_cons, List.length_append, ih, List.length_cons, List.length_nil]; omega
theorem pcells_snoc (l : List Em.Pc) (x : Em.Pc) : pcells (l ++ [x]) = pcells l ++ [.int .i64 (x.c : Int), .int .i64 (x.f : Int), .int .i64 (x.n : Int)] := by simp [pcells]
theorem pcells_get (l : List Em.Pc) (i : Nat) (h : i < l.length) : (pcells l)[3 * i]? = some (.int .i64 (l[i].c : Int)) ∧ (pcells l)[3 * i + 1]? = some (.int .i64 (l[i].f : Int)) ∧ (pcells l)[3 * i + 2]? = some (.int .i64 (l[i].n : Int)) := by
  induction l generalizing i with
  | nil => simp at h
  | cons x l ih =>
    have e : pcells (x :: l) = .int .i64 (x.c : Int) :: .int .i64 (x.f : Int) :: .int .i64 (x.n : Int) :: pcells l := rfl
    rw [e]
    cases i with
    | zero => simp
    | succ i =>
      have := ih i (by simpa using h)
      rw [show 3 * (i + 1) = 3 * i + 1 + 1 + 1 by omega]
      simpa using this

/-- What can't be, of sectors. -/
def splitE (o c a m : Int) : Int := if refuse o c m 0 o = 0 then refuse o c a 0 (o - m) else refuse o c m 0 o
theorem split_no (o c a m : Int) (w : World) (ho : o ≤ 9223372036854775807) (hm : -9223372036854775808 ≤ m) (h : splitE o c a m ≠ 0) : Calls Try.prog 9 #[.agg #[.int .i64 o, .int .i64 c], .int .i64 a, .int .i64 m] w fun e w' => e = .returned (.tuple #[.slice none 0 0, .int .i64 (splitE o c a m)]) ∧ Below w.heap.size w w' := by
  have C := Lib.hid (fun w1 => refuse_any o c m 0 o w1)
  have D := Lib.hid (fun w1 => refuse_any o c a 0 (o - m) w1)
  have HB : Hid (Below w.heap.size w (w.alloc (.cells #[.int .i64 o, .int .i64 c] 23))) := (Below.refl _ w).alloc (Nat.le_refl _) _
  have hg0 := cell_alloc2 w o c
  by_cases h1 : refuse o c m 0 o = 0
  · have e : splitE o c a m = refuse o c a 0 (o - m) := by unfold splitE; rw [if_pos h1]
    rw [e] at h ⊢
    have hbd : 0 ≤ m ∧ m ≤ o := by
      unfold refuse at h1
      split at h1
      · split at h1
        · cases h1
        · omega
      · cases h1
    obtain ⟨hb1, hb2⟩ := hbd
    rw [h1] at C
    obtain ⟨r, hr⟩ : ∃ r, r = refuse o c a 0 (o - m) := ⟨_, rfl⟩
    rw [← hr] at h D ⊢
    have hd : (r != 0) = true := by simpa using h
    clear h h1 e hr
    go_enter Try.func9, Try.ntmps9
    go_wp2_with fail
    refine (C.out _).mono ?_
    rintro e w1 ⟨rfl, hb⟩
    have c0 := (hb.cell (p := ⟨w.heap.size, 0, none⟩) (by simp)).trans hg0.1
    have c1 := (hb.cell (p := ⟨w.heap.size, 1, none⟩) (by simp)).trans hg0.2
    have HB1 := Lib.hid (HB.out.trans (hb.mono HB.out.size))
    clear hb hg0
    go_wp2_with fail
    refine (D.out _).mono ?_
    rintro e w2 ⟨rfl, hb⟩
    have HB2 := Lib.hid (HB1.out.trans (hb.mono HB1.out.size))
    clear hb
    go_wp2_with fail
    go_ret2
    exact ⟨rfl, HB2.out⟩
  · have e : splitE o c a m = refuse o c m 0 o := by unfold splitE; rw [if_neg h1]
    rw [e] at h ⊢
    obtain ⟨r, hr⟩ : ∃ r, r = refuse o c m 0 o := ⟨_, rfl⟩
    rw [← hr] at h C ⊢
    have hd : (r != 0) = true := by simpa using h
    clear h h1 e hr
    go_enter Try.func9, Try.ntmps9
    go_wp2_with fail
    refine (C.out _).mono ?_
    rintro e w1 ⟨rfl, hb⟩
    have HB1 := Lib.hid (HB.out.trans (hb.mono HB.out.size))
    clear hb hg0
    go_wp2_with fail
    go_ret2
    exact ⟨rfl, HB1.out⟩

/-- append onto a row of one's own, in a fence: behind it the row lies where it lay, or in the next new block. -/
theorem wpListIn_append_home {F : Fence} {n : Nat} {P : Program} (w : World) {ops : Array Oper} {rest : List Oper} {o : Oper} {a : Act} {Q : Exit → Act → World → Prop}
    (hg : o.guard = none) (s x : Operand) (t : TypeId) (hop : o.op = Op.call { callee := Callee.builtin Builtin.append, args := #[s, x], argTypes := #[t, t] })
    (e : TypeId) (i : TypeInfo) (z : Value) (size bytes : Nat) (h1 : P.underlying t = some (.slice e)) (h2 : P.info? e = some i) (h3 : i.zero = some z) (h4 : i.size = size) (h5 : i.bytes = bytes) (h6 : z.cells.size = size) (h7 : 0 < size)
    (v : Value) (k : Nat) (xs : List Value) (hs : a.eval s = v) (hown : w.ownsRow 0 e size v k xs) (ad : Addr) (m c : Nat) (news : List Value) (hx : a.eval x = .slice (some ad) m c) (hn : news.length = m * size)
    (hc : ∀ j u, news[j]? = some u → w.cell? (ad.add j) = some u) (h1c : ∀ u ∈ news, u.oneCell' = true) (b1 : k + m ≤ maxLen) (b2 : (k + m) * bytes ≤ 140737488355328)
    (hK : ∀ v' w', w'.ownsRow 0 e size v' (k + m) (xs ++ news) → w.grownBy w' v.ownBlock → (v'.ownBlock = v.ownBlock ∨ v'.ownBlock = some w.heap.size) → wpListIn F n P ops Q rest (a.put o.dst v') w') :
    wpListIn F n P ops Q (o :: rest) a w := by
  refine wpListIn_plain hg fun K hK' => ?_
  obtain ⟨v', w', hrun, r1, r2, r3⟩ := Dsk.run_append_home (P := P) w t o.type e i z size bytes h1 h2 h3 h4 h5 h6 h7 v k xs hown ad m c news hn hc h1c b1 b2
  unfold Oper.wpIn
  refine ⟨?_, ?_⟩
  · simp [Oper.about, hop, resolve, Target.leads, Sem.run_pure]
  · rw [Oper.semAt_plain F _ _ (by rw [hop]; intro c hc'; cases hc')]
    simp [execOp, hop, resolve, invoke, builtin, hs, hx, hrun, Result.andThen]
    exact hK' _ _ (hK v' w' r1 r2 r3)
theorem own_zero {w : World} {base : Nat} {e : TypeId} {size : Nat} {v : Value} {n : Nat} {xs : List Value} (h : w.ownsRow base e size v n xs) : w.ownsRow 0 e size v n xs := by
  refine ⟨h.1, ?_⟩
  rcases h.2 with h2 | ⟨g, cap, cur, hv, hg, r⟩
  · exact .inl h2
  · exact .inr ⟨g, cap, cur, hv, Nat.zero_le _, r⟩
theorem own_from {w : World} {base : Nat} {e : TypeId} {size : Nat} {v : Value} {n : Nat} {xs : List Value} (h : w.ownsRow 0 e size v n xs) (hb : ∀ r, v.ownBlock = some r → base ≤ r) : w.ownsRow base e size v n xs := by
  refine ⟨h.1, ?_⟩
  rcases h.2 with h2 | ⟨g, cap, cur, hv, hg, r⟩
  · exact .inl h2
  · exact .inr ⟨g, cap, cur, hv, hb g (by rw [hv]; rfl), r⟩
theorem own_ge {w : World} {base : Nat} {e : TypeId} {size : Nat} {v : Value} {n : Nat} {xs : List Value} (h : w.ownsRow base e size v n xs) (r : Nat) (hr : v.ownBlock = some r) : base ≤ r ∧ ∃ cur, w.heap[r]? = some (.cells cur e (0, 0)) := by
  rcases h.2 with ⟨rfl, _⟩ | ⟨g, cap, cur, rfl, hg, hh, _⟩
  · simp [Value.ownBlock] at hr
  · simp [Value.ownBlock] at hr
    subst hr
    exact ⟨hg, cur, hh⟩
/-- Behind the append and the store: all that a round owes. -/
theorem appended_all {W w1 : World} {n₀ B : Nat} {t e : TypeId} {size : Nat} {v v' : Value} {k m : Nat} {xs ys : List Value} {tmp : Obj}
    (hv : Boxed W B t v) (hte : t ≠ e) (hrow : W.ownsRow n₀ e size v k xs) (hn₀ : n₀ ≤ W.heap.size) (hB : n₀ ≤ B)
    (hown' : w1.ownsRow 0 e size v' m ys) (hgrow : (W.alloc tmp).grownBy w1 v.ownBlock) (hat : v'.ownBlock = v.ownBlock ∨ v'.ownBlock = some (W.heap.size + 1)) :
    Boxed w1 B t v ∧ Boxed (w1.setCell ⟨B, 0, none⟩ v') B t v' ∧ (w1.setCell ⟨B, 0, none⟩ v').ownsRow n₀ e size v' m ys ∧ KeepsOthers W (w1.setCell ⟨B, 0, none⟩ v') ∧ Below n₀ W (w1.setCell ⟨B, 0, none⟩ v') ∧ Kp B W (w1.setCell ⟨B, 0, none⟩ v') := by
  have ho : w1.ownsRow n₀ e size v' m ys := own_from hown' fun r hr => by
    rcases hat with h | h
    · rw [h] at hr; exact (own_ge hrow r hr).1
    · rw [h] at hr; cases hr; omega
  obtain ⟨a1, a2, a3, a4, a5⟩ := hv.appended hte hrow hn₀ hB ho hgrow
  have o1 : ownAt B W = v.ownBlock := by unfold ownAt; rw [hv.cell]; rfl
  have o2 : ownAt B (w1.setCell ⟨B, 0, none⟩ v') = v'.ownBlock := by unfold ownAt; rw [a2.cell]; rfl
  have hsz := hgrow.size
  have hz : (W.alloc tmp).heap.size = W.heap.size + 1 := by simp
  have hz2 : (w1.setCell ⟨B, 0, none⟩ v').heap.size = w1.heap.size := by simp [World.setCell]
  refine ⟨a1, a2, a3, a4, a5, ⟨by omega, fun k o hk hc hp hr => ?_, fun r hr => ?_, fun _ r hr => ?_⟩⟩
  · rw [o1] at hr
    have hlt := (Array.getElem?_eq_some_iff.1 hk).1
    rw [Below.heap_setCell _ _ _ _ hp, hgrow.block k (by omega) (fun e => hr e.symm), Below.heap_alloc _ _ _ hlt]
    exact hk
  · rw [o2] at hr
    rw [o1]
    rcases hat with h | h
    · exact .inl (h ▸ hr)
    · rw [h] at hr; cases hr; exact .inr (by omega)
  · rw [o2] at hr
    obtain ⟨_, cur, hcur⟩ := own_ge hown' r hr
    rw [hz2]
    exact (Array.getElem?_eq_some_iff.1 hcur).1
theorem split_start (w2 : World) (n : Nat) (o c a m : Int) (W1 W2 : World) (h1 : w2.alloc (.cells #[.slice none 0 0] 31) = W1)
    (h2 : ((W1.alloc (.cells #[.int .i64 o, .int .i64 c] 23)).alloc (.cells #[.int .i64 a] 3)).alloc (.cells #[.int .i64 m] 3) = W2) (w : World) (hw : Below w.heap.size w w2) :
    Boxed W2 w2.heap.size 31 (.slice none 0 0) ∧ W1.heap.size = w2.heap.size + 1 ∧ W2.heap.size = w2.heap.size + 4 ∧ W2.cell? ⟨W1.heap.size + 1, 0, none⟩ = some (.int .i64 a) ∧ W2.cell? ⟨W1.heap.size + 1 + 1, 0, none⟩ = some (.int .i64 m) ∧
    W2.heap[W1.heap.size]? = some (.cells #[.int .i64 o, .int .i64 c] 23 (0, 0)) ∧ Below w.heap.size w W2 := by
  have e1 : W1.heap.size = w2.heap.size + 1 := by rw [← h1]; simp
  subst h2
  have b0 := Boxed.new w2 31 (.slice none 0 0)
  rw [h1] at b0
  have b1 := Boxed.new (W1.alloc (.cells #[.int .i64 o, .int .i64 c] 23)) 3 (.int .i64 a)
  have b2 := Boxed.new ((W1.alloc (.cells #[.int .i64 o, .int .i64 c] 23)).alloc (.cells #[.int .i64 a] 3)) 3 (.int .i64 m)
  simp only [World.size_alloc] at b1 b2
  refine ⟨((b0.alloc _).alloc _).alloc _, e1, by simp; omega, (b1.alloc _).cell, b2.cell, ?_, ?_⟩
  · rw [Below.heap_alloc _ _ _ (by simp; omega), Below.heap_alloc _ _ _ (by simp)]
    exact heap_alloc_new _ _
  · have := hw.size
    rw [← h1]
    exact (((hw.alloc hw.size _).alloc (by simp; omega) _).alloc (by simp; omega) _).alloc (by simp; omega) _

/-- The iterator's contract, as the loop's law asks it. -/
theorem pieces_stops (n : Nat) (hn : 1 ≤ n) (p bg : Nat) (o : Int) (c a m : Nat) (hc1 : 1 ≤ c) (hc2 : c ≤ 128) (ham : a + m ≤ 1048576) (ba bm : Nat) (w : World) (hpn : p < w.heap.size) (hgp : bg ≠ p) (hp : w.cell? ⟨p, 0, none⟩ = some (.slice none 0 0))
    (ha : ba < w.heap.size) (hm : bm < w.heap.size) (ca : w.cell? ⟨ba, 0, none⟩ = some (.int .i64 (a : Int))) (cm : w.cell? ⟨bm, 0, none⟩ = some (.int .i64 (m : Int))) (cg : w.heap[bg]? = some (.cells #[.int .i64 o, .int .i64 (c : Int)] 23 (0, 0))) :
    SeqStopsK Fence.wide n Try.prog 22 #[.pointer (some ⟨ba, 0, none⟩), .pointer (some ⟨bm, 0, none⟩), .pointer (some ⟨bg, 0, none⟩)] (fun x : Em.Pc => #[Value.agg #[.int .i64 (x.c : Int), .int .i64 (x.f : Int), .int .i64 (x.n : Int)]]) (Kp p) (fun ys => ys = Em.split c a m) (fun pre => pre <+: Em.split c a m) (Em.split c a m).length w := fun l J Jx W hW hJ _ hY h0 => by
  have hg : bg < w.heap.size := (Array.getElem?_eq_some_iff.1 cg).1
  refine pieces1_in n hn l p w.heap.size ba bm bg c a m hc1 hc2 ham J Jx W.heap.size hJ hY W hW.size hpn hg hgp (fun r hr => ?_) ((hW.cell (p := ⟨ba, 0, none⟩) ha).trans ca) ((hW.cell (p := ⟨bm, 0, none⟩) hm).trans cm) o ((hW.block _ hg).trans cg) h0
  have : ownAt p W = none := by
    unfold ownAt
    rw [hW.cell (p := ⟨p, 0, none⟩) hpn, hp]
    rfl
  rw [this] at hr
  cases hr
theorem info_piece : (Try.prog.info? 43).map (fun i => (i.zero, i.size, i.bytes)) = some (some (.agg #[.int .i64 0, .int .i64 0, .int .i64 0]), 3, 24) := by kernel_rfl

set_option maxRecDepth 100000 in
set_option maxHeartbeats 2000000 in
theorem split_ok (o c a m : Nat) (w : World) (hr : Em.rightB o c = true) (ham : a + m ≤ o) : Calls Try.prog 9 #[.agg #[.int .i64 (o : Int), .int .i64 (c : Int)], .int .i64 (a : Int), .int .i64 (m : Int)] w fun e w' =>
    ∃ v, e = .returned (.tuple #[v, .int .i64 0]) ∧ w'.ownsRow w.heap.size 43 3 v (Em.split c a m).length (pcells (Em.split c a m)) ∧ Below w.heap.size w w' := by
  obtain ⟨h1, h2, h3, h4⟩ := (Em.right_iff _ _).1 hr
  have C := Lib.hid (fun w1 => refuse_any (o : Int) c m 0 o w1)
  have D := Lib.hid (fun w1 => refuse_any (o : Int) c a 0 ((o : Int) - (m : Int)) w1)
  rw [refuse_ok hr (by omega) (by omega)] at C
  rw [refuse_ok hr (by omega) (by omega)] at D
  obtain ⟨i0, hi, hz0, hz1, hz2⟩ := info_parts info_piece
  have HB : Hid (Below w.heap.size w (w.alloc (.cells #[.int .i64 (o : Int), .int .i64 (c : Int)] 23))) := (Below.refl _ w).alloc (Nat.le_refl _) _
  have hg0 := cell_alloc2 w (o : Int) (c : Int)
  have hga := heap_alloc_new w (.cells #[.int .i64 (o : Int), .int .i64 (c : Int)] 23)
  have hpl := Em.split_length c a m
  have ho : o ≤ 1048576 := by omega
  refine (callsIn_wide (n := 3)).1 ?_
  refine callsIn_of_wp_marks Try.func9 rfl trivial ?_ rfl
  simp only [Try.ntmps9, List.size_toArray, List.length_cons, List.length_nil, Nat.reduceAdd, Nat.reduceSub, Array.replicate_succ, Array.replicate_zero, List.push_toArray, List.append_toArray, List.nil_append, List.cons_append]
  clear hr
  gi_wp2_with fail
  refine ⟨trivial, (callsIn_wide.2 (C.out _)).mono ?_⟩
  rintro e w1 ⟨rfl, hb⟩
  have c0 := (hb.cell (p := ⟨w.heap.size, 0, none⟩) (by simp)).trans hg0.1
  have c1 := (hb.cell (p := ⟨w.heap.size, 1, none⟩) (by simp)).trans hg0.2
  have hs1 : w.heap.size + 1 ≤ w1.heap.size := by have := hb.size; simpa using this
  have HB1 := Lib.hid (HB.out.trans (hb.mono HB.out.size))
  clear hb hg0 hga C
  gi_wp2_with fail
  refine ⟨trivial, (callsIn_wide.2 (D.out _)).mono ?_⟩
  rintro e w2 ⟨rfl, hb⟩
  have d0 := (hb.cell (p := ⟨w.heap.size, 0, none⟩) (by simp; omega)).trans c0
  have d1 := (hb.cell (p := ⟨w.heap.size, 1, none⟩) (by simp; omega)).trans c1
  have hs2 : w.heap.size + 1 ≤ w2.heap.size := Nat.le_trans hs1 hb.size
  have HB2 := Lib.hid (HB1.out.trans (hb.mono HB1.out.size))
  clear hb c0 c1 hs1 D
  obtain ⟨W1, hW1⟩ : ∃ W1, w2.alloc (.cells #[.slice none 0 0] 31) = W1 := ⟨_, rfl⟩
  have P := Lib.hid (pieces_any (o : Int) (c : Int) (a : Int) (m : Int) W1)
  have e0 : W1.cell? ⟨w.heap.size, 0, none⟩ = some (.int .i64 (o : Int)) := by
    rw [← hW1]; exact (World.cell?_of_block (Below.heap_alloc _ _ _ (by show w.heap.size < _; omega))).trans d0
  have e1 : W1.cell? ⟨w.heap.size, 1, none⟩ = some (.int .i64 (c : Int)) := by
    rw [← hW1]; exact (World.cell?_of_block (Below.heap_alloc _ _ _ (by show w.heap.size < _; omega))).trans d1
  gi_wp2_with fail
  refine ⟨trivial, (callsIn_wide.2 P.out).mono ?_⟩
  rintro e w3 ⟨rfl, rfl⟩
  gi_wp2_with fail
  obtain ⟨W2, hW2⟩ : ∃ W2, ((W1.alloc (.cells #[.int .i64 (o : Int), .int .i64 (c : Int)] 23)).alloc (.cells #[.int .i64 (a : Int)] 3)).alloc (.cells #[.int .i64 (m : Int)] 3) = W2 := ⟨_, rfl⟩
  obtain ⟨bP, s1, s2, ca, cm, cg, hB0⟩ := split_start w2 0 o c a m W1 W2 hW1 hW2 w HB2.out
  rw [hW2]
  obtain ⟨q, hq⟩ : ∃ q, q = w2.heap.size := ⟨_, rfl⟩
  have hwq : w.heap.size + 1 ≤ q := by omega
  rw [← hq] at bP s1 s2 ⊢
  rw [s1] at ca cm cg ⊢
  clear hW2 hW1 d0 d1 e0 e1 P hs2 HB2 HB1 HB hq s1
  refine wpIn_rangeFunc_ownH rfl (by omega) (gf := 22) (lb := #[.pointer (some ⟨q + 1 + 1, 0, none⟩), .pointer (some ⟨q + 1 + 1 + 1, 0, none⟩), .pointer (some ⟨q + 1, 0, none⟩)]) rfl trivial (enters_of Try.func22 (by kernel_rfl) rfl)
    (pieces_stops (3 - 1) (by omega) q (q + 1) o c a m (by omega) (by omega) (by omega) (q + 1 + 1) (q + 1 + 1 + 1) W2 (by omega) (by omega) bP.cell (by omega) (by omega) ca cm cg) (fun h k => h.trans k) (kp_b (by omega)) (Below.refl _ _) (fun _ => rfl)
    (fun pre W => (∃ v, Boxed W q 31 v ∧ W.ownsRow w.heap.size 43 3 v pre.length (pcells pre) ∧ True) ∧ Below w.heap.size w W)
    (fun _ _ _ => False)
    (OwnFrom.and (Own.from (holdsRow_own w.heap.size q 31 43 3 (fun pre : List Em.Pc => pre.length) pcells (fun _ _ => True)) _) (ownFrom_below (Nat.le_refl _) (by omega)))
    (fun _ _ _ _ _ hs _ _ => hs)
    ⟨⟨_, bP, World.ownsRow_nil _ _ _ _, trivial⟩, hB0⟩
    (fun x a' W => ∃ Bx, q < Bx ∧ W.heap[Bx]? = some (.cells #[.int .i64 (x.c : Int), .int .i64 (x.f : Int), .int .i64 (x.n : Int)] 43 (0, 0)) ∧ a' = { tmps := #[.agg #[.int .i64 (o : Int), .int .i64 (c : Int)], .int .i64 (a : Int), .int .i64 (m : Int), .pointer (some ⟨w.heap.size, 0, none⟩), undef, undef, .slice none 0 0, .int .i64 0, .int .i64 0, .int .i64 0, .pointer (some ⟨q, 0, none⟩), .pointer (some ⟨Bx, 0, none⟩), .agg #[.int .i64 (o : Int), .int .i64 (c : Int)], .int .i64 (m : Int), .pointer (some ⟨w.heap.size, 0, none⟩), .int .i64 (o : Int), .int .i64 0, .int .i64 0, .bool false, undef, .agg #[.int .i64 (o : Int), .int .i64 (c : Int)], .int .i64 (a : Int), .pointer (some ⟨w.heap.size, 0, none⟩), .int .i64 (o : Int), .int .i64 (m : Int), .int .i64 ((o : Int) - (m : Int)), .int .i64 0, .int .i64 0, .bool false, undef, .agg #[.int .i64 (o : Int), .int .i64 (c : Int)], .int .i64 (a : Int), .int .i64 (m : Int), .func (.func 22) #[] #[.pointer (some ⟨q + 1 + 1, 0, none⟩), .pointer (some ⟨q + 1 + 1 + 1, 0, none⟩), .pointer (some ⟨q + 1, 0, none⟩)], .agg #[.int .i64 (x.c : Int), .int .i64 (x.f : Int), .int .i64 (x.n : Int)], undef, undef, undef, undef, undef], defers := [] })
    (fun x a' _ X Y row hs hg hr => by
      obtain ⟨Bx, k1, k2, k3⟩ := hs
      refine ⟨Bx, k1, (hg.block Bx (Array.getElem?_eq_some_iff.1 k2).1 fun e => ?_).trans k2, k3⟩
      obtain ⟨_, ob, hob, hcc⟩ := hr Bx e.symm
      rw [k2] at hob; cases hob; cases hcc)
    ?assign ?body ?done ?stop
  case assign =>
    rintro l pre x W K ⟨⟨v, hv, hrow, _⟩, hB⟩ hK
    gi_wp2
    exact hK _ _ ((KeepsOthers.alloc _ _).from _) (Kp.grown (World.grownBy_alloc W _ none) hv.lt (fun r e => by cases e)) ⟨⟨v, hv.alloc _, hrow.alloc _, trivial⟩, hB.alloc hB.size _⟩ ⟨W.heap.size, hv.lt, heap_alloc_new W _, rfl⟩
  case body =>
    rintro l pre x a' W hl ⟨r, hr⟩ ⟨⟨v, hv, hrow, _⟩, hB⟩ ⟨Bx, hBx, bX, rfl⟩ hlt
    have hc := hv.cell
    have x0 : W.cell? ⟨Bx, 0, none⟩ = some (.int .i64 (x.c : Int)) := by rw [cell_of_row _ _ _ _ _ _ bX]; rfl
    have x1 : W.cell? ⟨Bx, 1, none⟩ = some (.int .i64 (x.f : Int)) := by rw [cell_of_row _ _ _ _ _ _ bX]; rfl
    have x2 : W.cell? ⟨Bx, 2, none⟩ = some (.int .i64 (x.n : Int)) := by rw [cell_of_row _ _ _ _ _ _ bX]; rfl
    obtain ⟨k, hk⟩ : ∃ k, k = pre.length := ⟨_, rfl⟩
    rw [← hk] at hrow hlt
    have HK := Lib.hid hk
    have HR := Lib.hid hrow
    have HR0 := Lib.hid (own_zero hrow)
    obtain ⟨sa, sc, rfl⟩ : ∃ a c, v = .slice a k c := by
      rcases hrow.2 with ⟨h, h0⟩ | ⟨g, cap, cur, h, _⟩
      · exact ⟨none, 0, by rw [h, h0]⟩
      · exact ⟨_, _, h⟩
    clear hk hrow bX
    gi_wp2_with (gi_at_builtin; refine wpListIn_append_home _ rfl _ _ 31 rfl 43 i0 _ 3 24 Try.underlying31 hi hz0 hz1 hz2 rfl (by decide) (.slice sa k sc) k (pcells pre) rfl (HR0.out.alloc _) ⟨W.heap.size, 0, none⟩ 1 1 [.int .i64 (x.c : Int), .int .i64 (x.f : Int), .int .i64 (x.n : Int)] rfl rfl (World.news_of_block (cs := #[.int .i64 (x.c : Int), .int .i64 (x.f : Int), .int .i64 (x.n : Int)]) (heap_alloc_new W _)) (by simp [Value.oneCell']) (by unfold maxLen; omega) (by omega) ?_; intro v' w3 hown' hgrow hat; obtain ⟨g', cap', rfl⟩ := ownsRow_succ hown'; obtain ⟨hv1, hv2, hr2, hk2, hb2, kp2⟩ := appended_all hv (by decide) HR.out hB.size (by omega) hown' hgrow (by simpa using hat); have hc1 := hv1.cell; have hf1 := hv1.frozen)
    exact ⟨hk2.from _, kp2, ⟨⟨_, hv2, by rw [pcells_snoc, List.length_append, ← HK.out]; exact hr2, trivial⟩, hB.trans hb2⟩⟩
  case done =>
    rintro D ys W hD rfl ⟨⟨v, hv, hrow, _⟩, hB⟩ hK
    have hc := hv.cell
    gi_wp2
    refine ⟨by simp, .inl ⟨_, _, rfl, run_takeDeferred hK, ?_⟩⟩
    exact ⟨_, results_tmp2 rfl _ _ _, v, rfl, ownsRow_putObj hrow _ hK rfl, hB.trans (belowK_b (w := w) (Nat.le_refl _) W D _ _ (by omega) hK rfl rfl)⟩
  case stop =>
    rintro D c pre W _ _ h _
    exact h.elim
end Geo
end Go.Proofs.Ytkjlcjiegoillaa
