/- The contract of All: all exceptions, by rising chunks, in new memory. -/
import Derived.Test.YtibemiiflibnaaaTabSmall
import Derived.Test.YtibemiiflibnaaaTabGaps
import Derived.Test.YtibemiiflibnaaaTabKeys
import Derived.Test.YtibemiiflibnaaaAppendHome
import Derived.LoopTactic
namespace Go.Proofs.Ytibemiiflibnaaa
namespace Tb
open Go.RowKit Dsk Go.Maps
set_option linter.unusedVariables false
set_option maxRecDepth 100000

/-- The cells of exceptions. -/
def ecells (l : List (Int × Int)) : List Value := l.flatMap fun x => [.int .i64 x.1, .int .i64 x.2]
theorem ecells_length (l : List (Int × Int)) : (ecells l).length = l.length * 2 := by
  unfold ecells
  induction l with
  | nil => rfl
  | cons x l ih => simp only [List.flatMap_cons, List.length_append, ih, List.length_cons, List.length_nil]; omega
theorem ecells_snoc (l : List (Int × Int)) (x : Int × Int) : ecells (l ++ [x]) = ecells l ++ [.int .i64 x.1, .int .i64 x.2] := by simp [ecells]
theorem ecells_get (l : List (Int × Int)) (i : Nat) (h : i < l.length) : (ecells l)[i * 2]? = some (.int .i64 l[i].1) ∧ (ecells l)[i * 2 + 1]? = some (.int .i64 l[i].2) := by
  induction l generalizing i with
  | nil => simp at h
  | cons x l ih =>
    have e : ecells (x :: l) = .int .i64 x.1 :: .int .i64 x.2 :: ecells l := rfl
    rw [e]
    cases i with
    | zero => simp
    | succ i =>
      have := ih i (by simpa using h)
      rw [show (i + 1) * 2 = i * 2 + 1 + 1 by omega]
      simpa using this
theorem two_one (x y : Int) : ∀ u ∈ ([.int .i64 x, .int .i64 y] : List Value), u.oneCell' = true := fun u hu => by
  rcases List.mem_cons.1 hu with rfl | hu
  · rfl
  · rw [List.mem_singleton.1 hu]; rfl
theorem info_entry : (Try.prog.info? 55).map (fun i => (i.zero, i.size, i.bytes)) = some (some (.agg #[.int .i64 0, .int .i64 0]), 2, 16) := by kernel_rfl
/-- A row of exceptions of one's own. -/
abbrev Ents (w : World) (v : Value) (l : List (Int × Int)) : Prop := w.ownsRow 0 55 2 v l.length (ecells l)
/-- 'append(l, Entry{x, y})', at the operation. -/
theorem wpList_addE {w : World} {ops : Array Oper} {rest : List Oper} {o : Oper} {a : Act} {Q : Exit → Act → World → Prop} (hgd : o.guard = none) (s x : Operand) (ho : o.op = .call { callee := .builtin .append, args := #[s, x], argTypes := #[51, 51] }) (v : Value) (n : Nat) (l : List (Int × Int)) (hs : a.eval s = v) (hn : n = l.length) (hl : n ≤ 1099511627776) (hown : w.ownsRow 0 55 2 v n (ecells l))
    (b : Nat) (y z : Int) (hx : a.eval x = .slice (some ⟨b, 0, none⟩) 1 1) (hc : w.heap[b]? = some (.cells #[.int .i64 y, .int .i64 z] 55 (0, 0)))
    (h : ∀ v' w', w'.ownsRow 0 55 2 v' (n + 1) (ecells (l ++ [(y, z)])) → Fr (fun k => v.ownBlock = some k) w w' → (∀ k, v'.ownBlock = some k → v.ownBlock = some k ∨ w.heap.size ≤ k) → wpList Try.prog ops Q rest (a.put o.dst v') w') : wpList Try.prog ops Q (o :: rest) a w := by
  obtain ⟨i0, hi, hz0, hz1, hz2⟩ := info_parts info_entry
  refine wpList_append_home hgd s x _ ho 55 i0 _ 2 16 Try.underlying51 hi hz0 hz1 hz2 rfl (by decide) v n (ecells l) hs hown ⟨b, 0, none⟩ 1 1 [.int .i64 y, .int .i64 z] hx rfl (World.news_of_block hc) (two_one y z) (by unfold maxLen; omega) (by omega) fun v' w' h1 h2 h3 => ?_
  refine h v' w' (by rw [ecells_snoc]; exact h1) (Fr.of_grown (F := fun k => v.ownBlock = some k) h2 fun k e => e) fun k hk => ?_
  rcases h3 with e | e
  · exact .inl (by rw [← e]; exact hk)
  · right
    rw [hk] at e
    injection e with e
    omega

theorem all_nil (w : World) : Calls Try.prog 22 #[.pointer none] w fun e w' => e = .returned (.slice none 0 0) ∧ w = w' := by
  go_enter Try.func22, Try.ntmps22
  go_wp2
  go_ret
  exact ⟨rfl, rfl⟩

/-- Between two rounds. -/
structure AllAt (w : World) (o : Ob) (m K : List Int) (kv sv : Value) (i : Nat) (wr : World) : Prop where
  tm : Tm wr o m
  kr : Ints wr kv K
  sr : wr.ownsRow 0 55 2 sv i (ecells ((all m).take i))
  new : ∀ k, sv.ownBlock = some k → w.heap.size ≤ k
  ne : ∀ k, sv.ownBlock = some k → kv.ownBlock ≠ some k
  below : Below w.heap.size w wr

set_option maxHeartbeats 1000000 in
theorem all_any {w : World} {o : Ob} {m : List Int} (h : Tm w o m) :
    Calls Try.prog 22 #[.pointer (some ⟨o.p, 0, none⟩)] w fun e w' => ∃ v, e = .returned v ∧ Ents w' v (all m) ∧ (∀ k, v.ownBlock = some k → w.heap.size ≤ k) ∧ Below w.heap.size w w' := by
  obtain ⟨i0, hi, hz0, hz1, hz2⟩ := info_parts info_entry
  have H := Lib.hid h
  obtain ⟨n, c, g, ht, hm⟩ := h
  obtain ⟨_, h1, _, _, _⟩ := ht.reads
  obtain ⟨D, hD, hk⟩ := ht.placeOf
  have hnd := used_nodup ht.pr.ok
  rw [used_full] at hnd
  obtain ⟨hperm, hsz⟩ := size_used hD hk hnd
  have hfew := ht.pr.few
  have hul : (used c).length ≤ c.length := used_length_le _
  have hcl := ht.pr.len
  have hplt := ht.lt o.p (.inl rfl)
  have hmlt := ht.lt o.mb (.inr (.inl rfl))
  have hsb : Maps.size D ≤ 1048576 := by omega
  obtain ⟨N, hN⟩ : ∃ N, N = Maps.size D := ⟨_, rfl⟩
  have HNA : Hid (N = (all m).length) := Lib.hid (by rw [all_length, ← hm, used_full, hN, hsz])
  have HD := Lib.hid hD
  have HK := Lib.hid hk
  have HN := Lib.hid hN
  have HM := Lib.hid hm
  have HPM := Lib.hid hperm
  have hNb : N ≤ 1048576 := by omega
  rw [hN.symm] at hsb
  -- behind make and maps.Keys
  have KY : Hid (∀ w1, Below w.heap.size w w1 → w1.cell? ⟨o.p, 1, none⟩ = some (.map (some o.mb)) ∧ w1.ownsMap Try.prog 3 (plainElem (H := Unit) Try.prog 3) o.mb (Maps.size D) D) := Lib.hid fun w1 hb =>
    ⟨(hb.cell (p := ⟨o.p, 1, none⟩) hplt).trans h1, map_same hD (hb.block o.mb hmlt)⟩
  have SN : Hid (∀ ss : List Int, ss.Perm (intKeys D) → ss.length = N) := Lib.hid fun ss hp => by rw [(hp.trans hperm.symm).length_eq, hN, hsz]
  have SK : Hid (∀ ss : List Int, ss.Perm (intKeys D) → ss.mergeSort (fun x y => decide (x ≤ y)) = keys m) := Lib.hid fun ss hp => by
    unfold keys
    rw [← hm, used_full]
    exact mergeSort_of_perm_i (hp.trans hperm.symm)
  have EN : Hid (∀ (i : Nat) (k : Int), (keys m)[i]? = some k → (Lit.int .i64 k).wf = true ∧ (all m)[i]? = some (entry m k) ∧ ∀ x : Int, D.atKey (.int .i64 k) (.lit (.int .i64 0)) = .lit (.int .i64 x) → (k, x) = entry m k) := Lib.hid fun i k hi => by
    have hkm := keys_mem.1 (List.mem_of_getElem? hi)
    obtain ⟨j, hj⟩ := List.getElem?_of_mem hkm.1
    have hv := ht.pr.ok.vals k (by rw [hm]; exact hkm.1)
    have hj' := hj
    rw [← hm] at hj'
    have hc := full_used hj' hkm.2
    refine ⟨by simp [Lit.wf, IntKind.min, IntKind.max, IntKind.signed, IntKind.bits]; omega, by unfold all; rw [List.getElem?_map, hi]; rfl, fun x hx => ?_⟩
    have h1 := hk.2.2 j k hc hkm.2 (.lit (.int .i64 0))
    rw [hx] at h1
    injection h1 with h1
    injection h1 with _ h1
    unfold entry
    rw [H.out.ok.find hkm.2 hj, h1]
    rfl
  clear hD hk hnd hperm hsz hfew hul hcl hm hN
  go_enter Try.func22, Try.ntmps22
  go_wp2_with (first
    | (at_len; refine wpList_len_own _ rfl _ 57 rfl 3 3 Try.underlying57 _ o.mb (Maps.size D) D rfl HD.out ?_; rw [← HN.out])
    | (at_make; refine wpList_make_own _ rfl _ _ 51 rfl 0 55 i0 _ 2 Try.underlying51 hi hz0 hz1 .i64 .i64 _ N rfl rfl rfl (by rw [hz2]; omega) (by unfold maxLen; omega) (Nat.zero_le _) ?_; intro w1 hr1 hg1; have R1 := Lib.hid hr1; have B1 := Lib.hid ((Below.refl _ w).grown hg1 (Nat.le_refl _) (fun k e => by cases e)); have c1 := (KY.out w1 B1.out).1; clear hr1 hg1 h1)
    | (go_at_call 44; refine (keys_any _ _).mono ?_; rintro e w2 ⟨rfl, hw2⟩; have B2 : Hid (Below w.heap.size w w2) := Lib.hid (by rw [hw2]; exact B1.out.alloc B1.out.size _); have W2 := Lib.hid hw2; have SO := Lib.hid (sorted_any w1.heap.size o.mb (Maps.size D) D _ w2 (by rw [hw2]; simp) (by rw [hw2]; simp) (KY.out w2 B2.out).2 (by rw [← HN.out]; exact hNb)); clear hw2)
    | (go_at_call 43; refine SO.out.mono ?_; rintro e w3 ⟨kv, ss, rfl, hp3, hr3, hn3, hb3⟩; have P3 := Lib.hid hp3; have R3 := Lib.hid hr3; have B3 := Lib.hid (B2.out.trans (hb3.mono B2.out.size)); have B23 := Lib.hid hb3; obtain ⟨ka, kc, hkv⟩ := own_slice hr3; have hsn : ss.length = N := SN.out ss hp3; rw [hsn] at hkv; have HSN := Lib.hid hsn; subst hkv; clear hp3 hr3 hn3 hb3 hsn))
  have A0 : Hid (AllAt w o m (keys m) (.slice ka N kc) (.slice (some ⟨w.heap.size, 0, none⟩) 0 N) 0 w3) := by
    have hr3 := R3.out
    rw [SK.out ss P3.out, HSN.out] at hr3
    have hkl : (keys m).length = N := by rw [keys_length, ← all_length, ← HNA.out]
    have hb12 : Below w1.heap.size w1 w2 := by rw [W2.out]; exact (Below.refl _ _).alloc (Nat.le_refl _) _
    have hb13 := hb12.trans (B23.out.mono hb12.size)
    have hlt1 : w.heap.size < w1.heap.size := by
      rcases R1.out.2 with ⟨h1, _⟩ | ⟨b, cap, cur, hv, _, hh, _⟩
      · cases h1
      · injection hv with hv; injection hv with hv; injection hv with hv; rw [hv]; exact lt_of_heap hh
    have hle12 := hb12.size
    refine Lib.hid ⟨H.out.below B3.out, ?_, ?_, fun k hk => ?_, fun k hk => ?_, B3.out⟩
    · show World.ownsRow _ _ _ _ _ _ _
      rw [hkl]
      exact ⟨hr3.1, hr3.2.imp id fun ⟨b, cap, cur, h1, h2, h3⟩ => ⟨b, cap, cur, h1, Nat.zero_le _, h3⟩⟩
    · exact own_same R1.out fun k hk => by injection hk with hk; have hk : w.heap.size = k := hk; rw [← hk]; exact hb13.block _ hlt1
    · injection hk with hk; have hk : w.heap.size = k := hk; omega
    · injection hk with hk
      have hk : w.heap.size = k := hk
      intro e
      rcases hr3.2 with ⟨h1, _⟩ | ⟨b, cap, cur, hv, hb, _⟩
      · rw [h1] at e; cases e
      · rw [hv] at e; injection e with e; have e : b = k := e; omega
  clear R1 B1 c1 W2 SO P3 R3 B23 B2 B3 SN SK HSN HPM HK
  go_loopw [21, 3] (fun v s wr => ∃ (k : Nat) (sv : Value), v = .int .i64 (k : Int) ∧ s = sv ∧ k ≤ N ∧ Hid (AllAt w o m (keys m) (.slice ka N kc) sv k wr)) (fun v _ _ => N - (Lib.intOf v).toNat)
  case atStart => exact ⟨0, _, rfl, rfl, Nat.zero_le _, A0⟩
  case round =>
    obtain ⟨k, sv, rfl, rfl, hkN, hat⟩ := hrel
    by_cases hlt : k < N
    · have d1 : decide ((k : Int) < (N : Int)) = true := by simp; omega
      have d2 : decide (k < N) = true := by simp; omega
      have hkl : (keys m).length = N := by rw [keys_length, ← all_length, ← HNA.out]
      have hrow := hat.out.kr
      have hrow' : Ints wr (.slice ka (keys m).length kc) (keys m) := by rw [hkl]; exact hrow
      obtain ⟨b, hab, hb, hc, _⟩ := ints_cell hrow' k (by omega)
      subst hab
      obtain ⟨x, hx⟩ : ∃ x, x = Hp.at_ (keys m) k := ⟨_, rfl⟩
      have hkx : (keys m)[k]? = some x := by rw [hx]; exact Hp.at_get _ _ (by omega)
      rw [← hx] at hc
      obtain ⟨hwf, hall, hent⟩ := EN.out k x hkx
      have hKEY : Hid (keyOf Try.prog 3 (.int .i64 x) = some (.int .i64 x)) := Lib.hid (int_key x hwf)
      obtain ⟨c1, hown⟩ := KY.out wr hat.out.below
      have HO := Lib.hid hown
      obtain ⟨sa, sc, hsv⟩ := own_slice hat.out.sr
      subst hsv
      have HE := Lib.hid hent
      have HA := Lib.hid hall
      have HKN : Hid (k = ((all m).take k).length) := Lib.hid (by have := HNA.out; simp; omega)
      have OWN : Hid (∀ y : Int, (wr.alloc (.cells #[.int .i64 x, .int .i64 y] 55)).ownsRow 0 55 2 (.slice sa k sc) k (ecells ((all m).take k))) := Lib.hid fun y =>
        own_same hat.out.sr fun j hj => Below.heap_alloc _ _ _ (by obtain ⟨cur, hcc⟩ := own_block hat.out.sr j hj; exact lt_of_heap hcc)
      have FIN : Hid (∀ (y : Int) v' w4, (x, y) = entry m x → w4.ownsRow 0 55 2 v' (k + 1) (ecells ((all m).take k ++ [(x, y)])) → Fr (fun j => (Value.slice sa k sc).ownBlock = some j) (wr.alloc (.cells #[.int .i64 x, .int .i64 y] 55)) w4 →
          (∀ j, v'.ownBlock = some j → (Value.slice sa k sc).ownBlock = some j ∨ (wr.alloc (.cells #[.int .i64 x, .int .i64 y] 55)).heap.size ≤ j) → AllAt w o m (keys m) (.slice (some ⟨b, 0, none⟩) N kc) v' (k + 1) w4) := Lib.hid fun y v' w4 he hr4 hf4 hv4 => by
        have hal : Below wr.heap.size wr (wr.alloc (.cells #[.int .i64 x, .int .i64 y] 55)) := (Below.refl _ _).alloc (Nat.le_refl _) _
        have hF : Fr (fun j => (Value.slice sa k sc).ownBlock = some j) wr w4 := (Fr.of_below hal).trans hf4 (fun _ _ e => e)
        have hws := hat.out.below.size
        have hsz : (wr.alloc (.cells #[.int .i64 x, .int .i64 y] 55)).heap.size = wr.heap.size + 1 := by simp
        refine ⟨hat.out.tm.keep hF fun j hj hs => ?_, own_same hat.out.kr fun j hj => hF.block j ?_ (fun e => hat.out.ne j e hj), ?_, fun j hj => ?_, fun j hj => ?_, ?_⟩
        · have h1 := hat.out.new j hs
          have h2 := H.out.lt j hj
          omega
        · obtain ⟨cur, hcc⟩ := own_block hat.out.kr j hj; exact lt_of_heap hcc
        · rw [List.take_add_one, HA.out, ← he]
          exact hr4
        · rcases hv4 j hj with e | e
          · exact hat.out.new j e
          · omega
        · rcases hv4 j hj with e | e
          · exact hat.out.ne j e
          · intro c
            obtain ⟨cur, hcc⟩ := own_block hat.out.kr j c
            have := lt_of_heap hcc
            omega
        · exact hat.out.below.trans (hF.below hat.out.below.size fun j hj => hat.out.new j hj)
      clear hx hkx hwf hall hent hrow hrow' hown
      go_wp2_with (first
        | (at_lookup; refine wpList_lookup_own_int _ rfl _ _ 57 rfl 3 3 .i64 int_law Try.underlying57 Try.underlying3 (zero_int _) o.mb (Maps.size D) D rfl HO.out _ (.int .i64 x) rfl hKEY.out ?_; intro y hy hwy; have HY := Lib.hid (HE.out y hy); clear hy hwy)
        | (at_builtin; refine wpList_addE rfl (.tmp 25) (.tmp 34) rfl (.slice sa k sc) k ((all m).take k) rfl HKN.out (by omega) (OWN.out y) wr.heap.size x y rfl (heap_alloc_new _ _) ?_; intro v' w4 hr4 hf4 hv4; have F4 := Lib.hid (FIN.out y v' w4 HY.out hr4 hf4 hv4); clear hr4 hf4 hv4))
      go_roundw
      case rel => exact ⟨k + 1, _, by go_num, rfl, by omega, F4⟩
      case measure => simp [Lib.intOf]; omega
    · obtain rfl : k = N := by omega
      have d1 : decide ((k : Int) < (k : Int)) = false := by simp
      have d2 : decide (k < k) = false := by simp
      go_wp2
      go_ret
      have hr := hat.out.sr
      rw [HNA.out, List.take_length] at hr
      exact ⟨_, rfl, hr, hat.out.new, hat.out.below⟩
end Tb
end Go.Proofs.Ytibemiiflibnaaa
