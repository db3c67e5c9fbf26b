/- The contract of the document's numbers. -/
import Derived.Test.YtheldnamllnkeaaDoorDmpGet
import Derived.Test.YtheldnamllnkeaaDoorDmpWords
import Derived.Test.YtheldnamllnkeaaDoorDmpNumC
namespace Go.Proofs.YtheldnamllnkeaaDoor
namespace Pd
open Go.RowKit Dsk Go.Maps
set_option maxRecDepth 100000
set_option linter.unusedVariables false

/-- The cells of ints. -/
def icells (l : List Nat) : List Value := l.map fun x => .int .i64 ((x : Nat) : Int)
theorem icells_length (l : List Nat) : (icells l).length = l.length := List.length_map ..
theorem icells_snoc (l : List Nat) (x : Nat) : icells (l ++ [x]) = icells l ++ [.int .i64 (x : Int)] := by simp [icells]
theorem info_int : (Tryd.prog.info? 3).map (fun i => (i.zero, i.size, i.bytes)) = some (some (.int .i64 0), 1, 8) := by kernel_rfl
abbrev Ints (w : World) (v : Value) (l : List Nat) : Prop := w.ownsRow 0 3 1 v l.length (icells l)
/-- 'append(l, n)', at the operation. -/
theorem wpList_addI {w : World} {ops : Array Oper} {rest : List Oper} {o : Oper} {a : Act} {Q : Exit → Act → World → Prop} (hgd : o.guard = none) (s x : Operand) (ho : o.op = .call { callee := .builtin .append, args := #[s, x], argTypes := #[60, 60] })
    (v : Value) (l : List Nat) (hs : a.eval s = v) (hown : Ints w v l) (hn : l.length ≤ 1000000)
    (b : Nat) (y : Nat) (hx : a.eval x = .slice (some ⟨b, 0, none⟩) 1 1) (hc : w.heap[b]? = some (.cells #[.int .i64 (y : Int)] 3 (0, 0)))
    (h : ∀ v' w', Ints w' v' (l ++ [y]) → Fr (fun k => v.ownBlock = some k) w w' → (∀ k, v'.ownBlock = some k → v.ownBlock = some k ∨ w.heap.size ≤ k) → wpList Tryd.prog ops Q rest (a.put o.dst v') w') : wpList Tryd.prog ops Q (o :: rest) a w := by
  obtain ⟨i0, hi, hz0, hz1, hz2⟩ := info_parts info_int
  refine wpList_append_home hgd s x _ ho 3 i0 _ 1 8 Tryd.underlying60 hi hz0 hz1 hz2 rfl (by decide) v l.length (icells l) hs hown ⟨b, 0, none⟩ 1 1 [.int .i64 (y : Int)] hx rfl (World.news_of_block hc) (fun u hu => by rw [List.mem_singleton.1 hu]; rfl) (by unfold maxLen; omega) (by omega) ?_
  intro v' w' h1 h2 h3
  refine h v' w' (by unfold Ints; rw [icells_snoc, List.length_append]; exact h1) (Fr.of_grown (F := fun k => v.ownBlock = some k) h2 fun k e => e) fun k hk => ?_
  rcases h3 with e | e
  · exact .inl (by rw [← e]; exact hk)
  · right
    rw [hk] at e
    injection e with e
    omega
/-- A row of ints grows in new memory. -/
structure GrowsI (w : World) (l : List Nat) (v : Value) (wr : World) : Prop where
  row : Ints wr v l
  new : ∀ k, v.ownBlock = some k → w.heap.size ≤ k
  below : Below w.heap.size w wr
theorem GrowsI.nil {w wr : World} (hb : Below w.heap.size w wr) : GrowsI w [] (.slice none 0 0) wr := ⟨World.ownsRow_nil _ _ _ _, fun k hk => (by cases hk), hb⟩
theorem GrowsI.more {w wr w' : World} {l : List Nat} {v : Value} (h : GrowsI w l v wr) (hb : Below wr.heap.size wr w') : GrowsI w l v w' := ⟨own_below h.row hb, h.new, bgo h.below (Nat.le_refl _) hb⟩
theorem GrowsI.add {w wr w' : World} {l : List Nat} {v v' : Value} {y : Nat} (h : GrowsI w l v wr) (h1 : Ints w' v' (l ++ [y])) (h2 : Fr (fun k => v.ownBlock = some k) wr w') (h3 : ∀ k, v'.ownBlock = some k → v.ownBlock = some k ∨ wr.heap.size ≤ k) : GrowsI w (l ++ [y]) v' w' := by
  refine ⟨h1, fun k hk => ?_, h.below.trans (h2.below h.below.size fun k hk => h.new k hk)⟩
  rcases h3 k hk with e | e
  · exact h.new k e
  · exact Nat.le_trans h.below.size e
theorem GrowsI.at_ {w wr : World} {v : Value} {l : List Nat} (h : GrowsI w l v wr) (hne : l ≠ []) : ∃ g cap, v = .slice (some ⟨g, 0, none⟩) l.length cap ∧ g < wr.heap.size ∧ ∀ (i : Nat) x, l[i]? = some x → wr.cell? ⟨g, i, none⟩ = some (.int .i64 ((x : Nat) : Int)) := by
  have hr := h.row
  rcases hr.2 with ⟨h1, h2⟩ | ⟨g, cap, cur, hv, _, hh, _⟩
  · exact absurd (List.eq_nil_of_length_eq_zero h2) hne
  · refine ⟨g, cap, hv, (Array.getElem?_eq_some_iff.1 hh).1, fun i x hx => ?_⟩
    subst hv
    rw [hr.cellAt i (by have := (List.getElem?_eq_some_iff.1 hx).1; omega)]
    simp [icells, hx]
/-- What numbers tells. -/
def NumsIs (r : Option (List Nat)) (w : World) (e : Ending) (w' : World) : Prop := match r with
  | none => e = .returned (.tuple #[.slice none 0 0, .bool false]) ∧ Below w.heap.size w w'
  | some l => ∃ v, e = .returned (.tuple #[v, .bool true]) ∧ GrowsI w l v w'
theorem NumsIs.no {r : Option (List Nat)} {w w' : World} (h : r = none) (hb : Below w.heap.size w w') : NumsIs r w (.returned (.tuple #[.slice none 0 0, .bool false])) w' := by rw [h]; exact ⟨rfl, hb⟩
theorem NumsIs.yes {r : Option (List Nat)} {w w' : World} {v : Value} {l : List Nat} (h : r = some l) (hg : GrowsI w l v w') : NumsIs r w (.returned (.tuple #[v, .bool true])) w' := by rw [h]; exact ⟨v, rfl, hg⟩
theorem getR_hash {x : List UInt8} {n : Nat} {xs ys : List (List UInt8)} (hn : numR x = some n) : getR (x :: xs) ([35] :: ys) = (getR xs ys).map (n :: ·) := by
  show (if _ then _ else _) = _
  rw [if_pos rfl, hn]
  rfl
theorem getR_bad {x : List UInt8} {xs ys : List (List UInt8)} (hn : numR x = none) : getR (x :: xs) ([35] :: ys) = none := by
  show (if _ then _ else _) = _
  rw [if_pos rfl, hn]
  rfl
theorem drop_get {α : Type} {f : List α} {j : Nat} {c : α} (h : f[j]? = some c) : f.drop j = c :: f.drop (j + 1) := by
  have hl := (List.getElem?_eq_some_iff.1 h).1
  rw [List.drop_eq_getElem_cons hl, (List.getElem?_eq_some_iff.1 h).2]
set_option maxHeartbeats 4000000 in
theorem rnums_any (s f : List UInt8) (w : World) (hs : s.length ≤ 900000) (hf : f.length ≤ 900000) : Calls Tryd.prog 25 #[.string (Om.B s), .string (Om.B f)] w (NumsIs (getR (words s) (words f)) w) := by
  obtain ⟨A, hA⟩ : ∃ A, A = words s := ⟨_, rfl⟩
  obtain ⟨B, hB⟩ : ∃ B, B = words f := ⟨_, rfl⟩
  have WA := Lib.hid (fun W => rwords_any s W hs)
  have WB := Lib.hid (fun W => rwords_any f W hf)
  have LA := Lib.hid (words_len s)
  have LB := Lib.hid (words_len f)
  have HS := Lib.hid hs
  have HF := Lib.hid hf
  have NA : Hid (A ≠ []) := Lib.hid (by rw [hA]; exact words_ne s)
  have NB : Hid (B ≠ []) := Lib.hid (by rw [hB]; exact words_ne f)
  have AL : Hid (A.length ≤ 1000000) := Lib.hid (by rw [hA]; have := LA.out.1; have := HS.out; omega)
  have AX : Hid (∀ x ∈ A, x.length ≤ 4294967295) := Lib.hid (by rw [hA]; intro x hx; have := LA.out.2 x hx; have := HS.out; omega)
  rw [← hA] at WA ⊢
  rw [← hB] at WB ⊢
  clear hA hB LA LB HS HF hs hf
  go_enter Tryd.func25, Tryd.ntmps25
  go_wp2_with fail
  refine (WA.out w).mono ?_
  rintro e w1 ⟨va, rfl, ha⟩
  obtain ⟨ga, ca, rfl, hga, _, hca⟩ := strs_at ha.row NA.out
  have GA := Lib.hid ha
  have LGA := Lib.hid hga
  have CA := Lib.hid hca
  clear ha hga hca
  go_wp2_with fail
  refine (WB.out w1).mono ?_
  rintro e w2 ⟨vb, rfl, hb⟩
  obtain ⟨gb, cb, rfl, hgb, _, hcb⟩ := strs_at hb.row NB.out
  have GB := Lib.hid hb
  have LGB := Lib.hid hgb
  have CB := Lib.hid hcb
  have B2 : Hid (Below w.heap.size w w2) := Lib.hid (bgo GA.out.below (Nat.le_refl _) hb.below)
  clear hb hgb hcb
  obtain ⟨m, hm⟩ : ∃ m, m = A.length := ⟨_, rfl⟩
  obtain ⟨k, hk⟩ : ∃ k, k = B.length := ⟨_, rfl⟩
  have MM := Lib.hid hm
  have KK := Lib.hid hk
  rw [← hm, ← hk]
  have hm6 : m ≤ 1000000 := by rw [hm]; exact AL.out
  clear hm hk WA WB
  by_cases hne : m = k
  · subst hne
    have d0 : ((m : Int) == (m : Int)) = true := by simp
    have RA : Hid (∀ W, Below w2.heap.size w2 W → ∀ (i : Nat) x, A[i]? = some x → W.cell? ⟨ga, i, none⟩ = some (.string (Om.B x))) := Lib.hid fun W hb i x hx => by
      have h := CA.out i x hx
      rw [Nat.zero_add] at h
      have b1 := GB.out.below
      exact (hb.cell (p := ⟨ga, i, none⟩) (Nat.lt_of_lt_of_le LGA.out b1.size)).trans ((b1.cell (p := ⟨ga, i, none⟩) LGA.out).trans h)
    have RB : Hid (∀ W, Below w2.heap.size w2 W → ∀ (i : Nat) x, B[i]? = some x → W.cell? ⟨gb, i, none⟩ = some (.string (Om.B x))) := Lib.hid fun W hb i x hx => by
      have h := CB.out i x hx
      rw [Nat.zero_add] at h
      exact (hb.cell (p := ⟨gb, i, none⟩) LGB.out).trans h
    go_wp2
    go_loopw [8, 9] (fun o i wr => ∃ (acc : List Nat) (j : Nat), i = .int .i64 (j : Int) ∧ j ≤ m ∧ acc.length ≤ j ∧ Hid (GrowsI w2 acc o wr) ∧ Hid (getR A B = (getR (A.drop j) (B.drop j)).map (acc ++ ·))) (fun _ i _ => m - (Lib.intOf i).toNat)
    case atStart => exact ⟨[], 0, rfl, Nat.zero_le _, Nat.le_refl _, Lib.hid (GrowsI.nil (Below.refl _ _)), Lib.hid (by rw [List.drop_zero, List.drop_zero]; cases getR A B <;> rfl)⟩
    case round =>
      obtain ⟨acc, j, rfl, hj, hacc, hg, hget⟩ := hrel
      obtain ⟨wo, rfl⟩ : ∃ wo, wo = wr := ⟨_, rfl⟩
      obtain ⟨uo, rfl⟩ : ∃ uo, uo = u8 := ⟨_, rfl⟩
      by_cases hlt : j < m
      · have hja : j < A.length := by rw [← MM.out]; exact hlt
        have hjb : j < B.length := by rw [← KK.out]; exact hlt
        obtain ⟨x, hx⟩ : ∃ x, A[j]? = some x := ⟨A[j], List.getElem?_eq_getElem hja⟩
        obtain ⟨y, hy⟩ : ∃ y, B[j]? = some y := ⟨B[j], List.getElem?_eq_getElem hjb⟩
        have ca := RA.out wo hg.out.below j x hx
        have cb' := RB.out wo hg.out.below j y hy
        have STEP : Hid (getR A B = (getR (x :: A.drop (j + 1)) (y :: B.drop (j + 1))).map (acc ++ ·)) := Lib.hid (by rw [← drop_get hx, ← drop_get hy]; exact hget.out)
        have XL : Hid (x.length ≤ 4294967295) := Lib.hid (AX.out x (List.mem_of_getElem? hx))
        have HJM := Lib.hid hlt
        have HACC := Lib.hid hacc
        have BW : Hid (Below w.heap.size w wo) := Lib.hid (bgo B2.out (Nat.le_refl _) hg.out.below)
        have d2 : decide ((j : Int) < (m : Int)) = true := by simp; omega
        have d2' : decide (j < m) = true := by simp; omega
        have j0 : (0 : Int) ≤ (j : Int) := by omega
        have j1 : (j : Int) < (m : Int) := by omega
        have hw1 : IntKind.i64.wrap ((j : Int) + 1) = ((j + 1 : Nat) : Int) := by rw [IntWalk.i64_in _ (by omega)]; rfl
        clear hja hjb hx hy
        by_cases h35 : y = [35]
        · subst h35
          have e35 : ((Om.B [35]).toList == ([35] : List UInt8)) = true := b_is rfl
          have RN := Lib.hid (rnumber_any x wo XL.out)
          unfold RNumIs at RN
          cases hn : numR x with
          | none =>
            rw [hn] at RN
            have NO : Hid (getR A B = none) := Lib.hid (by rw [STEP.out, getR_bad hn]; rfl)
            clear hn
            go_wp2_with fail
            refine RN.out.mono ?_
            rintro e w3 ⟨rfl, rfl⟩
            clear ca cb'
            go_wp2
            go_ret2
            exact NumsIs.no NO.out BW.out
          | some n =>
            rw [hn] at RN
            have NX : Hid (getR A B = (getR (A.drop (j + 1)) (B.drop (j + 1))).map (acc ++ [n] ++ ·)) := Lib.hid (by
              rw [STEP.out, getR_hash hn, Option.map_map]
              congr 1
              funext l
              simp)
            clear hn
            go_wp2_with fail
            refine RN.out.mono ?_
            rintro e w3 ⟨rfl, rfl⟩
            clear ca cb'
            obtain ⟨W8, hW8⟩ : ∃ W8, wo.alloc (.cells #[.int .i64 (n : Int)] 3) = W8 := ⟨_, rfl⟩
            have B8 : Hid (Below wo.heap.size wo W8) := Lib.hid (by rw [← hW8]; exact (Below.refl _ _).alloc (Nat.le_refl _) _)
            have C8 : Hid (W8.heap[wo.heap.size]? = some (.cells #[.int .i64 (n : Int)] 3 (0, 0))) := Lib.hid (by rw [← hW8]; exact heap_alloc_new _ _)
            have LU : Hid (acc.length ≤ 1000000) := Lib.hid (by omega)
            go_wp2_with (at_builtin; refine wpList_addI rfl _ _ rfl uo acc rfl (own_below hg.out.row B8.out) LU.out _ n rfl C8.out ?_; refine Hid.out ?_)
            refine Lib.hid ?_
            intro v9 w9 h1 h2 h3
            have G9 := Lib.hid ((hg.out.more B8.out).add h1 h2 h3)
            clear h1 h2 h3 hW8
            go_wp2
            go_roundw
            case rel => exact ⟨acc ++ [n], j + 1, by go_num, by have := HJM.out; omega, by have := HACC.out; rw [List.length_append, List.length_singleton]; omega, G9, NX⟩
            case measure => have := HJM.out; simp [Lib.intOf]; omega
        · have e35 : ((Om.B y).toList == ([35] : List UInt8)) = false := b_isnt h35
          by_cases hxy : x = y
          · subst hxy
            have exy : ((Om.B x).toList == (Om.B x).toList) = true := by simp
            have NX : Hid (getR A B = (getR (A.drop (j + 1)) (B.drop (j + 1))).map (acc ++ ·)) := Lib.hid (by rw [STEP.out, get_same h35])
            go_wp2_with fail
            go_quiet (fail)
            go_wp2
            go_roundw
            case rel => exact ⟨acc, j + 1, by go_num, by have := HJM.out; omega, by have := HACC.out; omega, Lib.hid (hg.out.more (below_drewN (Below.refl _ _) _)), NX⟩
            case measure => have := HJM.out; simp [Lib.intOf]; omega
          · have exy : ((Om.B x).toList == (Om.B y).toList) = false := by rw [beq_eq_false_iff_ne, b_toList, b_toList]; exact hxy
            have NO : Hid (getR A B = none) := Lib.hid (by rw [STEP.out, get_other h35 hxy]; rfl)
            go_wp2_with fail
            go_quiet (fail)
            go_wp2
            go_ret2
            exact NumsIs.no NO.out (bgo BW.out (Nat.le_refl _) (below_drewN (Below.refl _ _) _))
      · obtain rfl : j = m := by omega
        have d2 : decide ((j : Int) < (j : Int)) = false := by simp
        have d2' : decide (j < j) = false := by simp
        have YES : Hid (getR A B = some acc) := Lib.hid (by
          have h := hget.out
          rw [MM.out, List.drop_length] at h
          rw [h, ← MM.out, KK.out, List.drop_length]
          show some (acc ++ []) = _
          rw [List.append_nil])
        have GG : Hid (GrowsI w acc uo wo) := Lib.hid ⟨hg.out.row, fun k hk => Nat.le_trans B2.out.size (hg.out.new k hk), bgo B2.out (Nat.le_refl _) hg.out.below⟩
        go_wp2
        go_ret2
        exact NumsIs.yes YES.out GG.out
  · have d0 : ((m : Int) == (k : Int)) = false := by simp; omega
    have NO : Hid (getR A B = none) := Lib.hid (getR_len A B (by rw [← MM.out, ← KK.out]; exact hne))
    go_wp2
    go_ret2
    exact NumsIs.no NO.out B2.out
end Pd
end Go.Proofs.YtheldnamllnkeaaDoor
