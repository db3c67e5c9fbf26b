/- Part 17 of the contracts and of the plain mathematics that the proof of the law rests on: TabKeys, Ents, TabAll, TabPages, StoLay, StoOpen. -/
import Derived.Test.YtbmabcddciibfaaGreatWr02
import Derived.Test.YtbmabcddciibfaaGreatWr03
import Derived.Test.YtbmabcddciibfaaGreatWr04
import Derived.Test.YtbmabcddciibfaaGreatWr06
import Derived.Test.YtbmabcddciibfaaGreatWr07
import Derived.Test.YtbmabcddciibfaaGreatWr08
import Derived.Test.YtbmabcddciibfaaGreatWr13
import Derived.Test.YtbmabcddciibfaaGreatWr15
import Derived.Test.YtbmabcddciibfaaGreatWr16
import Derived.Shelf.SlIterI.Nil
import Derived.Shelf.SortM.Plain
import Derived.Shelf.SortM.SortNone
import Derived.Test.YtbmabcddciibfaaGreatProg
import Derived.Deep.AppendLies
import Derived.Lib.Agree
import Derived.LoopTactic
namespace Go.Proofs.YtbmabcddciibfaaGreat
namespace Tb
open Go.Shelf Go.RowKit Go.Maps Go.Sort
def lay_keys_ren : Go.Shelf.Ren := ⟨fun | 6 => 107 | 7 => 108 | 8 => 137 | 9 => 134 | 10 => 138 | 11 => 164 | 12 => 156 | 13 => 157 | 14 => 174 | 15 => 175 | 16 => 176 | 17 => 177 | 18 => 178 | 19 => 179 | 20 => 180 | 21 => 181 | 22 => 182 | 23 => 183 | 24 => 184 | 25 => 194 | 26 => 195 | 28 => 197 | 29 => 198 | 30 => 199 | 31 => 206 | n => n, fun | 0 => 0 | 3 => 3 | 4 => 4 | 20 => 20 | 21 => 21 | 22 => 96 | 23 => 96 | 24 => 31 | 26 => 3 | 27 => 157 | 28 => 158 | 33 => 74 | 37 => 202 | 39 => 219 | 40 => 220 | 45 => 123 | 48 => 26 | 50 => 166 | 51 => 240 | 55 => 244 | 57 => 254 | 58 => 255 | 70 => 246 | 75 => 257 | n => n, fun | n => n⟩
set_option maxRecDepth 100000 in
theorem lay_keys : SlLaysZI.n7 Tryz.prog lay_keys_ren := {
  mixed := by kernel_rfl
  f7 := ⟨Tryz.f108.name, by kernel_rfl, Tryz.func108.trans (congrArg some (by kernel_rfl))⟩
  f10 := ⟨Tryz.f138.name, by kernel_rfl, Tryz.func138.trans (congrArg some (by kernel_rfl))⟩
  t0 := Tryz.underlying0
  a0 := Tryz.isAgg0
  z0 := Tryz.sizeOf0
  v0 := Tryz.zeroValue0
  t4 := Tryz.underlying4
  a4 := Tryz.isAgg4
  z4 := Tryz.sizeOf4
  v4 := Tryz.zeroValue4
  t23 := Tryz.underlying96
  a23 := Tryz.isAgg96
  z23 := Tryz.sizeOf96
  v23 := Tryz.zeroValue96
  t26 := Tryz.underlying3
  a26 := Tryz.isAgg3
  z26 := Tryz.sizeOf3
  v26 := Tryz.zeroValue3
  t27 := Tryz.underlying157
  a27 := Tryz.isAgg157
  z27 := Tryz.sizeOf157
  v27 := Tryz.zeroValue157
  t28 := Tryz.underlying158
  a28 := Tryz.isAgg158
  z28 := Tryz.sizeOf158
  v28 := Tryz.zeroValue158
  t33 := Tryz.underlying74
  a33 := Tryz.isAgg74
  z33 := Tryz.sizeOf74
  v33 := Tryz.zeroValue74 }
def lay_sorted_ren : Go.Shelf.Ren := ⟨fun | 6 => 107 | 7 => 108 | 8 => 137 | 9 => 134 | 10 => 138 | 11 => 164 | 12 => 156 | 13 => 157 | 14 => 174 | 15 => 175 | 16 => 176 | 17 => 177 | 18 => 178 | 19 => 179 | 20 => 180 | 21 => 181 | 22 => 182 | 23 => 183 | 24 => 184 | 25 => 194 | 26 => 195 | 28 => 197 | 29 => 198 | 30 => 199 | 31 => 206 | n => n, fun | 0 => 0 | 20 => 20 | 21 => 21 | 22 => 96 | 23 => 96 | 24 => 31 | 26 => 3 | 28 => 158 | 33 => 74 | 37 => 202 | 39 => 219 | 40 => 220 | 45 => 123 | 48 => 26 | 50 => 166 | 51 => 240 | 55 => 244 | 57 => 254 | 58 => 255 | 70 => 246 | 75 => 257 | n => n, fun | n => n⟩
set_option maxRecDepth 100000 in
theorem lay_sorted : SlLaysZI.n6 Tryz.prog lay_sorted_ren := {
  mixed := by kernel_rfl
  f6 := ⟨Tryz.f107.name, by kernel_rfl, Tryz.func107.trans (congrArg some (by kernel_rfl))⟩
  f8 := ⟨Tryz.f137.name, by kernel_rfl, Tryz.func137.trans (congrArg some (by kernel_rfl))⟩
  f11 := ⟨Tryz.f164.name, by kernel_rfl, Tryz.func164.trans (congrArg some (by kernel_rfl))⟩
  t0 := Tryz.underlying0
  a0 := Tryz.isAgg0
  z0 := Tryz.sizeOf0
  v0 := Tryz.zeroValue0
  t24 := Tryz.underlying31
  a24 := Tryz.isAgg31
  z24 := Tryz.sizeOf31
  v24 := Tryz.zeroValue31
  t26 := Tryz.underlying3
  a26 := Tryz.isAgg3
  z26 := Tryz.sizeOf3
  v26 := Tryz.zeroValue3
  t28 := Tryz.underlying158
  a28 := Tryz.isAgg158
  z28 := Tryz.sizeOf158
  v28 := Tryz.zeroValue158
  i26 := by kernel_rfl }
def lay_isort_ren : Go.Shelf.Ren := ⟨fun | 5 => 134 | 7 => 156 | 8 => 157 | 10 => 174 | 11 => 175 | 12 => 176 | 13 => 177 | 14 => 178 | 15 => 179 | 16 => 180 | 17 => 181 | 18 => 182 | 19 => 183 | 20 => 184 | 30 => 194 | 31 => 195 | 32 => 196 | 33 => 197 | 34 => 198 | 35 => 199 | 40 => 206 | n => n, fun | 0 => 0 | 3 => 3 | 4 => 4 | 5 => 5 | 9 => 9 | 20 => 20 | 21 => 21 | 22 => 31 | 23 => 31 | 25 => 3 | 32 => 202 | 35 => 219 | 36 => 220 | 41 => 123 | 44 => 26 | 46 => 166 | 53 => 240 | 57 => 244 | 63 => 254 | 64 => 255 | 77 => 246 | 82 => 257 | n => n, fun | n => n⟩
set_option maxRecDepth 100000 in
theorem lay_isort : SlLaysM.n5 Tryz.prog lay_isort_ren := {
  mixed := by kernel_rfl
  f5 := ⟨Tryz.f134.name, by kernel_rfl, Tryz.func134.trans (congrArg some (by kernel_rfl))⟩
  f7 := ⟨Tryz.f156.name, by kernel_rfl, Tryz.func156.trans (congrArg some (by kernel_rfl))⟩
  f8 := Tryz.func157.trans (congrArg some (by kernel_rfl))
  f10 := ⟨Tryz.f174.name, by kernel_rfl, Tryz.func174.trans (congrArg some (by kernel_rfl))⟩
  f11 := ⟨Tryz.f175.name, by kernel_rfl, Tryz.func175.trans (congrArg some (by kernel_rfl))⟩
  f12 := ⟨Tryz.f176.name, by kernel_rfl, Tryz.func176.trans (congrArg some (by kernel_rfl))⟩
  f13 := ⟨Tryz.f177.name, by kernel_rfl, Tryz.func177.trans (congrArg some (by kernel_rfl))⟩
  f14 := ⟨Tryz.f178.name, by kernel_rfl, Tryz.func178.trans (congrArg some (by kernel_rfl))⟩
  f15 := ⟨Tryz.f179.name, by kernel_rfl, Tryz.func179.trans (congrArg some (by kernel_rfl))⟩
  f16 := ⟨Tryz.f180.name, by kernel_rfl, Tryz.func180.trans (congrArg some (by kernel_rfl))⟩
  f17 := ⟨Tryz.f181.name, by kernel_rfl, Tryz.func181.trans (congrArg some (by kernel_rfl))⟩
  f18 := ⟨Tryz.f182.name, by kernel_rfl, Tryz.func182.trans (congrArg some (by kernel_rfl))⟩
  f19 := Tryz.func183.trans (congrArg some (by kernel_rfl))
  f20 := Tryz.func184.trans (congrArg some (by kernel_rfl))
  f30 := ⟨Tryz.f194.name, by kernel_rfl, Tryz.func194.trans (congrArg some (by kernel_rfl))⟩
  f31 := Tryz.func195.trans (congrArg some (by kernel_rfl))
  f32 := Tryz.func196.trans (congrArg some (by kernel_rfl))
  f33 := ⟨Tryz.f197.name, by kernel_rfl, Tryz.func197.trans (congrArg some (by kernel_rfl))⟩
  f34 := ⟨Tryz.f198.name, by kernel_rfl, Tryz.func198.trans (congrArg some (by kernel_rfl))⟩
  f35 := ⟨Tryz.f199.name, by kernel_rfl, Tryz.func199.trans (congrArg some (by kernel_rfl))⟩
  f40 := ⟨Tryz.f206.name, by kernel_rfl, Tryz.func206.trans (congrArg some (by kernel_rfl))⟩
  t0 := Tryz.underlying0
  a0 := Tryz.isAgg0
  z0 := Tryz.sizeOf0
  v0 := Tryz.zeroValue0
  t3 := Tryz.underlying3
  a3 := Tryz.isAgg3
  z3 := Tryz.sizeOf3
  v3 := Tryz.zeroValue3
  t4 := Tryz.underlying4
  a4 := Tryz.isAgg4
  z4 := Tryz.sizeOf4
  v4 := Tryz.zeroValue4
  t5 := Tryz.underlying5
  a5 := Tryz.isAgg5
  z5 := Tryz.sizeOf5
  v5 := Tryz.zeroValue5
  t9 := Tryz.underlying9
  a9 := Tryz.isAgg9
  z9 := Tryz.sizeOf9
  v9 := Tryz.zeroValue9
  t22 := Tryz.underlying31
  a22 := Tryz.isAgg31
  z22 := Tryz.sizeOf31
  v22 := Tryz.zeroValue31
  t23 := Tryz.underlying31
  a23 := Tryz.isAgg31
  z23 := Tryz.sizeOf31
  v23 := Tryz.zeroValue31
  t25 := Tryz.underlying3
  a25 := Tryz.isAgg3
  z25 := Tryz.sizeOf3
  v25 := Tryz.zeroValue3
  t32 := Tryz.underlying202
  a32 := Tryz.isAgg202
  z32 := Tryz.sizeOf202
  v32 := Tryz.zeroValue202
  t35 := Tryz.underlying219
  a35 := Tryz.isAgg219
  z35 := Tryz.sizeOf219
  v35 := Tryz.zeroValue219
  t36 := Tryz.underlying220
  a36 := Tryz.isAgg220
  z36 := Tryz.sizeOf220
  v36 := Tryz.zeroValue220
  t41 := Tryz.underlying123
  a41 := Tryz.isAgg123
  z41 := Tryz.sizeOf123
  v41 := Tryz.zeroValue123
  t44 := Tryz.underlying26
  a44 := Tryz.isAgg26
  z44 := Tryz.sizeOf26
  v44 := Tryz.zeroValue26
  t46 := Tryz.underlying166
  a46 := Tryz.isAgg166
  z46 := Tryz.sizeOf166
  v46 := Tryz.zeroValue166
  t53 := Tryz.underlying240
  a53 := Tryz.isAgg240
  z53 := Tryz.sizeOf240
  v53 := Tryz.zeroValue240
  t57 := Tryz.underlying244
  a57 := Tryz.isAgg244
  z57 := Tryz.sizeOf244
  v57 := Tryz.zeroValue244
  t63 := Tryz.underlying254
  a63 := Tryz.isAgg254
  z63 := Tryz.sizeOf254
  v63 := Tryz.zeroValue254
  t64 := Tryz.underlying255
  a64 := Tryz.isAgg255
  z64 := Tryz.sizeOf255
  v64 := Tryz.zeroValue255 }
theorem sorts_in (m : Nat) : AnyZI.SortsIn Tryz.prog lay_sorted_ren Fence.wide m :=
  ⟨fun blk off cap ss W hH hblk hsz => callsIn_wide.2 (AnyM.slices_Sort_int lay_isort blk off cap ss W hH hblk hsz),
   fun p cap W => callsIn_wide.2 (AnyM.slices_Sort_int_none lay_isort p cap W)⟩
theorem keys_any (mb : Option Nat) (W : World) : Calls Tryz.prog 108 #[.map mb] W fun e w' => e = .returned (.func (.func 138) #[] #[.pointer (some ⟨W.heap.size, 0, none⟩)]) ∧ w' = W.alloc (.cells #[.map mb] 96) :=
  (callsIn_wide (n := 5)).1 (AnyZI.keys_in lay_keys Fence.wide 5 trivial rfl mb W)
theorem sorted_any {H : Type} (X b nn : Nat) (D0 : DataW H) (R : Value → Option (DataW H × List MemPlace)) (w : World) (hX : X < w.heap.size) (hbox : w.cell? ⟨X, 0, none⟩ = some (.map (some b))) (hown : w.ownsMap Tryz.prog 3 R b nn D0) (hmax : Maps.size D0 ≤ 1048576) :
    Calls Tryz.prog 107 #[.func (.func 138) #[] #[.pointer (some ⟨X, 0, none⟩)]] w fun e w' => ∃ (v : Value) (ss : List Int), e = .returned v ∧ ss.Perm (intKeys D0) ∧
      w'.ownsRow w.heap.size 3 1 v ss.length ((ss.mergeSort (fun x y => decide (x ≤ y))).map encZ) ∧ (v = .slice none 0 0 ↔ ss = []) ∧ Below w.heap.size w w' := by
  refine (callsIn_wide (n := 5)).1 ?_
  have hseq : SeqGives Fence.wide 2 Tryz.prog 138 #[.pointer (some ⟨X, 0, none⟩)] encZ (fun ss => ss.Perm (intKeys D0)) (Maps.size D0) w :=
    AnyZI.keys_gives (ρ := lay_keys_ren) { lay_keys with } Fence.wide _ trivial rfl (by omega) X b nn D0 _ hX hbox hown
  have cS := AnyZI.sorted_in lay_sorted Fence.wide 5 trivial trivial trivial trivial rfl (by omega) (sorts_in _) (enters_of Tryz.func134 (by kernel_rfl) rfl) 138 #[.pointer (some ⟨X, 0, none⟩)] trivial (enters_of Tryz.func138 (by kernel_rfl) rfl) _ _ (by unfold maxLen; omega) (by omega) _ hseq
  exact cS
end Tb
end Go.Proofs.YtbmabcddciibfaaGreat
namespace Go.Proofs.YtbmabcddciibfaaGreat
namespace Tb
open Go.RowKit Dsk Go.Maps
set_option linter.unusedVariables false
set_option maxRecDepth 100000
def ecells (l : List (Int × Int)) : List Value := l.flatMap fun x => [.int .i64 x.1, .int .i64 x.2]
theorem ecells_snoc (l : List (Int × Int)) (x : Int × Int) : ecells (l ++ [x]) = ecells l ++ [.int .i64 x.1, .int .i64 x.2] := by simp [ecells]
theorem ecells_get (l : List (Int × Int)) (i : Nat) (h : i < l.length) : (ecells l)[i * 2]? = some (.int .i64 l[i].1) ∧ (ecells l)[i * 2 + 1]? = some (.int .i64 l[i].2) := by
  induction l generalizing i with
  | nil => simp at h
  | cons x l ih =>
    have e : ecells (x :: l) = .int .i64 x.1 :: .int .i64 x.2 :: ecells l := rfl
    rw [e]
    cases i with
    | zero => simp
    | succ i =>
      have := ih i (by simpa using h)
      rw [show (i + 1) * 2 = i * 2 + 1 + 1 by omega]
      simpa using this
theorem two_one (x y : Int) : ∀ u ∈ ([.int .i64 x, .int .i64 y] : List Value), u.oneCell' = true := fun u hu => by
  rcases List.mem_cons.1 hu with rfl | hu
  · rfl
  · rw [List.mem_singleton.1 hu]; rfl
theorem info_entry : (Tryz.prog.info? 86).map (fun i => (i.zero, i.size, i.bytes)) = some (some (.agg #[.int .i64 0, .int .i64 0]), 2, 16) := by kernel_rfl
abbrev Ents (w : World) (v : Value) (l : List (Int × Int)) : Prop := w.ownsRow 0 86 2 v l.length (ecells l)
theorem wpList_addE {w : World} {ops : Array Oper} {rest : List Oper} {o : Oper} {a : Act} {Q : Exit → Act → World → Prop} (hgd : o.guard = none) (s x : Operand) (ho : o.op = .call { callee := .builtin .append, args := #[s, x], argTypes := #[75, 75] }) (v : Value) (n : Nat) (l : List (Int × Int)) (hs : a.eval s = v) (hn : n = l.length) (hl : n ≤ 1099511627776) (hown : w.ownsRow 0 86 2 v n (ecells l))
    (b : Nat) (y z : Int) (hx : a.eval x = .slice (some ⟨b, 0, none⟩) 1 1) (hc : w.heap[b]? = some (.cells #[.int .i64 y, .int .i64 z] 86 (0, 0)))
    (h : ∀ v' w', w'.ownsRow 0 86 2 v' (n + 1) (ecells (l ++ [(y, z)])) → Fr (fun k => v.ownBlock = some k) w w' → (∀ k, v'.ownBlock = some k → v.ownBlock = some k ∨ w.heap.size ≤ k) → wpList Tryz.prog ops Q rest (a.put o.dst v') w') : wpList Tryz.prog ops Q (o :: rest) a w := by
  obtain ⟨i0, hi, hz0, hz1, hz2⟩ := info_parts info_entry
  refine wpList_append_home hgd s x _ ho 86 i0 _ 2 16 Tryz.underlying75 hi hz0 hz1 hz2 rfl (by decide) v n (ecells l) hs hown ⟨b, 0, none⟩ 1 1 [.int .i64 y, .int .i64 z] hx rfl (World.news_of_block hc) (two_one y z) (by unfold maxLen; omega) (by omega) fun v' w' h1 h2 h3 => ?_
  refine h v' w' (by rw [ecells_snoc]; exact h1) (Fr.of_grown (F := fun k => v.ownBlock = some k) h2 fun k e => e) fun k hk => ?_
  rcases h3 with e | e
  · exact .inl (by rw [← e]; exact hk)
  · right
    rw [hk] at e
    injection e with e
    omega
theorem ents_slice {w : World} {v : Value} {l : List (Int × Int)} (h : Ents w v l) : ∃ a c, v = .slice a l.length c := own_slice h
theorem ents_cell {w : World} {a : Option Addr} {c : Nat} {l : List (Int × Int)} (h : Ents w (.slice a l.length c) l) (i : Nat) (hi : i < l.length) :
    ∃ b, a = some ⟨b, 0, none⟩ ∧ b < w.heap.size ∧ w.cell? ⟨b, i * 2, none⟩ = some (.int .i64 l[i].1) ∧ w.cell? ⟨b, i * 2 + 1, none⟩ = some (.int .i64 l[i].2) := by
  rcases h.2 with ⟨h1, h2⟩ | ⟨b, cap, cur, hv, _, hh, _⟩
  · omega
  · injection hv with h1 h2 h3
    subst h1
    subst h3
    obtain ⟨e1, e2⟩ := ecells_get l i hi
    exact ⟨b, rfl, lt_of_heap hh, by rw [h.cellAt _ (by omega)]; exact e1, by rw [h.cellAt _ (by omega)]; exact e2⟩
def REnts (w : World) (a : Option Addr) (l : List (Int × Int)) : Prop := l ≠ [] → ∃ b off, a = some ⟨b, off, none⟩ ∧ b < w.heap.size ∧ ∀ i x, l[i]? = some x → w.cell? ⟨b, off + i * 2, none⟩ = some (.int .i64 x.1) ∧ w.cell? ⟨b, off + i * 2 + 1, none⟩ = some (.int .i64 x.2)
theorem REnts.nil (w : World) (a : Option Addr) : REnts w a [] := fun h => (h rfl).elim
theorem REnts.below {w w' : World} {a : Option Addr} {l : List (Int × Int)} (h : REnts w a l) (hb : Below w.heap.size w w') : REnts w' a l := fun hn => by
  obtain ⟨b, off, e, hlt, hc⟩ := h hn
  exact ⟨b, off, e, Nat.lt_of_lt_of_le hlt hb.size, fun i x hx => ⟨(hb.cell (p := ⟨b, off + i * 2, none⟩) hlt).trans (hc i x hx).1, (hb.cell (p := ⟨b, off + i * 2 + 1, none⟩) hlt).trans (hc i x hx).2⟩⟩
theorem REnts.get {w w' : World} {a : Option Addr} {l : List (Int × Int)} (h : REnts w a l) (hb : Below w.heap.size w w') {i : Nat} (hi : i < l.length) :
    ∃ b off, a = some ⟨b, off, none⟩ ∧ w'.cell? ⟨b, off + i * 2, none⟩ = some (.int .i64 l[i].1) ∧ w'.cell? ⟨b, off + i * 2 + 1, none⟩ = some (.int .i64 l[i].2) := by
  obtain ⟨b, off, e, hlt, hc⟩ := h (by rintro rfl; simp at hi)
  have := hc i _ (List.getElem?_eq_getElem hi)
  exact ⟨b, off, e, (hb.cell (p := ⟨b, off + i * 2, none⟩) hlt).trans this.1, (hb.cell (p := ⟨b, off + i * 2 + 1, none⟩) hlt).trans this.2⟩
theorem REnts.own {w : World} {a : Option Addr} {c : Nat} {l : List (Int × Int)} (h : Ents w (.slice a l.length c) l) : REnts w a l := fun hn => by
  obtain ⟨b, e, hlt, _⟩ := ents_cell h 0 (List.length_pos_iff.2 hn)
  refine ⟨b, 0, e, hlt, fun i x hx => ?_⟩
  obtain ⟨hi, rfl⟩ := List.getElem?_eq_some_iff.1 hx
  obtain ⟨b', e', _, c0, c1⟩ := ents_cell h i hi
  rw [e] at e'
  injection e' with e'
  injection e' with e'
  subst e'
  rw [Nat.zero_add]
  exact ⟨c0, c1⟩
structure GrowsE (w : World) (l : List (Int × Int)) (v : Value) (n : Nat) (wr : World) : Prop where
  row : wr.ownsRow 0 86 2 v n (ecells l)
  len : n = l.length
  new : ∀ k, v.ownBlock = some k → w.heap.size ≤ k
  below : Below w.heap.size w wr
theorem GrowsE.nil {w wr : World} (hb : Below w.heap.size w wr) : GrowsE w [] (.slice none 0 0) 0 wr := ⟨World.ownsRow_nil _ _ _ _, rfl, fun k hk => (by cases hk), hb⟩
theorem GrowsE.next {w wr w2 : World} {l : List (Int × Int)} {v : Value} {n : Nat} (h : GrowsE w l v n wr) (hb : Below wr.heap.size wr w2) : GrowsE w l v n w2 :=
  ⟨own_same h.row fun j hj => hb.block j (by obtain ⟨cur, hcc⟩ := own_block h.row j hj; exact lt_of_heap hcc), h.len, h.new, h.below.trans (hb.mono h.below.size)⟩
theorem GrowsE.own {w wr : World} {l : List (Int × Int)} {v : Value} {n : Nat} (h : GrowsE w l v n wr) (y z : Int) : (wr.alloc (.cells #[.int .i64 y, .int .i64 z] 86)).ownsRow 0 86 2 v n (ecells l) :=
  own_same h.row fun j hj => Below.heap_alloc _ _ _ (by obtain ⟨cur, hcc⟩ := own_block h.row j hj; exact lt_of_heap hcc)
theorem GrowsE.add {w wr w' : World} {l : List (Int × Int)} {v v' : Value} {n : Nat} {y z : Int} (h : GrowsE w l v n wr) (h1 : w'.ownsRow 0 86 2 v' (n + 1) (ecells (l ++ [(y, z)]))) (h2 : Fr (fun k => v.ownBlock = some k) (wr.alloc (.cells #[.int .i64 y, .int .i64 z] 86)) w')
    (h3 : ∀ k, v'.ownBlock = some k → v.ownBlock = some k ∨ (wr.alloc (.cells #[.int .i64 y, .int .i64 z] 86)).heap.size ≤ k) : GrowsE w (l ++ [(y, z)]) v' (n + 1) w' := by
  have hal : Below wr.heap.size wr (wr.alloc (.cells #[.int .i64 y, .int .i64 z] 86)) := (Below.refl _ _).alloc (Nat.le_refl _) _
  have hF : Fr (fun j => v.ownBlock = some j) wr w' := (Fr.of_below hal).trans h2 (fun _ _ e => e)
  have hsz : (wr.alloc (.cells #[.int .i64 y, .int .i64 z] 86)).heap.size = wr.heap.size + 1 := by simp
  have hws := h.below.size
  refine ⟨h1, by rw [h.len]; simp, fun k hk => ?_, h.below.trans (hF.below hws fun j hj => h.new j hj)⟩
  rcases h3 k hk with e | e
  · exact h.new k e
  · omega
def MadeE (l : List (Int × Int)) (w : World) (e : Ending) (w' : World) : Prop := ∃ v, e = .returned v ∧ Ents w' v l ∧ (∀ k, v.ownBlock = some k → w.heap.size ≤ k) ∧ Below w.heap.size w w'
theorem GrowsE.made {w wr : World} {l : List (Int × Int)} {v : Value} {n : Nat} (h : GrowsE w l v n wr) : MadeE l w (.returned v) wr := ⟨v, rfl, by show World.ownsRow _ _ _ _ _ _ _; rw [← h.len]; exact h.row, h.new, h.below⟩
end Tb
end Go.Proofs.YtbmabcddciibfaaGreat
namespace Go.Proofs.YtbmabcddciibfaaGreat
namespace Tb
open Go.RowKit Dsk Go.Maps
set_option linter.unusedVariables false
set_option maxRecDepth 100000
structure AllAt (w : World) (o : Ob) (m K : List Int) (kv sv : Value) (i : Nat) (wr : World) : Prop where
  tm : Tm wr o m
  kr : Ints wr kv K
  sr : wr.ownsRow 0 86 2 sv i (ecells ((all m).take i))
  new : ∀ k, sv.ownBlock = some k → w.heap.size ≤ k
  ne : ∀ k, sv.ownBlock = some k → kv.ownBlock ≠ some k
  below : Below w.heap.size w wr
set_option maxHeartbeats 1000000 in
theorem all_any {w : World} {o : Ob} {m : List Int} (h : Tm w o m) :
    Calls Tryz.prog 69 #[.pointer (some ⟨o.p, 0, none⟩)] w fun e w' => ∃ v, e = .returned v ∧ Ents w' v (all m) ∧ (∀ k, v.ownBlock = some k → w.heap.size ≤ k) ∧ Below w.heap.size w w' := by
  obtain ⟨i0, hi, hz0, hz1, hz2⟩ := info_parts info_entry
  have H := Lib.hid h
  obtain ⟨n, c, g, ht, hm⟩ := h
  obtain ⟨_, h1, _, _, _⟩ := ht.reads
  obtain ⟨D, hD, hk⟩ := ht.placeOf
  have hnd := used_nodup ht.pr.ok
  rw [used_full] at hnd
  obtain ⟨hperm, hsz⟩ := size_used hD hk hnd
  have hfew := ht.pr.few
  have hul : (used c).length ≤ c.length := used_length_le _
  have hcl := ht.pr.len
  have hplt := ht.lt o.p (.inl rfl)
  have hmlt := ht.lt o.mb (.inr (.inl rfl))
  have hsb : Maps.size D ≤ 1048576 := by omega
  obtain ⟨N, hN⟩ : ∃ N, N = Maps.size D := ⟨_, rfl⟩
  have HNA : Hid (N = (all m).length) := Lib.hid (by rw [all_length, ← hm, used_full, hN, hsz])
  have HD := Lib.hid hD
  have HK := Lib.hid hk
  have HN := Lib.hid hN
  have HM := Lib.hid hm
  have HPM := Lib.hid hperm
  have hNb : N ≤ 1048576 := by omega
  rw [hN.symm] at hsb
  -- behind make and maps.Keys
  have KY : Hid (∀ w1, Below w.heap.size w w1 → w1.cell? ⟨o.p, 1, none⟩ = some (.map (some o.mb)) ∧ w1.ownsMap Tryz.prog 3 (plainElem (H := Unit) Tryz.prog 3) o.mb (Maps.size D) D) := Lib.hid fun w1 hb =>
    ⟨(hb.cell (p := ⟨o.p, 1, none⟩) hplt).trans h1, map_same hD (hb.block o.mb hmlt)⟩
  have SN : Hid (∀ ss : List Int, ss.Perm (intKeys D) → ss.length = N) := Lib.hid fun ss hp => by rw [(hp.trans hperm.symm).length_eq, hN, hsz]
  have SK : Hid (∀ ss : List Int, ss.Perm (intKeys D) → ss.mergeSort (fun x y => decide (x ≤ y)) = keys m) := Lib.hid fun ss hp => by
    unfold keys
    rw [← hm, used_full]
    exact mergeSort_of_perm_i (hp.trans hperm.symm)
  have EN : Hid (∀ (i : Nat) (k : Int), (keys m)[i]? = some k → (Lit.int .i64 k).wf = true ∧ (all m)[i]? = some (entry m k) ∧ ∀ x : Int, D.atKey (.int .i64 k) (.lit (.int .i64 0)) = .lit (.int .i64 x) → (k, x) = entry m k) := Lib.hid fun i k hi => by
    have hkm := keys_mem.1 (List.mem_of_getElem? hi)
    obtain ⟨j, hj⟩ := List.getElem?_of_mem hkm.1
    have hv := ht.pr.ok.vals k (by rw [hm]; exact hkm.1)
    have hj' := hj
    rw [← hm] at hj'
    have hc := full_used hj' hkm.2
    refine ⟨by simp [Lit.wf, IntKind.min, IntKind.max, IntKind.signed, IntKind.bits]; omega, by unfold all; rw [List.getElem?_map, hi]; rfl, fun x hx => ?_⟩
    have h1 := hk.2.2 j k hc hkm.2 (.lit (.int .i64 0))
    rw [hx] at h1
    injection h1 with h1
    injection h1 with _ h1
    unfold entry
    rw [H.out.ok.find hkm.2 hj, h1]
    rfl
  clear hD hk hnd hperm hsz hfew hul hcl hm hN
  go_enter Tryz.func69, Tryz.ntmps69
  go_wp2_with (first
    | (at_len; refine wpList_len_own _ rfl _ 96 rfl 3 3 Tryz.underlying96 _ o.mb (Maps.size D) D rfl HD.out ?_; rw [← HN.out])
    | (at_make; refine wpList_make_own _ rfl _ _ 75 rfl 0 86 i0 _ 2 Tryz.underlying75 hi hz0 hz1 .i64 .i64 _ N rfl rfl rfl (by rw [hz2]; omega) (by unfold maxLen; omega) (Nat.zero_le _) ?_; intro w1 hr1 hg1; have R1 := Lib.hid hr1; have B1 := Lib.hid ((Below.refl _ w).grown hg1 (Nat.le_refl _) (fun k e => by cases e)); have c1 := (KY.out w1 B1.out).1; clear hr1 hg1 h1)
    | (go_at_call 108; refine (keys_any _ _).mono ?_; rintro e w2 ⟨rfl, hw2⟩; have B2 : Hid (Below w.heap.size w w2) := Lib.hid (by rw [hw2]; exact B1.out.alloc B1.out.size _); have W2 := Lib.hid hw2; have SO := Lib.hid (sorted_any w1.heap.size o.mb (Maps.size D) D _ w2 (by rw [hw2]; simp) (by rw [hw2]; simp) (KY.out w2 B2.out).2 (by rw [← HN.out]; exact hNb)); clear hw2)
    | (go_at_call 107; refine SO.out.mono ?_; rintro e w3 ⟨kv, ss, rfl, hp3, hr3, hn3, hb3⟩; have P3 := Lib.hid hp3; have R3 := Lib.hid hr3; have B3 := Lib.hid (B2.out.trans (hb3.mono B2.out.size)); have B23 := Lib.hid hb3; obtain ⟨ka, kc, hkv⟩ := own_slice hr3; have hsn : ss.length = N := SN.out ss hp3; rw [hsn] at hkv; have HSN := Lib.hid hsn; subst hkv; clear hp3 hr3 hn3 hb3 hsn))
  have A0 : Hid (AllAt w o m (keys m) (.slice ka N kc) (.slice (some ⟨w.heap.size, 0, none⟩) 0 N) 0 w3) := by
    have hr3 := R3.out
    rw [SK.out ss P3.out, HSN.out] at hr3
    have hkl : (keys m).length = N := by rw [keys_length, ← all_length, ← HNA.out]
    have hb12 : Below w1.heap.size w1 w2 := by rw [W2.out]; exact (Below.refl _ _).alloc (Nat.le_refl _) _
    have hb13 := hb12.trans (B23.out.mono hb12.size)
    have hlt1 : w.heap.size < w1.heap.size := by
      rcases R1.out.2 with ⟨h1, _⟩ | ⟨b, cap, cur, hv, _, hh, _⟩
      · cases h1
      · injection hv with hv; injection hv with hv; injection hv with hv; rw [hv]; exact lt_of_heap hh
    have hle12 := hb12.size
    refine Lib.hid ⟨H.out.below B3.out, ?_, ?_, fun k hk => ?_, fun k hk => ?_, B3.out⟩
    · show World.ownsRow _ _ _ _ _ _ _
      rw [hkl]
      exact ⟨hr3.1, hr3.2.imp id fun ⟨b, cap, cur, h1, h2, h3⟩ => ⟨b, cap, cur, h1, Nat.zero_le _, h3⟩⟩
    · exact own_same R1.out fun k hk => by injection hk with hk; have hk : w.heap.size = k := hk; rw [← hk]; exact hb13.block _ hlt1
    · injection hk with hk; have hk : w.heap.size = k := hk; omega
    · injection hk with hk
      have hk : w.heap.size = k := hk
      intro e
      rcases hr3.2 with ⟨h1, _⟩ | ⟨b, cap, cur, hv, hb, _⟩
      · rw [h1] at e; cases e
      · rw [hv] at e; injection e with e; have e : b = k := e; omega
  clear R1 B1 c1 W2 SO P3 R3 B23 B2 B3 SN SK HSN HPM HK
  go_loopw [21, 3] (fun v s wr => ∃ (k : Nat) (sv : Value), v = .int .i64 (k : Int) ∧ s = sv ∧ k ≤ N ∧ Hid (AllAt w o m (keys m) (.slice ka N kc) sv k wr)) (fun v _ _ => N - (Lib.intOf v).toNat)
  case atStart => exact ⟨0, _, rfl, rfl, Nat.zero_le _, A0⟩
  case round =>
    obtain ⟨k, sv, rfl, rfl, hkN, hat⟩ := hrel
    by_cases hlt : k < N
    · have d1 : decide ((k : Int) < (N : Int)) = true := by simp; omega
      have d2 : decide (k < N) = true := by simp; omega
      have hkl : (keys m).length = N := by rw [keys_length, ← all_length, ← HNA.out]
      have hrow := hat.out.kr
      have hrow' : Ints wr (.slice ka (keys m).length kc) (keys m) := by rw [hkl]; exact hrow
      obtain ⟨b, hab, hb, hc, _⟩ := ints_cell hrow' k (by omega)
      subst hab
      obtain ⟨x, hx⟩ : ∃ x, x = Hp.at_ (keys m) k := ⟨_, rfl⟩
      have hkx : (keys m)[k]? = some x := by rw [hx]; exact Hp.at_get _ _ (by omega)
      rw [← hx] at hc
      obtain ⟨hwf, hall, hent⟩ := EN.out k x hkx
      have hKEY : Hid (keyOf Tryz.prog 3 (.int .i64 x) = some (.int .i64 x)) := Lib.hid (int_key x hwf)
      obtain ⟨c1, hown⟩ := KY.out wr hat.out.below
      have HO := Lib.hid hown
      obtain ⟨sa, sc, hsv⟩ := own_slice hat.out.sr
      subst hsv
      have HE := Lib.hid hent
      have HA := Lib.hid hall
      have HKN : Hid (k = ((all m).take k).length) := Lib.hid (by have := HNA.out; simp; omega)
      have OWN : Hid (∀ y : Int, (wr.alloc (.cells #[.int .i64 x, .int .i64 y] 86)).ownsRow 0 86 2 (.slice sa k sc) k (ecells ((all m).take k))) := Lib.hid fun y =>
        own_same hat.out.sr fun j hj => Below.heap_alloc _ _ _ (by obtain ⟨cur, hcc⟩ := own_block hat.out.sr j hj; exact lt_of_heap hcc)
      have FIN : Hid (∀ (y : Int) v' w4, (x, y) = entry m x → w4.ownsRow 0 86 2 v' (k + 1) (ecells ((all m).take k ++ [(x, y)])) → Fr (fun j => (Value.slice sa k sc).ownBlock = some j) (wr.alloc (.cells #[.int .i64 x, .int .i64 y] 86)) w4 →
          (∀ j, v'.ownBlock = some j → (Value.slice sa k sc).ownBlock = some j ∨ (wr.alloc (.cells #[.int .i64 x, .int .i64 y] 86)).heap.size ≤ j) → AllAt w o m (keys m) (.slice (some ⟨b, 0, none⟩) N kc) v' (k + 1) w4) := Lib.hid fun y v' w4 he hr4 hf4 hv4 => by
        have hal : Below wr.heap.size wr (wr.alloc (.cells #[.int .i64 x, .int .i64 y] 86)) := (Below.refl _ _).alloc (Nat.le_refl _) _
        have hF : Fr (fun j => (Value.slice sa k sc).ownBlock = some j) wr w4 := (Fr.of_below hal).trans hf4 (fun _ _ e => e)
        have hws := hat.out.below.size
        have hsz : (wr.alloc (.cells #[.int .i64 x, .int .i64 y] 86)).heap.size = wr.heap.size + 1 := by simp
        refine ⟨hat.out.tm.keep hF fun j hj hs => ?_, own_same hat.out.kr fun j hj => hF.block j ?_ (fun e => hat.out.ne j e hj), ?_, fun j hj => ?_, fun j hj => ?_, ?_⟩
        · have h1 := hat.out.new j hs
          have h2 := H.out.lt j hj
          omega
        · obtain ⟨cur, hcc⟩ := own_block hat.out.kr j hj; exact lt_of_heap hcc
        · rw [List.take_add_one, HA.out, ← he]
          exact hr4
        · rcases hv4 j hj with e | e
          · exact hat.out.new j e
          · omega
        · rcases hv4 j hj with e | e
          · exact hat.out.ne j e
          · intro c
            obtain ⟨cur, hcc⟩ := own_block hat.out.kr j c
            have := lt_of_heap hcc
            omega
        · exact hat.out.below.trans (hF.below hat.out.below.size fun j hj => hat.out.new j hj)
      clear hx hkx hwf hall hent hrow hrow' hown
      go_wp2_with (first
        | (at_lookup; refine wpList_lookup_own_int _ rfl _ _ 96 rfl 3 3 .i64 int_law Tryz.underlying96 Tryz.underlying3 (zero_int _) o.mb (Maps.size D) D rfl HO.out _ (.int .i64 x) rfl hKEY.out ?_; intro y hy hwy; have HY := Lib.hid (HE.out y hy); clear hy hwy)
        | (at_builtin; refine wpList_addE rfl (.tmp 25) (.tmp 34) rfl (.slice sa k sc) k ((all m).take k) rfl HKN.out (by omega) (OWN.out y) wr.heap.size x y rfl (heap_alloc_new _ _) ?_; intro v' w4 hr4 hf4 hv4; have F4 := Lib.hid (FIN.out y v' w4 HY.out hr4 hf4 hv4); clear hr4 hf4 hv4))
      go_roundw
      case rel => exact ⟨k + 1, _, by go_num, rfl, by omega, F4⟩
      case measure => simp [Lib.intOf]; omega
    · obtain rfl : k = N := by omega
      have d1 : decide ((k : Int) < (k : Int)) = false := by simp
      have d2 : decide (k < k) = false := by simp
      go_wp2
      go_ret
      have hr := hat.out.sr
      rw [HNA.out, List.take_length] at hr
      exact ⟨_, rfl, hr, hat.out.new, hat.out.below⟩
end Tb
end Go.Proofs.YtbmabcddciibfaaGreat
namespace Go.Proofs.YtbmabcddciibfaaGreat
namespace Tb
open Go.RowKit Dsk Go.Maps
set_option linter.unusedVariables false
set_option maxRecDepth 100000
def MadeP (l : List Int) (x : Int) (w : World) (e : Ending) (w' : World) : Prop := ∃ v, e = .returned (.tuple #[v, .int .i64 x]) ∧ Ints w' v l ∧ (∀ k, v.ownBlock = some k → w.heap.size ≤ k) ∧ Below w.heap.size w w'
theorem page_any {w : World} {o : Ob} {m : List Int} (h : Tm w o m) (i : Int) : Calls Tryz.prog 140 #[.pointer (some ⟨o.p, 0, none⟩), .int .i64 i] w (MadeP (pageL m i) (pageE m i) w) := by
  by_cases hin : 0 ≤ i ∧ i < (pagesN m.length : Int)
  · obtain ⟨k, rfl⟩ : ∃ k : Nat, i = (k : Int) := ⟨i.toNat, by omega⟩
    have hk : k < pagesN m.length := by omega
    rw [pageL_in hk, pageE_in hk]
    refine (page_in h k hk).mono ?_
    rintro e w' ⟨g, rfl, h1, h2, h3⟩
    refine ⟨_, rfl, ?_, fun x hx => ?_, h3⟩
    · show World.ownsRow _ _ _ _ _ _ _
      rw [page_length]
      have := ints_of_cells (page_length m k) h1
      have e : Ints w' (.slice (some ⟨g, 0, none⟩) 13 13) (page m k) := this
      unfold Ints at e
      rwa [page_length] at e
    · have hx : g = x := by injection hx
      omega
  · have e1 : pageL m i = [] := by unfold pageL; rw [if_neg hin]
    have e2 : pageE m i = 2 := by unfold pageE; rw [if_neg hin]
    rw [e1, e2]
    refine (page_out h i hin).mono ?_
    rintro e w' ⟨rfl, rfl⟩
    exact ⟨_, rfl, World.ownsRow_nil _ _ _ _, (fun k hk => by cases hk), Below.refl _ _⟩
end Tb
end Go.Proofs.YtbmabcddciibfaaGreat
namespace Go.Proofs.YtbmabcddciibfaaGreat
namespace So
open Go.RowKit
set_option maxRecDepth 100000
set_option linter.unusedVariables false
theorem ints_drew {w : World} {v : Value} {l : List Int} (h : Tb.Ints w v l) : Tb.Ints w.drew v l := Dsk.own_same h fun _ _ => rfl
theorem cell_same {w w' : World} {p : Addr} (h : w'.heap[p.block]? = w.heap[p.block]?) : w'.cell? p = w.cell? p := by unfold World.cell?; rw [h]
theorem two_other {w : World} {g q : Nat} (h : q ≠ g) (x y : Value) (j : Nat) : ((w.setCell ⟨g, 0, none⟩ x).setCell ⟨g, 1, none⟩ y).cell? ⟨q, j, none⟩ = w.cell? ⟨q, j, none⟩ :=
  cell_same (p := ⟨q, j, none⟩) ((Below.heap_setCell _ ⟨g, 1, none⟩ _ _ h).trans (Below.heap_setCell _ ⟨g, 0, none⟩ _ _ h))
theorem Pa.Ok.inB {p : Pa} (h : p.Ok) : inB (p.st : Int) (p.ln : Int) (17 + (p.n : Int)) ((p.a : Int) - (17 + p.n)) = true := by
  have := h.low
  have := h.high
  rw [inB_iff]
  omega
theorem Pa.Ok.small {p : Pa} (h : p.Ok) : (p.st : Int) ≤ 1048576 := by
  have := h.high
  have := h.nums.a1
  omega
theorem Pa.Ok.roomIs {p : Pa} (h : p.Ok) : RoomIs (p.a : Int) (p.n : Int) (p.g : Int) (p.st : Int) (p.ln : Int) (p.N : Int) 0 := fun w1 => by
  have h1 := lroom_ok (p.a : Int) (p.n : Int) (p.g : Int) (p.st : Int) p.ln w1 h.sup (by have := h.small; omega) h.inB
  rw [Int.toNat_natCast, h.room] at h1
  have e : Geo.noneE p.N = 0 := by have := h.pos; unfold Geo.noneE; rw [if_neg (by omega)]
  rw [e] at h1
  exact h1
theorem spage_ok {p : Pa} (h : p.Ok) {i : Nat} (hi : i < p.pg) (w : World) : Calls Tryz.prog 124 #[.agg #[.int .i64 (p.a : Int), .int .i64 (p.n : Int), .int .i64 (p.g : Int)], .agg #[.int .i64 (p.st : Int), .int .i64 (p.ln : Int)], .int .i64 (i : Int)] w fun e w' => e = .returned (.tuple #[.int .i64 (p.page i : Int), .int .i64 0]) ∧ Below w.heap.size w w' := by
  refine (lpage_ok _ _ _ _ _ (i : Int) p.N w h.sup h.roomIs (by omega) h.nums.N1 ?_ (by omega) h.small).mono ?_
  · rw [parts_pages]; unfold Pa.pg at hi; omega
  · rintro e w' ⟨rfl, hb⟩
    refine ⟨?_, hb⟩
    have : ((p.page i : Nat) : Int) = (p.st : Int) + 1 + i := by unfold Pa.page; omega
    rw [this]
theorem spage_no {p : Pa} (h : p.Ok) {i : Nat} (hi : p.pg ≤ i) (w : World) : Calls Tryz.prog 124 #[.agg #[.int .i64 (p.a : Int), .int .i64 (p.n : Int), .int .i64 (p.g : Int)], .agg #[.int .i64 (p.st : Int), .int .i64 (p.ln : Int)], .int .i64 (i : Int)] w fun e w' => e = .returned (.tuple #[.int .i64 0, .int .i64 2]) ∧ Below w.heap.size w w' :=
  lpage_high _ _ _ _ _ (i : Int) p.N w h.sup h.roomIs (by omega) h.nums.N1 (by rw [parts_pages]; unfold Pa.pg at hi; omega)
theorem schunk_ok {p : Pa} (h : p.Ok) {i : Nat} (hi : i < p.N) (w : World) : Calls Tryz.prog 95 #[.agg #[.int .i64 (p.a : Int), .int .i64 (p.n : Int), .int .i64 (p.g : Int)], .agg #[.int .i64 (p.st : Int), .int .i64 (p.ln : Int)], .int .i64 (i : Int)] w fun e w' => e = .returned (.tuple #[.agg #[.int .i64 (p.data i : Int), .int .i64 (p.g : Int)], .int .i64 0]) ∧ Below w.heap.size w w' := by
  refine (lchunk_ok _ _ _ _ _ (i : Int) p.N w h.sup h.roomIs (by omega) h.nums.N1 (by omega) (by omega) h.small).mono ?_
  rintro e w' ⟨rfl, hb⟩
  refine ⟨?_, hb⟩
  have : ((p.data i : Nat) : Int) = (p.st : Int) + 1 + (Em.parts p.N 13 : Nat) + (i : Int) * p.g := by
    rw [parts_pages]; unfold Pa.data Pa.pg; push_cast; omega
  rw [this]
theorem shead_any {p : Pa} (h : p.Ok) (inv : Bool) (w : World) : Calls Tryz.prog 136 #[.agg #[.int .u32 (p.gen : Int), .int .i64 (p.g : Int), .int .i64 (p.N : Int), .bool inv]] w fun e w' => e = .returned (.tuple #[.string (Om.B (Hm.sector p.gen (p.g : Int) (p.N : Int) inv)), .int .i64 0]) ∧ Below w.heap.size w w' := by
  have h1 := henc_any p.gen (p.g : Int) (p.N : Int) inv w h.gen2
  rw [(Hm.enc_ok inv h.head).1, (Hm.enc_ok inv h.head).2] at h1
  exact h1
theorem penc_row {p : Pa} (h : p.Ok) {ls : List Int} (hl : Pm.okL ls = true) {v : Value} {w : World} (hv : Tb.Ints w v ls) : Calls Tryz.prog 141 #[.int .u32 (p.gen : Int), v] w fun e w' => e = .returned (.tuple #[.string (Om.B (Pm.sector p.gen ls)), .int .i64 0]) ∧ Below w.heap.size w w' := by
  have hn : ls.length = 13 := ((Pm.okL_iff ls).1 hl).1
  obtain ⟨a, c, rfl⟩ := Dsk.own_slice hv
  have hr : Row w w.heap.size a ls.length (szs ls) := Row.own hv (fun i hi => by
    unfold szs
    rw [List.getElem?_map, List.getElem?_eq_getElem hi, List.getD_eq_getElem?_getD, List.getElem?_eq_getElem hi]
    rfl)
  have h1 := penc_any p.gen ls w.heap.size a ls.length c w h.gen2 rfl (by omega) (Nat.le_refl _) hr
  rw [(Pm.enc_ok p.gen ls hl).1, show Pm.encE ls = 0 from (Pm.enc_ok p.gen ls hl).2] at h1
  exact h1
end So
end Go.Proofs.YtbmabcddciibfaaGreat
namespace Go.Proofs.YtbmabcddciibfaaGreat
namespace So
set_option linter.unusedVariables false
def headB (p : Pa) (s : List UInt8) : Bool := decide (Hm.decE s = 0) && decide (Hm.decG s = p.gen) && decide (Hm.decC s = p.g) && decide (Hm.decP s = p.N)
def pageB (p : Pa) (s : List UInt8) : Bool := decide (Pm.decE s = 0) && decide (Pm.decG s = p.gen)
theorem headB_iff {p : Pa} {s : List UInt8} : headB p s = true ↔ Hm.decE s = 0 ∧ Hm.decG s = p.gen ∧ Hm.decC s = p.g ∧ Hm.decP s = p.N := by simp [headB, and_assoc]
theorem pageB_iff {p : Pa} {s : List UInt8} : pageB p s = true ↔ Pm.decE s = 0 ∧ Pm.decG s = p.gen := by simp [pageB]
def numsTo (p : Pa) (f : Nat → List UInt8) (k : Nat) : List Int := (List.range k).flatMap fun i => Pm.decL (f (p.page i))
theorem numsTo_succ (p : Pa) (f : Nat → List UInt8) (k : Nat) : numsTo p f (k + 1) = numsTo p f k ++ Pm.decL (f (p.page k)) := by simp [numsTo, List.range_succ]
def pagesB (p : Pa) (f : Nat → List UInt8) : Bool := (List.range p.pg).all fun i => pageB p (f (p.page i))
def openE (p : Pa) (f : Nat → List UInt8) : Int :=
  if headB p (f p.st) = true then
    if Hm.decB (f p.st) = true then 0
    else if pagesB p f = true then if Tb.loadE (p.N : Int) (numsTo p f p.pg) = 0 then 0 else 165
    else 165
  else 165
def openI (f : Nat → List UInt8) (p : Pa) : Bool := Hm.decB (f p.st)
def openT (p : Pa) (f : Nat → List UInt8) : List Int := if Hm.decB (f p.st) = true then [] else (numsTo p f p.pg).take p.N
theorem head_back {p : Pa} (h : p.Ok) (b : Bool) : headB p (Hm.sector p.gen (p.g : Int) (p.N : Int) b) = true ∧ Hm.decB (Hm.sector p.gen (p.g : Int) (p.N : Int) b) = b := by
  obtain ⟨h1, h2, h3, h4, h5⟩ := Hm.back p.gen (p.g : Int) (p.N : Int) b h.gen2 h.head
  exact ⟨headB_iff.2 ⟨h1, h2, by omega, by omega⟩, h5⟩
theorem open_inv {p : Pa} (h : p.Ok) {f : Nat → List UInt8} (hf : f p.st = Hm.sector p.gen (p.g : Int) (p.N : Int) true) : openE p f = 0 ∧ openI f p = true ∧ openT p f = [] := by
  obtain ⟨h1, h2⟩ := head_back h true
  refine ⟨?_, ?_, ?_⟩
  · unfold openE; rw [hf, if_pos h1, if_pos h2]
  · unfold openI; rw [hf, h2]
  · unfold openT; rw [hf, if_pos h2]
theorem nums_good {p : Pa} (h : p.Ok) {f : Nat → List UInt8} {T : List Int} (ok : Tb.Ok T) (hp : ∀ i, i < p.pg → f (p.page i) = Pm.sector p.gen (Tb.page T i)) : ∀ k, k ≤ p.pg → numsTo p f k = Tb.flat T k := by
  intro k
  induction k with
  | zero => intro _; rfl
  | succ k ih =>
    intro hk
    rw [numsTo_succ, Tb.flat_succ, ih (by omega), hp k (by omega), (Pm.back p.gen (Tb.page T k) h.gen2 (page_okL ok k)).2.2]
theorem open_good {p : Pa} (h : p.Ok) {f : Nat → List UInt8} {T : List Int} (hf : f p.st = Hm.sector p.gen (p.g : Int) (p.N : Int) false) (len : T.length = p.N) (ok : Tb.Ok T) (hp : ∀ i, i < p.pg → f (p.page i) = Pm.sector p.gen (Tb.page T i)) :
    openE p f = 0 ∧ openI f p = false ∧ openT p f = T := by
  obtain ⟨h1, h2⟩ := head_back h false
  have hn := nums_good h ok hp p.pg (Nat.le_refl _)
  have e : p.pg = Tb.pagesN T.length := by rw [len]; rfl
  refine ⟨?_, ?_, ?_⟩
  · unfold openE
    rw [hf, if_pos h1, h2, if_neg (by decide)]
    have hb : pagesB p f = true := by
      unfold pagesB
      rw [List.all_eq_true]
      intro i hi
      rw [List.mem_range] at hi
      rw [hp i hi, pageB_iff]
      have := Pm.back p.gen (Tb.page T i) h.gen2 (page_okL ok i)
      exact ⟨this.1, this.2.1⟩
    rw [if_pos hb, hn, ← len, e, Tb.flat_good ok, if_pos rfl]
  · unfold openI; rw [hf, h2]
  · unfold openT
    rw [hf, h2, if_neg (by decide), hn, ← len, e, Tb.flat_take]
theorem open_stand {p : Pa} (h : p.Ok) {f : Nat → List UInt8} {M : Ms} (hs : Stand p f M) (hf : Fit p M) : openE p f = 0 ∧ openI f p = M.inv ∧ openT p f = M.tab := by
  cases hi : M.inv with
  | true =>
    have := open_inv h (f := f) (by rw [hs.head, hi])
    unfold Ms.tab
    rw [hi, if_pos rfl]
    exact this
  | false =>
    have := open_good h (f := f) (by rw [hs.head, hi]) hf.tlen hf.tok (hs.page hi)
    unfold Ms.tab
    rw [hi, if_neg (by decide)]
    exact this
theorem open_mix {p : Pa} (h : p.Ok) {f : Nat → List UInt8} {M M' : Ms} {T : List Int} (m : Mix p f M M' T) : openE p f = 0 ∧ openI f p = false ∧ openT p f = T := open_good h m.head m.len m.ok m.page
theorem open_head {p : Pa} (h : p.Ok) {f : Nat → List UInt8} {b : Bool} {k : Nat} {c : UInt8} (hk : k < 64) (hc : (Hm.sector p.gen (p.g : Int) (p.N : Int) b)[k]? ≠ some c) (hf : f p.st = (Hm.sector p.gen (p.g : Int) (p.N : Int) b).set k c) : openE p f = 165 := by
  have e := Hm.turned _ (Hm.back p.gen (p.g : Int) (p.N : Int) b h.gen2 h.head).1 k hk c hc
  unfold openE
  rw [hf, if_neg]
  intro hb
  have := (headB_iff.1 hb).1
  omega
theorem open_page {p : Pa} (h : p.Ok) {f : Nat → List UInt8} {ls : List Int} {i k : Nat} {c : UInt8} (hf : f p.st = Hm.sector p.gen (p.g : Int) (p.N : Int) false) (hi : i < p.pg) (hk : k < 64) (hc : (Pm.sector p.gen ls)[k]? ≠ some c) (hp : f (p.page i) = (Pm.sector p.gen ls).set k c) : openE p f = 165 := by
  obtain ⟨h1, h2⟩ := head_back h false
  have e := Pm.turned p.gen ls k hk c hc
  unfold openE
  rw [hf, if_pos h1, h2, if_neg (by decide), if_neg]
  intro hb
  unfold pagesB at hb
  rw [List.all_eq_true] at hb
  have := (pageB_iff.1 (hb i (List.mem_range.2 hi))).1
  rw [hp] at this
  omega
theorem open_gen {p : Pa} (h : p.Ok) {f : Nat → List UInt8} {b : Bool} (g' : Nat) (hg : g' ≠ p.gen) (hf : f p.st = Hm.sector p.gen (p.g : Int) (p.N : Int) b) : openE { p with gen := g' } f = 165 := by
  obtain ⟨h1, h2, _⟩ := Hm.back p.gen (p.g : Int) (p.N : Int) b h.gen2 h.head
  unfold openE
  rw [if_neg]
  intro hb
  have := (headB_iff.1 hb).2.1
  have e : ({ p with gen := g' } : Pa).st = p.st := rfl
  rw [e, hf, h2] at this
  exact hg this.symm
end So
end Go.Proofs.YtbmabcddciibfaaGreat
