/- The iterator that tells runs: its contract. -/
import Derived.Test.YtaedgifboepgdaaRunCode
namespace Go.Proofs.Ytaedgifboepgdaa
namespace Rn
open Go.RowKit Go.Shelf Tb Dsk
set_option linter.unusedVariables false
attribute [local go_sem] Oper.semAt_some

/-- The iterator's value: its two boxes. -/
theorem runs_any (m : Int) (a : Option Addr) (n c : Nat) (w : World) : Calls Try.prog 14 #[.int .i64 m, .slice a n c] w fun e w' =>
    e = .returned (.func (.func 17) #[] #[.pointer (some ⟨w.heap.size + 1, 0, none⟩), .pointer (some ⟨w.heap.size, 0, none⟩)]) ∧
    w' = (w.alloc (.cells #[.int .i64 m] 3)).alloc (.cells #[.slice a n c] 22) := by
  go_enter Try.func14, Try.ntmps14
  go_wp2
  go_ret
  exact ⟨rfl, rfl⟩
/-- What a round keeps: what lay below n₀, and how many a run may have. -/
def Kr (n₀ bm : Nat) (m : Int) (a b : World) : Prop := Below n₀ a b ∧ (a.cell? ⟨bm, 0, none⟩ = some (.int .i64 m) → b.cell? ⟨bm, 0, none⟩ = some (.int .i64 m))
theorem Kr.trans {n₀ bm : Nat} {m : Int} {a b c : World} (h : Kr n₀ bm m a b) (k : Kr n₀ bm m b c) : Kr n₀ bm m a c := ⟨h.1.trans k.1, fun e => k.2 (h.2 e)⟩
theorem kr_b {n₀ bm : Nat} {m : Int} {w : World} (hn : n₀ ≤ w.heap.size) (W : World) (l : Nat) (o o' : Obj) (hl : w.heap.size ≤ l) (h : W.heap[l]? = some o) (hc : o.isCells = false) (hw : o.isWalk = false) : Kr n₀ bm m W (W.putObj l o') :=
  ⟨belowK_b hn W l o o' hl h hc hw, fun e => cell_kept e (grownBy_putObj' W l o') fun r er => by cases er; exact ⟨o, h, hc⟩⟩
/-- Where the exceptions lie. -/
structure At (w : World) (n₀ b off : Nat) (l : List E) : Prop where
  lt : l ≠ [] → b < n₀
  size : n₀ ≤ w.heap.size
  get : ∀ (i : Nat) (x : E), l[i]? = some x → w.cell? ⟨b, off + i * 2, none⟩ = some (.int .i64 x.1) ∧ w.cell? ⟨b, off + i * 2 + 1, none⟩ = some (.int .i64 x.2)
theorem At.below {w w' : World} {n₀ b off : Nat} {l : List E} (h : At w n₀ b off l) (hb : Below n₀ w w') : At w' n₀ b off l := by
  refine ⟨h.lt, Nat.le_trans h.size hb.size, fun i x hx => ?_⟩
  have hlt := h.lt (by rintro rfl; simp at hx)
  exact ⟨(hb.cell (p := ⟨b, off + i * 2, none⟩) hlt).trans (h.get i x hx).1, (hb.cell (p := ⟨b, off + i * 2 + 1, none⟩) hlt).trans (h.get i x hx).2⟩
theorem At.row {w : World} {n₀ b off : Nat} {l : List E} (h : At w n₀ b off l) (k : Nat) : REnts w (some ⟨b, off + k * 2, none⟩) (l.drop k) := fun hn => by
  have hl : l ≠ [] := by rintro rfl; simp at hn
  refine ⟨b, _, rfl, Nat.lt_of_lt_of_le (h.lt hl) h.size, fun i x hx => ?_⟩
  rw [List.getElem?_drop] at hx
  have := h.get _ _ hx
  rw [show off + k * 2 + i * 2 = off + (k + i) * 2 by omega]
  exact this
theorem At.cut {w : World} {n₀ b off : Nat} {l : List E} (h : At w n₀ b off l) (x : Pt l.length) : REnts w (some ⟨b, off + x.at_ * 2, none⟩) (cut l x) := fun hn => by
  have hl : l ≠ [] := by rintro rfl; have := x.fits; have := x.pos; simp at *; omega
  refine ⟨b, _, rfl, Nat.lt_of_lt_of_le (h.lt hl) h.size, fun i y hy => ?_⟩
  have := h.get _ _ (cut_get hy)
  rw [show off + x.at_ * 2 + i * 2 = off + (x.at_ + i) * 2 by omega]
  exact this
/-- How many a slice has. -/
def sLen : Value → Nat
  | .slice _ n _ => n
  | _ => 0
/-- In the midst of the runs: so many exceptions are told. -/
structure IMid (l : List E) (J : List (Pt l.length) → World → Prop) (n₀ b off bm : Nat) (m : Int) (pre : List (Pt l.length)) (k : Nat) (w : World) : Prop where
  le : k ≤ l.length
  all : told m l = pre.map (cut l) ++ told m (l.drop k)
  j : J pre w
  row : At w n₀ b off l
  most : w.cell? ⟨bm, 0, none⟩ = some (.int .i64 m)
variable {m : Int} {l : List E} {n₀ b off bm : Nat} {J : List (Pt l.length) → World → Prop} {pre : List (Pt l.length)} {k : Nat} {w : World}
theorem IMid.newer (h : IMid l J n₀ b off bm m pre k w) {B0 : Nat} (hJ : AbidesFrom B0 J) {w' : World} (hb : Below w.heap.size w w') : IMid l J n₀ b off bm m pre k w' :=
  ⟨h.le, h.all, hJ _ _ _ none h.j ⟨hb.os, hb.tape, hb.output, hb.size, fun i hi _ => hb.block i hi⟩ (fun r e => by cases e), h.row.below (hb.mono h.row.size), (hb.cell (p := ⟨bm, 0, none⟩) (World.block_lt_of_cell? _ _ h.most)).trans h.most⟩
theorem IMid.stop (h : IMid l J n₀ b off bm m pre k w) (hk : ¬ k < l.length) : pre.map (cut l) = told m l := by
  rw [h.all, List.drop_eq_nil_of_le (by omega), told_nil, List.append_nil]
/-- The next run. -/
def next (l : List E) (k q : Nat) (h1 : 1 ≤ q) (h2 : k + q ≤ l.length) : Pt l.length := ⟨k, q, h1, h2⟩
theorem IMid.told (h : IMid l J n₀ b off bm m pre k w) {q : Nat} (hf : Fst m (l.drop k) q) (h1 : 1 ≤ q) (h2 : k + q ≤ l.length) : told m l = (pre ++ [next l k q h1 h2]).map (cut l) ++ told m (l.drop (k + q)) := by
  have e := hf.2.2
  rw [List.drop_drop] at e
  rw [h.all, e, List.map_append, List.append_assoc]
  rfl
theorem IMid.more (h : IMid l J n₀ b off bm m pre k w) {q : Nat} (hf : Fst m (l.drop k) q) (h2 : k + q ≤ l.length) : pre.length < (Rn.told m l).length := by
  rw [h.told hf hf.1 h2]
  simp only [List.length_append, List.length_map, List.length_cons, List.length_nil]
  omega
theorem IMid.step (h : IMid l J n₀ b off bm m pre k w) {q : Nat} (hf : Fst m (l.drop k) q) (h2 : k + q ≤ l.length) {w3 : World} (hj : J (pre ++ [next l k q hf.1 h2]) w3) (hk : Kr n₀ bm m w w3) : IMid l J n₀ b off bm m (pre ++ [next l k q hf.1 h2]) (k + q) w3 :=
  ⟨h2, h.told hf hf.1 h2, hj, h.row.below hk.1, hk.2 h.most⟩

set_option maxRecDepth 100000 in
set_option maxHeartbeats 2000000 in
theorem runs1_in (d : Nat) (hd : 1 ≤ d) (ly n₀ b off bm bs : Nat) (m : Int) (l : List E) (a : Option Addr) (n c : Nat) (hin : In m l n c) (hr : rightB m l = true) (ha : l ≠ [] → a = some ⟨b, off, none⟩) (J Jx : List (Pt l.length) → World → Prop) (B0 : Nat) (hJ : AbidesFrom B0 J)
    (hY : ∀ pre (x : Pt l.length) W, J pre W → pre.length < (told m l).length → YieldAt Fence.wide (d - 1) Try.prog ly #[.slice (some ⟨b, off + x.at_ * 2, none⟩) x.len (c - x.at_)] W fun e W' =>
      (e = .returned (.bool true) ∧ J (pre ++ [x]) W' ∧ Kr n₀ bm m W W') ∨ (e = .returned (.bool false) ∧ Jx (pre ++ [x]) W'))
    (W : World) (cs : W.cell? ⟨bs, 0, none⟩ = some (.slice a n c)) (h0 : IMid l J n₀ b off bm m [] 0 W) :
    CallsIn Fence.wide d Try.prog 17 #[.func (.yield ly) #[] #[], .pointer (some ⟨bs, 0, none⟩), .pointer (some ⟨bm, 0, none⟩)] W fun e W' => (∃ v, e = .returned v) ∧
      ((∃ ys, ys.map (cut l) = told m l ∧ J ys W') ∨ (∃ pre, pre.map (cut l) <+: told m l ∧ Jx pre W')) := by
  refine callsIn_of_wp Try.func17 rfl trivial ?_ rfl
  simp only [Try.ntmps17, List.size_toArray, List.length_cons, List.length_nil, Nat.reduceAdd, Nat.reduceSub, Array.replicate_succ, Array.replicate_zero, List.push_toArray, List.append_toArray, List.nil_append, List.cons_append]
  have H0 := Lib.hid h0
  have HJ := Lib.hid hJ
  have HY := Lib.hid hY
  have HI := Lib.hid hin
  have HR := Lib.hid hr
  have HA := Lib.hid ha
  have hm1 := (right_iff.1 hr).1
  have HPOS : Hid (∀ k, ∀ x ∈ l.drop k, 0 ≤ x.1) := Lib.hid fun k x hx => by
    obtain ⟨i, hi, rfl⟩ := List.getElem_of_mem (List.mem_of_mem_drop hx)
    exact pos_at hr hi
  clear hJ hY h0 hin hr ha
  gi_wp2
  gi_loopw [4] (fun v wr => ∃ (pre : List (Pt l.length)) (k : Nat) (q : Option Addr), v = .slice q (n - k) (c - k) ∧ k ≤ n ∧ Hid (l ≠ [] → k < n → q = some ⟨b, off + k * 2, none⟩) ∧ Hid (IMid l J n₀ b off bm m pre k wr)) (fun v _ => sLen v)
  case atStart => exact ⟨[], 0, a, rfl, Nat.zero_le _, Lib.hid (fun h _ => by rw [HA.out h]; simp), H0⟩
  case round =>
    obtain ⟨pre, k, q, rfl, hk, hq, hmid⟩ := hrel
    by_cases hlt : k < n
    · have hn := HI.out.len
      have hne : l ≠ [] := by intro e; rw [e] at hn; simp at hn; omega
      have hqe := hq.out hne hlt
      subst hqe
      obtain ⟨z, hz⟩ : ∃ z, z = n - k := ⟨_, rfl⟩
      obtain ⟨y, hy⟩ : ∃ y, y = c - k := ⟨_, rfl⟩
      have hzy : z ≤ y := by have := HI.out.cap; omega
      have d1 : decide ((z : Int) > 0) = true := by simp; omega
      have d2 : decide (z > 0) = true := by simp; omega
      have cm := hmid.out.most
      have L := Lib.hid (length_any (m := m) (l := l.drop k) (n := z) (c := y) ⟨by rw [List.length_drop]; omega, hzy, fun x hx => HI.out.small x (List.mem_of_mem_drop hx), HI.out.m0, HI.out.m1, by have := HI.out.bytes; omega⟩ hm1 (HPOS.out k) (by intro e; have := congrArg List.length e; rw [List.length_drop] at this; simp at this; omega) (some ⟨b, off + k * 2, none⟩) wr (hmid.out.row.row k))
      have HZ := Lib.hid hz
      have HYY := Lib.hid hy
      have HN := Lib.hid hn
      rw [← hz, ← hy]
      clear hz hy hn hne
      gi_wp2_with fail
      refine ⟨trivial, (callsIn_wide.2 L.out).mono ?_⟩
      rintro e w2 ⟨p, rfl, hf, hb⟩
      have hp1 := hf.1
      have hp2 : p ≤ z := by have := hf.2.1; rw [List.length_drop] at this; have := HZ.out; have := HN.out; omega
      have hkp : k + p ≤ l.length := by have := HZ.out; have := HN.out; omega
      have hm2 := hmid.out.newer HJ.out hb
      have HM2 := Lib.hid hm2
      have HF := Lib.hid hf
      have hlen := hm2.more hf hkp
      obtain ⟨fn, tmps, assign, body, hyl, hRR⟩ := HY.out pre (next l k p hf.1 hkp) _ hm2.j hlen
      have HP : Hid ((pre ++ [next l k p hf.1 hkp]).map (cut l) <+: told m l) := Lib.hid ⟨_, (hm2.told hf hf.1 hkp).symm⟩
      have HS : Hid (∀ w3, J (pre ++ [next l k p hf.1 hkp]) w3 → Kr n₀ bm m w2 w3 → IMid l J n₀ b off bm m (pre ++ [next l k p hf.1 hkp]) (k + p) w3) := Lib.hid fun w3 hj hk => hm2.step hf hkp hj hk
      unfold next at hyl
      dsimp only at hyl
      rw [← HYY.out] at hyl
      have i1 : (0 : Int) ≤ (p : Int) := by omega
      have i2 : (p : Int) ≤ (z : Int) := by omega
      have i3 : (p : Int) ≤ (y : Int) := by omega
      clear hm2 hb cm L
      gi_wp2_with fail
      refine hRR.mono ?_
      rintro e W3 (⟨rfl, hJ3, hk3⟩ | ⟨rfl, hJx3⟩)
      · have HM3 := Lib.hid (HS.out W3 hJ3 hk3)
        clear hk3 hJ3
        gi_wp2_with fail
        go_roundw
        case rel =>
          refine ⟨_, k + p, if y = p then some ⟨b, off + k * 2, none⟩ else some ⟨b, off + k * 2 + p * 2, none⟩, ?_, by have := HZ.out; omega, Lib.hid fun hne h3 => ?_, HM3⟩
          · rw [show n - (k + p) = z - p by have := HZ.out; omega, show c - (k + p) = y - p by have := HYY.out; omega]
          · rw [if_neg (by have := HYY.out; have := HI.out.cap; omega), show off + k * 2 + p * 2 = off + (k + p) * 2 by omega]
        case measure => simp [sLen]; omega
      · gi_wp2
        refine bodyPost_ret (results_none rfl _ _ _) rfl ?_
        exact ⟨⟨_, rfl⟩, .inr ⟨_, HP.out, hJx3⟩⟩
    · obtain rfl : k = n := by omega
      have d1 : decide (((k - k : Nat) : Int) > 0) = false := by simp
      have d2 : decide (k - k > 0) = false := by simp
      have HM := Lib.hid (hmid.out.stop (by have := HI.out.len; omega))
      gi_wp2_with fail
      go_end0
      exact ⟨⟨_, rfl⟩, .inl ⟨pre, HM.out, hmid.out.j⟩⟩
end Rn
end Go.Proofs.Ytaedgifboepgdaa
