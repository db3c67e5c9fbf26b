/- The contract of command's Parse. -/
import Derived.Test.YtdojclhcoboocaaDoorCmdPut
import Derived.LoopTactic
namespace Go.Proofs.YtdojclhcoboocaaDoor
namespace Co
open Go.RowKit Go.Lib Pd Dsk
set_option maxRecDepth 100000
set_option linter.unusedVariables false

theorem sclone_any (l : List UInt8) (w : World) (hl : l.length ≤ 4294967295) : Calls Tryd.prog 18 #[.string (Om.B l)] w fun e w' => e = .returned (.string (Om.B l)) ∧ Below w.heap.size w w' := by
  have CL := Lib.hid (clone_str (Om.B l) w (by rw [Om.B_size]; omega))
  go_enter Tryd.func18, Tryd.ntmps18
  go_wp2_with fail
  refine CL.out.mono ?_
  rintro e w1 ⟨rfl, hb⟩
  have B1 := Lib.hid hb
  clear hb
  go_wp2
  go_ret
  exact ⟨rfl, B1.out⟩
/-- A command's value. -/
def cval (c : Cd) : Value := .agg #[.string (Om.B c.op), .int .i64 c.id, .int .i64 c.at_, .int .i64 c.n, .string (Om.B c.data)]
/-- What Parse tells. -/
def PCIs (s : List UInt8) (w : World) (e : Ending) (w' : World) : Prop := e = .returned (.tuple #[cval (parseCV s), .int .i64 (parseCE s)]) ∧ Below w.heap.size w w'
theorem size_cmd {a b c d e : Value} : (Tryd.prog.info? 23).map (·.size) = some (#[a, b, c, d, e] : Array Value).size := by
  show _ = some 5
  kernel_rfl
theorem results_cmd_tmp {fn : Func} {p u : Tmp} (h : fn.results = #[.cell p 23, .tmp u]) (tmps : Array Value) (w : World) (g : Nat) (x0 x1 x2 x3 x4 v : Value)
    (hp : tmps.getD p undef = .pointer (some ⟨g, 0, none⟩)) (hu : tmps.getD u undef = v) (hg : w.heap[g]? = some (.cells #[x0, x1, x2, x3, x4] 23 (0, 0))) :
    (results fn tmps).run Tryd.prog w = .ok (.tuple #[.agg #[x0, x1, x2, x3, x4], v]) w := by
  have hi : (Tryd.prog.info? 23).map (·.size) = some (#[x0, x1, x2, x3, x4] : Array Value).size := size_cmd
  rw [results_cell_tmp h, hp, hu]
  simp [asAddr, run_loadVar_row w g 23 23 #[x0, x1, x2, x3, x4] (0, 0) _ hg Tryd.underlying23 rfl hi, Result.andThen]
/-- The result's block, while it is empty. -/
def Zb (w W : World) : Prop := W.heap[w.heap.size]? = some (.cells #[.string ⟨#[]⟩, .int .i64 0, .int .i64 0, .int .i64 0, .string ⟨#[]⟩] 23 (0, 0))
theorem Zb.below {w W W' : World} (h : Zb w W) (hb : Below W.heap.size W W') : Zb w W' := (hb.block _ (Array.getElem?_eq_some_iff.1 h).1).trans h
theorem setrow_below {w W : World} (hb : Below w.heap.size w W) (cs : Array Value) : Below w.heap.size w (W.setRow w.heap.size cs) := hb.trans ((Fr.setRow (F := fun b => b = w.heap.size) (Fr.refl _ W) w.heap.size rfl cs).below hb.size fun b hb => by rw [hb]; exact Nat.le_refl _)
theorem pc_no {s : List UInt8} {w W : World} (h : parseC s = none) (hr : Zb w W) (hb : Below w.heap.size w W) :
    PCIs s w (.returned (.tuple #[.agg #[.string ⟨#[]⟩, .int .i64 0, .int .i64 0, .int .i64 0, .string ⟨#[]⟩], .int .i64 32])) (W.setRow w.heap.size #[.string ⟨#[]⟩, .int .i64 0, .int .i64 0, .int .i64 0, .string ⟨#[]⟩]) ∧ (W.setRow w.heap.size #[.string ⟨#[]⟩, .int .i64 0, .int .i64 0, .int .i64 0, .string ⟨#[]⟩]).heap[w.heap.size]? = some (.cells #[.string ⟨#[]⟩, .int .i64 0, .int .i64 0, .int .i64 0, .string ⟨#[]⟩] 23 (0, 0)) :=
  ⟨⟨by unfold parseCV parseCE; rw [h]; rfl, setrow_below hb _⟩, setRow_heap _ _ _ _ _ _ hr⟩
theorem pc_yes {s : List UInt8} {c : Cd} {w W : World} (h : parseC s = some c) (hr : Zb w W) (hb : Below w.heap.size w W) :
    PCIs s w (.returned (.tuple #[.agg #[.string (Om.B c.op), .int .i64 c.id, .int .i64 c.at_, .int .i64 c.n, .string (Om.B c.data)], .int .i64 0])) (W.setRow w.heap.size #[.string (Om.B c.op), .int .i64 c.id, .int .i64 c.at_, .int .i64 c.n, .string (Om.B c.data)]) ∧ (W.setRow w.heap.size #[.string (Om.B c.op), .int .i64 c.id, .int .i64 c.at_, .int .i64 c.n, .string (Om.B c.data)]).heap[w.heap.size]? = some (.cells #[.string (Om.B c.op), .int .i64 c.id, .int .i64 c.at_, .int .i64 c.n, .string (Om.B c.data)] 23 (0, 0)) :=
  ⟨⟨by unfold parseCV parseCE; rw [h]; rfl, setrow_below hb _⟩, setRow_heap _ _ _ _ _ _ hr⟩
/-- What is so between two letters. -/
structure Qs (w : World) (q K : Nat) (L : List UInt8) (pos : Nat) (c : Cd) (W : World) : Prop where
  below : Below w.heap.size w W
  res : Zb w W
  cb : Cb W q c
  it : W.heap[K]? = some (.stringIter (Om.B L) pos)
  hq : w.heap.size < q
  hk : w.heap.size < K
  ne : K ≠ q
theorem Qs.new {w W W' : World} {q K pos : Nat} {L : List UInt8} {c : Cd} (h : Qs w q K L pos c W) (hb : Below W.heap.size W W') : Qs w q K L pos c W' :=
  ⟨h.below.trans (hb.mono h.below.size), h.res.below hb, h.cb.below hb, (hb.block _ (Array.getElem?_eq_some_iff.1 h.it).1).trans h.it, h.hq, h.hk, h.ne⟩
theorem Qs.next {w W : World} {q K pos : Nat} {L : List UInt8} {c : Cd} (h : Qs w q K L pos c W) (p : Nat) : Qs w q K L p c (W.iterAt K (Om.B L) p) :=
  ⟨Lib.below_iterAt h.below (Nat.le_of_lt h.hk) _ _, (Lib.iterAt_other _ _ _ _ _ (by have := h.hk; omega)).trans h.res, (Lib.iterAt_other _ _ _ _ _ (fun e => h.ne e.symm)).trans h.cb, Lib.iterAt_heap _ _ _ _ _ h.it, h.hq, h.hk, h.ne⟩
theorem Qs.put {w W W' : World} {q K pos : Nat} {L : List UInt8} {c d : Cd} (h : Qs w q K L pos c W) (hf : Fr (fun i => i = q) W W') (hd : Cb W' q d) : Qs w q K L pos d W' :=
  ⟨h.below.trans (hf.below h.below.size fun k hk => by rw [hk]; exact Nat.le_of_lt h.hq), (hf.block _ (Array.getElem?_eq_some_iff.1 h.res).1 (by have := h.hq; omega)).trans h.res, hd, (hf.block _ (Array.getElem?_eq_some_iff.1 h.it).1 h.ne).trans h.it, h.hq, h.hk, h.ne⟩
theorem paC_step {L : List UInt8} {pos : Nat} {x : UInt8} (hx : L[pos]? = some x) (ws : List (List UInt8)) (c : Cd) : paC (L.drop pos) ws c = (putC x (ws.headD []) c).bind fun d => paC (L.drop (pos + 1)) ws.tail d := by
  rw [drop_at' hx]
  rfl
end Co
end Go.Proofs.YtdojclhcoboocaaDoor
