/- The contract of the document's Parse. -/
import Derived.Test.YtheldnamllnkeaaDoorDmpRowR
namespace Go.Proofs.YtheldnamllnkeaaDoor
namespace Pq
open Go.RowKit Dsk Go.Maps Pd
set_option maxRecDepth 100000
set_option linter.unusedVariables false

/-- What Parse tells. -/
def PRIs (l : List (List UInt8)) (w : World) (e : Ending) (w' : World) : Prop := ∃ a c, e = .returned (.tuple #[Rv (parseV l) a c, .int .i64 (parseE l)]) ∧ RLns w' a (parseV l).ls ∧ Below w.heap.size w w'
theorem results_rr_tmp {fn : Func} {p u : Tmp} (h : fn.results = #[.cell p 36, .tmp u]) (tmps : Array Value) (w : World) (g : Nat) (x0 x1 x2 x3 v : Value)
    (hp : tmps.getD p undef = .pointer (some ⟨g, 0, none⟩)) (hu : tmps.getD u undef = v) (hg : w.heap[g]? = some (.cells #[x0, x1, x2, x3] 36 (0, 0))) :
    (results fn tmps).run Tryd.prog w = .ok (.tuple #[.agg #[x0, x1, x2, x3], v]) w := by
  have hi : (Tryd.prog.info? 36).map (·.size) = some (#[x0, x1, x2, x3] : Array Value).size := size_rrep
  rw [results_cell_tmp h, hp, hu]
  simp [asAddr, run_loadVar_row w g 36 36 #[x0, x1, x2, x3] (0, 0) _ hg Tryd.underlying36 rfl hi, Result.andThen]
/-- Behind an error: the empty report is stored. -/
theorem pr_no {l : List (List UInt8)} {w W : World} (h : parse l = none) (hr : W.heap[w.heap.size]? = some (.cells #[.int .i64 0, .int .i64 0, .int .i64 0, .slice none 0 0] 36 (0, 0))) (hb : Below w.heap.size w W) :
    PRIs l w (.returned (.tuple #[.agg #[.int .i64 0, .int .i64 0, .int .i64 0, .slice none 0 0], .int .i64 32])) (W.setRow w.heap.size #[.int .i64 0, .int .i64 0, .int .i64 0, .slice none 0 0]) ∧ (W.setRow w.heap.size #[.int .i64 0, .int .i64 0, .int .i64 0, .slice none 0 0]).heap[w.heap.size]? = some (.cells #[.int .i64 0, .int .i64 0, .int .i64 0, .slice none 0 0] 36 (0, 0)) := by
  obtain ⟨h1, h2⟩ := parse_bad h
  refine ⟨⟨none, 0, ?_, ?_, ?_⟩, setRow_heap _ _ _ _ _ _ hr⟩
  · rw [h1, h2]; rfl
  · rw [h1]; exact fun c => absurd rfl c
  · exact hb.trans ((Fr.setRow (F := fun b => b = w.heap.size) (Fr.refl _ W) w.heap.size rfl _).below hb.size fun b hb => by rw [hb]; exact Nat.le_refl _)
theorem two_zero (w : World) (o1 o2 : Obj) : Below w.heap.size w ((w.alloc o1).alloc o2) ∧ ((w.alloc o1).alloc o2).heap[w.heap.size]? = some o1 ∧ ((w.alloc o1).alloc o2).heap[w.heap.size + 1]? = some o2 ∧ ((w.alloc o1).alloc o2).heap.size = w.heap.size + 2 := by
  have s1 : (w.alloc o1).heap.size = w.heap.size + 1 := by simp
  have e1 := heap_alloc_new w o1
  have e2 := heap_alloc_new (w.alloc o1) o2
  rw [s1] at e2
  have b2 : Below (w.heap.size + 1) (w.alloc o1) ((w.alloc o1).alloc o2) := (Below.refl _ _).alloc (by simp) _
  exact ⟨((Below.refl _ w).alloc (Nat.le_refl _) _).alloc (by simp) _, (b2.block w.heap.size (by omega)).trans e1, e2, by simp⟩
theorem rparse_nil (a : Option Addr) (c : Nat) (w : World) : Calls Tryd.prog 14 #[.slice a 0 c] w (PRIs [] w) := by
  have TZ := Lib.hid (two_zero w (.cells #[.int .i64 0, .int .i64 0, .int .i64 0, .slice none 0 0] 36) (.cells #[.int .i64 0, .int .i64 0, .int .i64 0, .slice none 0 0] 36))
  have FN := Lib.hid (pr_no (l := []) rfl TZ.out.2.1 TZ.out.1)
  go_enter Tryd.func14, Tryd.ntmps14
  go_wp2_with fail
  refine bodyPost_ret (results_rr_tmp (p := 2) (u := 3) rfl _ _ w.heap.size _ _ _ _ _ rfl rfl TZ.out.2.1) rfl ?_
  obtain ⟨h1, h2⟩ := parse_bad (l := []) rfl
  exact ⟨none, 0, by rw [h1, h2]; rfl, by rw [h1]; exact fun c => absurd rfl c, TZ.out.1⟩
theorem parse_none {s : List UInt8} {r : List (List UInt8)} (h : supP (words s) = none) : parse (s :: r) = none := by
  show (supP (words s)).bind _ = none
  rw [h]
  rfl
/-- Behind the last line. -/
theorem pr_yes {l : List (List UInt8)} {w W : World} {K x y z : Nat} {a : Option Addr} {c : Nat} {ls : List Ln} {evs : List Value} (h : parse l = some ⟨x, y, z, ls⟩) (hr : Rs w K (x, y, z) (.slice a ls.length c) ls evs W) :
    PRIs l w (.returned (.tuple #[.agg #[.int .i64 (x : Int), .int .i64 (y : Int), .int .i64 (z : Int), .slice a ls.length c], .int .i64 0])) (W.setRow w.heap.size #[.int .i64 (x : Int), .int .i64 (y : Int), .int .i64 (z : Int), .slice a ls.length c]) ∧ (W.setRow w.heap.size #[.int .i64 (x : Int), .int .i64 (y : Int), .int .i64 (z : Int), .slice a ls.length c]).heap[w.heap.size]? = some (.cells #[.int .i64 (x : Int), .int .i64 (y : Int), .int .i64 (z : Int), .slice a ls.length c] 36 (0, 0)) := by
  obtain ⟨h1, h2⟩ := parse_ok h
  obtain ⟨q1, q2⟩ := hr.fin #[.int .i64 (x : Int), .int .i64 (y : Int), .int .i64 (z : Int), .slice a ls.length c]
  refine ⟨⟨a, c, ?_, ?_, q2⟩, setRow_heap _ _ _ _ _ _ hr.res⟩
  · rw [h1, h2]; rfl
  · rw [h1]; exact q1.rlns
theorem Rs.elBox {w W : World} {K : Nat} {p : Nat × Nat × Nat} {v : Value} {init : List Ln} {x : Ln} {einit : List Value} {ev : Value} (h : Rs w K p v (init ++ [x]) (einit ++ [ev]) W) : ev.ownBlock ≠ some K := fun k => by
  have hlen : einit.length = init.length := by have := h.rows.len; simpa using this
  have hev : (einit ++ [ev])[init.length]? = some ev := by rw [← hlen, List.getElem?_append_right (Nat.le_refl _), Nat.sub_self]; rfl
  obtain ⟨d, hd⟩ := h.rows.elt _ ev hev K k
  rw [h.box] at hd
  injection hd with hd
  injection hd with _ hd
  exact absurd hd (by decide)
set_option linter.unusedSimpArgs false in
set_option maxHeartbeats 8000000 in
theorem rparse_cons (s : List UInt8) (r : List (List UInt8)) (a : Option Addr) (c : Nat) (w : World) (hl : ∀ x ∈ s :: r, x.length ≤ 900000) (hr : r.length ≤ 900000) (hR : SRow w a (s :: r)) :
    Calls Tryd.prog 14 #[.slice a (r.length + 1) c] w (PRIs (s :: r) w) := by
  obtain ⟨b, off, rfl, hb, hcells⟩ := hR (by simp)
  have TZ := Lib.hid (two_zero w (.cells #[.int .i64 0, .int .i64 0, .int .i64 0, .slice none 0 0] 36) (.cells #[.int .i64 0, .int .i64 0, .int .i64 0, .slice none 0 0] 36))
  have HC : Hid (∀ (i : Nat) x, (s :: r)[i]? = some x → ∀ W, Below w.heap.size w W → W.cell? ⟨b, off + i, none⟩ = some (.string (Om.B x))) := Lib.hid fun i x hx W hb' => (hb'.cell (p := ⟨b, off + i, none⟩) hb).trans (hcells i x hx)
  have c0 : ((w.alloc (.cells #[.int .i64 0, .int .i64 0, .int .i64 0, .slice none 0 0] 36)).alloc (.cells #[.int .i64 0, .int .i64 0, .int .i64 0, .slice none 0 0] 36)).cell? ⟨b, off, none⟩ = some (.string (Om.B s)) := HC.out 0 s rfl _ TZ.out.1
  have NU : Hid (∀ W, Calls Tryd.prog 25 #[.string (Om.B s), .string ⟨#[100, 105, 115, 107, 32, 35, 32, 111, 114, 105, 103, 105, 110, 32, 35, 32, 99, 104, 117, 110, 107, 32, 35]⟩] W (NumsIs ((supP (words s)).map fun p => [p.1, p.2.1, p.2.2]) W)) := Lib.hid fun W => by
    rw [← get_D, ← words_D]
    exact rnums_any s formD W (hl s (by simp)) (by decide)
  have NE : Hid (∀ (l : List UInt8), l.length ≤ 900000 → ∀ W, Calls Tryd.prog 25 #[.string (Om.B l), .string ⟨#[101, 110, 116, 114, 121, 32, 35, 32, 35]⟩] W (NumsIs ((entX (words l)).map fun p => [p.1.toNat, p.2.toNat]) W)) := Lib.hid fun l hl W => by
    rw [← get_E, ← words_E]
    exact rnums_any l formE W hl (by decide)
  have HL := Lib.hid hl
  have HRL := Lib.hid hr
  obtain ⟨m, hm⟩ : ∃ m, m = r.length := ⟨_, rfl⟩
  rw [← hm] at hr ⊢
  have HM := Lib.hid hm
  have d0 : (((m : Int) + 1) == 0) = false := by rw [beq_eq_false_iff_ne]; omega
  have d0' : decide ((0 : Nat) < m + 1) = true := by simp
  have d0'' : decide ((0 : Int) < (m : Int) + 1) = true := by rw [decide_eq_true_iff]; omega
  have d1' : (0 : Int) < (m : Int) + 1 := by omega
  clear hcells hl hm hb
  go_enter Tryd.func14, Tryd.ntmps14
  go_wp2_with fail
  cases hp : supP (words s) with
  | none =>
    rw [hp] at NU
    have NON : Hid (parse (s :: r) = none) := Lib.hid (parse_none hp)
    clear hp c0
    refine (NU.out _).mono ?_
    rintro e w1 ⟨rfl, hb1⟩
    have B1 := Lib.hid hb1
    have BX : Hid (Below w.heap.size w w1) := Lib.hid (bgo TZ.out.1 (Nat.le_refl _) hb1)
    have RES : Hid (w1.heap[w.heap.size]? = some (.cells #[.int .i64 0, .int .i64 0, .int .i64 0, .slice none 0 0] 36 (0, 0))) := Lib.hid ((hb1.block _ (by have := TZ.out.2.2.2; omega)).trans TZ.out.2.1)
    have NOB : Hid (w1.heap[w.heap.size + 1]? = some (.cells #[.int .i64 0, .int .i64 0, .int .i64 0, .slice none 0 0] 36 (0, 0))) := Lib.hid ((hb1.block _ (by have := TZ.out.2.2.2; omega)).trans TZ.out.2.2.1)
    have FN := Lib.hid (pr_no NON.out RES.out BX.out)
    clear hb1
    go_wp2_with (first | (refine wpList_load_row rfl 36 _ rfl (w.heap.size + 1) rfl 36 #[.int .i64 0, .int .i64 0, .int .i64 0, .slice none 0 0] (0, 0) _ NOB.out Tryd.underlying36 rfl size_rrep ?_) | (refine wpList_store_row rfl 36 _ _ rfl w.heap.size #[.int .i64 0, .int .i64 0, .int .i64 0, .slice none 0 0] rfl rfl 36 _ RES.out size_rrep rfl (by simp [Value.oneCell']) ?_))
    exact bodyPost_ret (results_rr_tmp (p := 2) (u := 3) rfl _ _ w.heap.size _ _ _ _ _ rfl rfl FN.out.2) rfl FN.out.1
  | some p =>
    obtain ⟨x, y, z⟩ := p
    rw [hp] at NU
    have H1 := Lib.hid hp
    clear hp c0
    refine (NU.out _).mono ?_
    rintro e w1 ⟨v, rfl, hg1⟩
    obtain ⟨gg, cap, rfl, hlt, hcell⟩ := hg1.at_ (by simp)
    have B1 := Lib.hid hg1.below
    have BX : Hid (Below w.heap.size w w1) := Lib.hid (bgo TZ.out.1 (Nat.le_refl _) hg1.below)
    have RES : Hid (w1.heap[w.heap.size]? = some (.cells #[.int .i64 0, .int .i64 0, .int .i64 0, .slice none 0 0] 36 (0, 0))) := Lib.hid ((B1.out.block _ (by have := TZ.out.2.2.2; omega)).trans TZ.out.2.1)
    have NOB : Hid (w1.heap[w.heap.size + 1]? = some (.cells #[.int .i64 0, .int .i64 0, .int .i64 0, .slice none 0 0] 36 (0, 0))) := Lib.hid ((B1.out.block _ (by have := TZ.out.2.2.2; omega)).trans TZ.out.2.2.1)
    have c0 := hcell 0 x rfl
    have c1 := hcell 1 y rfl
    have c2 := hcell 2 z rfl
    clear hg1 hcell hlt
    rw [show ([((x, y, z) : Nat × Nat × Nat).1, ((x, y, z) : Nat × Nat × Nat).2.1, ((x, y, z) : Nat × Nat × Nat).2.2] : List Nat).length = 3 from rfl]
    go_wp2
    go_region_held3 (fun w' => w'.cell? ⟨gg, 0, none⟩ = some (.int .i64 (x : Int)) ∧ w'.cell? ⟨gg, 1, none⟩ = some (.int .i64 (y : Int)) ∧ w'.cell? ⟨gg, 2, none⟩ = some (.int .i64 (z : Int)))
      (first | go_keep | (refine ⟨?_, ?_, ?_⟩ <;> assumption))
      (fail)
    rename_i hh
    clear hh c0 c1 c2
    obtain ⟨W2, hW2⟩ : ∃ W2, (w1.alloc (.cells #[.int .i64 (x : Int), .int .i64 (y : Int), .int .i64 (z : Int), .slice none 0 0] 36)).drew = W2 := ⟨_, rfl⟩
    have B2 : Hid (Below w1.heap.size w1 W2) := Lib.hid (by rw [← hW2]; exact ((Below.refl _ _).alloc (Nat.le_refl _) _).drew)
    have K2 : Hid (W2.heap[w1.heap.size]? = some (.cells #[.int .i64 (x : Int), .int .i64 (y : Int), .int .i64 (z : Int), .slice none 0 0] 36 (0, 0))) := Lib.hid (by rw [← hW2]; exact heap_alloc_new _ _)
    have RS0 : Hid (Rs w w1.heap.size (x, y, z) (.slice none 0 0) [] [] W2) := Lib.hid (by
      have h1 : w.heap.size + 1 < w1.heap.size := (Array.getElem?_eq_some_iff.1 NOB.out).1
      exact ⟨bgo BX.out (Nat.le_refl _) B2.out, (B2.out.block _ (by omega)).trans RES.out, K2.out, (B2.out.block _ (by omega)).trans NOB.out, ⟨by omega, by omega⟩, BX.out.size, Rows.nil _ _⟩)
    rw [hW2]
    clear hW2
    obtain ⟨K, hK⟩ : ∃ K, K = w1.heap.size := ⟨_, rfl⟩
    rw [← hK] at RS0 ⊢
    clear hK B1 BX RES NOB B2 K2
    go_wp2_with fail
    have HWK : Hid (w.heap.size ≤ K) := Lib.hid RS0.out.kb
    go_loopw [8] (fun i wr => ∃ t : Nat, 1 ≤ t ∧ t ≤ m + 1 ∧ i = .int .i64 (t : Int) ∧ ∃ v ls evs, Hid (addAll [] (r.take (t - 1)) = some ls) ∧ Hid (Rs w K (x, y, z) v ls evs wr)) (fun i _ => m + 1 - (Lib.intOf i).toNat)
    case atStart => exact ⟨1, Nat.le_refl _, by omega, rfl, _, [], [], Lib.hid rfl, RS0⟩
    case round =>
      obtain ⟨t, ht1, ht, rfl, v, ls, evs, hall, hrs⟩ := hrel
      by_cases hlt : t < m + 1
      · have hjr : t - 1 < r.length := by rw [← HM.out]; omega
        obtain ⟨l, hl⟩ : ∃ l, l = r[t - 1] := ⟨_, rfl⟩
        have HLJ : Hid (r[t - 1]? = some l) := Lib.hid (by rw [hl]; exact List.getElem?_eq_getElem hjr)
        have CL : Hid (∀ W, Below w.heap.size w W → W.cell? ⟨b, off + t, none⟩ = some (.string (Om.B l))) := Lib.hid fun W hb => HC.out t l (by
          obtain ⟨u, rfl⟩ : ∃ u, t = u + 1 := ⟨t - 1, by omega⟩
          simpa using HLJ.out) W hb
        have LL : Hid (l.length ≤ 900000) := Lib.hid (HL.out l (List.mem_cons_of_mem _ (List.mem_of_getElem? HLJ.out)))
        have TT : Hid (t - 1 + 1 = t ∧ 1 ≤ t ∧ t < m + 1) := Lib.hid (by omega)
        have cl := CL.out wr hrs.out.below
        have SL := Lib.hid (fun W => rslot_any l W LL.out)
        have LSM : Hid (ls.length ≤ 900000) := Lib.hid (by
          have h1 := addAll_length _ _ _ hall.out
          have h2 : (r.take (t - 1)).length ≤ 900000 := by rw [List.length_take]; have := HRL.out; omega
          have h3 : ([] : List Ln).length = 0 := rfl
          omega)
        have d1 : decide ((t : Int) < (m : Int) + 1) = true := by rw [decide_eq_true_iff]; omega
        have d1'' : decide (t < m + 1) = true := by simp; omega
        have j0 : (0 : Int) ≤ (t : Int) := by omega
        have j1 : (t : Int) < (m : Int) + 1 := by omega
        have hw1 : IntKind.i64.wrap ((t : Int) + 1) = ((t + 1 : Nat) : Int) := by rw [IntWalk.i64_in _ (by omega)]; rfl
        have STEP : Hid (addAll [] (r.take t) = addP ls l) := Lib.hid (by have h := addAll_next hall.out HLJ.out; rwa [TT.out.1] at h)
        have STOPS : Hid (addP ls l = none → parse (s :: r) = none) := Lib.hid fun h => parse_no (addAll_no hall.out HLJ.out h)
        clear hjr hl
        go_wp2_with fail
        cases hx : slotX (words l) with
        | some xx =>
          rw [hx] at SL
          have ADD : Hid (addP ls l = some (ls ++ [xx])) := Lib.hid (by rw [addP_eq, hx])
          have XES : Hid (xx.es = []) := Lib.hid (slotX_back hx).2.2.2
          clear hx
          unfold RSlotIs lval at SL
          refine (SL.out _).mono ?_
          rintro e w3 ⟨rfl, hb3⟩
          have RS3 := Lib.hid (hrs.out.new hb3)
          have T2 := Lib.hid (two_zero w3 (.cells #[.int .i64 xx.id, .int .i64 xx.st, .int .i64 xx.a, .int .i64 xx.n, .int .u32 (xx.g : Int), .int .i64 xx.room, .bool xx.inv, .slice none 0 0] 63) (.cells #[.int .i64 xx.id, .int .i64 xx.st, .int .i64 xx.a, .int .i64 xx.n, .int .u32 (xx.g : Int), .int .i64 xx.room, .bool xx.inv, .slice none 0 0] 63))
          have RB : Hid ((w3.alloc (.cells #[.int .i64 xx.id, .int .i64 xx.st, .int .i64 xx.a, .int .i64 xx.n, .int .u32 (xx.g : Int), .int .i64 xx.room, .bool xx.inv, .slice none 0 0] 63)).heap[w3.heap.size]? = some (.cells #[.int .i64 xx.id, .int .i64 xx.st, .int .i64 xx.a, .int .i64 xx.n, .int .u32 (xx.g : Int), .int .i64 xx.room, .bool xx.inv, .slice none 0 0] 63 (0, 0))) := Lib.hid (heap_alloc_new _ _)
          have RS4 := Lib.hid (RS3.out.new T2.out.1)
          have RS3b := Lib.hid (RS3.out.new ((Below.refl w3.heap.size w3).alloc (Nat.le_refl _) (.cells #[.int .i64 xx.id, .int .i64 xx.st, .int .i64 xx.a, .int .i64 xx.n, .int .u32 (xx.g : Int), .int .i64 xx.room, .bool xx.inv, .slice none 0 0] 63)))
          have NEWS : Hid (∀ j u, (lcells xx (.slice none 0 0))[j]? = some u → ((w3.alloc (.cells #[.int .i64 xx.id, .int .i64 xx.st, .int .i64 xx.a, .int .i64 xx.n, .int .u32 (xx.g : Int), .int .i64 xx.room, .bool xx.inv, .slice none 0 0] 63)).alloc (.cells #[.int .i64 xx.id, .int .i64 xx.st, .int .i64 xx.a, .int .i64 xx.n, .int .u32 (xx.g : Int), .int .i64 xx.room, .bool xx.inv, .slice none 0 0] 63)).cell? ((⟨w3.heap.size + 1, 0, none⟩ : Addr).add j) = some u) := Lib.hid (World.news_of_block T2.out.2.2.1)
          have LM : Hid (ls.length + 1 ≤ maxLen ∧ (ls.length + 1) * 80 ≤ 140737488355328) := Lib.hid (by have := LSM.out; unfold maxLen; omega)
          have BWC : Hid (w.heap.size ≤ ((w3.alloc (.cells #[.int .i64 xx.id, .int .i64 xx.st, .int .i64 xx.a, .int .i64 xx.n, .int .u32 (xx.g : Int), .int .i64 xx.room, .bool xx.inv, .slice none 0 0] 63)).alloc (.cells #[.int .i64 xx.id, .int .i64 xx.st, .int .i64 xx.a, .int .i64 xx.n, .int .u32 (xx.g : Int), .int .i64 xx.room, .bool xx.inv, .slice none 0 0] 63)).heap.size) := Lib.hid RS4.out.below.size
          have k3 : (w3.alloc (.cells #[.int .i64 xx.id, .int .i64 xx.st, .int .i64 xx.a, .int .i64 xx.n, .int .u32 (xx.g : Int), .int .i64 xx.room, .bool xx.inv, .slice none 0 0] 63)).cell? ⟨K, 3, none⟩ = some v := by rw [cell_of_row _ _ _ _ _ _ RS3b.out.box]; rfl
          obtain ⟨i0, hi, hz0, hz1, hz2⟩ := info_parts info_rline
          clear hb3 cl
          go_wp2_with (first
            | (refine wpList_load_row rfl 63 _ rfl w3.heap.size rfl 63 #[.int .i64 xx.id, .int .i64 xx.st, .int .i64 xx.a, .int .i64 xx.n, .int .u32 (xx.g : Int), .int .i64 xx.room, .bool xx.inv, .slice none 0 0] (0, 0) _ RB.out Tryd.underlying63 rfl size_line8 ?_)
            | (at_builtin; refine wpList_append_own _ rfl (.tmp 56) (.tmp 58) 34 rfl w.heap.size 63 i0 _ 8 80 Tryd.underlying34 hi hz0 hz1 hz2 rfl (by decide) v ls.length (rcells ls evs) rfl RS4.out.rows.row ⟨w3.heap.size + 1, 0, none⟩ 1 1 (lcells xx (.slice none 0 0)) rfl rfl NEWS.out (lcells_one _ _ _ _) LM.out.1 LM.out.2 BWC.out ?_; refine Hid.out ?_))
          refine Lib.hid ?_
          intro v6 w6 h1 h2 _
          obtain ⟨va6, vc6, rfl⟩ := own_slice h1
          have F6 : Fr (fun b => v.ownBlock = some b) ((w3.alloc (.cells #[.int .i64 xx.id, .int .i64 xx.st, .int .i64 xx.a, .int .i64 xx.n, .int .u32 (xx.g : Int), .int .i64 xx.room, .bool xx.inv, .slice none 0 0] 63)).alloc (.cells #[.int .i64 xx.id, .int .i64 xx.st, .int .i64 xx.a, .int .i64 xx.n, .int .u32 (xx.g : Int), .int .i64 xx.room, .bool xx.inv, .slice none 0 0] 63)) w6 := Fr.of_grown (F := fun b => v.ownBlock = some b) h2 fun b e => e
          have RS6 := Lib.hid (RS4.out.line XES.out h1 F6)
          have x6 := (F6.block _ (Array.getElem?_eq_some_iff.1 RS4.out.box).1 RS4.out.noBox).trans RS4.out.box
          have m6 : w6.cell? ⟨K, 3, none⟩ = some v := by rw [cell_of_row _ _ _ _ _ _ x6]; rfl
          have g6 : w6.frozen? ⟨K, 3, none⟩ = false := frozen_of_row (j := 3) _ _ _ _ x6
          have NX : Hid (addAll [] (r.take (t + 1 - 1)) = some (ls ++ [xx])) := Lib.hid (by rw [Nat.add_sub_cancel, STEP.out, ADD.out])
          clear h1 h2 F6 x6 k3
          go_wp2
          go_roundw
          case rel => exact ⟨t + 1, by omega, by have := TT.out; omega, by go_num, _, _, _, NX, RS6⟩
          case measure => have := TT.out; simp [Lib.intOf]; omega
        | none =>
          rw [hx] at SL
          have ADD : Hid (addP ls l = (entX (words l)).bind fun e => addE ls e) := Lib.hid (by rw [addP_eq, hx])
          clear hx
          unfold RSlotIs lzero at SL
          refine (SL.out _).mono ?_
          rintro e w3 ⟨rfl, hb3⟩
          have RS3 := Lib.hid (hrs.out.new hb3)
          have RS4 := Lib.hid (RS3.out.new ((Below.refl w3.heap.size w3).alloc (Nat.le_refl _) (.cells #[.int .i64 0, .int .i64 0, .int .i64 0, .int .i64 0, .int .u32 0, .int .i64 0, .bool false, .slice none 0 0] 63)))
          have cl4 := CL.out _ RS4.out.below
          have NN := Lib.hid (fun W => NE.out l LL.out W)
          clear hb3 cl
          go_wp2_with fail
          clear cl4
          cases he : entX (words l) with
          | none =>
            rw [he] at NN
            have NON : Hid (parse (s :: r) = none) := Lib.hid (STOPS.out (by rw [ADD.out, he]; rfl))
            clear he
            refine (NN.out _).mono ?_
            rintro e w5 ⟨rfl, hb5⟩
            have RS5 := Lib.hid (RS4.out.new hb5)
            have RES := Lib.hid RS5.out.res
            have NOB := Lib.hid RS5.out.non
            have FN := Lib.hid (pr_no NON.out RS5.out.res RS5.out.below)
            obtain ⟨va, vc, rfl⟩ := own_slice RS5.out.rows.row
            have k3 : w5.cell? ⟨K, 3, none⟩ = some (.slice va ls.length vc) := by rw [cell_of_row _ _ _ _ _ _ RS5.out.box]; rfl
            obtain ⟨n, hn⟩ : ∃ n, n = ls.length := ⟨_, rfl⟩
            rw [← hn] at k3
            have hwn : IntKind.i64.wrap ((n : Int) - 1) = (n : Int) - 1 := IntWalk.i64_in _ (by have := LSM.out; omega)
            clear hb5 hn
            go_wp2_with (first | (refine wpList_load_row rfl 36 _ rfl (w.heap.size + 1) rfl 36 #[.int .i64 0, .int .i64 0, .int .i64 0, .slice none 0 0] (0, 0) _ NOB.out Tryd.underlying36 rfl size_rrep ?_) | (refine wpList_store_row rfl 36 _ _ rfl w.heap.size #[.int .i64 0, .int .i64 0, .int .i64 0, .slice none 0 0] rfl rfl 36 _ RES.out size_rrep rfl (by simp [Value.oneCell']) ?_))
            exact bodyPost_ret (results_rr_tmp (p := 2) (u := 3) rfl _ _ w.heap.size _ _ _ _ _ rfl rfl FN.out.2) rfl FN.out.1
          | some en =>
            rw [he] at NN
            obtain ⟨na, hna⟩ : ∃ na, na = en.1.toNat := ⟨_, rfl⟩
            obtain ⟨nb, hnb⟩ : ∃ nb, nb = en.2.toNat := ⟨_, rfl⟩
            have EE : Hid (en = ((na : Int), (nb : Int))) := Lib.hid (by rw [hna, hnb, (entX_nn he).1, (entX_nn he).2])
            have ADD2 : Hid (addP ls l = addE ls ((na : Int), (nb : Int))) := Lib.hid (by rw [ADD.out, he, ← EE.out]; rfl)
            clear he
            refine (NN.out _).mono ?_
            rintro e w5 ⟨v5, rfl, hg5⟩
            obtain ⟨gg, cap5, rfl, hlt5, hcell5⟩ := hg5.at_ (by simp)
            have RS5 := Lib.hid (RS4.out.new hg5.below)
            have c50 := hcell5 0 en.1.toNat rfl
            have c51 := hcell5 1 en.2.toNat rfl
            rw [← hna] at c50
            rw [← hnb] at c51
            have G5 := Lib.hid hlt5
            rw [show ([en.1.toNat, en.2.toNat] : List Nat).length = 2 from rfl]
            obtain ⟨cur5, hcur5⟩ := own_block hg5.row gg rfl
            have GR0 : Hid (w5.heap[gg]? = some (.cells cur5 3 (0, 0))) := Lib.hid hcur5
            clear hg5 hcell5 hlt5 hna hnb hcur5
            rcases List.eq_nil_or_concat ls with rfl | ⟨init, xl, hxl⟩
            · have NON : Hid (parse (s :: r) = none) := Lib.hid (STOPS.out (by rw [ADD2.out]; rfl))
              have RES := Lib.hid RS5.out.res
              have NOB := Lib.hid RS5.out.non
              have FN := Lib.hid (pr_no NON.out RS5.out.res RS5.out.below)
              obtain ⟨va, vc, rfl⟩ := own_slice RS5.out.rows.row
              have k3 : w5.cell? ⟨K, 3, none⟩ = some (.slice va 0 vc) := by rw [cell_of_row _ _ _ _ _ _ RS5.out.box]; rfl
              clear c50 c51
              go_wp2_with (first | (refine wpList_load_row rfl 36 _ rfl (w.heap.size + 1) rfl 36 #[.int .i64 0, .int .i64 0, .int .i64 0, .slice none 0 0] (0, 0) _ NOB.out Tryd.underlying36 rfl size_rrep ?_) | (refine wpList_store_row rfl 36 _ _ rfl w.heap.size #[.int .i64 0, .int .i64 0, .int .i64 0, .slice none 0 0] rfl rfl 36 _ RES.out size_rrep rfl (by simp [Value.oneCell']) ?_))
              exact bodyPost_ret (results_rr_tmp (p := 2) (u := 3) rfl _ _ w.heap.size _ _ _ _ _ rfl rfl FN.out.2) rfl FN.out.1
            · rw [List.concat_eq_append] at hxl
              subst hxl
              obtain ⟨einit, ev, hev⟩ : ∃ einit ev, evs = einit ++ [ev] := by
                rcases List.eq_nil_or_concat evs with h | ⟨einit, ev, h⟩
                · have := RS5.out.rows.len; rw [h] at this; simp at this
                · exact ⟨einit, ev, by rw [h, List.concat_eq_append]⟩
              subst hev
              obtain ⟨g, cap, hvg⟩ : ∃ g cap, v = .slice (some ⟨g, 0, none⟩) (init.length + 1) cap := by
                rcases RS5.out.rows.row.2 with ⟨_, h⟩ | ⟨g, cap, cur, h, _⟩
                · simp at h
                · exact ⟨g, cap, by rw [h, List.length_append, List.length_singleton]⟩
              subst hvg
              obtain ⟨c5, f5, lt5, ng, hent⟩ := RS5.out.last rfl
              obtain ⟨ea, ec, rfl⟩ := own_slice hent
              have NBG : Hid ((Value.slice ea xl.es.length ec).ownBlock ≠ some g) := Lib.hid ng
              have LEX : Hid (xl.es.length ≤ 1000000 ∧ init.length ≤ 1000000) := Lib.hid (les_ok hall.out (by have := HRL.out; omega))
              have LES : Hid (xl.es.length + 1 ≤ maxLen ∧ (xl.es.length + 1) * 16 ≤ 140737488355328) := Lib.hid (by have := LEX.out; unfold maxLen; omega)
              have RS5A := Lib.hid (RS5.out.new ((Below.refl _ _).alloc (Nat.le_refl _) (.cells #[.int .i64 (na : Int), .int .i64 (nb : Int)] 56)))
              obtain ⟨c5b, f5b, lt5b, -, -⟩ := RS5A.out.last rfl
              have k3 : w5.cell? ⟨K, 3, none⟩ = some (.slice (some ⟨g, 0, none⟩) (init.length + 1) cap) := by rw [cell_of_row _ _ _ _ _ _ RS5.out.box]; rfl
              have k3b : (w5.alloc (.cells #[.int .i64 (na : Int), .int .i64 (nb : Int)] 56)).cell? ⟨K, 3, none⟩ = some (.slice (some ⟨g, 0, none⟩) (init.length + 1) cap) := by rw [cell_of_row _ _ _ _ _ _ RS5A.out.box]; rfl
              have q0 : (0 : Int) ≤ (init.length : Int) := by omega
              have q1 : (init.length : Int) < (init.length : Int) + 1 := by omega
              have q2 : decide ((0 : Int) < (init.length : Int) + 1) = true := by rw [decide_eq_true_iff]; omega
              have q5 : decide ((init.length : Int) < 0) = false := by simp
              have q4 : (init.length : Int) ≤ 1000000 := by have := LEX.out; omega
              have qb : -9223372036854775808 ≤ (init.length : Int) ∧ (init.length : Int) ≤ 9223372036854775807 := by omega
              have q3 : wrap64 (init.length : Int) = (init.length : Int) := IntWalk.wrap64_in _ qb
              have q6 : IntKind.i64.wrap (init.length : Int) = (init.length : Int) := IntWalk.i64_in _ qb
              obtain ⟨i0, hi, hz0, hz1, hz2⟩ := info_parts Tb.info_entry
              have GR : Hid ((w5.alloc (.cells #[.int .i64 (na : Int), .int .i64 (nb : Int)] 56)).heap[gg]? = some (.cells cur5 3 (0, 0))) := Lib.hid (((Below.refl _ w5).alloc (Nat.le_refl _) _).block gg G5.out |>.trans GR0.out)
              have GC : Hid ((w5.alloc (.cells #[.int .i64 (na : Int), .int .i64 (nb : Int)] 56)).cell? ⟨gg, 0, none⟩ = some (.int .i64 (na : Int)) ∧ (w5.alloc (.cells #[.int .i64 (na : Int), .int .i64 (nb : Int)] 56)).cell? ⟨gg, 1, none⟩ = some (.int .i64 (nb : Int))) := Lib.hid ⟨(((Below.refl _ w5).alloc (Nat.le_refl _) _).cell (p := ⟨gg, 0, none⟩) G5.out).trans c50, (((Below.refl _ w5).alloc (Nat.le_refl _) _).cell (p := ⟨gg, 1, none⟩) G5.out).trans c51⟩
              have NBI : Hid ((Value.slice ea xl.es.length ec).ownBlock ≠ some gg) := Lib.hid fun k => by
                obtain ⟨d, hd⟩ := RS5.out.rows.elt init.length _ (by have hlen : einit.length = init.length := by (have := RS5.out.rows.len; simpa using this)
                                                                     rw [← hlen, List.getElem?_append_right (Nat.le_refl _), Nat.sub_self]; rfl) gg k
                rw [GR0.out] at hd
                injection hd with hd
                injection hd with _ hd
                exact absurd hd (by decide)
              have SETO : Hid ((∀ (W : World) u, (W.setCell ⟨g, init.length * 8 + 7, none⟩ u).cell? ⟨K, 3, none⟩ = W.cell? ⟨K, 3, none⟩) ∧ (∀ (W : World) u j, (W.setCell ⟨g, init.length * 8 + 7, none⟩ u).cell? ⟨gg, j, none⟩ = W.cell? ⟨gg, j, none⟩)) := Lib.hid (by
                obtain ⟨d, hd⟩ := RS5.out.rows.vlt g rfl
                have n1 : K ≠ g := fun e => by
                  have h := RS5.out.box
                  rw [e, hd] at h
                  injection h with h
                  injection h with _ h
                  exact absurd h (by decide)
                have n2 : gg ≠ g := fun e => by
                  have h := GR0.out
                  rw [e, hd] at h
                  injection h with h
                  injection h with _ h
                  exact absurd h (by decide)
                exact ⟨fun W u => by unfold World.cell?; rw [heap_setCell_other _ ⟨g, init.length * 8 + 7, none⟩ _ _ n1], fun W u j => by unfold World.cell?; rw [heap_setCell_other _ ⟨g, init.length * 8 + 7, none⟩ _ _ n2]⟩)
              clear ng hent qb
              go_wp2_with fail
              refine wp_region_held_drew (S := (fun w' => w'.cell? ⟨K, 3, none⟩ = some (.slice (some ⟨g, 0, none⟩) (init.length + 1) cap) ∧ w'.cell? ⟨gg, 0, none⟩ = some (.int .i64 (na : Int)) ∧ w'.cell? ⟨gg, 1, none⟩ = some (.int .i64 (nb : Int)))) (by kernel_rfl) (by first | (refine ⟨?_, ?_, ?_⟩ <;> assumption) | (refine ⟨?_, ?_, ?_⟩ <;> assumption)) (fun hHeld => ?_)
              refine wpAnyH_take (i := 0) (v := ?_) rfl (by kernel_rfl) (by kernel_rfl) (by kernel_rfl) (fun _ _ _ h => h) (Or.inl ⟨by rfl, ?_⟩) (by assumption) ?_
              rotate_left
              · intro w hSw; (try dsimp only at hSw); go_simp; (try with_reducible rfl)
              (try simp only [Act.put, List.setIfInBounds_toArray, List.set_cons_zero, List.set_cons_succ])
              refine wpAnyH_take (i := 1) (v := ?_) rfl (by kernel_rfl) (by kernel_rfl) (by kernel_rfl) (fun _ _ _ h => h) (Or.inl ⟨by rfl, ?_⟩) (by assumption) ?_
              rotate_left
              · intro w hSw; (try dsimp only at hSw); go_simp; (try with_reducible rfl)
              (try simp only [Act.put, List.setIfInBounds_toArray, List.set_cons_zero, List.set_cons_succ])
              refine wpAnyH_take (i := 2) (v := ?_) rfl (by kernel_rfl) (by kernel_rfl) (by kernel_rfl) (fun _ _ _ h => h) (Or.inl ⟨by rfl, ?_⟩) (by assumption) ?_
              rotate_left
              · intro w hSw; (try dsimp only at hSw); go_simp; (try with_reducible rfl)
              (try simp only [Act.put, List.setIfInBounds_toArray, List.set_cons_zero, List.set_cons_succ])
              refine wpAnyH_take (i := 3) (v := ?_) rfl (by kernel_rfl) (by kernel_rfl) (by kernel_rfl) (fun _ _ _ h => h) (Or.inl ⟨by rfl, ?_⟩) (by assumption) ?_
              rotate_left
              · intro w hSw; (try dsimp only at hSw); go_simp; (try with_reducible rfl)
              (try simp only [Act.put, List.setIfInBounds_toArray, List.set_cons_zero, List.set_cons_succ])
              refine wpAnyH_take (i := 4) (v := ?_) rfl (by kernel_rfl) (by kernel_rfl) (by kernel_rfl) (fun _ _ _ h => h) (Or.inl ⟨by rfl, ?_⟩) (by assumption) ?_
              rotate_left
              · intro w hSw; (try dsimp only at hSw); go_simp; (try with_reducible rfl)
              (try simp only [Act.put, List.setIfInBounds_toArray, List.set_cons_zero, List.set_cons_succ])
              refine wpAnyH_take (i := 5) (v := ?_) rfl (by kernel_rfl) (by kernel_rfl) (by kernel_rfl) (fun _ _ _ h => h) (Or.inl ⟨by rfl, ?_⟩) (by assumption) ?_
              rotate_left
              · intro w hSw; (try dsimp only at hSw); go_simp; (try with_reducible rfl)
              (try simp only [Act.put, List.setIfInBounds_toArray, List.set_cons_zero, List.set_cons_succ])
              refine wpAnyH_take (i := 6) (v := ?_) rfl (by kernel_rfl) (by kernel_rfl) (by kernel_rfl) (fun _ _ _ h => h) (Or.inl ⟨by rfl, ?_⟩) (by assumption) ?_
              rotate_left
              · intro w hSw; (try dsimp only at hSw); go_simp; (try with_reducible rfl)
              (try simp only [Act.put, List.setIfInBounds_toArray, List.set_cons_zero, List.set_cons_succ])
              refine wpAnyH_take (i := 7) (v := ?_) rfl (by kernel_rfl) (by kernel_rfl) (by kernel_rfl) (fun _ _ _ h => h) (Or.inl ⟨by rfl, ?_⟩) (by assumption) ?_
              rotate_left
              · intro w hSw; (try dsimp only at hSw); go_simp; (try with_reducible rfl)
              (try simp only [Act.put, List.setIfInBounds_toArray, List.set_cons_zero, List.set_cons_succ])
              refine wpAnyH_take (i := 9) (v := ?_) rfl (by kernel_rfl) (by kernel_rfl) (by kernel_rfl) (fun _ _ _ h => h) (Or.inl ⟨by rfl, ?_⟩) (by assumption) ?_
              rotate_left
              · intro w hSw; (try dsimp only at hSw); go_simp; (try with_reducible rfl)
              (try simp only [Act.put, List.setIfInBounds_toArray, List.set_cons_zero, List.set_cons_succ])
              refine wpAnyH_take (i := 10) (v := ?_) rfl (by kernel_rfl) (by kernel_rfl) (by kernel_rfl) (fun _ _ _ h => h) (Or.inl ⟨by rfl, ?_⟩) (by assumption) ?_
              rotate_left
              · intro w hSw; (try dsimp only at hSw); go_simp; (try with_reducible rfl)
              (try simp only [Act.put, List.setIfInBounds_toArray, List.set_cons_zero, List.set_cons_succ])
              refine wpAnyH_take (i := 11) (v := ?_) rfl (by kernel_rfl) (by kernel_rfl) (by kernel_rfl) (fun _ _ _ h => h) (Or.inl ⟨by rfl, ?_⟩) (by assumption) ?_
              rotate_left
              · intro w hSw; (try dsimp only at hSw); go_simp; (try with_reducible rfl)
              (try simp only [Act.put, List.setIfInBounds_toArray, List.set_cons_zero, List.set_cons_succ])
              refine wpAnyH_take (i := 12) (v := ?_) rfl (by kernel_rfl) (by kernel_rfl) (by kernel_rfl) (fun _ _ _ h => h) (Or.inl ⟨by rfl, ?_⟩) (by assumption) ?_
              rotate_left
              · intro w hSw; (try dsimp only at hSw); go_simp; (try with_reducible rfl)
              (try simp only [Act.put, List.setIfInBounds_toArray, List.set_cons_zero, List.set_cons_succ])
              refine wpAnyH_take (i := 13) (v := ?_) rfl (by kernel_rfl) (by kernel_rfl) (by kernel_rfl) (fun _ _ _ h => h) (Or.inl ⟨by rfl, ?_⟩) (by assumption) ?_
              rotate_left
              · intro w hSw; (try dsimp only at hSw); go_simp; (try with_reducible rfl)
              (try simp only [Act.put, List.setIfInBounds_toArray, List.set_cons_zero, List.set_cons_succ])
              refine wpAnyH_take (i := 14) (v := ?_) rfl (by kernel_rfl) (by kernel_rfl) (by kernel_rfl) (fun _ _ _ h => h) (Or.inl ⟨by rfl, ?_⟩) (by assumption) ?_
              rotate_left
              · intro w hSw; (try dsimp only at hSw); go_simp; (try with_reducible rfl)
              (try simp only [Act.put, List.setIfInBounds_toArray, List.set_cons_zero, List.set_cons_succ])
              refine wpAnyH_take (i := 15) (v := ?_) rfl (by kernel_rfl) (by kernel_rfl) (by kernel_rfl) (fun _ _ _ h => h) (Or.inl ⟨by rfl, ?_⟩) (by assumption) ?_
              rotate_left
              · intro w hSw; (try dsimp only at hSw); go_simp; (try with_reducible rfl)
              (try simp only [Act.put, List.setIfInBounds_toArray, List.set_cons_zero, List.set_cons_succ])
              refine wpAnyH_ready (rs := [8, 16]) (by kernel_rfl) (by simp) ?_
              refine AllReadyH.cons rfl (fun KK hK => ?_) (AllReadyH.cons rfl (fun KK hK => ?_) AllReadyH.nil)
              · skip
                go_simp
                refine hK.out _ _ ?_ (fun hHeld => ?_)
                · first | (exact ⟨k7, g70, g71⟩) | (exact ⟨k6, g60, g61⟩) | (refine ⟨?_, ?_, ?_⟩ <;> assumption) | (exact ⟨k3b, GC.out.1, GC.out.2⟩)
                clear hK KK
                refine wpAnyH_ready (rs := [16]) (by kernel_rfl) (by simp) ?_
                refine AllReadyH.cons rfl (fun KK hK => ?_) AllReadyH.nil
                go_simp
                refine hK.out _ _ ?_ (fun hHeld => ?_)
                · first | (exact ⟨k7, g70, g71⟩) | (exact ⟨k6, g60, g61⟩) | (refine ⟨?_, ?_, ?_⟩ <;> assumption) | (exact ⟨k3b, GC.out.1, GC.out.2⟩)
                clear hK KK
                refine wpAnyH_ready (rs := [17]) (by kernel_rfl) (by simp) ?_
                refine AllReadyH.cons rfl (fun KK hK => ?_) AllReadyH.nil
                (refine step_append_lies _ (by rfl) (.tmp 88) (.tmp 96) 52 (by rfl) w.heap.size 56 i0 _ 2 16 Tryd.underlying52 hi hz0 hz1 hz2 rfl (by decide) (.slice ea xl.es.length ec) xl.es.length (Tb.ecells xl.es) (by rfl) (RS5A.out.last rfl).2.2.2.2 ⟨w5.heap.size, 0, none⟩ 1 1 [.int .i64 (na : Int),   .int .i64 (nb : Int)] (by rfl) (by rfl) (World.news_of_block (heap_alloc_new w5 _)) (Tb.two_one _ _) (by omega) LES.out.1 LES.out.2 (Nat.le_trans RS5.out.below.size (by simp)) (w5.heap.size + 1) (by simp) ?_; intro g6 cap6 w6 hown6 hgr6 hat6 hlt6; have F6 : Hid (Fr (fun b => (Value.slice ea xl.es.length ec).ownBlock = some b) (w5.alloc (.cells #[.int .i64 (na : Int), .int .i64 (nb : Int)] 56)) w6) := Lib.hid ((Fr.refl (fun b => (Value.slice ea xl.es.length ec).ownBlock = some b) _).drew.trans (Fr.of_grown (F := fun b => (Value.slice ea xl.es.length ec).ownBlock = some b) hgr6 fun b e => e) fun _ _ e => e); have O6 := Lib.hid hown6; have AT6 := Lib.hid hat6; obtain ⟨bg, hbg⟩ := RS5A.out.rows.vlt g rfl; have bx6 := (F6.out.block g (Array.getElem?_eq_some_iff.1 hbg).1 NBG.out).trans hbg; have c6 : w6.cell? ⟨g, init.length * 8 + 7, none⟩ = some (.slice ea xl.es.length ec) := (by rw [cell_of_row _ _ _ _ _ _ bx6, ← c5b, cell_of_row _ _ _ _ _ _ hbg]); have f6 : w6.frozen? ⟨g, init.length * 8 + 7, none⟩ = false := frozen_of_row (j := init.length * 8 + 7) _ _ _ _ bx6; have kx6 := (F6.out.block K (Array.getElem?_eq_some_iff.1 RS5A.out.box).1 (RS5A.out.elBox)).trans RS5A.out.box; have k6 : w6.cell? ⟨K, 3, none⟩ = some (.slice (some ⟨g, 0, none⟩) (init.length + 1) cap) := (by rw [cell_of_row _ _ _ _ _ _ kx6]; rfl); have gx6 := (F6.out.block gg (Nat.lt_of_lt_of_le G5.out (by simp)) NBI.out).trans GR.out; have g60 : w6.cell? ⟨gg, 0, none⟩ = some (.int .i64 (na : Int)) := (by rw [← GC.out.1]; unfold World.cell?; rw [gx6, GR.out]); have g61 : w6.cell? ⟨gg, 1, none⟩ = some (.int .i64 (nb : Int)) := (by rw [← GC.out.2]; unfold World.cell?; rw [gx6, GR.out]); have k7 : (w6.setCell ⟨g, init.length * 8 + 7, none⟩ (.slice (some ⟨g6, 0, none⟩) (xl.es.length + 1) cap6)).cell? ⟨K, 3, none⟩ = some (.slice (some ⟨g, 0, none⟩) (init.length + 1) cap) := (SETO.out.1 _ _).trans k6; have g70 : (w6.setCell ⟨g, init.length * 8 + 7, none⟩ (.slice (some ⟨g6, 0, none⟩) (xl.es.length + 1) cap6)).cell? ⟨gg, 0, none⟩ = some (.int .i64 (na : Int)) := (SETO.out.2 _ _ 0).trans g60; have g71 : (w6.setCell ⟨g, init.length * 8 + 7, none⟩ (.slice (some ⟨g6, 0, none⟩) (xl.es.length + 1) cap6)).cell? ⟨gg, 1, none⟩ = some (.int .i64 (nb : Int)) := (SETO.out.2 _ _ 1).trans g61; clear hown6 hgr6 hat6 hlt6 bx6 hbg kx6 gx6)
                refine hK.out _ _ ?_ (fun hHeld => ?_)
                · first | (exact ⟨k7, g70, g71⟩) | (exact ⟨k6, g60, g61⟩) | (refine ⟨?_, ?_, ?_⟩ <;> assumption) | (exact ⟨k3b, GC.out.1, GC.out.2⟩)
                clear hK KK
                refine wpAnyH_take (i := 18) (v := ?_) rfl (by kernel_rfl) (by kernel_rfl) (by kernel_rfl) (fun _ _ _ h => h) (Or.inl ⟨by rfl, ?_⟩) (by assumption) ?_
                rotate_left
                · intro w hSw; (try dsimp only at hSw); go_simp; (try with_reducible rfl)
                (try simp only [Act.put, List.setIfInBounds_toArray, List.set_cons_zero, List.set_cons_succ])
                refine wpAnyH_take (i := 19) (v := ?_) rfl (by kernel_rfl) (by kernel_rfl) (by kernel_rfl) (fun _ _ _ h => h) (Or.inl ⟨by rfl, ?_⟩) (by assumption) ?_
                rotate_left
                · intro w hSw; (try dsimp only at hSw); go_simp; (try with_reducible rfl)
                (try simp only [Act.put, List.setIfInBounds_toArray, List.set_cons_zero, List.set_cons_succ])
                refine wpAnyH_ready (rs := [20]) (by kernel_rfl) (by simp) ?_
                refine AllReadyH.cons rfl (fun KK hK => ?_) AllReadyH.nil
                go_simp
                refine hK.out _ _ ?_ (fun hHeld => ?_)
                · first | (exact ⟨k7, g70, g71⟩) | (exact ⟨k6, g60, g61⟩) | (refine ⟨?_, ?_, ?_⟩ <;> assumption) | (exact ⟨k3b, GC.out.1, GC.out.2⟩)
                clear hK KK
                refine wpAnyH_done (by kernel_rfl) ?_ _
                have ODD : Hid (w6.ownsRow w.heap.size 56 2 (.slice (some ⟨g6, 0, none⟩) (xl.es.length + 1) cap6) (xl.es.length + 1) (Tb.ecells (xl.es ++ [((na : Int), (nb : Int))]))) := Lib.hid (by rw [Tb.ecells_snoc]; exact O6.out)
                have NEW : Hid (∀ b, (Value.slice (some ⟨g6, 0, none⟩) (xl.es.length + 1) cap6).ownBlock = some b → (Value.slice ea xl.es.length ec).ownBlock = some b ∨ (w5.alloc (.cells #[.int .i64 (na : Int), .int .i64 (nb : Int)] 56)).heap.size ≤ b) := Lib.hid fun b hb => by
                  cases hb
                  rcases AT6.out with e | e
                  · exact .inl e
                  · right; rw [e]; simp
                have RS7 := Lib.hid (RS5A.out.entry rfl ODD.out F6.out NEW.out)
                have NX : Hid (addAll [] (r.take (t + 1 - 1)) = some (init ++ [{ xl with es := xl.es ++ [((na : Int), (nb : Int))] }])) := Lib.hid (by rw [Nat.add_sub_cancel, STEP.out, ADD2.out, addE_snoc])
                clear c5 f5 lt5 c5b f5b lt5b c6 f6 k3 k3b k6 c50 c51 g60 g61 k7 g70 g71
                obtain ⟨W7, hW7⟩ : ∃ W7, w6.setCell ⟨g, init.length * 8 + 7, none⟩ (.slice (some ⟨g6, 0, none⟩) (xl.es.length + 1) cap6) = W7 := ⟨_, rfl⟩
                rw [hW7] at RS7 ⊢
                clear hW7
                go_wp2
                go_roundw
                case rel => exact ⟨t + 1, by omega, by have := TT.out; omega, by go_num, _, _, _, NX, RS7⟩
                case measure => have := TT.out; simp [Lib.intOf]; omega
              · skip
                go_simp
                refine hK.out _ _ ?_ (fun hHeld => ?_)
                · first | (exact ⟨k7, g70, g71⟩) | (exact ⟨k6, g60, g61⟩) | (refine ⟨?_, ?_, ?_⟩ <;> assumption) | (exact ⟨k3b, GC.out.1, GC.out.2⟩)
                clear hK KK
                refine wpAnyH_ready (rs := [8]) (by kernel_rfl) (by simp) ?_
                refine AllReadyH.cons rfl (fun KK hK => ?_) AllReadyH.nil
                go_simp
                refine hK.out _ _ ?_ (fun hHeld => ?_)
                · first | (exact ⟨k7, g70, g71⟩) | (exact ⟨k6, g60, g61⟩) | (refine ⟨?_, ?_, ?_⟩ <;> assumption) | (exact ⟨k3b, GC.out.1, GC.out.2⟩)
                clear hK KK
                refine wpAnyH_ready (rs := [17]) (by kernel_rfl) (by simp) ?_
                refine AllReadyH.cons rfl (fun KK hK => ?_) AllReadyH.nil
                (refine step_append_lies _ (by rfl) (.tmp 88) (.tmp 96) 52 (by rfl) w.heap.size 56 i0 _ 2 16 Tryd.underlying52 hi hz0 hz1 hz2 rfl (by decide) (.slice ea xl.es.length ec) xl.es.length (Tb.ecells xl.es) (by rfl) (RS5A.out.last rfl).2.2.2.2 ⟨w5.heap.size, 0, none⟩ 1 1 [.int .i64 (na : Int),   .int .i64 (nb : Int)] (by rfl) (by rfl) (World.news_of_block (heap_alloc_new w5 _)) (Tb.two_one _ _) (by omega) LES.out.1 LES.out.2 (Nat.le_trans RS5.out.below.size (by simp)) (w5.heap.size + 1) (by simp) ?_; intro g6 cap6 w6 hown6 hgr6 hat6 hlt6; have F6 : Hid (Fr (fun b => (Value.slice ea xl.es.length ec).ownBlock = some b) (w5.alloc (.cells #[.int .i64 (na : Int), .int .i64 (nb : Int)] 56)) w6) := Lib.hid ((Fr.refl (fun b => (Value.slice ea xl.es.length ec).ownBlock = some b) _).drew.trans (Fr.of_grown (F := fun b => (Value.slice ea xl.es.length ec).ownBlock = some b) hgr6 fun b e => e) fun _ _ e => e); have O6 := Lib.hid hown6; have AT6 := Lib.hid hat6; obtain ⟨bg, hbg⟩ := RS5A.out.rows.vlt g rfl; have bx6 := (F6.out.block g (Array.getElem?_eq_some_iff.1 hbg).1 NBG.out).trans hbg; have c6 : w6.cell? ⟨g, init.length * 8 + 7, none⟩ = some (.slice ea xl.es.length ec) := (by rw [cell_of_row _ _ _ _ _ _ bx6, ← c5b, cell_of_row _ _ _ _ _ _ hbg]); have f6 : w6.frozen? ⟨g, init.length * 8 + 7, none⟩ = false := frozen_of_row (j := init.length * 8 + 7) _ _ _ _ bx6; have kx6 := (F6.out.block K (Array.getElem?_eq_some_iff.1 RS5A.out.box).1 (RS5A.out.elBox)).trans RS5A.out.box; have k6 : w6.cell? ⟨K, 3, none⟩ = some (.slice (some ⟨g, 0, none⟩) (init.length + 1) cap) := (by rw [cell_of_row _ _ _ _ _ _ kx6]; rfl); have gx6 := (F6.out.block gg (Nat.lt_of_lt_of_le G5.out (by simp)) NBI.out).trans GR.out; have g60 : w6.cell? ⟨gg, 0, none⟩ = some (.int .i64 (na : Int)) := (by rw [← GC.out.1]; unfold World.cell?; rw [gx6, GR.out]); have g61 : w6.cell? ⟨gg, 1, none⟩ = some (.int .i64 (nb : Int)) := (by rw [← GC.out.2]; unfold World.cell?; rw [gx6, GR.out]); have k7 : (w6.setCell ⟨g, init.length * 8 + 7, none⟩ (.slice (some ⟨g6, 0, none⟩) (xl.es.length + 1) cap6)).cell? ⟨K, 3, none⟩ = some (.slice (some ⟨g, 0, none⟩) (init.length + 1) cap) := (SETO.out.1 _ _).trans k6; have g70 : (w6.setCell ⟨g, init.length * 8 + 7, none⟩ (.slice (some ⟨g6, 0, none⟩) (xl.es.length + 1) cap6)).cell? ⟨gg, 0, none⟩ = some (.int .i64 (na : Int)) := (SETO.out.2 _ _ 0).trans g60; have g71 : (w6.setCell ⟨g, init.length * 8 + 7, none⟩ (.slice (some ⟨g6, 0, none⟩) (xl.es.length + 1) cap6)).cell? ⟨gg, 1, none⟩ = some (.int .i64 (nb : Int)) := (SETO.out.2 _ _ 1).trans g61; clear hown6 hgr6 hat6 hlt6 bx6 hbg kx6 gx6)
                refine hK.out _ _ ?_ (fun hHeld => ?_)
                · first | (exact ⟨k7, g70, g71⟩) | (exact ⟨k6, g60, g61⟩) | (refine ⟨?_, ?_, ?_⟩ <;> assumption) | (exact ⟨k3b, GC.out.1, GC.out.2⟩)
                clear hK KK
                refine wpAnyH_take (i := 18) (v := ?_) rfl (by kernel_rfl) (by kernel_rfl) (by kernel_rfl) (fun _ _ _ h => h) (Or.inl ⟨by rfl, ?_⟩) (by assumption) ?_
                rotate_left
                · intro w hSw; (try dsimp only at hSw); go_simp; (try with_reducible rfl)
                (try simp only [Act.put, List.setIfInBounds_toArray, List.set_cons_zero, List.set_cons_succ])
                refine wpAnyH_take (i := 19) (v := ?_) rfl (by kernel_rfl) (by kernel_rfl) (by kernel_rfl) (fun _ _ _ h => h) (Or.inl ⟨by rfl, ?_⟩) (by assumption) ?_
                rotate_left
                · intro w hSw; (try dsimp only at hSw); go_simp; (try with_reducible rfl)
                (try simp only [Act.put, List.setIfInBounds_toArray, List.set_cons_zero, List.set_cons_succ])
                refine wpAnyH_ready (rs := [20]) (by kernel_rfl) (by simp) ?_
                refine AllReadyH.cons rfl (fun KK hK => ?_) AllReadyH.nil
                go_simp
                refine hK.out _ _ ?_ (fun hHeld => ?_)
                · first | (exact ⟨k7, g70, g71⟩) | (exact ⟨k6, g60, g61⟩) | (refine ⟨?_, ?_, ?_⟩ <;> assumption) | (exact ⟨k3b, GC.out.1, GC.out.2⟩)
                clear hK KK
                refine wpAnyH_done (by kernel_rfl) ?_ _
                have ODD : Hid (w6.ownsRow w.heap.size 56 2 (.slice (some ⟨g6, 0, none⟩) (xl.es.length + 1) cap6) (xl.es.length + 1) (Tb.ecells (xl.es ++ [((na : Int), (nb : Int))]))) := Lib.hid (by rw [Tb.ecells_snoc]; exact O6.out)
                have NEW : Hid (∀ b, (Value.slice (some ⟨g6, 0, none⟩) (xl.es.length + 1) cap6).ownBlock = some b → (Value.slice ea xl.es.length ec).ownBlock = some b ∨ (w5.alloc (.cells #[.int .i64 (na : Int), .int .i64 (nb : Int)] 56)).heap.size ≤ b) := Lib.hid fun b hb => by
                  cases hb
                  rcases AT6.out with e | e
                  · exact .inl e
                  · right; rw [e]; simp
                have RS7 := Lib.hid (RS5A.out.entry rfl ODD.out F6.out NEW.out)
                have NX : Hid (addAll [] (r.take (t + 1 - 1)) = some (init ++ [{ xl with es := xl.es ++ [((na : Int), (nb : Int))] }])) := Lib.hid (by rw [Nat.add_sub_cancel, STEP.out, ADD2.out, addE_snoc])
                clear c5 f5 lt5 c5b f5b lt5b c6 f6 k3 k3b k6 c50 c51 g60 g61 k7 g70 g71
                obtain ⟨W7, hW7⟩ : ∃ W7, w6.setCell ⟨g, init.length * 8 + 7, none⟩ (.slice (some ⟨g6, 0, none⟩) (xl.es.length + 1) cap6) = W7 := ⟨_, rfl⟩
                rw [hW7] at RS7 ⊢
                clear hW7
                go_wp2
                go_roundw
                case rel => exact ⟨t + 1, by omega, by have := TT.out; omega, by go_num, _, _, _, NX, RS7⟩
                case measure => have := TT.out; simp [Lib.intOf]; omega
      · obtain rfl : t = m + 1 := by omega
        have d1 : decide (((m + 1 : Nat) : Int) < (m : Int) + 1) = false := by simp
        have d1' : decide ((m : Int) + 1 < (m : Int) + 1) = false := by simp
        have d1'' : decide (m + 1 < m + 1) = false := by simp
        obtain ⟨va, vc, rfl⟩ := own_slice hrs.out.rows.row
        have AL : Hid (parse (s :: r) = some ⟨x, y, z, ls⟩) := Lib.hid (parse_yes H1.out (by have h := hall.out; rw [Nat.add_sub_cancel, HM.out, List.take_length] at h; exact h))
        have BOXR := Lib.hid hrs.out.box
        have RESR := Lib.hid hrs.out.res
        have FN := Lib.hid (pr_yes AL.out hrs.out)
        go_wp2_with (first | (refine wpList_load_row rfl 36 _ rfl K rfl 36 #[.int .i64 (x : Int), .int .i64 (y : Int), .int .i64 (z : Int), .slice va ls.length vc] (0, 0) _ BOXR.out Tryd.underlying36 rfl size_rrep ?_) | (refine wpList_store_row rfl 36 _ _ rfl w.heap.size #[.int .i64 (x : Int), .int .i64 (y : Int), .int .i64 (z : Int), .slice va ls.length vc] rfl rfl 36 _ RESR.out size_rrep rfl (by simp [Value.oneCell']) ?_))
        exact bodyPost_ret (results_rr_tmp (p := 2) (u := 3) rfl _ _ w.heap.size _ _ _ _ _ rfl rfl FN.out.2) rfl FN.out.1
end Pq
end Go.Proofs.YtheldnamllnkeaaDoor
