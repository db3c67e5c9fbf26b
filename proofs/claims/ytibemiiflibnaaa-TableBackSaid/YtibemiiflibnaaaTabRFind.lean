/- The document's New, Pages, Find, Len, Put, Drop, Copy. -/
import Derived.Test.YtibemiiflibnaaaTabPush
import Derived.Test.YtibemiiflibnaaaTabMath2
import Derived.Test.YtibemiiflibnaaaAppendHome
import Derived.LoopTactic
namespace Go.Proofs.Ytibemiiflibnaaa
namespace Tb
open Go.RowKit Dsk Go.Maps
set_option linter.unusedVariables false
set_option maxRecDepth 100000

/-- 'append(l, y)' of one number in a literal of its own, at the operation (any type of slices of numbers). -/
theorem wpList_addN {w : World} {ops : Array Oper} {rest : List Oper} {o : Oper} {a : Act} {Q : Exit → Act → World → Prop} (hgd : o.guard = none) (s x : Operand) (t : TypeId) (ht : Try.prog.underlying t = some (.slice 3))
    (ho : o.op = .call { callee := .builtin .append, args := #[s, x], argTypes := #[t, t] }) (v : Value) (n : Nat) (l : List Int) (hs : a.eval s = v) (hn : n = l.length) (hl : n ≤ 1099511627776) (hown : w.ownsRow 0 3 1 v n (nums l))
    (b : Nat) (y : Int) (hx : a.eval x = .slice (some ⟨b, 0, none⟩) 1 1) (hc : w.cell? ⟨b, 0, none⟩ = some (.int .i64 y))
    (h : ∀ v' w', w'.ownsRow 0 3 1 v' (n + 1) (nums (l ++ [y])) → Fr (fun k => v.ownBlock = some k) w w' → (∀ k, v'.ownBlock = some k → v.ownBlock = some k ∨ w.heap.size ≤ k) → wpList Try.prog ops Q rest (a.put o.dst v') w') : wpList Try.prog ops Q (o :: rest) a w := by
  obtain ⟨i0, hi, hz0, hz1, hz2⟩ := info_parts info_int
  refine wpList_append_home hgd s x t ho 3 i0 _ 1 8 ht hi hz0 hz1 hz2 rfl (by decide) v n (nums l) hs hown ⟨b, 0, none⟩ 1 1 [.int .i64 y] hx rfl (fun j u hj => ?_) (nums_one y) (by unfold maxLen; omega) (by omega) fun v' w' h1 h2 h3 => ?_
  · cases j with
    | zero => injection hj with hj; subst hj; rw [show (⟨b, 0, none⟩ : Addr).add 0 = ⟨b, 0, none⟩ from by unfold Addr.add; split <;> simp_all]; exact hc
    | succ j => simp at hj
  · refine h v' w' (by rw [nums, List.map_append]; exact h1) (Fr.of_grown (F := fun k => v.ownBlock = some k) h2 fun k e => e) fun k hk => ?_
    rcases h3 with e | e
    · exact .inl (by rw [← e]; exact hk)
    · right
      rw [hk] at e
      injection e with e
      omega

/-- A row grows by one, in new memory: what is kept from round to round. -/
structure Grows (w : World) (l : List Int) (v : Value) (n : Nat) (wr : World) : Prop where
  row : wr.ownsRow 0 3 1 v n (nums l)
  len : n = l.length
  new : ∀ k, v.ownBlock = some k → w.heap.size ≤ k
  below : Below w.heap.size w wr
theorem Grows.nil {w wr : World} (hb : Below w.heap.size w wr) : Grows w [] (.slice none 0 0) 0 wr := ⟨World.ownsRow_nil _ _ _ _, rfl, fun k hk => (by cases hk), hb⟩
theorem Grows.own {w wr : World} {l : List Int} {v : Value} {n : Nat} (h : Grows w l v n wr) (y : Int) : (wr.alloc (.cells #[.int .i64 y] 3)).ownsRow 0 3 1 v n (nums l) :=
  own_same h.row fun j hj => Below.heap_alloc _ _ _ (by obtain ⟨cur, hcc⟩ := own_block h.row j hj; exact lt_of_heap hcc)
theorem Grows.add {w wr w' : World} {l : List Int} {v v' : Value} {n : Nat} {y : Int} (h : Grows w l v n wr) (h1 : w'.ownsRow 0 3 1 v' (n + 1) (nums (l ++ [y]))) (h2 : Fr (fun k => v.ownBlock = some k) (wr.alloc (.cells #[.int .i64 y] 3)) w')
    (h3 : ∀ k, v'.ownBlock = some k → v.ownBlock = some k ∨ (wr.alloc (.cells #[.int .i64 y] 3)).heap.size ≤ k) : Grows w (l ++ [y]) v' (n + 1) w' := by
  have hal : Below wr.heap.size wr (wr.alloc (.cells #[.int .i64 y] 3)) := (Below.refl _ _).alloc (Nat.le_refl _) _
  have hF : Fr (fun j => v.ownBlock = some j) wr w' := (Fr.of_below hal).trans h2 (fun _ _ e => e)
  have hsz : (wr.alloc (.cells #[.int .i64 y] 3)).heap.size = wr.heap.size + 1 := by simp
  have hws := h.below.size
  refine ⟨h1, by rw [h.len]; simp, fun k hk => ?_, h.below.trans (hF.below hws fun j hj => h.new j hj)⟩
  rcases h3 k hk with e | e
  · exact h.new k e
  · omega

/-- A row of numbers made: the same in new memory. -/
def MadeR (l : List Int) (w : World) (e : Ending) (w' : World) : Prop := ∃ v, e = .returned v ∧ Ints w' v l ∧ (∀ k, v.ownBlock = some k → w.heap.size ≤ k) ∧ Below w.heap.size w w'
theorem Grows.made {w wr : World} {l : List Int} {v : Value} {n : Nat} (h : Grows w l v n wr) : MadeR l w (.returned v) wr := ⟨v, rfl, by show World.ownsRow _ _ _ _ _ _ _; rw [← h.len]; exact h.row, h.new, h.below⟩

theorem rnew_any (p : Int) (w : World) (n : Nat) (hn : n = if p > 1048576 then 0 else p.toNat) (hp : -9223372036854775808 ≤ p) : Calls Try.prog 8 #[.int .i64 p] w fun e w' => MadeR (List.replicate n (-1)) w e w' := by
  by_cases h : p > 1048576
  · rw [if_pos h] at hn
    subst hn
    have d : decide (1048576 < p) = true := by simpa using h
    clear h
    have G := Lib.hid (Grows.nil (Below.refl w.heap.size w))
    go_enter Try.func8, Try.ntmps8
    go_wp2
    go_ret
    exact G.out.made
  · rw [if_neg h] at hn
    have d : decide (1048576 < p) = false := by simpa using h
    have HN := Lib.hid hn
    have hnb : n ≤ 1048576 := by omega
    clear hn
    go_enter Try.func8, Try.ntmps8
    go_wp2
    go_loopw [4, 3] (fun i s wr => ∃ (k : Nat) (v : Value), i = .int .i64 (k : Int) ∧ s = v ∧ k ≤ n ∧ Hid (Grows w (List.replicate k (-1)) v k wr)) (fun i _ _ => n - (Lib.intOf i).toNat)
    case atStart => exact ⟨0, _, rfl, rfl, Nat.zero_le _, Lib.hid (Grows.nil (Below.refl _ _))⟩
    case round =>
      obtain ⟨k, v, rfl, rfl, hk, hg⟩ := hrel
      by_cases hlt : k < n
      · have d1 : decide ((k : Int) < p) = true := by have := HN.out; simp; omega
        obtain ⟨a, c, hv⟩ := own_slice hg.out.row
        subst hv
        have OWN := Lib.hid (hg.out.own (-1))
        have HL := Lib.hid hg.out.len
        have hw1 : IntKind.i64.wrap ((k : Int) + 1) = ((k + 1 : Nat) : Int) := by rw [IntWalk.i64_in _ (by omega)]; rfl
        go_wp2_with (at_builtin; refine wpList_addN rfl (.tmp 13) (.tmp 14) 27 Try.underlying27 rfl (.slice a k c) k (List.replicate k (-1)) rfl HL.out (by omega) OWN.out wr.heap.size (-1) rfl (by simp) ?_; intro v' w2 h1 h2 h3; have G2 := Lib.hid (hg.out.add h1 h2 h3); clear h1 h2 h3)
        go_roundw
        case rel => exact ⟨k + 1, _, rfl, rfl, by omega, by rw [List.replicate_succ']; exact G2⟩
        case measure => simp [Lib.intOf]; omega
      · obtain rfl : k = n := by omega
        have d1 : decide ((k : Int) < p) = false := by have := HN.out; simp; omega
        go_wp2
        go_ret
        exact hg.out.made
theorem rpages_any (a : Option Addr) (n c : Nat) (w : World) (h : n ≤ 1048576) : Calls Try.prog 34 #[.slice a n c] w fun e w' => e = .returned (.int .i64 (pagesN n : Int)) ∧ w = w' := by
  have k1 : IntKind.i64.wrap ((n : Int) + 12) = (n : Int) + 12 := by rw [IntWalk.i64_in _ (by omega)]
  have HQ : Hid (((n : Int) + 12) / 13 = (pagesN n : Int)) := Lib.hid (by unfold pagesN; omega)
  have HT : Hid (((n : Int) + 12).tdiv 13 = (pagesN n : Int)) := Lib.hid (by rw [Int.tdiv_eq_ediv_of_nonneg (by omega)]; unfold pagesN; omega)
  have hq := HQ.out
  have ht := HT.out
  go_enter Try.func34, Try.ntmps34
  go_wp2
  go_ret
  exact ⟨by first | rfl | (rw [← HQ.out]; rfl), rfl⟩
/-- What Find tells: -1: it has none. -/
def findI (m : List Int) (k : Int) : Int := match find m k with | some i => (i : Int) | none => -1
theorem rfind_any {w : World} {a : Option Addr} {c : Nat} {m : List Int} (h : Ints w (.slice a m.length c) m) (k : Int) (hm : m.length ≤ 1048576) :
    Calls Try.prog 26 #[.slice a m.length c, .int .i64 k] w fun e w' => e = .returned (.int .i64 (findI m k)) ∧ w = w' := by
  have H := Lib.hid h
  obtain ⟨n, hn⟩ : ∃ n, n = m.length := ⟨_, rfl⟩
  have HN := Lib.hid hn
  rw [← hn] at hm ⊢
  clear h hn
  go_enter Try.func26, Try.ntmps26
  go_wp2
  go_loopw [5] (fun i wr => ∃ j : Nat, i = .int .i64 (j : Int) ∧ j ≤ n ∧ Hid (w = wr) ∧ Hid (∀ x, x < j → m[x]? = some k → ¬ 0 ≤ k)) (fun i _ => n - (Lib.intOf i).toNat)
  case atStart => exact ⟨0, rfl, Nat.zero_le _, Lib.hid rfl, Lib.hid fun x hx => absurd hx (by omega)⟩
  case round =>
    obtain ⟨j, rfl, hj, hw, hno⟩ := hrel
    by_cases hlt : j < n
    · have d1 : decide ((j : Int) < (n : Int)) = true := by simp; omega
      have d2 : decide (j < n) = true := by simp; omega
      obtain ⟨b, hb, _, hc, _⟩ := ints_cell H.out j (by have := HN.out; omega)
      subst hb
      rw [hw.out] at hc
      have hget := Hp.at_get m j (by have := HN.out; omega)
      obtain ⟨x, hx⟩ : ∃ x, x = Hp.at_ m j := ⟨_, rfl⟩
      rw [← hx] at hc hget
      have HG := Lib.hid hget
      have hw1 : IntKind.i64.wrap ((j : Int) + 1) = ((j + 1 : Nat) : Int) := by rw [IntWalk.i64_in _ (by omega)]; rfl
      clear hx hget
      by_cases he : x = k
      · subst he
        have d3 : (x == x) = true := by simp
        by_cases h0 : 0 ≤ x
        · have d4 : decide (0 ≤ x) = true := by simpa using h0
          have FIN : Hid (findI m x = (j : Int)) := Lib.hid (by
            unfold findI
            rw [find_some.2 ⟨h0, HG.out, fun i hi hc => hno.out i hi hc h0⟩])
          clear h0
          go_wp2
          go_ret
          exact ⟨by rw [FIN.out]; rfl, hw.out⟩
        · have d4 : decide (0 ≤ x) = false := by simpa using h0
          have N2 : Hid (∀ y, y < j + 1 → m[y]? = some x → ¬ 0 ≤ x) := Lib.hid fun y _ _ => h0
          clear h0
          go_wp2
          go_roundw
          case rel => exact ⟨j + 1, by go_num, by omega, hw, N2⟩
          case measure => simp [Lib.intOf]; omega
      · have d3 : (x == k) = false := by simpa using he
        have N2 : Hid (∀ y, y < j + 1 → m[y]? = some k → ¬ 0 ≤ k) := Lib.hid fun y hy hm => by
          by_cases e : y = j
          · rw [e, HG.out] at hm; injection hm with hm; exact absurd hm he
          · exact hno.out y (by omega) hm
        clear he
        go_wp2
        go_roundw
        case rel => exact ⟨j + 1, by go_num, by omega, hw, N2⟩
        case measure => simp [Lib.intOf]; omega
    · obtain rfl : j = n := by omega
      have d1 : decide ((j : Int) < (j : Int)) = false := by simp
      have d2 : decide (j < j) = false := by simp
      have FIN : Hid (findI m k = -1) := Lib.hid (by
        unfold findI
        rw [find_none.2 fun h0 hmem => by
          obtain ⟨y, hy⟩ := List.getElem?_of_mem hmem
          exact hno.out y (by have := (List.getElem?_eq_some_iff.1 hy).1; have := HN.out; omega) hy h0])
      go_wp2
      go_ret
      exact ⟨by rw [FIN.out]; rfl, hw.out⟩
theorem rlen_any {w : World} {a : Option Addr} {c : Nat} {m : List Int} (h : Ints w (.slice a m.length c) m) (hm : m.length ≤ 1048576) :
    Calls Try.prog 27 #[.slice a m.length c] w fun e w' => e = .returned (.int .i64 ((used m).length : Int)) ∧ w = w' := by
  have H := Lib.hid h
  obtain ⟨n, hn⟩ : ∃ n, n = m.length := ⟨_, rfl⟩
  have HN := Lib.hid hn
  rw [← hn] at hm ⊢
  clear h hn
  go_enter Try.func27, Try.ntmps27
  go_wp2
  go_loopw [4, 3] (fun i s wr => ∃ j q : Nat, i = .int .i64 (j : Int) ∧ s = .int .i64 (q : Int) ∧ j ≤ n ∧ q ≤ j ∧ Hid (w = wr) ∧ Hid (q = (used (m.take j)).length)) (fun i _ _ => n - (Lib.intOf i).toNat)
  case atStart => exact ⟨0, 0, rfl, rfl, Nat.zero_le _, Nat.le_refl _, Lib.hid rfl, Lib.hid (by simp [used])⟩
  case round =>
    obtain ⟨j, q, rfl, rfl, hj, hqj, hw, hq⟩ := hrel
    by_cases hlt : j < n
    · have d1 : decide ((j : Int) < (n : Int)) = true := by simp; omega
      have d2 : decide (j < n) = true := by simp; omega
      obtain ⟨b, hb, _, hc, _⟩ := ints_cell H.out j (by have := HN.out; omega)
      subst hb
      rw [hw.out] at hc
      have hget := Hp.at_get m j (by have := HN.out; omega)
      obtain ⟨x, hx⟩ : ∃ x, x = Hp.at_ m j := ⟨_, rfl⟩
      rw [← hx] at hc hget
      have hw1 : IntKind.i64.wrap ((j : Int) + 1) = ((j + 1 : Nat) : Int) := by rw [IntWalk.i64_in _ (by omega)]; rfl
      have hw2 : IntKind.i64.wrap ((q : Int) + 1) = ((q + 1 : Nat) : Int) := by rw [IntWalk.i64_in _ (by omega)]; rfl
      have hts := take_snoc hget
      by_cases h0 : 0 ≤ x
      · have d3 : decide (0 ≤ x) = true := by simpa using h0
        have N2 : Hid (q + 1 = (used (m.take (j + 1))).length) := Lib.hid (by rw [hts, hq.out]; unfold used; rw [List.filter_append]; simp [h0])
        clear hx hget hts h0
        go_wp2
        go_roundw
        case rel => exact ⟨j + 1, q + 1, by go_num, by go_num, by omega, by omega, hw, N2⟩
        case measure => simp [Lib.intOf]; omega
      · have d3 : decide (0 ≤ x) = false := by simpa using h0
        have N2 : Hid (q = (used (m.take (j + 1))).length) := Lib.hid (by rw [hts, hq.out]; unfold used; rw [List.filter_append]; simp [h0])
        clear hx hget hts h0
        go_wp2
        go_roundw
        case rel => exact ⟨j + 1, q, by go_num, rfl, by omega, by omega, hw, N2⟩
        case measure => simp [Lib.intOf]; omega
    · obtain rfl : j = n := by omega
      have d1 : decide ((j : Int) < (j : Int)) = false := by simp
      have d2 : decide (j < j) = false := by simp
      have FIN : Hid (q = (used m).length) := Lib.hid (by rw [hq.out, List.take_of_length_le (by have := HN.out; omega)])
      go_wp2
      go_ret
      exact ⟨by rw [← FIN.out]; rfl, hw.out⟩
end Tb
end Go.Proofs.Ytibemiiflibnaaa
