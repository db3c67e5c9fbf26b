/- The walk of the statement CrcEven. -/
import Derived.Test.YtammfhhinbhfgaaCrcOpen
import Derived.Test.YtammfhhinbhfgaaCrcRuns
import Derived.Deep.RegionHeld3
import Derived.Deep.AppendLies
namespace Go.Proofs.Ytammfhhinbhfgaa
open Go.RowKit
set_option linter.unusedVariables false

theorem even_long (a b c : List UInt8) (w : World) (h : 200 < a.length ∨ b.length < a.length ∨ c.length < a.length) :
    Calls Try.prog 4 #[.string (Om.B a), .string (Om.B b), .string (Om.B c)] w fun e w' => e = .returned (.bool true) ∧ Below w.heap.size w w' := by
  by_cases h1 : 200 < a.length
  · have d1 : decide (200 < ((Om.B a).size : Int)) = true := by rw [Om.B_size]; simp; omega
    clear h h1
    go_enter Try.func4, Try.ntmps4
    go_wp2_with fail
    refine (alive_any _).mono ?_
    rintro e w1 ⟨rfl, hb1⟩
    go_wp2
    go_ret
    exact ⟨rfl, hb1⟩
  · have d1 : decide (200 < ((Om.B a).size : Int)) = false := by rw [Om.B_size]; simp; omega
    by_cases h2 : b.length < a.length
    · have d2 : decide ((Om.B b).size < (Om.B a).size) = true := by rw [Om.B_size, Om.B_size]; simp; omega
      clear h h1 h2
      go_enter Try.func4, Try.ntmps4
      go_wp2_with fail
      refine (alive_any _).mono ?_
      rintro e w1 ⟨rfl, hb1⟩
      go_wp2
      go_ret
      exact ⟨rfl, hb1⟩
    · have d2 : decide ((Om.B b).size < (Om.B a).size) = false := by rw [Om.B_size, Om.B_size]; simp; omega
      have d3 : decide ((Om.B c).size < (Om.B a).size) = true := by rw [Om.B_size, Om.B_size]; simp; omega
      clear h h1 h2
      go_enter Try.func4, Try.ntmps4
      go_wp2_with fail
      refine (alive_any _).mono ?_
      rintro e w1 ⟨rfl, hb1⟩
      go_wp2
      go_ret
      exact ⟨rfl, hb1⟩

theorem news_one {w : World} {b : Nat} {v : Value} (h : w.cell? ⟨b, 0, none⟩ = some v) : ∀ q u, [v][q]? = some u → w.cell? ((⟨b, 0, none⟩ : Addr).add q) = some u := by
  intro q u hq
  match q, hq with
  | 0, hq => simp at hq; subst hq; simpa [Addr.add] using h
theorem one_cell {v : Value} (h : v.oneCell' = true) : ∀ u ∈ [v], u.oneCell' = true := by
  intro u hu
  simp at hu
  subst hu
  exact h
theorem xor3_int (x y z : UInt8) : bits .xor .u8 (bits .xor .u8 (x.toNat : Int) (y.toNat : Int)) (z.toNat : Int) = ((x ^^^ y ^^^ z).toNat : Int) := by
  rw [u8_xor_nat _ _ x.toNat_lt y.toNat_lt, ← UInt8.toNat_xor, u8_xor_nat _ _ (UInt8.toNat_lt _) z.toNat_lt, ← UInt8.toNat_xor]
theorem even_parts (a b c : List UInt8) (hb : a.length ≤ b.length) (hc : a.length ≤ c.length) : ∃ X, X = Cm.all3 a (b.take a.length) (c.take a.length) ∧ X.length = (Om.B a).size ∧
    ∀ k (h : k < (Om.B a).size) (h2 : k < (Om.B b).size) (h3 : k < (Om.B c).size), X[k]? = some ((Om.B a)[k] ^^^ (Om.B b)[k] ^^^ (Om.B c)[k]) := by
  refine ⟨_, rfl, ?_, fun k h h2 h3 => ?_⟩
  · rw [Om.B_size]; simp [Cm.all3]; omega
  · have h' : k < a.length := h
    have hkb : k < b.length := h2
    have hkc : k < c.length := h3
    show _ = some (a[k] ^^^ b[k] ^^^ c[k])
    unfold Cm.all3
    have e1 : (b.take a.length)[k]? = some b[k] := by rw [List.getElem?_take, if_pos h', List.getElem?_eq_getElem hkb]
    have e2 : (c.take a.length)[k]? = some c[k] := by rw [List.getElem?_take, if_pos h', List.getElem?_eq_getElem hkc]
    have e3 : ((b.take a.length).zip (c.take a.length))[k]? = some (b[k], c[k]) := List.getElem?_zip_eq_some.2 ⟨e1, e2⟩
    have e4 : (a.zip ((b.take a.length).zip (c.take a.length)))[k]? = some (a[k], (b[k], c[k])) := List.getElem?_zip_eq_some.2 ⟨List.getElem?_eq_getElem h', e3⟩
    rw [List.getElem?_map, e4]
    rfl
/-- A slice of one text. -/
def Lone (v : Value) (W : World) (l : List UInt8) : Prop := ∃ g, v = .slice (some ⟨g, 0, none⟩) 1 1 ∧ W.cell? ⟨g, 0, none⟩ = some (.string (Om.B l))
theorem Lone.below {v : Value} {W W' : World} {l : List UInt8} (h : Lone v W l) (hb : Below W.heap.size W W') : Lone v W' l := by
  obtain ⟨g, e, hc⟩ := h
  exact ⟨g, e, by rw [hb.cell (p := ⟨g, 0, none⟩) (lt_of_cell hc)]; exact hc⟩
/-- What each operation of the last statement leaves in its slot. -/
def EvenG (u : Value) (a b c X : List UInt8) (i : Nat) (v : Value) (W : World) : Prop :=
  match i with
  | 0 => v = .bool true
  | 1 => v = .bool true
  | 2 => v = u
  | 3 => v = .string (Om.B X)
  | 4 => Lone v W X
  | 5 => v = .int .u32 (Cm.sum X : Int)
  | 6 => v = .string (Om.B a)
  | 7 => Lone v W a
  | 8 => v = .int .u32 (Cm.sum a : Int)
  | 9 => v = .string (Om.B b)
  | 10 => v = .int .i64 ((Om.B a).size : Int)
  | 11 => v = .string (Om.B (b.take a.length))
  | 12 => Lone v W (b.take a.length)
  | 13 => v = .int .u32 (Cm.sum (b.take a.length) : Int)
  | 14 => v = .int .u32 ((Cm.sum a ^^^ Cm.sum (b.take a.length) : Nat) : Int)
  | 15 => v = .string (Om.B c)
  | 16 => v = .int .i64 ((Om.B a).size : Int)
  | 17 => v = .string (Om.B (c.take a.length))
  | 18 => Lone v W (c.take a.length)
  | 19 => v = .int .u32 (Cm.sum (c.take a.length) : Int)
  | 20 => v = .int .u32 ((Cm.sum a ^^^ Cm.sum (b.take a.length) ^^^ Cm.sum (c.take a.length) : Nat) : Int)
  | _ => v = .bool true
theorem even_stab (u : Value) (a b c X : List UInt8) : ∀ i v w w', Below w.heap.size w w' → EvenG u a b c X i v w → EvenG u a b c X i v w' := by
  intro i v w w' hb h
  unfold EvenG at h ⊢
  split at h <;> first | exact h | exact Lone.below h hb
theorem even_some (a b c : List UInt8) (w : World) (ha : a.length ≤ 200) (hb : a.length ≤ b.length) (hc : a.length ≤ c.length) :
    Calls Try.prog 4 #[.string (Om.B a), .string (Om.B b), .string (Om.B c)] w fun e w' => e = .returned (.bool true) ∧ Below w.heap.size w w' := by
  obtain ⟨i0, hi, hz0, hz1, hz2⟩ := info_parts info_u8
  have d1 : decide (200 < ((Om.B a).size : Int)) = false := by rw [Om.B_size]; simp; omega
  have d2 : decide ((Om.B b).size < (Om.B a).size) = false := by rw [Om.B_size, Om.B_size]; simp; omega
  have d3 : decide ((Om.B c).size < (Om.B a).size) = false := by rw [Om.B_size, Om.B_size]; simp; omega
  have hsa : (Om.B a).size ≤ 200 := ha
  have hsb : (Om.B a).size ≤ (Om.B b).size := hb
  have hsc : (Om.B a).size ≤ (Om.B c).size := hc
  obtain ⟨X, hX, hXl, hXat⟩ := even_parts a b c hb hc
  have HX := Lib.hid hX
  have HXL := Lib.hid hXl
  have HXA := Lib.hid hXat
  clear hX hXl hXat ha hb hc
  go_enter Try.func4, Try.ntmps4
  go_wp2
  go_loopw [7, 8] (fun v i wr => ∃ k : Nat, k ≤ (Om.B a).size ∧ i = .int .i64 k ∧ wr.ownsRow w.heap.size 5 1 v k (Lib.byteCells (X.take k)) ∧ Below w.heap.size w wr) (fun _ i _ => (Om.B a).size - (intOf i).toNat)
  case atStart => exact ⟨0, Nat.zero_le _, rfl, World.ownsRow_nil _ _ _ _, Below.refl _ _⟩
  case round =>
    obtain ⟨k, hk, rfl, hown, hbel⟩ := hrel
    have hsz := hbel.size
    have HB := Lib.hid hbel
    clear hbel
    by_cases hlt : k < (Om.B a).size
    · have b0 : (0 : Int) ≤ (k : Int) := by omega
      have b1 : (k : Int) < ((Om.B a).size : Int) := by omega
      have b2 : (k : Int) < ((Om.B b).size : Int) := by omega
      have b3 : (k : Int) < ((Om.B c).size : Int) := by omega
      obtain ⟨x, hxe⟩ : ∃ x, x = (Om.B a)[k] ^^^ (Om.B b)[k]'(by omega) ^^^ (Om.B c)[k]'(by omega) := ⟨_, rfl⟩
      have hxor := xor3_int (Om.B a)[k] ((Om.B b)[k]'(by omega)) ((Om.B c)[k]'(by omega))
      rw [← hxe] at hxor
      have hnext : X.take (k + 1) = X.take k ++ [x] := by
        have h1 := HXA.out k hlt (by omega) (by omega)
        have h2 : k < X.length := by rw [HXL.out]; exact hlt
        rw [List.getElem?_eq_getElem h2] at h1
        rw [List.take_succ_eq_append_getElem h2, Option.some.inj h1, hxe]
      have HNX := Lib.hid hnext
      clear hnext
      have HXE := Lib.hid hxe
      clear hxe
      go_wp2
      go_region_held3 (fun _ => True) (first | go_keep | trivial) (first | (refine step_append_lies _ rfl (.tmp 34) (.tmp 46) 28 rfl w.heap.size 5 i0 (.int .u8 0) 1 1 Try.underlying28 hi hz0 hz1 hz2 rfl (by decide) u7 k (Lib.byteCells (X.take k)) rfl ((hown.alloc _).drew) ⟨wr.heap.size, 0, none⟩ 1 1 [.int .u8 (x.toNat : Int)] rfl rfl (news_one (by simp)) (one_cell rfl) (by omega) (by unfold maxLen; omega) (by omega) (by simp; omega) _ rfl ?_; intro g cap w1 hown1 hgrow hat hlt1))
      all_goals (
        have hbel1 : Below w.heap.size w w1 := ((HB.out.alloc hsz _).drew).grown hgrow (by simp; omega) (fun q hq => (hown.lt q hq).1)
        have hown2 : w1.ownsRow w.heap.size 5 1 (.slice (some ⟨g, 0, none⟩) (k + 1) cap) (k + 1) (Lib.byteCells (X.take (k + 1))) := by
          rw [HNX.out, Lib.byteCells_append]; exact hown1
        have HB1 := Lib.hid hbel1
        have HO2 := Lib.hid hown2
        clear hbel1 hown1 hown2 hown hgrow hat
        go_wp2
        go_roundw
        case rel => exact ⟨k + 1, by omega, by go_num, HO2.out, HB1.out⟩
        case measure => simp [intOf]; omega)
    · obtain rfl : k = (Om.B a).size := by omega
      have hXX : X.take (Om.B a).size = X := List.take_of_length_le (by rw [HXL.out]; exact Nat.le_refl _)
      rw [hXX] at hown
      have HO := Lib.hid hown
      have hXsum : Cm.sum X = Cm.sum a ^^^ Cm.sum (b.take a.length) ^^^ Cm.sum (c.take a.length) := by
        rw [HX.out]
        exact Cm.sum_all3 _ _ _ (List.length_take_of_le hsb) (List.length_take_of_le hsc)
      have lX : X.length ≤ 4611686018427387904 := by rw [HXL.out]; omega
      have la : a.length ≤ 4611686018427387904 := Nat.le_trans hsa (by omega)
      have lb : (b.take a.length).length ≤ 4611686018427387904 := Nat.le_trans (Nat.le_of_eq (List.length_take_of_le hsb)) la
      have lc : (c.take a.length).length ≤ 4611686018427387904 := Nat.le_trans (Nat.le_of_eq (List.length_take_of_le hsc)) la
      have HXSUM := Lib.hid hXsum
      clear hXX hown hXsum
      go_wp2
      refine Flow.region (n := 73) (G := EvenG u7 a b c X) (C := fun W => Below w.heap.size w W ∧ W.ownsRow w.heap.size 5 1 u7 (Om.B a).size (Lib.byteCells X)) (by kernel_rfl) (by kernel_rfl) rfl (by kernel_rfl) ?_ ?_ ?_ ?_
      · exact even_stab u7 a b c X
      · exact ⟨HB.out.drew, HO.out.drew⟩
      · intro i o ho A W hC hE hD
        have hCb : ∀ W', Below W.heap.size W W' → Below w.heap.size w W' ∧ W'.ownsRow w.heap.size 5 1 u7 (Om.B a).size (Lib.byteCells X) := fun W' hb => ⟨hC.1.trans (hb.mono hC.1.size), own_below hC.2 hb⟩
        have hi24 : i < 24 := (Array.getElem?_eq_some_iff.1 ho).1
        match i, hi24, ho with
        | 0, _, ho =>
          obtain rfl := Option.some.inj (show some _ = some o from ho)
          exact Flow.call ho (Flow.wanted_none rfl) (r_alive rfl) (alive_any W) (fun e w'' ⟨he, hb⟩ => ⟨_, he, _, rfl, rfl, hb, hCb _ hb⟩)
        | 1, _, ho =>
          obtain rfl := Option.some.inj (show some _ = some o from ho)
          have g : A.eval (.tmp 50) = .bool true := hD ⟨0, .data⟩ (by simp) _ 50 rfl rfl
          exact Flow.value ho (Flow.wanted_none rfl) (r_move rfl) ⟨_, rfl, g, Below.refl _ _, hC⟩
        | 2, _, ho =>
          obtain rfl := Option.some.inj (show some _ = some o from ho)
          have g1 : A.eval (.tmp 51) = .bool true := hD ⟨1, .guard⟩ (by simp) _ 51 rfl rfl
          exact Flow.value ho (Flow.wanted_some (g := 1) (b := true) (d := 51) rfl rfl rfl g1) (r_move rfl) ⟨_, rfl, hE.same 7 (by kernel_rfl), Below.refl _ _, hC⟩
        | 3, _, ho =>
          obtain rfl := Option.some.inj (show some _ = some o from ho)
          have g1 : A.eval (.tmp 51) = .bool true := hD ⟨1, .guard⟩ (by simp) _ 51 rfl rfl
          have g : A.eval (.tmp 52) = u7 := hD ⟨2, .data⟩ (by simp) _ 52 rfl rfl
          exact Flow.value ho (Flow.wanted_some (g := 1) (b := true) (d := 51) rfl rfl rfl g1) (r_text rfl g HXL.out hC.2) ⟨_, rfl, rfl, Below.refl _ _, hC⟩
        | 4, _, ho =>
          obtain rfl := Option.some.inj (show some _ = some o from ho)
          have g1 : A.eval (.tmp 51) = .bool true := hD ⟨1, .guard⟩ (by simp) _ 51 rfl rfl
          have g : A.eval (.tmp 53) = .string (Om.B X) := hD ⟨3, .data⟩ (by simp) _ 53 rfl rfl
          exact Flow.value ho (Flow.wanted_some (g := 1) (b := true) (d := 51) rfl rfl rfl g1) (r_build rfl g) ⟨_, rfl, ⟨W.heap.size, rfl, by simp⟩, (Below.refl _ _).alloc (Nat.le_refl _) _, hCb _ ((Below.refl _ _).alloc (Nat.le_refl _) _)⟩
        | 5, _, ho =>
          obtain rfl := Option.some.inj (show some _ = some o from ho)
          have g1 : A.eval (.tmp 51) = .bool true := hD ⟨1, .guard⟩ (by simp) _ 51 rfl rfl
          have g : Lone (A.eval (.tmp 54)) W X := hD ⟨4, .data⟩ (by simp) _ 54 rfl rfl
          obtain ⟨q, hv, hc⟩ := g
          exact Flow.call ho (Flow.wanted_some (g := 1) (b := true) (d := 51) rfl rfl rfl g1) (r_sum rfl hv) (sum_one X q W lX hc) (fun e w'' ⟨he, hb⟩ => ⟨_, he, _, rfl, rfl, hb, hCb _ hb⟩)
        | 6, _, ho =>
          obtain rfl := Option.some.inj (show some _ = some o from ho)
          have g1 : A.eval (.tmp 51) = .bool true := hD ⟨1, .guard⟩ (by simp) _ 51 rfl rfl
          exact Flow.value ho (Flow.wanted_some (g := 1) (b := true) (d := 51) rfl rfl rfl g1) (r_move rfl) ⟨_, rfl, hE.same 0 (by kernel_rfl), Below.refl _ _, hC⟩
        | 7, _, ho =>
          obtain rfl := Option.some.inj (show some _ = some o from ho)
          have g1 : A.eval (.tmp 51) = .bool true := hD ⟨1, .guard⟩ (by simp) _ 51 rfl rfl
          have g : A.eval (.tmp 56) = .string (Om.B a) := hD ⟨6, .data⟩ (by simp) _ 56 rfl rfl
          exact Flow.value ho (Flow.wanted_some (g := 1) (b := true) (d := 51) rfl rfl rfl g1) (r_build rfl g) ⟨_, rfl, ⟨W.heap.size, rfl, by simp⟩, (Below.refl _ _).alloc (Nat.le_refl _) _, hCb _ ((Below.refl _ _).alloc (Nat.le_refl _) _)⟩
        | 8, _, ho =>
          obtain rfl := Option.some.inj (show some _ = some o from ho)
          have g1 : A.eval (.tmp 51) = .bool true := hD ⟨1, .guard⟩ (by simp) _ 51 rfl rfl
          have g : Lone (A.eval (.tmp 57)) W a := hD ⟨7, .data⟩ (by simp) _ 57 rfl rfl
          obtain ⟨q, hv, hc⟩ := g
          exact Flow.call ho (Flow.wanted_some (g := 1) (b := true) (d := 51) rfl rfl rfl g1) (r_sum rfl hv) (sum_one a q W la hc) (fun e w'' ⟨he, hb⟩ => ⟨_, he, _, rfl, rfl, hb, hCb _ hb⟩)
        | 9, _, ho =>
          obtain rfl := Option.some.inj (show some _ = some o from ho)
          have g1 : A.eval (.tmp 51) = .bool true := hD ⟨1, .guard⟩ (by simp) _ 51 rfl rfl
          exact Flow.value ho (Flow.wanted_some (g := 1) (b := true) (d := 51) rfl rfl rfl g1) (r_move rfl) ⟨_, rfl, hE.same 1 (by kernel_rfl), Below.refl _ _, hC⟩
        | 10, _, ho =>
          obtain rfl := Option.some.inj (show some _ = some o from ho)
          have g1 : A.eval (.tmp 51) = .bool true := hD ⟨1, .guard⟩ (by simp) _ 51 rfl rfl
          exact Flow.value ho (Flow.wanted_some (g := 1) (b := true) (d := 51) rfl rfl rfl g1) (r_move rfl) ⟨_, rfl, hE.same 9 (by kernel_rfl), Below.refl _ _, hC⟩
        | 11, _, ho =>
          obtain rfl := Option.some.inj (show some _ = some o from ho)
          have g1 : A.eval (.tmp 51) = .bool true := hD ⟨1, .guard⟩ (by simp) _ 51 rfl rfl
          have g : A.eval (.tmp 59) = .string (Om.B b) := hD ⟨9, .data⟩ (by simp) _ 59 rfl rfl
          have g' : A.eval (.tmp 60) = .int .i64 ((Om.B a).size : Int) := hD ⟨10, .data⟩ (by simp) _ 60 rfl rfl
          exact Flow.value ho (Flow.wanted_some (g := 1) (b := true) (d := 51) rfl rfl rfl g1) (r_front rfl g g' hsb) ⟨_, rfl, by show Value.string _ = _; rw [Om.extract_front, Om.L_B]; rfl, Below.refl _ _, hC⟩
        | 12, _, ho =>
          obtain rfl := Option.some.inj (show some _ = some o from ho)
          have g1 : A.eval (.tmp 51) = .bool true := hD ⟨1, .guard⟩ (by simp) _ 51 rfl rfl
          have g : A.eval (.tmp 61) = .string (Om.B (b.take a.length)) := hD ⟨11, .data⟩ (by simp) _ 61 rfl rfl
          exact Flow.value ho (Flow.wanted_some (g := 1) (b := true) (d := 51) rfl rfl rfl g1) (r_build rfl g) ⟨_, rfl, ⟨W.heap.size, rfl, by simp⟩, (Below.refl _ _).alloc (Nat.le_refl _) _, hCb _ ((Below.refl _ _).alloc (Nat.le_refl _) _)⟩
        | 13, _, ho =>
          obtain rfl := Option.some.inj (show some _ = some o from ho)
          have g1 : A.eval (.tmp 51) = .bool true := hD ⟨1, .guard⟩ (by simp) _ 51 rfl rfl
          have g : Lone (A.eval (.tmp 62)) W (b.take a.length) := hD ⟨12, .data⟩ (by simp) _ 62 rfl rfl
          obtain ⟨q, hv, hc⟩ := g
          exact Flow.call ho (Flow.wanted_some (g := 1) (b := true) (d := 51) rfl rfl rfl g1) (r_sum rfl hv) (sum_one (b.take a.length) q W lb hc) (fun e w'' ⟨he, hb⟩ => ⟨_, he, _, rfl, rfl, hb, hCb _ hb⟩)
        | 14, _, ho =>
          obtain rfl := Option.some.inj (show some _ = some o from ho)
          have g1 : A.eval (.tmp 51) = .bool true := hD ⟨1, .guard⟩ (by simp) _ 51 rfl rfl
          have g : A.eval (.tmp 58) = .int .u32 ((Cm.sum a : Nat) : Int) := hD ⟨8, .data⟩ (by simp) _ 58 rfl rfl
          have g' : A.eval (.tmp 63) = .int .u32 ((Cm.sum (b.take a.length) : Nat) : Int) := hD ⟨13, .data⟩ (by simp) _ 63 rfl rfl
          exact Flow.value ho (Flow.wanted_some (g := 1) (b := true) (d := 51) rfl rfl rfl g1) (r_xor rfl g g' (Cm.sum_lt _) (Cm.sum_lt _)) ⟨_, rfl, rfl, Below.refl _ _, hC⟩
        | 15, _, ho =>
          obtain rfl := Option.some.inj (show some _ = some o from ho)
          have g1 : A.eval (.tmp 51) = .bool true := hD ⟨1, .guard⟩ (by simp) _ 51 rfl rfl
          exact Flow.value ho (Flow.wanted_some (g := 1) (b := true) (d := 51) rfl rfl rfl g1) (r_move rfl) ⟨_, rfl, hE.same 2 (by kernel_rfl), Below.refl _ _, hC⟩
        | 16, _, ho =>
          obtain rfl := Option.some.inj (show some _ = some o from ho)
          have g1 : A.eval (.tmp 51) = .bool true := hD ⟨1, .guard⟩ (by simp) _ 51 rfl rfl
          exact Flow.value ho (Flow.wanted_some (g := 1) (b := true) (d := 51) rfl rfl rfl g1) (r_move rfl) ⟨_, rfl, hE.same 9 (by kernel_rfl), Below.refl _ _, hC⟩
        | 17, _, ho =>
          obtain rfl := Option.some.inj (show some _ = some o from ho)
          have g1 : A.eval (.tmp 51) = .bool true := hD ⟨1, .guard⟩ (by simp) _ 51 rfl rfl
          have g : A.eval (.tmp 65) = .string (Om.B c) := hD ⟨15, .data⟩ (by simp) _ 65 rfl rfl
          have g' : A.eval (.tmp 66) = .int .i64 ((Om.B a).size : Int) := hD ⟨16, .data⟩ (by simp) _ 66 rfl rfl
          exact Flow.value ho (Flow.wanted_some (g := 1) (b := true) (d := 51) rfl rfl rfl g1) (r_front rfl g g' hsc) ⟨_, rfl, by show Value.string _ = _; rw [Om.extract_front, Om.L_B]; rfl, Below.refl _ _, hC⟩
        | 18, _, ho =>
          obtain rfl := Option.some.inj (show some _ = some o from ho)
          have g1 : A.eval (.tmp 51) = .bool true := hD ⟨1, .guard⟩ (by simp) _ 51 rfl rfl
          have g : A.eval (.tmp 67) = .string (Om.B (c.take a.length)) := hD ⟨17, .data⟩ (by simp) _ 67 rfl rfl
          exact Flow.value ho (Flow.wanted_some (g := 1) (b := true) (d := 51) rfl rfl rfl g1) (r_build rfl g) ⟨_, rfl, ⟨W.heap.size, rfl, by simp⟩, (Below.refl _ _).alloc (Nat.le_refl _) _, hCb _ ((Below.refl _ _).alloc (Nat.le_refl _) _)⟩
        | 19, _, ho =>
          obtain rfl := Option.some.inj (show some _ = some o from ho)
          have g1 : A.eval (.tmp 51) = .bool true := hD ⟨1, .guard⟩ (by simp) _ 51 rfl rfl
          have g : Lone (A.eval (.tmp 68)) W (c.take a.length) := hD ⟨18, .data⟩ (by simp) _ 68 rfl rfl
          obtain ⟨q, hv, hc⟩ := g
          exact Flow.call ho (Flow.wanted_some (g := 1) (b := true) (d := 51) rfl rfl rfl g1) (r_sum rfl hv) (sum_one (c.take a.length) q W lc hc) (fun e w'' ⟨he, hb⟩ => ⟨_, he, _, rfl, rfl, hb, hCb _ hb⟩)
        | 20, _, ho =>
          obtain rfl := Option.some.inj (show some _ = some o from ho)
          have g1 : A.eval (.tmp 51) = .bool true := hD ⟨1, .guard⟩ (by simp) _ 51 rfl rfl
          have g : A.eval (.tmp 64) = .int .u32 ((Cm.sum a ^^^ Cm.sum (b.take a.length) : Nat) : Int) := hD ⟨14, .data⟩ (by simp) _ 64 rfl rfl
          have g' : A.eval (.tmp 69) = .int .u32 ((Cm.sum (c.take a.length) : Nat) : Int) := hD ⟨19, .data⟩ (by simp) _ 69 rfl rfl
          exact Flow.value ho (Flow.wanted_some (g := 1) (b := true) (d := 51) rfl rfl rfl g1) (r_xor rfl g g' (Nat.xor_lt_two_pow (n := 32) (Cm.sum_lt _) (Cm.sum_lt _)) (Cm.sum_lt _)) ⟨_, rfl, rfl, Below.refl _ _, hC⟩
        | 21, _, ho =>
          obtain rfl := Option.some.inj (show some _ = some o from ho)
          have g1 : A.eval (.tmp 51) = .bool true := hD ⟨1, .guard⟩ (by simp) _ 51 rfl rfl
          have g : A.eval (.tmp 55) = .int .u32 (Cm.sum X : Int) := hD ⟨5, .data⟩ (by simp) _ 55 rfl rfl
          have g' : A.eval (.tmp 70) = .int .u32 ((Cm.sum a ^^^ Cm.sum (b.take a.length) ^^^ Cm.sum (c.take a.length) : Nat) : Int) := hD ⟨20, .data⟩ (by simp) _ 70 rfl rfl
          exact Flow.value ho (Flow.wanted_some (g := 1) (b := true) (d := 51) rfl rfl rfl g1) (r_eql rfl g g') ⟨_, rfl, by show Value.bool _ = _; rw [HXSUM.out]; simp, Below.refl _ _, hC⟩
        | 22, _, ho =>
          obtain rfl := Option.some.inj (show some _ = some o from ho)
          have g : A.eval (.tmp 51) = .bool true := hD ⟨1, .data⟩ (by simp) _ 51 rfl rfl
          have g' : A.eval (.tmp 71) = .bool true := hD ⟨21, .data⟩ (by simp) _ 71 rfl rfl
          exact Flow.value ho (Flow.wanted_none rfl) (r_pick rfl g g' rfl) ⟨_, rfl, rfl, Below.refl _ _, hC⟩
        | 23, _, ho =>
          obtain rfl := Option.some.inj (show some _ = some o from ho)
          have g : A.eval (.tmp 72) = .bool true := hD ⟨22, .data⟩ (by simp) _ 72 rfl rfl
          exact Flow.value ho (Flow.wanted_none rfl) (r_assign rfl) ⟨_, rfl, g, Below.refl _ _, hC⟩
        | n + 24, h, _ => exact absurd h (by omega)
      · intro A W hC hE hG
        have g : A.eval (.tmp 6) = .bool true := hG 23 _ 6 rfl rfl
        go_wp2
        exact bodyPost_ret (results_tmp (t := 6) rfl _ _ _) hE.defers ⟨congrArg Ending.returned g, hC.1⟩
end Go.Proofs.Ytammfhhinbhfgaa
