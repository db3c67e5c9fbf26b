/- OctetBack: there and back: what was joined is got, with others behind; what is got is joined to what it was got from. No condition. -/
import Derived.Test.YtdkfhgcihkjkgaaRows
import Derived.Test.YtdkfhgcihkjkgaaOctetAlive
import Derived.Test.YtdkfhgcihkjkgaaOctetArgs
import Derived.Test.YtdkfhgcihkjkgaaOctetRGet
import Derived.WalkKit
import Derived.ProofKit
import Derived.OpenShut
import Derived.ShutString
import Derived.ChangeOld
import Derived.Below
namespace Go.Proofs.Ytdkfhgcihkjkgaa.octetBack
open Go.ChangeShapes Go.WideShapes Go.ChangeAt Go.RowKit
open Go.ChangeMaps (open_string shut_string)
set_option linter.unusedVariables false

theorem own : ownKnob Try.prog.godebug = none := by kernel_rfl
theorem laidOut : laidOutB Try.prog = true := by kernel_rfl

/-- WHAT THE WALK IS TOLD OF A SLICE OF INTEGERS THAT CAME IN: it is nil; or it leads to a row of 'cap' cells, the numbers 'zs' (the first 'len' are its elements, the rest its spare room), each fitting its kind. -/
def IsRow (k : IntKind) (w : World) (a : Option Addr) (len cap : Nat) (zs : List Int) : Prop :=
  (a = none ∧ len = 0 ∧ cap = 0 ∧ zs = []) ∨
  ∃ x, a = some x ∧ len ≤ cap ∧ cap ≤ maxLen ∧ zs.length = cap ∧ (∀ i, i < zs.length → w.cell? (x.add i) = some (.int k (zs.getD i 0))) ∧ ∀ n ∈ zs, (Lit.int k n).wf = true

/-- What Get gives, as a row. -/
def Got (l : List UInt8) (zs : List Int) (n : Nat) (w : World) (e : Ending) (w' : World) : Prop :=
  ∃ g c, e = .returned (.tuple #[.slice (some ⟨g, 0, none⟩) n c, .string (Om.B (l.drop (Om.off zs n))), .int .i64 0]) ∧ Row w' w'.heap.size (some ⟨g, 0, none⟩) n (fun i => .int .u64 (Om.at_ l zs i : Int)) ∧ Below w.heap.size w w'
theorem got_of {l : List UInt8} {zs : List Int} {n : Nat} {w : World} {f : FuncId} {args : Array Value} (h : Calls Try.prog f args w (GetOk l zs n w)) : Calls Try.prog f args w (Got l zs n w) :=
  h.mono fun e w' ⟨g, c, he, _, hg, hc, hb⟩ => ⟨g, c, he, fun _ => ⟨g, 0, rfl, hg, fun i hi => by rw [Nat.zero_add]; exact hc i hi⟩, hb⟩
theorem joinE_no (zs : List Int) (ls : List Nat) (h : Om.sizesOk zs = false) : (joinE zs ls == 0) = false := by rw [(join_sizes zs ls h).2]; rfl
theorem join_facts (zs : List Int) (ls : List Nat) (h : joinE zs ls = 0) : zs.length = ls.length ∧ Om.fitAll zs ls ls.length = true := by
  unfold joinE at h
  by_cases h1 : zs.length = ls.length ∧ Om.sizesOk zs = true
  · rw [if_pos h1] at h
    by_cases h2 : Om.fitAll zs ls ls.length = true
    · exact ⟨h1.1, h2⟩
    · rw [if_neg h2] at h; exact absurd h (by decide)
  · rw [if_neg h1] at h; exact absurd h (by decide)
theorem back_get (l : List UInt8) (zs : List Int) (ls : List Nat) (a : Option Addr) (n cap : Nat) (w0 : World) (hl : zs.length = n) (hm : ls.length = n) (hn : n ≤ 1099511627776) (hok : Om.sizesOk zs = true) (hfit : Om.fitAll zs ls ls.length = true) (B : Nat) (hB : B ≤ w0.heap.size) (hr : Row w0 B a n (szs zs)) :
    Calls Try.prog 12 #[.string (Om.B (Om.joined zs ls n ++ l)), .slice a n cap] w0 (fun e w' => ∃ g c, e = .returned (.tuple #[.slice (some ⟨g, 0, none⟩) n c, .string (Om.B l), .int .i64 0]) ∧ Row w' w'.heap.size (some ⟨g, 0, none⟩) n (nbs ls) ∧ Below w0.heap.size w0 w') := by
  rw [hm] at hfit
  refine (got_of (get_ok (Om.joined zs ls n ++ l) zs B a n cap w0 hl hn hB hr hok (by rw [List.length_append, Om.joined_length zs ls n (by omega)]; omega))).mono ?_
  rintro e w' ⟨g, c, he, hrow, hb⟩
  rw [Om.drop_joined zs ls n l (by omega)] at he
  exact ⟨g, c, he, hrow.congr (fun i hi => by rw [Om.at_joined zs ls n l (by omega) hfit i hi]; rfl), hb⟩
theorem back_join (l : List UInt8) (zs : List Int) (a : Option Addr) (n cap : Nat) (w2 : World) (g2 c2 : Nat) (hl : zs.length = n) (hn : n ≤ 1099511627776) (hok : Om.sizesOk zs = true) (ho : Om.off zs n ≤ l.length) (hr : Row w2 w2.heap.size a n (szs zs))
    (hrow : Row w2 w2.heap.size (some ⟨g2, 0, none⟩) n (fun i => .int .u64 (Om.at_ l zs i : Int))) :
    Calls Try.prog 8 #[.slice a n cap, .slice (some ⟨g2, 0, none⟩) n c2] w2 fun e w' => e = .returned (.tuple #[.string (Om.B (l.take (Om.off zs n))), .int .i64 0]) ∧ Below w2.heap.size w2 w' := by
  have hml : ((List.range n).map fun i => Om.at_ l zs i).length = n := by simp
  have hmg : ∀ i, i < n → ((List.range n).map fun i => Om.at_ l zs i).getD i 0 = Om.at_ l zs i := fun i hi => by simp [List.getD, hi]
  have h := join_any zs ((List.range n).map fun i => Om.at_ l zs i) w2.heap.size a (some ⟨g2, 0, none⟩) n n cap c2 w2 hl hml hn hn (Nat.le_refl _) hr (hrow.congr (fun i hi => by unfold nbs; rw [hmg i hi])) (fun i => by
    by_cases hi : i < n
    · rw [hmg i hi]; exact Om.at_lt l zs hok i
    · simp [List.getD, hi])
  obtain ⟨hS, hE⟩ := join_ok zs ((List.range n).map fun i => Om.at_ l zs i) (by rw [hml, hl]) hok (by rw [hml]; exact Om.fit_at l zs _ n hmg)
  rw [hS, hE, hml, Om.joined_at l zs _ n (by omega) ho hmg] at h
  exact h

theorem law_long (l : List UInt8) (a c : Option Addr) (n m cap cap' : Nat) (w : World) (h : 40 < n ∨ 40 < m ∨ 400 < l.length) (h1 : n ≤ 9223372036854775807) (h2 : m ≤ 9223372036854775807) :
    Calls Try.prog 6 #[.slice a n cap, .slice c m cap', .string (Om.B l)] w fun e w' => e = .returned (.bool true) ∧ Below w.heap.size w w' := by
  have hsz : (Om.B l).size = l.length := rfl
  by_cases hl : 40 < n
  · have d1 : decide (40 < (n : Int)) = true := by simp; omega
    clear hsz
    go_enter Try.func6, Try.ntmps6
    go_wp2_with fail
    refine (alive_any _).mono ?_
    rintro e w1 ⟨rfl, hb1⟩
    go_wp2
    go_ret
    exact ⟨rfl, hb1⟩
  · have d1 : decide (40 < (n : Int)) = false := by simp; omega
    by_cases hm : 40 < m
    · have d2 : decide (40 < (m : Int)) = true := by simp; omega
      clear hsz
      go_enter Try.func6, Try.ntmps6
      go_wp2_with fail
      refine (alive_any _).mono ?_
      rintro e w1 ⟨rfl, hb1⟩
      go_wp2
      go_ret
      exact ⟨rfl, hb1⟩
    · have d2 : decide (40 < (m : Int)) = false := by simp; omega
      have d3 : decide (400 < ((Om.B l).size : Int)) = true := by rw [hsz]; simp; omega
      clear hsz
      go_enter Try.func6, Try.ntmps6
      go_wp2_with fail
      refine (alive_any _).mono ?_
      rintro e w1 ⟨rfl, hb1⟩
      go_wp2
      go_ret
      exact ⟨rfl, hb1⟩
theorem law_sizes (l : List UInt8) (zs : List Int) (ls : List Nat) (a c : Option Addr) (n m cap cap' : Nat) (w : World) (hl4 : l.length ≤ 400) (h1 : n ≤ 40) (h2 : m ≤ 40) (hl : zs.length = n) (hm : ls.length = m) (hr : Row w w.heap.size a n (szs zs)) (hq : Row w w.heap.size c m (nbs ls)) (hu : ∀ i, ls.getD i 0 < 18446744073709551616) (hok : Om.sizesOk zs = false) :
    Calls Try.prog 6 #[.slice a n cap, .slice c m cap', .string (Om.B l)] w fun e w' => e = .returned (.bool true) ∧ Below w.heap.size w w' := by
  have hsz : (Om.B l).size = l.length := rfl
  have d1 : decide (40 < (n : Int)) = false := by simp; omega
  have d2 : decide (40 < (m : Int)) = false := by simp; omega
  have d3 : decide (400 < ((Om.B l).size : Int)) = false := by rw [hsz]; simp; omega
  clear hsz
  have hE := joinE_no zs ls hok
  have hj := join_any zs ls w.heap.size a c n m cap cap' w hl hm (by omega) (by omega) (Nat.le_refl _) hr hq hu
  have HJ := Lib.hid hj
  have hg : ∀ w1, Below w.heap.size w w1 → Calls Try.prog 12 #[.string (Om.B l), .slice a n cap] w1 fun e w' => e = .returned (.tuple #[.slice none 0 0, .string (Om.B []), .int .i64 1]) ∧ Below w1.heap.size w1 w' :=
    fun w1 hb => get_sizes l zs w.heap.size a n cap w1 hl (by omega) hb.size (hr.below hb) hok
  have hj2 : ∀ w2, Below w.heap.size w w2 → Calls Try.prog 8 #[.slice a n cap, .slice none 0 0] w2 fun e w' => e = .returned (.tuple #[.string (Om.B (joinS zs [])), .int .i64 (joinE zs [])]) ∧ Below w2.heap.size w2 w' :=
    fun w2 hb => join_any zs [] w.heap.size a none n 0 cap 0 w2 hl rfl (by omega) (by omega) hb.size (hr.below hb) (Row.empty _ _ _ _) (by simp)
  have HG := Lib.hid hg
  have HJ2 := Lib.hid hj2
  clear hj hg hj2 hl hm hr hq hu hok
  go_enter Try.func6, Try.ntmps6
  go_wp2_with fail
  refine HJ.out.mono ?_
  rintro e w1 ⟨rfl, hb1⟩
  have HB1 := Lib.hid hb1
  clear hb1
  go_wp2_with fail
  refine (HG.out w1 HB1.out).mono ?_
  rintro e w2 ⟨rfl, hb2⟩
  have hbel2 : Below w.heap.size w w2 := HB1.out.trans (hb2.mono HB1.out.size)
  have HB2 := Lib.hid hbel2
  clear hb2 hbel2
  go_wp2_with fail
  refine (HJ2.out w2 HB2.out).mono ?_
  rintro e w3 ⟨rfl, hb3⟩
  have hbel3 : Below w.heap.size w w3 := HB2.out.trans (hb3.mono HB2.out.size)
  have HB3 := Lib.hid hbel3
  clear hb3 hbel3
  go_wp2_with fail
  refine (alive_any _).mono ?_
  rintro e w4 ⟨rfl, hb4⟩
  have HB4 := Lib.hid hb4
  clear hb4
  go_wp2
  go_ret
  exact ⟨rfl, HB3.out.trans (HB4.out.mono HB3.out.size)⟩
theorem law_skip_few (l : List UInt8) (zs : List Int) (ls : List Nat) (a c : Option Addr) (n m cap cap' : Nat) (w : World) (hl4 : l.length ≤ 400) (h1 : n ≤ 40) (h2 : m ≤ 40) (hl : zs.length = n) (hm : ls.length = m) (hr : Row w w.heap.size a n (szs zs)) (hq : Row w w.heap.size c m (nbs ls)) (hu : ∀ i, ls.getD i 0 < 18446744073709551616) (hok : Om.sizesOk zs = true) (ho : ¬ Om.off zs n ≤ l.length) (hE : (joinE zs ls == 0) = false) :
    Calls Try.prog 6 #[.slice a n cap, .slice c m cap', .string (Om.B l)] w fun e w' => e = .returned (.bool true) ∧ Below w.heap.size w w' := by
  have hsz : (Om.B l).size = l.length := rfl
  have d1 : decide (40 < (n : Int)) = false := by simp; omega
  have d2 : decide (40 < (m : Int)) = false := by simp; omega
  have d3 : decide (400 < ((Om.B l).size : Int)) = false := by rw [hsz]; simp; omega
  clear hsz
  have hj := join_any zs ls w.heap.size a c n m cap cap' w hl hm (by omega) (by omega) (Nat.le_refl _) hr hq hu
  have HJ := Lib.hid hj
  have hg : ∀ w1, Below w.heap.size w w1 → Calls Try.prog 12 #[.string (Om.B l), .slice a n cap] w1 fun e w' => e = .returned (.tuple #[.slice none 0 0, .string (Om.B []), .int .i64 21]) ∧ Below w1.heap.size w1 w' :=
    fun w1 hb => get_few l zs w.heap.size a n cap w1 hl (by omega) hb.size (hr.below hb) hok ho
  have hj2 : ∀ w2, Below w.heap.size w w2 → Calls Try.prog 8 #[.slice a n cap, .slice none 0 0] w2 fun e w' => e = .returned (.tuple #[.string (Om.B (joinS zs [])), .int .i64 (joinE zs [])]) ∧ Below w2.heap.size w2 w' :=
    fun w2 hb => join_any zs [] w.heap.size a none n 0 cap 0 w2 hl rfl (by omega) (by omega) hb.size (hr.below hb) (Row.empty _ _ _ _) (by simp)
  have HG := Lib.hid hg
  have HJ2 := Lib.hid hj2
  clear hj hg hj2 hl hm hr hq ho hu hok
  go_enter Try.func6, Try.ntmps6
  go_wp2_with fail
  refine HJ.out.mono ?_
  rintro e w1 ⟨rfl, hb1⟩
  have HB1 := Lib.hid hb1
  clear hb1
  go_wp2_with fail
  refine (HG.out w1 HB1.out).mono ?_
  rintro e w2 ⟨rfl, hb2⟩
  have hbel2 : Below w.heap.size w w2 := HB1.out.trans (hb2.mono HB1.out.size)
  have HB2 := Lib.hid hbel2
  clear hb2 hbel2
  go_wp2_with fail
  refine (HJ2.out w2 HB2.out).mono ?_
  rintro e w3 ⟨rfl, hb3⟩
  have hbel3 : Below w.heap.size w w3 := HB2.out.trans (hb3.mono HB2.out.size)
  have HB3 := Lib.hid hbel3
  clear hb3 hbel3
  go_wp2_with fail
  refine (alive_any _).mono ?_
  rintro e w4 ⟨rfl, hb4⟩
  have HB4 := Lib.hid hb4
  clear hb4
  go_wp2
  go_ret
  exact ⟨rfl, HB3.out.trans (HB4.out.mono HB3.out.size)⟩
theorem law_skip_ok (l : List UInt8) (zs : List Int) (ls : List Nat) (a c : Option Addr) (n m cap cap' : Nat) (w : World) (hl4 : l.length ≤ 400) (h1 : n ≤ 40) (h2 : m ≤ 40) (hl : zs.length = n) (hm : ls.length = m) (hr : Row w w.heap.size a n (szs zs)) (hq : Row w w.heap.size c m (nbs ls)) (hu : ∀ i, ls.getD i 0 < 18446744073709551616) (hok : Om.sizesOk zs = true) (ho : Om.off zs n ≤ l.length) (hE : (joinE zs ls == 0) = false) :
    Calls Try.prog 6 #[.slice a n cap, .slice c m cap', .string (Om.B l)] w fun e w' => e = .returned (.bool true) ∧ Below w.heap.size w w' := by
  have hsz : (Om.B l).size = l.length := rfl
  have d1 : decide (40 < (n : Int)) = false := by simp; omega
  have d2 : decide (40 < (m : Int)) = false := by simp; omega
  have d3 : decide (400 < ((Om.B l).size : Int)) = false := by rw [hsz]; simp; omega
  clear hsz
  have hj := join_any zs ls w.heap.size a c n m cap cap' w hl hm (by omega) (by omega) (Nat.le_refl _) hr hq hu
  have HJ := Lib.hid hj
  have hg : ∀ w1, Below w.heap.size w w1 → Calls Try.prog 12 #[.string (Om.B l), .slice a n cap] w1 (Got l zs n w1) :=
    fun w1 hb => got_of (get_ok l zs w.heap.size a n cap w1 hl (by omega) hb.size (hr.below hb) hok ho)
  have hj2 : ∀ w2 g2 c2, Below w.heap.size w w2 → Row w2 w2.heap.size (some ⟨g2, 0, none⟩) n (fun i => .int .u64 (Om.at_ l zs i : Int)) → Calls Try.prog 8 #[.slice a n cap, .slice (some ⟨g2, 0, none⟩) n c2] w2 fun e w' => e = .returned (.tuple #[.string (Om.B (l.take (Om.off zs n))), .int .i64 0]) ∧ Below w2.heap.size w2 w' :=
    fun w2 g2 c2 hb hrow => back_join l zs a n cap w2 g2 c2 hl (by omega) hok ho ((hr.below hb).more hb.size) hrow
  have hfin : Om.B (l.take (Om.off zs n)) ++ Om.B (l.drop (Om.off zs n)) = Om.B l := by rw [Om.B_append, List.take_append_drop]
  have hover := no_over (l.take (Om.off zs n)) (l.drop (Om.off zs n)) (by rw [List.length_take, List.length_drop]; omega)
  have HG := Lib.hid hg
  have HJ2 := Lib.hid hj2
  clear hj hg hj2 hl hm hr hq ho hu hok
  go_enter Try.func6, Try.ntmps6
  go_wp2_with fail
  refine HJ.out.mono ?_
  rintro e w1 ⟨rfl, hb1⟩
  have HB1 := Lib.hid hb1
  clear hb1
  go_wp2_with fail
  refine (HG.out w1 HB1.out).mono ?_
  rintro e w2 ⟨g2, c2, rfl, hrow2, hb2⟩
  have hbel2 : Below w.heap.size w w2 := HB1.out.trans (hb2.mono HB1.out.size)
  have HB2 := Lib.hid hbel2
  have HR2 := Lib.hid hrow2
  clear hb2 hbel2 hrow2
  go_wp2_with fail
  refine (HJ2.out w2 g2 c2 HB2.out HR2.out).mono ?_
  rintro e w3 ⟨rfl, hb3⟩
  have hbel3 : Below w.heap.size w w3 := HB2.out.trans (hb3.mono HB2.out.size)
  have HB3 := Lib.hid hbel3
  clear hb3 hbel3
  go_wp2_with fail
  refine (alive_any _).mono ?_
  rintro e w4 ⟨rfl, hb4⟩
  have HB4 := Lib.hid hb4
  clear hb4
  go_wp2
  go_ret
  exact ⟨rfl, HB3.out.trans (HB4.out.mono HB3.out.size)⟩
theorem law_done_few (l : List UInt8) (zs : List Int) (ls : List Nat) (a c : Option Addr) (n m cap cap' : Nat) (w : World) (hl4 : l.length ≤ 400) (h1 : n ≤ 40) (h2 : m ≤ 40) (hl : zs.length = n) (hm : ls.length = m) (hr : Row w w.heap.size a n (szs zs)) (hq : Row w w.heap.size c m (nbs ls)) (hu : ∀ i, ls.getD i 0 < 18446744073709551616) (hok : Om.sizesOk zs = true) (ho : ¬ Om.off zs n ≤ l.length) (hE : joinE zs ls = 0) :
    Calls Try.prog 6 #[.slice a n cap, .slice c m cap', .string (Om.B l)] w fun e w' => e = .returned (.bool true) ∧ Below w.heap.size w w' := by
  have hsz : (Om.B l).size = l.length := rfl
  have d1 : decide (40 < (n : Int)) = false := by simp; omega
  have d2 : decide (40 < (m : Int)) = false := by simp; omega
  have d3 : decide (400 < ((Om.B l).size : Int)) = false := by rw [hsz]; simp; omega
  clear hsz
  obtain ⟨hlm, hfit⟩ := join_facts zs ls hE
  have hnm : n = m := by omega
  subst hnm
  obtain ⟨hS, _⟩ := join_ok zs ls hlm hok hfit
  have hj := join_any zs ls w.heap.size a c n n cap cap' w hl hm (by omega) (by omega) (Nat.le_refl _) hr hq hu
  rw [hS, hE, hm] at hj
  have HJ := Lib.hid hj
  have hover1 := no_over (Om.joined zs ls n) l (by rw [Om.joined_length zs ls n (by omega)]; have := Om.off_le zs hok n; omega)
  have hg1 : ∀ w0, Below w.heap.size w w0 → Calls Try.prog 12 #[.string (Om.B (Om.joined zs ls n ++ l)), .slice a n cap] w0 (fun e w' => ∃ g c, e = .returned (.tuple #[.slice (some ⟨g, 0, none⟩) n c, .string (Om.B l), .int .i64 0]) ∧ Row w' w'.heap.size (some ⟨g, 0, none⟩) n (nbs ls) ∧ Below w0.heap.size w0 w') :=
    fun w0 hb => back_get l zs ls a n cap w0 hl hm (by omega) hok hfit w.heap.size hb.size (hr.below hb)
  have HG1 := Lib.hid hg1
  have HQ := Lib.hid hq
  have hg : ∀ w1, Below w.heap.size w w1 → Calls Try.prog 12 #[.string (Om.B l), .slice a n cap] w1 fun e w' => e = .returned (.tuple #[.slice none 0 0, .string (Om.B []), .int .i64 21]) ∧ Below w1.heap.size w1 w' :=
    fun w1 hb => get_few l zs w.heap.size a n cap w1 hl (by omega) hb.size (hr.below hb) hok ho
  have hj2 : ∀ w2, Below w.heap.size w w2 → Calls Try.prog 8 #[.slice a n cap, .slice none 0 0] w2 fun e w' => e = .returned (.tuple #[.string (Om.B (joinS zs [])), .int .i64 (joinE zs [])]) ∧ Below w2.heap.size w2 w' :=
    fun w2 hb => join_any zs [] w.heap.size a none n 0 cap 0 w2 hl rfl (by omega) (by omega) hb.size (hr.below hb) (Row.empty _ _ _ _) (by simp)
  have HG := Lib.hid hg
  have HJ2 := Lib.hid hj2
  clear hj hg hj2 hg1 hl hm hr hq hu hok ho hS hE hlm hfit
  go_enter Try.func6, Try.ntmps6
  go_wp2_with fail
  refine HJ.out.mono ?_
  rintro e w0 ⟨rfl, hb0⟩
  have HB0 := Lib.hid hb0
  clear hb0
  go_wp2_with fail
  rw [Om.B_append]
  refine (HG1.out w0 HB0.out).mono ?_
  rintro e wg ⟨g, c1, rfl, hrow, hbg⟩
  have hrowl : Row wg w.heap.size c n (nbs ls) := HQ.out.below (HB0.out.trans (hbg.mono HB0.out.size))
  have HRG := Lib.hid hrow
  have HRL := Lib.hid hrowl
  have hbel1 : Below w.heap.size w wg := HB0.out.trans (hbg.mono HB0.out.size)
  have HBG := Lib.hid hbel1
  clear hrow hrowl hbg hbel1
  go_wp2_with fail
  refine (same_any (fun i => ls.getD i 0) _ _ _ _ n _ _ _ (by omega) HRG.out HRL.out).mono ?_
  rintro e w1 ⟨rfl, dd, hdd⟩
  have hbel1 : Below w.heap.size w w1 := by rw [hdd]; exact below_drewN HBG.out dd
  have HB1 := Lib.hid hbel1
  clear hbel1 hdd
  go_wp2_with fail
  refine (HG.out w1 HB1.out).mono ?_
  rintro e w2 ⟨rfl, hb2⟩
  have hbel2 : Below w.heap.size w w2 := HB1.out.trans (hb2.mono HB1.out.size)
  have HB2 := Lib.hid hbel2
  clear hb2 hbel2
  go_wp2_with fail
  refine (HJ2.out w2 HB2.out).mono ?_
  rintro e w3 ⟨rfl, hb3⟩
  have hbel3 : Below w.heap.size w w3 := HB2.out.trans (hb3.mono HB2.out.size)
  have HB3 := Lib.hid hbel3
  clear hb3 hbel3
  go_wp2_with fail
  refine (alive_any _).mono ?_
  rintro e w4 ⟨rfl, hb4⟩
  have HB4 := Lib.hid hb4
  clear hb4
  go_wp2
  go_ret
  exact ⟨rfl, HB3.out.trans (HB4.out.mono HB3.out.size)⟩
theorem law_done_ok (l : List UInt8) (zs : List Int) (ls : List Nat) (a c : Option Addr) (n m cap cap' : Nat) (w : World) (hl4 : l.length ≤ 400) (h1 : n ≤ 40) (h2 : m ≤ 40) (hl : zs.length = n) (hm : ls.length = m) (hr : Row w w.heap.size a n (szs zs)) (hq : Row w w.heap.size c m (nbs ls)) (hu : ∀ i, ls.getD i 0 < 18446744073709551616) (hok : Om.sizesOk zs = true) (ho : Om.off zs n ≤ l.length) (hE : joinE zs ls = 0) :
    Calls Try.prog 6 #[.slice a n cap, .slice c m cap', .string (Om.B l)] w fun e w' => e = .returned (.bool true) ∧ Below w.heap.size w w' := by
  have hsz : (Om.B l).size = l.length := rfl
  have d1 : decide (40 < (n : Int)) = false := by simp; omega
  have d2 : decide (40 < (m : Int)) = false := by simp; omega
  have d3 : decide (400 < ((Om.B l).size : Int)) = false := by rw [hsz]; simp; omega
  clear hsz
  obtain ⟨hlm, hfit⟩ := join_facts zs ls hE
  have hnm : n = m := by omega
  subst hnm
  obtain ⟨hS, _⟩ := join_ok zs ls hlm hok hfit
  have hj := join_any zs ls w.heap.size a c n n cap cap' w hl hm (by omega) (by omega) (Nat.le_refl _) hr hq hu
  rw [hS, hE, hm] at hj
  have HJ := Lib.hid hj
  have hover1 := no_over (Om.joined zs ls n) l (by rw [Om.joined_length zs ls n (by omega)]; have := Om.off_le zs hok n; omega)
  have hg1 : ∀ w0, Below w.heap.size w w0 → Calls Try.prog 12 #[.string (Om.B (Om.joined zs ls n ++ l)), .slice a n cap] w0 (fun e w' => ∃ g c, e = .returned (.tuple #[.slice (some ⟨g, 0, none⟩) n c, .string (Om.B l), .int .i64 0]) ∧ Row w' w'.heap.size (some ⟨g, 0, none⟩) n (nbs ls) ∧ Below w0.heap.size w0 w') :=
    fun w0 hb => back_get l zs ls a n cap w0 hl hm (by omega) hok hfit w.heap.size hb.size (hr.below hb)
  have HG1 := Lib.hid hg1
  have HQ := Lib.hid hq
  have hg : ∀ w1, Below w.heap.size w w1 → Calls Try.prog 12 #[.string (Om.B l), .slice a n cap] w1 (Got l zs n w1) :=
    fun w1 hb => got_of (get_ok l zs w.heap.size a n cap w1 hl (by omega) hb.size (hr.below hb) hok ho)
  have hj2 : ∀ w2 g2 c2, Below w.heap.size w w2 → Row w2 w2.heap.size (some ⟨g2, 0, none⟩) n (fun i => .int .u64 (Om.at_ l zs i : Int)) → Calls Try.prog 8 #[.slice a n cap, .slice (some ⟨g2, 0, none⟩) n c2] w2 fun e w' => e = .returned (.tuple #[.string (Om.B (l.take (Om.off zs n))), .int .i64 0]) ∧ Below w2.heap.size w2 w' :=
    fun w2 g2 c2 hb hrow => back_join l zs a n cap w2 g2 c2 hl (by omega) hok ho ((hr.below hb).more hb.size) hrow
  have hfin : Om.B (l.take (Om.off zs n)) ++ Om.B (l.drop (Om.off zs n)) = Om.B l := by rw [Om.B_append, List.take_append_drop]
  have hover := no_over (l.take (Om.off zs n)) (l.drop (Om.off zs n)) (by rw [List.length_take, List.length_drop]; omega)
  have HG := Lib.hid hg
  have HJ2 := Lib.hid hj2
  clear hj hg hj2 hg1 hl hm hr hq hu hok ho hS hE hlm hfit
  go_enter Try.func6, Try.ntmps6
  go_wp2_with fail
  refine HJ.out.mono ?_
  rintro e w0 ⟨rfl, hb0⟩
  have HB0 := Lib.hid hb0
  clear hb0
  go_wp2_with fail
  rw [Om.B_append]
  refine (HG1.out w0 HB0.out).mono ?_
  rintro e wg ⟨g, c1, rfl, hrow, hbg⟩
  have hrowl : Row wg w.heap.size c n (nbs ls) := HQ.out.below (HB0.out.trans (hbg.mono HB0.out.size))
  have HRG := Lib.hid hrow
  have HRL := Lib.hid hrowl
  have hbel1 : Below w.heap.size w wg := HB0.out.trans (hbg.mono HB0.out.size)
  have HBG := Lib.hid hbel1
  clear hrow hrowl hbg hbel1
  go_wp2_with fail
  refine (same_any (fun i => ls.getD i 0) _ _ _ _ n _ _ _ (by omega) HRG.out HRL.out).mono ?_
  rintro e w1 ⟨rfl, dd, hdd⟩
  have hbel1 : Below w.heap.size w w1 := by rw [hdd]; exact below_drewN HBG.out dd
  have HB1 := Lib.hid hbel1
  clear hbel1 hdd
  go_wp2_with fail
  refine (HG.out w1 HB1.out).mono ?_
  rintro e w2 ⟨g2, c2, rfl, hrow2, hb2⟩
  have hbel2 : Below w.heap.size w w2 := HB1.out.trans (hb2.mono HB1.out.size)
  have HB2 := Lib.hid hbel2
  have HR2 := Lib.hid hrow2
  clear hb2 hbel2 hrow2
  go_wp2_with fail
  refine (HJ2.out w2 g2 c2 HB2.out HR2.out).mono ?_
  rintro e w3 ⟨rfl, hb3⟩
  have hbel3 : Below w.heap.size w w3 := HB2.out.trans (hb3.mono HB2.out.size)
  have HB3 := Lib.hid hbel3
  clear hb3 hbel3
  go_wp2_with fail
  refine (alive_any _).mono ?_
  rintro e w4 ⟨rfl, hb4⟩
  have HB4 := Lib.hid hb4
  clear hb4
  go_wp2
  go_ret
  exact ⟨rfl, HB3.out.trans (HB4.out.mono HB3.out.size)⟩
/-! ### STEP 1: THE WALK: the Go text returns true, AND WRITES NOTHING THAT WAS THERE: 'Below w.heap.size w w'' (Derived/Below.lean: '.refl', '.alloc', '.drew', '.setCell' at a new block, '.trans'). Open each 'IsRow' by 'rcases' AHEAD of 'go_enter'; part every test ahead of the walk. -/
set_option maxRecDepth 100000 in
set_option maxHeartbeats 2000000 in
theorem walk (a0 : Option Addr) (len0 cap0 : Nat) (z0 : List Int) (a1 : Option Addr) (len1 cap1 : Nat) (z1 : List Int) (a2 : ByteArray) (w : World) (w0 : IsRow .i64 w a0 len0 cap0 z0) (w1 : IsRow .u64 w a1 len1 cap1 z1) (w2 : a2.size ≤ maxLen) :
    Calls Try.prog 6 #[.slice a0 len0 cap0, .slice a1 len1 cap1, .string a2] w fun e w' => e = .returned (.bool true) ∧ Below w.heap.size w w' := by
  obtain ⟨zs, hl, hr, hb1⟩ := view_sizes w0
  obtain ⟨ls, hm, hq, hu, hb2⟩ := view_nums w1
  obtain ⟨l, rfl⟩ : ∃ l, a2 = Om.B l := ⟨Om.L a2, (Om.B_L a2).symm⟩
  by_cases h : 40 < len0 ∨ 40 < len1 ∨ 400 < l.length
  · exact law_long l _ _ _ _ _ _ w h hb1 hb2
  · cases hok : Om.sizesOk zs with
    | false => exact law_sizes l zs ls _ _ _ _ _ _ w (by omega) (by omega) (by omega) hl hm hr hq hu hok
    | true =>
      by_cases hE : joinE zs ls = 0
      · by_cases ho : Om.off zs len0 ≤ l.length
        · exact law_done_ok l zs ls _ _ _ _ _ _ w (by omega) (by omega) (by omega) hl hm hr hq hu hok ho hE
        · exact law_done_few l zs ls _ _ _ _ _ _ w (by omega) (by omega) (by omega) hl hm hr hq hu hok ho hE
      · have hE' : (joinE zs ls == 0) = false := by simpa using hE
        by_cases ho : Om.off zs len0 ≤ l.length
        · exact law_skip_ok l zs ls _ _ _ _ _ _ w (by omega) (by omega) (by omega) hl hm hr hq hu hok ho hE'
        · exact law_skip_few l zs ls _ _ _ _ _ _ w (by omega) (by omega) (by omega) hl hm hr hq hu hok ho hE'

/-! ### THE ROW's STEP: WRITTEN OUT: LEAVE IT -/
set_option maxRecDepth 100000 in
theorem lifted (os : Os) (started : os.Started) (H : Type) (enc : TypeId × Value → H) :
    ReturnsInHanded {} Try.checked os 6 .any (Rows.octetBackSpec.pre6 enc Try.prog Try.f6 Rows.octetBackRow.domain false) (Rows.octetBackSpec.post enc Try.prog Try.f6 false true false false) := by
  refine returnsInHanded_of_change (C := Try.checked) own started (by kernel_rfl) Try.func6
    (ChangeSpec.witness6 (enc := enc) (C := Try.checked) false ⟨#[], #[.slice none 0 0, .slice none 0 0, .string ByteArray.empty], []⟩ 8 (by kernel_rfl) (by kernel_rfl) (by kernel_rfl) (by kernel_rfl)) ?_
  intro W base args ds gs before hval0 hW hcnd _
  have hval : ∀ (j : Nat) t v, Try.f6.params[j]? = some t → args[j]? = some v → Value.okWide Try.prog W .any base t v := hval0
  have hW' := hW
  obtain ⟨p, q, hA0, hV, rfl, hfz, hnd⟩ := hW
  have hA : DataW.TrodAll enc Try.prog W 0 (fun _ => true) true Try.f6.params.toList args.toList ds p := hA0
  rw [Try.params6] at hA hval
  obtain ⟨v0, vs0, d0, ds0, p0, q0, hargs, rfl, rfl, h0, r0⟩ := trodAll_cons hA
  obtain ⟨v1, vs1, d1, ds1, p1, q1, rfl, rfl, rfl, h1, r1⟩ := trodAll_cons r0
  obtain ⟨v2, vs2, d2, ds2, p2, q2, rfl, rfl, rfl, h2, r2⟩ := trodAll_cons r1
  obtain ⟨rfl, rfl, rfl⟩ := trodAll_nil r2
  obtain rfl : args = #[v0, v1, v2] := by cases args; simp_all
  obtain ⟨rfl, rfl⟩ := trodVars_none hV
  obtain ⟨a0, len0, cap0, rfl⟩ := okWide_slice Try.underlying23 (hval 0 23 v0 rfl rfl)
  have k0 := h0
  have lt0 : ∀ x ∈ p0, x.block < W.heap.size := by obtain ⟨m, hm⟩ := k0; exact DataW.trod_lt m _ _ _ hm
  obtain ⟨z0, w0⟩ : ∃ zs, IsRow .i64 W a0 len0 cap0 zs := by
    obtain ⟨fuel, hf⟩ := h0
    rcases open_ints Try.underlying23 Try.underlying3 (by kernel_rfl) hf with ⟨hcs, _⟩ | ⟨x, l, c, zs, hcs, _, hl, hm, hz, _, hcell, hwz⟩
    · simp [Value.cells] at hcs
      obtain ⟨rfl, rfl, rfl⟩ := hcs
      exact ⟨[], .inl ⟨rfl, rfl, rfl, rfl⟩⟩
    · simp [Value.cells] at hcs
      obtain ⟨rfl, rfl, rfl⟩ := hcs
      exact ⟨zs, .inr ⟨_, rfl, hl, hm, by simpa using hz, hcell, hwz⟩⟩
  obtain ⟨a1, len1, cap1, rfl⟩ := okWide_slice Try.underlying24 (hval 1 24 v1 rfl rfl)
  have k1 := h1
  have lt1 : ∀ x ∈ p1, x.block < W.heap.size := by obtain ⟨m, hm⟩ := k1; exact DataW.trod_lt m _ _ _ hm
  obtain ⟨z1, w1⟩ : ∃ zs, IsRow .u64 W a1 len1 cap1 zs := by
    obtain ⟨fuel, hf⟩ := h1
    rcases open_ints Try.underlying24 Try.underlying22 (by kernel_rfl) hf with ⟨hcs, _⟩ | ⟨x, l, c, zs, hcs, _, hl, hm, hz, _, hcell, hwz⟩
    · simp [Value.cells] at hcs
      obtain ⟨rfl, rfl, rfl⟩ := hcs
      exact ⟨[], .inl ⟨rfl, rfl, rfl, rfl⟩⟩
    · simp [Value.cells] at hcs
      obtain ⟨rfl, rfl, rfl⟩ := hcs
      exact ⟨zs, .inr ⟨_, rfl, hl, hm, by simpa using hz, hcell, hwz⟩⟩
  obtain ⟨a2, rfl, rfl, rfl, w2⟩ := open_string Try.underlying9 (hval 2 9 v2 rfl rfl) h2
  clear hA0 hval0
  refine (walk a0 len0 cap0 z0 a1 len1 cap1 z1 a2 W w0 w1 w2).mono fun e W' ⟨he, bel⟩ => ?_
  subst he
  exact ⟨_, rfl, _, _, _, [], _, [], hW', trodAll_mk1 (shut_bool Try.underlying4 _), (trodAll_cons_mk (Below.trod laidOut (by kernel_rfl) (of_decide_eq_true (by kernel_rfl)) k0 bel lt0) (trodAll_cons_mk (Below.trod laidOut (by kernel_rfl) (of_decide_eq_true (by kernel_rfl)) k1 bel lt1) (trodAll_cons_mk (shut_string Try.underlying9 w2) trodAll_mk0))), rfl, bel.frame _, fun h => by cases h⟩

theorem over : Rows.octetBackRow.holds Try.pinned (OpenSpec.ofChange Rows.octetBackSpec) :=
  OpenClaim.holds_of_wide 6 Try.f6 rfl rfl rfl rfl rfl rfl rfl ⟨rfl, rfl, rfl, rfl, rfl⟩ rfl rfl rfl rfl rfl (by kernel_rfl) Try.func6 (by kernel_rfl)
    (of_decide_eq_true (by kernel_rfl)) (by unfold Func.isWrapper; first | (rw [if_pos (by decide +kernel)]; kernel_rfl) | (rw [if_neg (by decide +kernel)]; exact ⟨rfl, rfl⟩))
    (fun os started H enc _ => lifted os started H enc)

/-- ████ THE STATEMENT ████ -/
theorem proved : Rows.OctetBackSaid := over
#print axioms proved
end Go.Proofs.Ytdkfhgcihkjkgaa.octetBack
