/- Contracts of octet's Get: a panic that stops the reading is recovered, and told. -/
import Derived.Test.YtncbimgbjkdocaaOctetGet
import Derived.Defers
import Derived.Recover
import Derived.Laws.Pointers
namespace Go.Proofs.Ytncbimgbjkdocaa
open Go.RowKit
set_option linter.unusedVariables false

theorem ta_yes (t : TypeId) (w : World) (h : t = 76 ∨ t = 77) : (Instr.typeAssert (.iface t (.agg #[])) 20 t true).run Try.prog w = .ok (.tuple #[.agg #[], .bool true]) w := by
  rcases h with rfl | rfl <;> kernel_rfl
theorem ta_other (w : World) : (Instr.typeAssert (.iface 77 (.agg #[])) 20 76 true).run Try.prog w = .ok (.tuple #[.agg #[], .bool false]) w := by kernel_rfl
theorem ta_nil (t : TypeId) (w : World) (h : t = 76 ∨ t = 77) : (Instr.typeAssert .nilIface 20 t true).run Try.prog w = .ok (.tuple #[.agg #[], .bool false]) w := by
  rcases h with rfl | rfl <;> kernel_rfl

theorem catch_size (p : Addr) (x : Int) (older : List PanicEntry) (w : World) (hc : w.cell? p = some (.int .i64 x)) (hz : w.frozen? p = false) :
    CallsD Try.prog 46 #[.pointer (some p)] (.panicking ({ v := .iface 76 (.agg #[]), recovered := false } :: older)) w fun e u' w' =>
      e = .returned (.tuple #[]) ∧ u' = (.panicking ({ v := .iface 76 (.agg #[]), recovered := true } :: older)) ∧ w' = w.setCell p (.int .i64 1) := by
  have h1 := fun w => ta_yes 76 w (.inl rfl)
  refine callsD_of_wpS Try.func46 rfl fun c₀ cs hu => ?_
  apply wpS_seq
  apply wpS_region
  simp [wpOpsS, go_sem, recoverD, hu, Try.ntmps46, Exit.thenS]
  rw [show (#[Value.pointer (some p)] ++ (Array.replicate 7 undef).setIfInBounds 0 (.iface 76 (.agg #[]))) = #[.pointer (some p), (.iface 76 (.agg #[])), undef, undef, undef, undef, undef, undef] from rfl]
  refine wpS_of_wp ?_
  go_wp2
  simp [bodyPostS, results, Try.results46]
theorem catch_few (p : Addr) (x : Int) (older : List PanicEntry) (w : World) (hc : w.cell? p = some (.int .i64 x)) (hz : w.frozen? p = false) :
    CallsD Try.prog 46 #[.pointer (some p)] (.panicking ({ v := .iface 77 (.agg #[]), recovered := false } :: older)) w fun e u' w' =>
      e = .returned (.tuple #[]) ∧ u' = (.panicking ({ v := .iface 77 (.agg #[]), recovered := true } :: older)) ∧ w' = w.setCell p (.int .i64 21) := by
  have h1 := fun w => ta_yes 77 w (.inr rfl)
  have h2 := ta_other
  refine callsD_of_wpS Try.func46 rfl fun c₀ cs hu => ?_
  apply wpS_seq
  apply wpS_region
  simp [wpOpsS, go_sem, recoverD, hu, Try.ntmps46, Exit.thenS]
  rw [show (#[Value.pointer (some p)] ++ (Array.replicate 7 undef).setIfInBounds 0 (.iface 77 (.agg #[]))) = #[.pointer (some p), (.iface 77 (.agg #[])), undef, undef, undef, undef, undef, undef] from rfl]
  refine wpS_of_wp ?_
  go_wp2
  simp [bodyPostS, results, Try.results46]
theorem catch_none (p : Addr) (w : World) :
    CallsD Try.prog 46 #[.pointer (some p)] .returning w fun e u' w' =>
      e = .returned (.tuple #[]) ∧ u' = .returning ∧ w' = w := by
  have h1 := fun w => ta_nil 76 w (.inl rfl)
  have h2 := fun w => ta_nil 77 w (.inr rfl)
  refine callsD_of_wpS Try.func46 rfl fun c₀ cs hu => ?_
  apply wpS_seq
  apply wpS_region
  simp [wpOpsS, go_sem, recoverD, hu, Try.ntmps46, Exit.thenS]
  rw [show (#[Value.pointer (some p)] ++ (Array.replicate 7 undef).setIfInBounds 0 .nilIface) = #[.pointer (some p), .nilIface, undef, undef, undef, undef, undef, undef] from rfl]
  refine wpS_of_wp ?_
  go_wp2
  cases c₀
  simp_all [bodyPostS, results, Try.results46]

/-- What Get gives, where it gives numbers. -/
def GetOk (l : List UInt8) (zs : List Int) (n : Nat) (w : World) (e : Ending) (w' : World) : Prop :=
  ∃ (b c : Nat), e = .returned (.tuple #[.slice (some ⟨b, 0, none⟩) n c, .string (Om.B (l.drop (Om.off zs n))), .int .i64 0]) ∧ w.heap.size ≤ b ∧ b < w'.heap.size ∧ (∀ i, i < n → w'.cell? ⟨b, i, none⟩ = some (.int .u64 (Om.at_ l zs i : Int))) ∧ Below w.heap.size w w'

theorem get_sizes (l : List UInt8) (zs : List Int) (B : Nat) (a : Option Addr) (n cap : Nat) (w : World) (hl : zs.length = n) (hn : n ≤ 1099511627776) (hB : B ≤ w.heap.size) (hr : Row w B a n (szs zs)) (hok : Om.sizesOk zs = false) :
    Calls Try.prog 33 #[.string (Om.B l), .slice a n cap] w fun e w' => e = .returned (.tuple #[.slice none 0 0, .string (Om.B []), .int .i64 1]) ∧ Below w.heap.size w w' := by
  have hmf : ∀ (fn : Fn) (first cap : Array Value) (w : World), (Instr.makeFunc fn first cap).run Try.prog w = .ok (.func fn first cap) w := fun _ _ _ _ => rfl
  have hc := read_sizes l zs B a n cap (w.alloc (.cells #[.int .i64 0] 24)) hl hn (hr.below ((Below.refl _ _).alloc hB _)) hok
  have HC := Lib.hid hc
  clear hok hl hr hc
  go_enter_defers Try.func33, Try.ntmps33
  go_wp2_with fail
  refine HC.out.mono ?_
  rintro e w1 ⟨rfl, rfl⟩
  go_wp2
  refine leaves_cons (f := 46) (args := #[.pointer (some ⟨w.heap.size, 0, none⟩)]) (by simp) (by simp [go_sem]) ?_
  refine (catch_size ⟨w.heap.size, 0, none⟩ 0 [] _ ?_ ?_).mono ?_
  · simp [go_sem]
  · simp [go_sem]
  rintro e u' w'' ⟨rfl, rfl, rfl⟩
  simp [Leaves, settle, results, Try.results33, go_sem]
  exact ⟨rfl, (Below.refl _ _).alloc (Nat.le_refl _) _⟩

theorem read_ok (l : List UInt8) (zs : List Int) (B : Nat) (a : Option Addr) (n cap : Nat) (w : World) (hl : zs.length = n) (hn : n ≤ 1099511627776) (hB : B ≤ w.heap.size) (hr : Row w B a n (szs zs)) (hok : Om.sizesOk zs = true) (ho : Om.off zs n ≤ l.length) :
    Calls Try.prog 47 #[.string (Om.B l), .slice a n cap] w fun e w' => e = .returned (.tuple #[.slice (some ⟨w.heap.size, 0, none⟩) n n, .string (Om.B (l.drop (Om.off zs n)))]) ∧ w'.ownsRow w.heap.size 38 1 (.slice (some ⟨w.heap.size, 0, none⟩) n n) n (nums l zs n n) ∧ Below w.heap.size w w' :=
  (read_any l zs B a n cap w hl hn hB hr hok).mono fun e w' h => by
    rcases h with h | h
    · exact h.2
    · exact absurd ho h.1
theorem read_few (l : List UInt8) (zs : List Int) (B : Nat) (a : Option Addr) (n cap : Nat) (w : World) (hl : zs.length = n) (hn : n ≤ 1099511627776) (hB : B ≤ w.heap.size) (hr : Row w B a n (szs zs)) (hok : Om.sizesOk zs = true) (ho : ¬ Om.off zs n ≤ l.length) :
    Calls Try.prog 47 #[.string (Om.B l), .slice a n cap] w fun e w' => e = .panicked [{ v := .iface 77 (.agg #[]), recovered := false }] ∧ Below w.heap.size w w' :=
  (read_any l zs B a n cap w hl hn hB hr hok).mono fun e w' h => by
    rcases h with h | h
    · exact absurd h.1 ho
    · exact h.2

/-- The result's own variable behind the reading. -/
theorem err_cell {w w1 : World} (h : Below (w.heap.size + 1) (w.alloc (.cells #[.int .i64 0] 24)) w1) : w1.cell? ⟨w.heap.size, 0, none⟩ = some (.int .i64 0) ∧ w1.frozen? ⟨w.heap.size, 0, none⟩ = false ∧ Below w.heap.size w w1 := by
  refine ⟨?_, ?_, ?_⟩
  · rw [h.cell (p := ⟨w.heap.size, 0, none⟩) (by simp)]; simp
  · rw [h.frozen (p := ⟨w.heap.size, 0, none⟩) (by simp)]; simp
  · exact ((Below.refl _ _).alloc (Nat.le_refl _) _).trans (h.mono (by omega))

theorem get_few (l : List UInt8) (zs : List Int) (B : Nat) (a : Option Addr) (n cap : Nat) (w : World) (hl : zs.length = n) (hn : n ≤ 1099511627776) (hB : B ≤ w.heap.size) (hr : Row w B a n (szs zs)) (hok : Om.sizesOk zs = true) (ho : ¬ Om.off zs n ≤ l.length) :
    Calls Try.prog 33 #[.string (Om.B l), .slice a n cap] w fun e w' => e = .returned (.tuple #[.slice none 0 0, .string (Om.B []), .int .i64 21]) ∧ Below w.heap.size w w' := by
  have hmf : ∀ (fn : Fn) (first cap : Array Value) (w : World), (Instr.makeFunc fn first cap).run Try.prog w = .ok (.func fn first cap) w := fun _ _ _ _ => rfl
  have hc := read_few l zs B a n cap (w.alloc (.cells #[.int .i64 0] 24)) hl hn (by simp; omega) (hr.below ((Below.refl _ _).alloc hB _)) hok ho
  have HC := Lib.hid hc
  clear hok hl hr hc ho
  go_enter_defers Try.func33, Try.ntmps33
  go_wp2_with fail
  refine HC.out.mono ?_
  rintro e w1 ⟨rfl, hb⟩
  have hb' : Below (w.heap.size + 1) (w.alloc (.cells #[.int .i64 0] 24)) w1 := by simpa using hb
  obtain ⟨h1, h2, h3⟩ := err_cell hb'
  clear hb hb'
  go_wp2
  refine leaves_cons (f := 46) (args := #[.pointer (some ⟨w.heap.size, 0, none⟩)]) (by simp) (by simp [go_sem]) ?_
  refine (catch_few ⟨w.heap.size, 0, none⟩ 0 [] _ h1 h2).mono ?_
  rintro e u' w'' ⟨rfl, rfl, rfl⟩
  have h4 := h3.setCell (p := ⟨w.heap.size, 0, none⟩) (Nat.le_refl _) (.int .i64 21)
  have h5 : (w1.setCell ⟨w.heap.size, 0, none⟩ (.int .i64 21)).cell? ⟨w.heap.size, 0, none⟩ = some (.int .i64 21) := World.cell?_setCell_same w1 _ _ h1
  simp [Leaves, settle, results, Try.results33, go_sem, h5]
  exact ⟨rfl, h4⟩

/-- What Get gives, where it gives numbers: a slice whose room is its length. -/
def GetFull (l : List UInt8) (zs : List Int) (n : Nat) (w : World) (e : Ending) (w' : World) : Prop :=
  ∃ b : Nat, e = .returned (.tuple #[.slice (some ⟨b, 0, none⟩) n n, .string (Om.B (l.drop (Om.off zs n))), .int .i64 0]) ∧ w.heap.size ≤ b ∧ b < w'.heap.size ∧ (∀ i, i < n → w'.cell? ⟨b, i, none⟩ = some (.int .u64 (Om.at_ l zs i : Int))) ∧ Below w.heap.size w w'
theorem get_full (l : List UInt8) (zs : List Int) (B : Nat) (a : Option Addr) (n cap : Nat) (w : World) (hl : zs.length = n) (hn : n ≤ 1099511627776) (hB : B ≤ w.heap.size) (hr : Row w B a n (szs zs)) (hok : Om.sizesOk zs = true) (ho : Om.off zs n ≤ l.length) :
    Calls Try.prog 33 #[.string (Om.B l), .slice a n cap] w (GetFull l zs n w) := by
  have hmf : ∀ (fn : Fn) (first cap : Array Value) (w : World), (Instr.makeFunc fn first cap).run Try.prog w = .ok (.func fn first cap) w := fun _ _ _ _ => rfl
  have hc := read_ok l zs B a n cap (w.alloc (.cells #[.int .i64 0] 24)) hl hn (by simp; omega) (hr.below ((Below.refl _ _).alloc hB _)) hok ho
  have HC := Lib.hid hc
  clear hok hl hr hc ho
  go_enter_defers Try.func33, Try.ntmps33
  go_wp2_with fail
  refine HC.out.mono ?_
  rintro e w1 ⟨rfl, hown, hb⟩
  have hb' : Below (w.heap.size + 1) (w.alloc (.cells #[.int .i64 0] 24)) w1 := by simpa using hb
  have hown' : w1.ownsRow (w.heap.size + 1) 38 1 (.slice (some ⟨w.heap.size + 1, 0, none⟩) n n) n (nums l zs n n) := by simpa using hown
  have HO := Lib.hid hown'
  obtain ⟨h1, h2, h3⟩ := err_cell hb'
  have H3 := Lib.hid h3
  clear hb hb' hown hown' h3
  go_wp2
  refine leaves_cons (f := 46) (args := #[.pointer (some ⟨w.heap.size, 0, none⟩)]) (by simp) (by simp [go_sem]) ?_
  refine (catch_none ⟨w.heap.size, 0, none⟩ _).mono ?_
  rintro e u' w'' ⟨rfl, rfl, rfl⟩
  have h4 := H3.out.setCell (p := ⟨w.heap.size, 0, none⟩) (Nat.le_refl _) (.int .i64 0)
  have h5 : (w1.setCell ⟨w.heap.size, 0, none⟩ (.int .i64 0)).cell? ⟨w.heap.size, 0, none⟩ = some (.int .i64 0) := World.cell?_setCell_same w1 _ _ h1
  simp [Leaves, settle, results, Try.results33, go_sem, h5]
  refine ⟨w.heap.size + 1, rfl, by omega, ?_, fun i hi => ?_, h4⟩
  · rcases HO.out.2 with ⟨hv, _⟩ | ⟨g, c, cur, hv, _, hg, _⟩
    · cases hv
    · injection hv with ha
      injection ha with ha
      injection ha with ha
      have := (Array.getElem?_eq_some_iff.1 hg).1
      rw [← ha] at this
      simpa using this
  · rw [World.cell?_setCell_other w1 _ _ _ (by simp), HO.out.cellAt i (by omega), nums_full l zs n i hi]
theorem get_ok (l : List UInt8) (zs : List Int) (B : Nat) (a : Option Addr) (n cap : Nat) (w : World) (hl : zs.length = n) (hn : n ≤ 1099511627776) (hB : B ≤ w.heap.size) (hr : Row w B a n (szs zs)) (hok : Om.sizesOk zs = true) (ho : Om.off zs n ≤ l.length) :
    Calls Try.prog 33 #[.string (Om.B l), .slice a n cap] w (GetOk l zs n w) :=
  (get_full l zs B a n cap w hl hn hB hr hok ho).mono fun e w' ⟨b, h⟩ => ⟨b, n, h⟩
end Go.Proofs.Ytncbimgbjkdocaa
