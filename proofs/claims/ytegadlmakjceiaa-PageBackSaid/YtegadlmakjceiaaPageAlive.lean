/- page's live question. -/
import Derived.Test.YtegadlmakjceiaaPageRef2
namespace Go.Proofs.Ytegadlmakjceiaa
open Go.RowKit
set_option linter.unusedVariables false

theorem lit_row (w : World) (ls : List Int) (t : TypeId) : Row (w.alloc (.cells (ls.map (Value.int .i64)).toArray t)) (w.heap.size + 1) (some ⟨w.heap.size, 0, none⟩) ls.length (szs ls) := fun _ => ⟨w.heap.size, 0, rfl, by omega, fun i hi => by
  rw [Nat.zero_add]
  unfold szs
  rw [List.getD_eq_getElem?_getD, List.getElem?_eq_getElem hi]
  simp [hi]⟩
def live : List Int := [5, -1, 0, -1, -1, -1, -1, -1, -1, -1, -1, -1, 2147483646]
theorem live_ok : Pm.okL live = true := by decide
theorem live_head : (Pm.sector 7 live).take 8 = [7, 0, 0, 0, 6, 0, 0, 0] := by
  have h : (Pm.sector 7 live).take 8 = (Pm.body 7 live).take 8 := by
    have h1 := Pm.sector_take 7 live
    have h2 : (Pm.sector 7 live).take 8 = ((Pm.sector 7 live).take 60).take 8 := by rw [List.take_take]; rfl
    rw [h2, h1, List.take_append_of_le_length (by rw [Pm.body_len]; omega)]
  rw [h]
  decide
/-- A page's sector is decoded to it. -/
def DecOk (g : Nat) (ls : List Int) (w : World) (e : Ending) (w' : World) : Prop :=
  ∃ a c, e = .returned (.tuple #[.int .u32 (g : Int), .slice a 13 c, .int .i64 0]) ∧ Row w' w'.heap.size a 13 (szs ls) ∧ Below w.heap.size w w'
theorem pdec_back (g : Nat) (ls : List Int) (w : World) (hg : g < 4294967296) (h : Pm.okL ls = true) : Calls Try.prog 9 #[.string (Om.B (Pm.sector g ls))] w (DecOk g ls w) :=
  (pdec_any (Pm.sector g ls) w).mono fun e w' ⟨a, n, c, he, hn, hr, hb⟩ => by
    obtain ⟨h1, h2, h3⟩ := Pm.back g ls hg h
    rw [h1, h2] at he
    rw [h3] at hn hr
    rw [((Pm.okL_iff ls).1 h).1] at hn
    subst hn
    exact ⟨a, c, he, hr, hb⟩
theorem penc_ok (g : Nat) (ls : List Int) (B : Nat) (a : Option Addr) (c : Nat) (w : World) (hg : g < 4294967296) (h : Pm.okL ls = true) (hB : B ≤ w.heap.size) (hr : Row w B a 13 (szs ls)) :
    Calls Try.prog 7 #[.int .u32 (g : Int), .slice a 13 c] w fun e w' => e = .returned (.tuple #[.string (Om.B (Pm.sector g ls)), .int .i64 0]) ∧ Below w.heap.size w w' := by
  have := penc_any g ls B a 13 c w hg ((Pm.okL_iff ls).1 h).1 (by omega) hB hr
  rw [(Pm.enc_ok g ls h).1, (Pm.enc_ok g ls h).2] at this
  exact this
theorem a_enc (B : Nat) (a : Option Addr) (c : Nat) (w : World) (hB : B ≤ w.heap.size) (hr : Row w B a 13 (szs live)) :
    Calls Try.prog 7 #[.int .u32 7, .slice a 13 c] w fun e w' => e = .returned (.tuple #[.string (Om.B (Pm.sector 7 live)), .int .i64 0]) ∧ Below w.heap.size w w' := penc_ok 7 live B a c w (by omega) live_ok hB hr
theorem a_one (B : Nat) (a : Option Addr) (c : Nat) (w : World) (hB : B ≤ w.heap.size) (hr : Row w B a 1 (szs [1])) :
    Calls Try.prog 7 #[.int .u32 7, .slice a 1 c] w fun e w' => e = .returned (.tuple #[.string (Om.B []), .int .i64 1]) ∧ Below w.heap.size w w' := penc_any 7 [1] B a 1 c w (by omega) rfl (by omega) hB hr
theorem a_dec (w : World) : Calls Try.prog 9 #[.string (Om.B (Pm.sector 7 live))] w fun e w' => ∃ a c, e = .returned (.tuple #[.int .u32 7, .slice a 13 c, .int .i64 0]) ∧ Row w' w'.heap.size a 13 (szs live) ∧ Below w.heap.size w w' := pdec_back 7 live w (by omega) live_ok

theorem alive_any (w : World) : Calls Try.prog 6 #[] w fun e w' => e = .returned (.bool true) ∧ Below w.heap.size w w' := by
  have hl := Pm.sector_len 7 live
  have hh : (Om.B (Pm.sector 7 live)).extract 0 8 = Om.B [7, 0, 0, 0, 6, 0, 0, 0] := by rw [Om.extract_front, Om.L_B, live_head]
  obtain ⟨S, hS⟩ : ∃ S, S = Pm.sector 7 live := ⟨_, rfl⟩
  have C1 := Lib.hid a_enc
  have C2 := Lib.hid a_dec
  rw [← hS] at hl hh C1 C2
  have hsz : (Om.B S).size = 64 := hl
  have he : (Om.B [7, 0, 0, 0, 6, 0, 0, 0]).toList = [7, 0, 0, 0, 6, 0, 0, 0] := by rw [Lib.toList_data]; rfl
  have h64 : (((Om.B S).size : Int) == 64) = true := by rw [hsz]; rfl
  clear hS hl
  go_enter Try.func6, Try.ntmps6
  go_wp2_with fail
  refine (C1.out (w.heap.size + 1) _ _ _ (by simp) (lit_row w live _)).mono ?_
  rintro e w1 ⟨rfl, hb1⟩
  have hr1 := (lit_row w live 3).below (B := w.heap.size + 1) (by simpa using hb1)
  have HR1 := Lib.hid hr1
  have HB1 := Lib.hid (((Below.refl _ _).alloc (Nat.le_refl _) _ : Below w.heap.size w (w.alloc (.cells (live.map (Value.int .i64)).toArray 3))).trans (hb1.mono (by simp)))
  have hs1 : w.heap.size + 1 ≤ w1.heap.size := by simpa using hb1.size
  clear hb1 hr1
  go_wp2_with fail
  refine (C2.out _).mono ?_
  rintro e w2 ⟨a2, c2, rfl, hr2, hb2⟩
  have hs2 := hb2.size
  have HR2 := Lib.hid hr2
  have HR12 := Lib.hid (HR1.out.below (hb2.mono hs1))
  have HB2 := Lib.hid (HB1.out.trans (hb2.mono HB1.out.size))
  clear hb2 hr2
  go_wp2_with fail
  refine (a_one (w2.heap.size + 1) _ _ _ (by simp) (lit_row w2 [1] _)).mono ?_
  rintro e w3 ⟨rfl, hb3⟩
  have hb3' : Below w2.heap.size w2 w3 := ((Below.refl _ _).alloc (Nat.le_refl _) _ : Below w2.heap.size w2 (w2.alloc (.cells #[.int .i64 1] 3))).trans (hb3.mono (by simp))
  have HR13 := Lib.hid (HR12.out.below (hb3'.mono (by omega)))
  have HR23 := Lib.hid (HR2.out.below hb3')
  have HB3 := Lib.hid (HB2.out.trans (hb3'.mono HB2.out.size))
  clear hb3 hb3'
  go_wp2_with fail
  refine (psame_yes live _ _ _ _ 13 _ _ _ (by omega) HR13.out HR23.out).mono ?_
  rintro e w4 ⟨rfl, d, rfl⟩
  go_wp2
  go_ret
  exact ⟨rfl, below_drewN HB3.out d⟩
end Go.Proofs.Ytegadlmakjceiaa
