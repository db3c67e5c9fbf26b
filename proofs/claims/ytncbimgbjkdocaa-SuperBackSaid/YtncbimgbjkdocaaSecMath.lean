/- Plain mathematics of sectors that begin with letters: no program is named. -/
import Derived.Test.YtncbimgbjkdocaaCrcOpen
import Derived.Test.YtncbimgbjkdocaaOctetJoin
import Derived.Test.YtncbimgbjkdocaaOctetZero
namespace Go.Proofs.Ytncbimgbjkdocaa
namespace Sc

/-- Letters, and sizes of numbers, that a sector has room for. -/
structure Lay (t : List UInt8) (zs : List Int) : Prop where
  letters : t.length = 4
  sizes : Om.sizesOk zs = true
  few : Om.off zs zs.length ≤ 56
/-- The bytes ahead of those that are 0, and the sector. -/
def front (t : List UInt8) (zs : List Int) (ns : List Nat) : List UInt8 := t ++ Om.joined zs ns zs.length
def sector (t : List UInt8) (zs : List Int) (ns : List Nat) : List UInt8 := sealed (front t zs ns) 60
theorem front_len {t : List UInt8} {zs : List Int} (L : Lay t zs) (ns : List Nat) : (front t zs ns).length = 4 + Om.off zs zs.length := by
  unfold front
  rw [List.length_append, L.letters, Om.joined_length zs ns zs.length (Nat.le_refl _)]
theorem front_le {t : List UInt8} {zs : List Int} (L : Lay t zs) (ns : List Nat) : (front t zs ns).length ≤ 60 := by
  rw [front_len L]; have := L.few; omega
theorem padded_len {t : List UInt8} {zs : List Int} (L : Lay t zs) (ns : List Nat) : (padTo (front t zs ns) 60).length = 60 := padTo_length _ _ (front_le L ns)
theorem sector_len {t : List UInt8} {zs : List Int} (L : Lay t zs) (ns : List Nat) : (sector t zs ns).length = 64 := by
  unfold sector sealed
  rw [List.length_append, padded_len L, Cm.four_length]

/-- What is told of any bytes, ahead of what may be. -/
def opE (t : List UInt8) (zs : List Int) (s : List UInt8) : Int :=
  if s.length = 64 then if Cm.good s = true then if (s.take 60).take 4 = t then if allZero (((s.take 60).drop 4).drop (Om.off zs zs.length)) = true then 0 else 32 else 22 else 31 else 21
/-- The numbers that stand there. -/
def numAt (zs : List Int) (s : List UInt8) (i : Nat) : Nat := Om.at_ ((s.take 60).drop 4) zs i
def numL (zs : List Int) (s : List UInt8) : List Nat := (List.range zs.length).map (numAt zs s)
theorem numL_len (zs : List Int) (s : List UInt8) : (numL zs s).length = zs.length := by simp [numL]
theorem numL_get (zs : List Int) (s : List UInt8) (i : Nat) (h : i < zs.length) : (numL zs s).getD i 0 = numAt zs s i := by simp [numL, h]
theorem op_cut {t : List UInt8} {zs : List Int} {s : List UInt8} (h : s.length ≠ 64) : opE t zs s = 21 := by unfold opE; rw [if_neg h]
theorem op_sum {t : List UInt8} {zs : List Int} {s : List UInt8} (h : s.length = 64) (hg : Cm.good s = false) : opE t zs s = 31 := by unfold opE; rw [if_pos h, if_neg (by rw [hg]; decide)]
theorem op_magic {t : List UInt8} {zs : List Int} {s : List UInt8} (h : s.length = 64) (hg : Cm.good s = true) (ht : (s.take 60).take 4 ≠ t) : opE t zs s = 22 := by unfold opE; rw [if_pos h, if_pos hg, if_neg ht]
theorem op_form {t : List UInt8} {zs : List Int} {s : List UInt8} (h : s.length = 64) (hg : Cm.good s = true) (ht : (s.take 60).take 4 = t) (hz : allZero (((s.take 60).drop 4).drop (Om.off zs zs.length)) = false) : opE t zs s = 32 := by
  unfold opE; rw [if_pos h, if_pos hg, if_pos ht, if_neg (by rw [hz]; decide)]
theorem op_ok {t : List UInt8} {zs : List Int} {s : List UInt8} (h : s.length = 64) (hg : Cm.good s = true) (ht : (s.take 60).take 4 = t) (hz : allZero (((s.take 60).drop 4).drop (Om.off zs zs.length)) = true) : opE t zs s = 0 := by
  unfold opE; rw [if_pos h, if_pos hg, if_pos ht, if_pos hz]
theorem op_zero {t : List UInt8} {zs : List Int} {s : List UInt8} (h : opE t zs s = 0) : s.length = 64 ∧ Cm.good s = true ∧ (s.take 60).take 4 = t ∧ allZero (((s.take 60).drop 4).drop (Om.off zs zs.length)) = true := by
  by_cases h1 : s.length = 64
  · cases h2 : Cm.good s with
    | false => rw [op_sum h1 h2] at h; cases h
    | true =>
      by_cases h3 : (s.take 60).take 4 = t
      · cases h4 : allZero (((s.take 60).drop 4).drop (Om.off zs zs.length)) with
        | false => rw [op_form h1 h2 h3 h4] at h; cases h
        | true => exact ⟨h1, rfl, h3, rfl⟩
      · rw [op_magic h1 h2 h3] at h; cases h
  · rw [op_cut h1] at h; cases h

theorem good_parts (s : List UInt8) (h : s.length = 64) (hg : Cm.good s = true) : s = s.take 60 ++ Cm.four (s.take 60) := by
  unfold Cm.good at hg
  rw [h] at hg
  have e := beq_iff_eq.1 hg
  rw [← e, List.take_append_drop]
theorem zero_all (l : List UInt8) (h : allZero l = true) : l = List.replicate l.length 0 := by
  apply List.eq_replicate_iff.2 ⟨rfl, fun b hb => ?_⟩
  simpa using List.all_eq_true.1 h b hb
theorem all_zero (n : Nat) : allZero (List.replicate n 0) = true := by
  unfold allZero
  rw [List.all_eq_true]
  intro b hb
  rw [(List.mem_replicate.1 hb).2]
  rfl

/- There and back. -/
theorem sector_take {t : List UInt8} {zs : List Int} (L : Lay t zs) (ns : List Nat) : (sector t zs ns).take 60 = front t zs ns ++ List.replicate (60 - (front t zs ns).length) 0 := by
  unfold sector sealed
  have := List.take_left (l₁ := padTo (front t zs ns) 60) (l₂ := Cm.four (padTo (front t zs ns) 60))
  rw [padded_len L] at this
  rw [this]
  rfl
theorem sector_four {t : List UInt8} {zs : List Int} (L : Lay t zs) (ns : List Nat) : ((sector t zs ns).take 60).take 4 = t := by
  rw [sector_take L]
  unfold front
  rw [List.append_assoc, ← L.letters, List.take_left]
theorem sector_rest {t : List UInt8} {zs : List Int} (L : Lay t zs) (ns : List Nat) : ((sector t zs ns).take 60).drop 4 = Om.joined zs ns zs.length ++ List.replicate (60 - (front t zs ns).length) 0 := by
  rw [sector_take L]
  unfold front
  rw [List.append_assoc, ← L.letters, List.drop_left]
theorem back {t : List UInt8} {zs : List Int} (L : Lay t zs) (ns : List Nat) (hf : Om.fitAll zs ns zs.length = true) : opE t zs (sector t zs ns) = 0 ∧ ∀ i, i < zs.length → numAt zs (sector t zs ns) i = ns.getD i 0 := by
  refine ⟨op_ok (sector_len L ns) (Cm.good_sealed _) (sector_four L ns) ?_, fun i hi => ?_⟩
  · rw [sector_rest L, Om.drop_joined zs ns zs.length _ (Nat.le_refl _)]
    exact all_zero _
  · unfold numAt
    rw [sector_rest L]
    exact Om.at_joined zs ns zs.length _ (Nat.le_refl _) hf i hi
theorem again {t : List UInt8} {zs : List Int} (L : Lay t zs) (s : List UInt8) (h : opE t zs s = 0) (ns : List Nat) (hn : ∀ i, i < zs.length → ns.getD i 0 = numAt zs s i) : sector t zs ns = s := by
  obtain ⟨hl, hg, ht, hz⟩ := op_zero h
  have hbl : (s.take 60).length = 60 := by rw [List.length_take]; omega
  have hfew := L.few
  have hj : Om.joined zs ns zs.length = ((s.take 60).drop 4).take (Om.off zs zs.length) :=
    Om.joined_at ((s.take 60).drop 4) zs ns zs.length (Nat.le_refl _) (by rw [List.length_drop, hbl]; omega) hn
  have hzl : (((s.take 60).drop 4).drop (Om.off zs zs.length)).length = 56 - Om.off zs zs.length := by rw [List.length_drop, List.length_drop, hbl]
  have hz' := zero_all _ hz
  rw [hzl] at hz'
  have hpad : padTo (front t zs ns) 60 = s.take 60 := by
    show front t zs ns ++ List.replicate (60 - (front t zs ns).length) 0 = _
    rw [front_len L, show 60 - (4 + Om.off zs zs.length) = 56 - Om.off zs zs.length by omega, ← hz']
    unfold front
    rw [hj, ← ht, List.append_assoc, List.take_append_drop, List.take_append_drop]
  unfold sector sealed
  rw [hpad]
  exact (good_parts s hl hg).symm
/-- With a byte turned it is no sector of such. -/
theorem turned {t : List UInt8} {zs : List Int} (L : Lay t zs) (ns : List Nat) (k : Nat) (hk : k < 64) (b : UInt8) (hb : (sector t zs ns)[k]? ≠ some b) : opE t zs ((sector t zs ns).set k b) = 31 := by
  have hlen := sector_len L ns
  have hl : ((sector t zs ns).set k b).length = 64 := by rw [List.length_set]; exact hlen
  refine op_sum hl ?_
  cases hg : Cm.good ((sector t zs ns).set k b) with
  | false => rfl
  | true =>
    have e := Cm.good_set (padTo (front t zs ns) 60) k b (by rw [padded_len L]; omega) hg
    have e' : (sector t zs ns).set k b = sector t zs ns := e
    exfalso
    apply hb
    rw [← e', List.getElem?_set_self (by omega)]
end Sc
end Go.Proofs.Ytncbimgbjkdocaa
