/- slices.Clone and maps.Clone at the table's types: the shelf's records at this dump, and their contracts. -/
import Derived.Shelf.SlicesE.Clone
import Derived.Shelf.SlMaps.Clone
import Derived.Test.YtibemiiflibnaaaProg
namespace Go.Proofs.Ytibemiiflibnaaa
namespace Tb
open Go.Shelf Go.RowKit
def lay_sclone_ren : Go.Shelf.Ren := ⟨fun | 41 => 38 | 53 => 50 | 59 => 64 | 63 => 56 | 64 => 57 | 68 => 74 | 70 => 58 | 71 => 59 | 72 => 60 | 73 => 61 | 74 => 62 | 75 => 63 | 76 => 65 | 77 => 66 | 78 => 67 | 79 => 68 | 88 => 69 | 89 => 70 | 91 => 72 | 92 => 73 | 96 => 75 | n => n, fun | 4 => 4 | 20 => 20 | 21 => 21 | 22 => 26 | 23 => 3 | 44 => 46 | 51 => 82 | 60 => 99 | 61 => 100 | 67 => 89 | 69 => 92 | 75 => 107 | 79 => 111 | 83 => 113 | 84 => 114 | 97 => 125 | 102 => 130 | n => n, fun | n => n⟩
set_option maxRecDepth 100000 in
theorem lay_sclone : SlLaysE0.n41 Try.prog lay_sclone_ren := {
  mixed := by kernel_rfl
  f41 := ⟨Try.f38.name, by kernel_rfl, Try.func38.trans (congrArg some (by kernel_rfl))⟩
  t4 := Try.underlying4
  a4 := Try.isAgg4
  z4 := Try.sizeOf4
  v4 := Try.zeroValue4
  t22 := Try.underlying26
  a22 := Try.isAgg26
  z22 := Try.sizeOf26
  v22 := Try.zeroValue26 }
def lay_gclone_ren : Go.Shelf.Ren := ⟨fun | 41 => 39 | 59 => 64 | 63 => 56 | 64 => 57 | 68 => 74 | 70 => 58 | 71 => 59 | 72 => 60 | 73 => 61 | 74 => 62 | 75 => 63 | 76 => 65 | 77 => 66 | 78 => 67 | 79 => 68 | 88 => 69 | 89 => 70 | 91 => 72 | 92 => 73 | 96 => 75 | n => n, fun | 4 => 4 | 20 => 20 | 21 => 21 | 22 => 58 | 23 => 3 | 44 => 46 | 51 => 82 | 60 => 99 | 61 => 100 | 67 => 89 | 69 => 92 | 75 => 107 | 79 => 111 | 83 => 113 | 84 => 114 | 97 => 125 | 102 => 130 | n => n, fun | n => n⟩
set_option maxRecDepth 100000 in
theorem lay_gclone : SlLaysE0.n41 Try.prog lay_gclone_ren := {
  mixed := by kernel_rfl
  f41 := ⟨Try.f39.name, by kernel_rfl, Try.func39.trans (congrArg some (by kernel_rfl))⟩
  t4 := Try.underlying4
  a4 := Try.isAgg4
  z4 := Try.sizeOf4
  v4 := Try.zeroValue4
  t22 := Try.underlying58
  a22 := Try.isAgg58
  z22 := Try.sizeOf58
  v22 := Try.zeroValue58 }
def lay_mclone_ren : Go.Shelf.Ren := ⟨fun | 5 => 37 | 7 => 45 | n => n, fun | 3 => 3 | 4 => 4 | 20 => 20 | 21 => 21 | 22 => 57 | 23 => 57 | 25 => 3 | 36 => 89 | 40 => 125 | 45 => 130 | n => n, fun | n => n⟩
set_option maxRecDepth 100000 in
theorem lay_mclone : SlLaysW.n5 Try.prog lay_mclone_ren := {
  mixed := by kernel_rfl
  f5 := ⟨Try.f37.name, by kernel_rfl, Try.func37.trans (congrArg some (by kernel_rfl))⟩
  f7 := Try.func45.trans (congrArg some (by kernel_rfl))
  t4 := Try.underlying4
  a4 := Try.isAgg4
  z4 := Try.sizeOf4
  v4 := Try.zeroValue4
  t20 := Try.underlying20
  a20 := Try.isAgg20
  z20 := Try.sizeOf20
  v20 := Try.zeroValue20
  t23 := Try.underlying57
  a23 := Try.isAgg57
  z23 := Try.sizeOf57
  v23 := Try.zeroValue57 }
theorem info_int : (Try.prog.info? 3).map (fun i => (i.zero, i.size, i.bytes)) = some (some (.int .i64 0), 1, 8) := by kernel_rfl
theorem ints_one (l : List Int) : ∀ u ∈ l.map (Value.int .i64), u.oneCell' = true := by
  intro u hu
  obtain ⟨x, _, rfl⟩ := List.mem_map.1 hu
  rfl
/-- slices.Clone of []int. -/
theorem clone_ints (b off n c : Nat) (l : List Int) (w : World) (hl : l.length = n) (hn : n ≤ 1099511627776) (hc : ∀ j u, (l.map (Value.int .i64))[j]? = some u → w.cell? ⟨b, off + j, none⟩ = some u) :
    Calls Try.prog 38 #[.slice (some ⟨b, off, none⟩) n c] w fun e w' => ∃ v', e = .returned v' ∧ w'.ownsRow w.heap.size 3 1 v' n (l.map (Value.int .i64)) ∧ v' ≠ .slice none 0 0 ∧ Below w.heap.size w w' := by
  obtain ⟨i0, hi, hz0, hz1, hz2⟩ := info_parts info_int
  exact AnyE.slices_Clone lay_sclone i0 (.int .i64 0) 1 8 hi hz0 hz1 hz2 rfl (by decide) Try.sizeOf3 b off n c (l.map (Value.int .i64)) w (by simp [hl]) (by unfold maxLen; omega) (by omega) hc (ints_one l)
theorem clone_ints_nil (n c : Nat) (w : World) : Calls Try.prog 38 #[.slice none n c] w fun e w' => e = .returned (.slice none 0 0) ∧ w' = w := AnyE.slices_Clone_nil lay_sclone n c w
/-- slices.Clone of gaps. -/
theorem clone_gaps (b off n c : Nat) (l : List Int) (w : World) (hl : l.length = n) (hn : n ≤ 1099511627776) (hc : ∀ j u, (l.map (Value.int .i64))[j]? = some u → w.cell? ⟨b, off + j, none⟩ = some u) :
    Calls Try.prog 39 #[.slice (some ⟨b, off, none⟩) n c] w fun e w' => ∃ v', e = .returned v' ∧ w'.ownsRow w.heap.size 3 1 v' n (l.map (Value.int .i64)) ∧ v' ≠ .slice none 0 0 ∧ Below w.heap.size w w' := by
  obtain ⟨i0, hi, hz0, hz1, hz2⟩ := info_parts info_int
  exact AnyE.slices_Clone lay_gclone i0 (.int .i64 0) 1 8 hi hz0 hz1 hz2 rfl (by decide) Try.sizeOf3 b off n c (l.map (Value.int .i64)) w (by simp [hl]) (by unfold maxLen; omega) (by omega) hc (ints_one l)
theorem clone_gaps_nil (n c : Nat) (w : World) : Calls Try.prog 39 #[.slice none n c] w fun e w' => e = .returned (.slice none 0 0) ∧ w' = w := AnyE.slices_Clone_nil lay_gclone n c w
/-- maps.Clone. -/
theorem clone_map {H : Type} (R : Value → Option (DataW H × List MemPlace)) (b n : Nat) (D : DataW H) (w : World) (hown : w.ownsMap Try.prog 3 R b n D) :
    Calls Try.prog 37 #[.map (some b)] w fun e w' => e = .returned (.map (some w.heap.size)) ∧ w'.ownsMap Try.prog 3 R w.heap.size n D ∧ w'.ownsMap Try.prog 3 R b n D ∧ Below w.heap.size w w' := AnyW.maps_Clone_owns lay_mclone 3 R b n D w hown
end Tb
end Go.Proofs.Ytibemiiflibnaaa
