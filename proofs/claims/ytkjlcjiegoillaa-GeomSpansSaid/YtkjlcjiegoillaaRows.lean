/-
  No cell of these rows narrows 'for every input' (looked for: loops, veiled, ifaces, maps, wideKeys, modest, calm, conditions, laid).
  DERIVED. THE GIVEN ROWS OF THIS SEAT. 3 by the template 'for every input the law returns true; each argument reads behind the call as it read before'; 0 by the template 'total and deterministic' (their statements: YtkjlcjiegoillaaTotals.lean).
  GIVEN WITH THE SEED: the statements are not yours to turn. If you find one false, say at which input.
  Laid BY PROGRAM, IN A SANDBOX (cutbox-rows.mjs): the forced cells as the released guide's own fill.sh prints them over the translation b95f0026108746cb… (all of the seat's roots in one cut). By AI agents, Wed Nov 11 2026. No macro, syntax, notation, axiom, sorry.
-/
import Derived.Test.YtkjlcjiegoillaaChecked
import GoSem.Claim
import GoSem.ClaimJoined
import GoSem.ClaimMapViews
import Derived.JoinedTies
import Derived.KernelRfl
namespace Go.Proofs.Ytkjlcjiegoillaa
/- THE CELL 'sum', in the pinned program and in every row, IS THE sha256 OF THE DUMP (.gsa) THAT YtkjlcjiegoillaaProg.lean LOADS. Nothing in Lean hashes anything: it is a label: what it is worth is what the hold of that sum in a sandbox is worth. -/
noncomputable def Try.pinned : Pinned := { name := "ytkjlcjiegoillaa", sum := "b95f0026108746cb7e1d0a361769541729902392d56a4e64dde6adb03add269c", checked := Try.checked }
namespace Rows
def none {H : Type} : Left H := { results := [], args := [] }

/-- 'oakumlaw05.GeomSpans': WHATEVER THE INPUT: true; the input reads as it did. -/
def geomSpansSpec : ChangeSpec := { name := "geomSpans", fn := fun _ => fun
  | [d1, d2, d3] => { results := [.lit (.bool true)], args := [d1, d2, d3] }
  | _ => none }
def geomSpansRow : OpenClaim := { program := "ytkjlcjiegoillaa", sum := "b95f0026108746cb7e1d0a361769541729902392d56a4e64dde6adb03add269c", func := "oakum/oakumlaw05.GeomSpans", spec := "geomSpans", unfollowed := true, recurses := true, apart := false }
def GeomSpansSaid : Prop := geomSpansRow.holds Try.pinned (OpenSpec.ofChange geomSpansSpec)

/-- ITS FALSE NEIGHBOUR: 'it returns false'. Refute it at one input. -/
def geomSpansWrong : ChangeSpec := { name := "geomSpans", fn := fun _ => fun
  | [d1, d2, d3] => { results := [.lit (.bool false)], args := [d1, d2, d3] }
  | _ => none }
def GeomSpansWrongFalsely : Prop := geomSpansRow.holds Try.pinned (OpenSpec.ofChange geomSpansWrong)

/-- 'oakumlaw05.GeomPieces': WHATEVER THE INPUT: true; the input reads as it did. -/
def geomPiecesSpec : ChangeSpec := { name := "geomPieces", fn := fun _ => fun
  | [d1, d2] => { results := [.lit (.bool true)], args := [d1, d2] }
  | _ => none }
def geomPiecesRow : OpenClaim := { program := "ytkjlcjiegoillaa", sum := "b95f0026108746cb7e1d0a361769541729902392d56a4e64dde6adb03add269c", func := "oakum/oakumlaw05.GeomPieces", spec := "geomPieces", unfollowed := true, recurses := true, apart := false }
def GeomPiecesSaid : Prop := geomPiecesRow.holds Try.pinned (OpenSpec.ofChange geomPiecesSpec)

/-- ITS FALSE NEIGHBOUR: 'it returns false'. Refute it at one input. -/
def geomPiecesWrong : ChangeSpec := { name := "geomPieces", fn := fun _ => fun
  | [d1, d2] => { results := [.lit (.bool false)], args := [d1, d2] }
  | _ => none }
def GeomPiecesWrongFalsely : Prop := geomPiecesRow.holds Try.pinned (OpenSpec.ofChange geomPiecesWrong)

/-- 'oakumlaw05.GeomRoom': WHATEVER THE INPUT: true; the input reads as it did. -/
def geomRoomSpec : ChangeSpec := { name := "geomRoom", fn := fun _ => fun
  | [d1, d2, d3] => { results := [.lit (.bool true)], args := [d1, d2, d3] }
  | _ => none }
def geomRoomRow : OpenClaim := { program := "ytkjlcjiegoillaa", sum := "b95f0026108746cb7e1d0a361769541729902392d56a4e64dde6adb03add269c", func := "oakum/oakumlaw05.GeomRoom", spec := "geomRoom", unfollowed := true, recurses := true, apart := false }
def GeomRoomSaid : Prop := geomRoomRow.holds Try.pinned (OpenSpec.ofChange geomRoomSpec)

/-- ITS FALSE NEIGHBOUR: 'it returns false'. Refute it at one input. -/
def geomRoomWrong : ChangeSpec := { name := "geomRoom", fn := fun _ => fun
  | [d1, d2, d3] => { results := [.lit (.bool false)], args := [d1, d2, d3] }
  | _ => none }
def GeomRoomWrongFalsely : Prop := geomRoomRow.holds Try.pinned (OpenSpec.ofChange geomRoomWrong)

/- THE SECOND FORM. 'bulk': how many values and letters a reading holds, each counted each time it is reached (what is shared counts as often as it is met; a slice's spare places count too). A statement '..UptoSaid' is the law's where the arguments, and the package variables that the reading takes, are together of bulk at most 1048576: NARROWER than '..Said'. Prove '..Said' where nothing that the law and all that it calls make is longer than what came in: it says more and counts as full. Else prove '..UptoSaid'. A law counts once. -/
mutual
def uptoBulk {H : Type} : DataW H → Nat
  | .lit (.string bytes) => bytes.length + 1
  | .lit _ => 1
  | .nil => 1
  | .ptr d => uptoBulk d + 1
  | .slice elems spare => uptoBulkAll elems + uptoBulkAll spare + 1
  | .agg parts => uptoBulkAll parts + 1
  | .iface _ d => uptoBulk d + 1
  | .map entries => uptoBulkEntries entries + 1
  | .held _ => 1
def uptoBulkAll {H : Type} : List (DataW H) → Nat
  | [] => 0
  | d :: r => uptoBulk d + uptoBulkAll r
def uptoBulkEntries {H : Type} : List (Lit × DataW H) → Nat
  | [] => 0
  | x :: r => uptoBulkEntry x + uptoBulkEntries r
def uptoBulkEntry {H : Type} : Lit × DataW H → Nat
  | (.string bytes, d) => bytes.length + uptoBulk d + 1
  | (_, d) => uptoBulk d + 1
 end
def uptoSmall : (H : Type) → List (DataW H) → Bool := fun _ ds => decide (uptoBulkAll ds ≤ 1048576)
def OpenSpec.upto (s : _root_.Go.ChangeSpec) : _root_.Go.OpenSpec := { _root_.Go.OpenSpec.ofChange s with cond := some uptoSmall }

/-- 'oakumlaw05.GeomSpans', WHERE WHAT IT READS IS OF BULK AT MOST 1048576: true; the input reads as it did. -/
def geomSpansUptoRow : OpenClaim := { program := "ytkjlcjiegoillaa", sum := "b95f0026108746cb7e1d0a361769541729902392d56a4e64dde6adb03add269c", func := "oakum/oakumlaw05.GeomSpans", spec := "geomSpans", unfollowed := true, recurses := true, apart := false, narrowed := true }
def GeomSpansUptoSaid : Prop := geomSpansUptoRow.holds Try.pinned (OpenSpec.upto geomSpansSpec)

/-- 'oakumlaw05.GeomPieces', WHERE WHAT IT READS IS OF BULK AT MOST 1048576: true; the input reads as it did. -/
def geomPiecesUptoRow : OpenClaim := { program := "ytkjlcjiegoillaa", sum := "b95f0026108746cb7e1d0a361769541729902392d56a4e64dde6adb03add269c", func := "oakum/oakumlaw05.GeomPieces", spec := "geomPieces", unfollowed := true, recurses := true, apart := false, narrowed := true }
def GeomPiecesUptoSaid : Prop := geomPiecesUptoRow.holds Try.pinned (OpenSpec.upto geomPiecesSpec)

/-- 'oakumlaw05.GeomRoom', WHERE WHAT IT READS IS OF BULK AT MOST 1048576: true; the input reads as it did. -/
def geomRoomUptoRow : OpenClaim := { program := "ytkjlcjiegoillaa", sum := "b95f0026108746cb7e1d0a361769541729902392d56a4e64dde6adb03add269c", func := "oakum/oakumlaw05.GeomRoom", spec := "geomRoom", unfollowed := true, recurses := true, apart := false, narrowed := true }
def GeomRoomUptoSaid : Prop := geomRoomUptoRow.holds Try.pinned (OpenSpec.upto geomRoomSpec)

end Rows
end Go.Proofs.Ytkjlcjiegoillaa
