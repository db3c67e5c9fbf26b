/- 0K: tactic blocks of walks that are used often, by a short name. -/
import Derived.Test.YtchihokmgmchcaaGreatSq000
import Derived.WalkKit
import Derived.Lib.Hide
import Derived.Test.YtchihokmgmchcaaGreatProg
set_option linter.unusedVariables false
set_option maxRecDepth 100000
namespace Go.Proofs.YtchihokmgmchcaaGreat
open Go.RowKit
abbrev zI (x:Int):Value:=.int .i64 x
abbrev zU (x:Int):Value:=.int .u32 x
abbrev zP (k:Nat):Value:=.pointer (some ⟨k,0,none⟩)
abbrev zD (b j:Nat):Addr:=⟨b,j,none⟩
abbrev zB (w w':World):Prop:=Go.RowKit.Below w.heap.size w w'
abbrev zF (n:Nat) (a:Array Value) (w:World) (Q:Ending->World->Prop):Prop:=Calls Tryz.prog n a w Q
abbrev zz (w:World) (j:Nat):Addr:=⟨w.heap.size,j,none⟩
theorem zh {p:Program} {n:Nat} {a:Array Value} {w:World} {E:Ending} {Q:Ending->World->Prop} (h:Calls p n a w λe w'=>e= E/\w= w') (k:Q E w):Calls p n a w Q:=h.mono (by rintro e w' ⟨rfl,rfl⟩;exact k)
theorem zg {p:Program} {n:Nat} {a:Array Value} {w:World} {E:Ending} {R:World->Prop} {Q:Ending->World->Prop} (h:Calls p n a w λe w'=>e= E/\R w') (k:∀w',R w'->Q E w'):Calls p n a w Q:=h.mono (by rintro e w' ⟨rfl,r⟩;exact k _ r)
abbrev zS (b n c:Nat):Value:=.slice (some ⟨b,0,none⟩) n c
abbrev zE (a b:Int) (t:TypeId):Obj:=.cells #[zI a,zI b] t
abbrev zK (a b c:Int) (t:TypeId):Obj:=.cells #[zI a,zI b,zI c] t
abbrev zM (a b:Int):Value:=.agg #[zI a,zI b]
abbrev zO (a b c:Int):Value:=.agg #[zI a,zI b,zI c]
abbrev zJ (v:Value) (w:World) (e:Ending) (w':World):Prop:=e= .returned v/\zB w w'
abbrev zQ (v:Value) (w:World) (e:Ending) (w':World):Prop:=e= .returned v/\w= w'
abbrev zV (a b:Value):Ending:=.returned (.tuple #[a,b])
theorem zW {w:World} {g j:Nat} {cs:Array Value} {t:TypeId} {fr:Nat×Nat} (h:w.heap[g]?= some (.cells cs t fr)):w.cell? ⟨g,j,none⟩= cs[j]?:=by simp [World.cell?,h]
theorem zR {B:Nat} {w:World}:Go.RowKit.Below B w w:=Go.RowKit.Below.refl _ _
theorem zA {w:World} {b:Obj}:zB w (w.alloc b):=(Go.RowKit.Below.refl _ _).alloc (Nat.le_refl _) _
theorem zH {a b c:World} (h:Hid (zB a b)) (k:zB b c):zB a c:=h.out.trans (k.mono h.out.size)
theorem zT {a b c:World} (h:Hid (zB a b)) (k:zB b c):Hid (zB a c):=Lib.hid (h.out.trans (k.mono h.out.size))
variable{P:Prop}
end Go.Proofs.YtchihokmgmchcaaGreat
