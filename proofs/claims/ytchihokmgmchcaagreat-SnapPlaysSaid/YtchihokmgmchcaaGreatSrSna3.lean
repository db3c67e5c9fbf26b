/- Sna3, of the proof -/
import Derived.Test.YtchihokmgmchcaaGreatSrSne2
import Derived.Test.YtchihokmgmchcaaGreatSq0K
set_option linter.unusedVariables false
set_option maxRecDepth 100000
set_option maxHeartbeats 4000000
namespace Go.Proofs.YtchihokmgmchcaaGreat
open Go.Proofs.Tryz
open Go.Obj renaming cells->hV
open Go.Lib renaming hid->hT
section
namespace Sn
open Go.RowKit
theorem RN (a n g q:Nat) (b:zL):((((zeroCells74.setIfInBounds 0 (zI a)).setIfInBounds 1 (zI n)).setIfInBounds 2 (zI g)).setIfInBounds 3 (.string (Om.B b)))= (Eb.cells ⟨q,λ_=> .slice none 0 0⟩ (Se.ju a n g b)).toArray:=by kernel_rfl
theorem RQ {a n g:Nat} {b:zL} {w1 W:World} (h:w1.alloc (hV ((((zeroCells74.setIfInBounds 0 (zI a)).setIfInBounds 1 (zI n)).setIfInBounds 2 (zI g)).setIfInBounds 3 (.string (Om.B b))) 74)= W):Ek W ⟨w1.heap.size,λ_=> .slice none 0 0⟩ (Se.ju a n g b):=by
 rw [RN a n g w1.heap.size b]at h;refine ⟨by rw [<-h];exact heap_alloc_new w1 _,by unfold Se.ju;simp,λi hi=>?_,λi hi=>?_,λi j hi hj hij k hk=>?_⟩;· rw [Se.vz];exact World.ownsRow_nil _ _ _ _
 ·intro c;cases c
 ·cases hk
theorem je (a n g:Nat) (b:zL) (w:World) (hu:Um.aj (a:Int) (n:Int) (g:Int)) (u:b.length= 64*n) (A:n<=1048576): zF 20 #[zO a n g, .string (Om.B b)] w λr w'=>∃e:Eb,r= zV (zP e.q) (.bool true)/\Ek w' e (Se.ju a n g b)/\(∀k,e.fp k->w.heap.size<=k)/\zB w w':=by
 have z:Hid (∀w1,zF 9 #[zO a n g] w1 λe w'=>e= .returned (.bool true)/\zB w1 w'):=hT λw1=>by have:=BF (a:Int) (n:Int) (g:Int) w1;rw [hu]at this;exact this
 obtain ⟨l,h⟩:=eX2 (w.alloc (zK a n g 23));have j:zB w l:=by rw [<-h];exact zA
 have f:l.heap[w.heap.size]?= some (hV #[zI a,zI n,zI g] 23 (0,0)):=by rw [<-h];exact heap_alloc_new w _
 have v:Hid (∀W,zB l W->W.cell? (zz w 0)= some (zI a)/\W.cell? (zz w 1)= some (zI n)/\W.cell? (zz w 2)= some (zI g)):=hT λW hW=>by have x:=(hW.block _ (ae.lt_of_heap f)).trans f;refine ⟨?_,?_,?_⟩<;>(rw [cell_of_row _ _ _ _ _ _ x];rfl)
 obtain ⟨m,d⟩:=eX1 (Om.B b);have t:m.size= 64*n:=by rw [d,Om.aG,u]
 have y:((m.size:Nat):Int)= 64* (n:Int):=by rw [t];omega
 have c:IntKind.i64.wrap (64* (n:Int))= 64* (n:Int):=IntWalk.i64_in _ (by omega);have p:=hT j;have s:Hid (∀w1,zB w w1->∃e:Eb,Ending.returned (Value.tuple #[zP w1.heap.size, .bool true])= zV (zP e.q) (.bool true)/\Ek (w1.alloc (hV ((((zeroCells74.setIfInBounds 0 (zI a)).setIfInBounds 1 (zI n)).setIfInBounds 2 (zI g)).setIfInBounds 3 (.string m)) 74)) e (Se.ju a n g b)/\(∀k,e.fp k->w.heap.size<=k)/\zB w (w1.alloc (hV ((((zeroCells74.setIfInBounds 0 (zI a)).setIfInBounds 1 (zI n)).setIfInBounds 2 (zI g)).setIfInBounds 3 (.string m)) 74))):=hT λw1 c=>by
  refine ⟨_,rfl,by rw [d];exact RQ rfl,λk hk=>?_,c.alloc c.size _⟩;rcases hk with rfl|⟨i,_,hk⟩;· exact c.size
  ·cases hk
 rw [<-d];clear j f d t hu u;obtain ⟨c0,c1,c2⟩:=v.out l zR;go_enter func20,ntmps20;go_wp2_with fail;clear h;refine zg (z.out _) λw1 hb1=>?_;have o:=zT p hb1;obtain ⟨d0,d1,d2⟩:=v.out w1 hb1;clear hb1;go_wp2_with fail;go_ret2;exact s.out w1 o.out
end Sn
end
end Go.Proofs.YtchihokmgmchcaaGreat
