/- Snp1, of the proof -/
import Derived.Test.YtchihokmgmchcaaGreatSrSna3
import Derived.Test.YtchihokmgmchcaaGreatSq0K
import Derived.Lib.SmallJoins
set_option linter.unusedVariables false
set_option maxRecDepth 100000
set_option maxHeartbeats 4000000
namespace Go.Proofs.YtchihokmgmchcaaGreat
open Go.Proofs.Tryz
open Nat renaming le_refl->nm,le_trans->A6,zero_le->yb
open Go.Obj renaming cells->hV
open Go.Ending renaming returned->nf
open Go.Lib renaming hid->hT,intOf->wo
open Go.IntKind renaming i64->lg,u8->RC
open Go.IntWalk renaming i64_in->rr
open List renaming getElem?_eq_getElem->C1,getElem?_eq_some_iff->C2,length_append->DC,length_map->PN,length_range->Tw,length_take->E4,replicate->vw
open Go.Value renaming slice->AF
open Go.DataW renaming trod->TI,trod_int->U9,trod_string->Yv,trod_struct->Xj
open Go.World renaming cells?_some->Xk
open Go.WideShapes renaming add_plain->Xi
section
namespace Sl
open Go.RowKit
structure lM (D:Sn.En):Prop where
 aj:Um.aj (D.a:Int) (D.n:Int) (D.g:Int)= true
 aS:Sn.iQ D
 used:Xm.In (Sn.aR D 16) (Sn.aR D 16).length
 rM:Sn.gl D 16<4294967296
 whole:∀id,D.usable id= 0->(D.whole id).length= 64*D.n
variable{E:Se.En}{st:Dm.St}{D:Sn.En}
theorem lM.of (h:Se.eY E st D):lM D:=by
 have d:=h.bE.form;have b:=h.rel;refine ⟨by rw [b.a,b.n,b.g];exact d.aj,λi hi=>?_,by rw [b.used];exact Se.rB h.aN,by rw [b.rM];exact Se.Co d,λid h0=>?_⟩;·
  by_cases e:(E.one i).t= 0;· rw [(b.free i hi e).2.1];exact yb _
  ·rw [(b.aK i hi e).1,(d.fit i hi e).fD];exact (d.pa i hi e).ag.N1
 ·have c:=Se.vq d (by rw [<-b.usable];exact h0);rw [b.whole c,So.mK (λj hj=>h.bE.ru c hj),b.n]
theorem lM.right (h:lM D):Em.aM (D.n:Int) (D.g:Int)= true:=by have:=Um.cT h.aj;exact (Em.cM _ _).2 ⟨by omega,by omega,by omega,by omega⟩
structure Ws (n0:Nat) (X:Nat->Prop) (w:World) (p dp qp mp:Nat) (D Dp:Sn.En) (B:Se.Eb) (E:Se.En) (st:Dm.St) (e:Sn.Eb):Prop where
 head:w.heap[p]?= some (hV #[zP dp,zP qp,zP mp] 56 (0,0))
 dp:B.d.p= dp
 qp:B.q= qp
 mp:e.q= mp
 ek:Se.Ek w B E st
 rk:Sn.Ek w e D
 e_:Se.eY E st Dp
 doc:lM D
 ap:∀k,B.fp E k->¬e.fp k
 px:¬B.fp E p/\¬e.fp p
 xs:∀k,X k->k<w.heap.size/\¬B.fp E k/\¬e.fp k/\k≠p
 base:n0<=p/\(∀k,B.fp E k->n0<=k)/\∀k,e.fp k->n0<=k
def Wm (n0:Nat) (X:Nat->Prop) (w:World) (p dp qp mp:Nat) (D Dp:Sn.En):Prop:=∃B E st e,Ws n0 X w p dp qp mp D Dp B E st e
variable{n0 p dp qp mp:Nat}{X:Nat→Prop}{w:World}{Dp:Sn.En}{B:Se.Eb}{e:Sn.Eb}
theorem Ws.iU (h:Ws n0 X w p dp qp mp D Dp B E st e):p<w.heap.size:=ae.lt_of_heap h.head
variable{w':World}
theorem Ws.below (h:Ws n0 X w p dp qp mp D Dp B E st e) (f:zB w w'):Ws n0 X w' p dp qp mp D Dp B E st e:= ⟨(f.block p h.iU).trans h.head,h.dp,h.qp,h.mp,h.ek.below f,h.rk.below f,h.e_,h.doc,h.ap,h.px,λk hk=>by obtain ⟨a,b,c,d⟩:=h.xs k hk;exact ⟨Nat.lt_of_lt_of_le a f.size,b,c,d⟩,h.base⟩
theorem Wm.below (h:Wm n0 X w p dp qp mp D Dp) (a:zB w w'):Wm n0 X w' p dp qp mp D Dp:=by obtain ⟨B,E,st,e,h⟩:=h;exact ⟨B,E,st,e,h.below a⟩
theorem Wm.more {Y:Nat->Prop} (h:Wm n0 X w p dp qp mp D Dp) (b:zB w w') (d:∀k,Y k->(X k\/w.heap.size<=k)/\k<w'.heap.size):Wm n0 Y w' p dp qp mp D Dp:=by
 obtain ⟨B,E,st,e,h⟩:=h;have a:=h.below b;refine ⟨B,E,st,e,a.head,a.dp,a.qp,a.mp,a.ek,a.rk,a.e_,a.doc,a.ap,a.px,λk hk=>?_,a.base⟩;obtain ⟨h1,g⟩:=d k hk;rcases h1 with c|c;· exact a.xs k c
 ·refine ⟨g,λf=>?_,λf=>?_,λf=>?_⟩;· have:=h.ek.lt k f;omega
  ·have:=h.rk.lt k f;omega
  ·have:=h.iU;omega
theorem Wm.less (h:Wm n0 X w p dp qp mp D Dp):Wm n0 (λ_=>False) w p dp qp mp D Dp:=h.more zR λk hk=>hk.elim
theorem Wm.cells (h:Wm n0 X w p dp qp mp D Dp):w.cell? (zD p 0)= some (zP dp)/\w.cell? (zD p 1)= some (zP qp)/\w.cell? (zD p 2)= some (zP mp)/\∀j,w.frozen? (zD p j)= false:=by obtain ⟨B,E,st,e,h⟩:=h;exact ⟨zW h.head,zW h.head,zW h.head,λj=>frozen_of_row (j:=j) _ _ _ _ h.head⟩
theorem Wm.lt (h:Wm n0 X w p dp qp mp D Dp):n0<=p/\p<w.heap.size:=by obtain ⟨B,E,st,e,h⟩:=h;exact ⟨h.base.1,h.iU⟩
structure Step (n0:Nat) (X:Nat->Prop) (w w':World):Prop where
 aL:Below n0 w w'
 kept:∀k,X k->w'.heap[k]?= w.heap[k]?
theorem Step.trans {u v:World} (h:Step n0 X u v) (k:Step n0 X v w):Step n0 X u w:=⟨h.aL.trans k.aL,λi hi=>(k.kept i hi).trans (h.kept i hi)⟩
theorem Step.ax (h:Wm n0 X w p dp qp mp D Dp) (a:zB w w'):Step n0 X w w':=by have b:=h.lt;obtain ⟨B,E,st,e,h⟩:=h;exact ⟨a.mono (by omega),λk hk=>a.block k (h.xs k hk).1⟩
theorem Step.cell (h:Step n0 X w w') {k:Nat} (hk:X k) (j:Nat):w'.cell? (zD k j)= w.cell? (zD k j):=So.gV (p:=(zD k j)) (h.kept k hk)
theorem Ws.prog {D':Sn.En} (h:Ws n0 X w p dp qp mp D Dp B E st e) (i:Se.fL B E D' w w'):Wm n0 X w' p dp qp mp D D'/\Step n0 X w w':=by
 obtain ⟨E',st',⟨g,hk,f⟩,j⟩:=i;have hw:=f.fr.size;have l:=h.iU;have fW:∀k,g.fp E' k->k<w.heap.size->B.fp E k:=λk hk hl=>(f.fp k hk).elim id λc=>by omega
 refine ⟨⟨g,E',st',e,(f.fr.block p h.iU h.px.1).trans h.head,f.dp.trans h.dp,f.q.trans h.qp,h.mp,hk,h.rk.keep f.fr λk hk hf=>h.ap k hf hk,j,h.doc,λk hk he=>h.ap k (fW k hk (h.rk.lt k he)) he,⟨λhk=>h.px.1 (fW p hk h.iU),h.px.2⟩,λk hx=>?_,h.base.1,λk hk=>?_,h.base.2.2⟩,f.fr.below (by have:=h.base.1;omega) λk hk=>h.base.2.1 k hk,λk hx=>?_⟩;· obtain ⟨a,b,c,d⟩:=h.xs k hx;exact ⟨by omega,λhk=>b (fW k hk a),c,d⟩
 ·rcases f.fp k hk with c|c;· exact h.base.2.1 k c
  ·have:=h.base.1;omega
 ·obtain ⟨a,b,_,_⟩:=h.xs k hx;exact f.fr.block k a b
theorem Ws.oZ (h:Ws n0 X w p dp qp mp D Dp B E st e) (j:Sn.aT e Dp w w'):Wm n0 X w' p dp qp mp Dp Dp/\Step n0 X w w':=by
 obtain ⟨e',hk,i,g,f⟩:=j;have hw:=g.size;have l:=h.iU;have fW:∀k,e'.fp k->k<w.heap.size->e.fp k:=λk hk hl=>(f k hk).elim id λc=>by omega
 refine ⟨⟨B,E,st,e',(g.block p h.iU h.px.2).trans h.head,h.dp,h.qp,i.trans h.mp,h.ek.keep g λk hk he=>h.ap k hk he,hk,h.e_,lM.of h.e_,λk hk he=>h.ap k hk (fW k he (h.ek.lt k hk)),⟨h.px.1,λhk=>h.px.2 (fW p hk h.iU)⟩,λk hx=>?_,h.base.1,h.base.2.1,λk hk=>?_⟩,g.below (by have:=h.base.1;omega) λk hk=>h.base.2.2 k hk,λk hx=>?_⟩;· obtain ⟨a,b,c,d⟩:=h.xs k hx;exact ⟨by omega,b,λhk=>c (fW k hk a),d⟩
 ·rcases f k hk with c|c;· exact h.base.2.2 k c
  ·have:=h.base.1;omega
 ·obtain ⟨a,_,c,_⟩:=h.xs k hx;exact g.block k a c
section
variable {n0:Nat} {X:Nat→Prop} {w:World} {p dp qp mp:Nat} {D Dp:Sn.En}
theorem Q0 (h:Wm n0 X w p dp qp mp D D) (c:Int):zF 16 #[zP qp,zI c] w λr w'=>r= zV (zI (D.gJ c)) (zI (D.fw c))/\Wm n0 X w' p dp qp mp D (D.cr c)/\Step n0 X w w':=by obtain ⟨B,E,st,e,h⟩:=h;rw [<-h.qp];refine zg (Se.Cp h.ek h.e_ c) λw' hg=>?_;exact ⟨rfl,by rw [h.qp];exact h.prog hg⟩
theorem Q1 (h:Wm n0 X w p dp qp mp D D) (id:Int):zF 22 #[zP qp,zI id] w λr w'=>r= nf (zI (D.fv id))/\Wm n0 X w' p dp qp mp D (D.del id)/\Step n0 X w w':=by obtain ⟨B,E,st,e,h⟩:=h;rw [<-h.qp];refine zg (Se.QX h.ek h.e_ id) λw' hg=>?_;exact ⟨rfl,by rw [h.qp];exact h.prog hg⟩
theorem Q2 (h:Wm n0 X w p dp qp mp D D) (c:Int):zF 26 #[zP qp,zI c] w λr w'=>r= nf (zI (D.iu c))/\Wm n0 X w' p dp qp mp D (D.fN c)/\Step n0 X w w':=by obtain ⟨B,E,st,e,h⟩:=h;rw [<-h.qp];refine zg (Se.QY h.ek h.e_ c) λw' hg=>?_;exact ⟨rfl,by rw [h.qp];exact h.prog hg⟩
theorem pwrite (h:Wm n0 X w p dp qp mp D D) (id a:Int) (d:zL) (b:d.length<=1073741824):zF 17 #[zP qp,zI id,zI a, .string (Om.B d)] w λr w'=>r= nf (zI (D.cD id a d))/\Wm n0 X w' p dp qp mp D (D.wr id a d)/\Step n0 X w w':=by obtain ⟨B,E,st,e,h⟩:=h;rw [<-h.qp];refine zg (Se.Cr h.ek h.e_ id a d b) λw' hg=>?_;exact ⟨rfl,by rw [h.qp];exact h.prog hg⟩
theorem pread (h:Wm n0 X w p dp qp mp D D) (id a m:Int) (hm: -9223372036854775808<=m):zF 18 #[zP qp,zI id,zI a,zI m] w λr w'=>r= zV (.string (Om.B (D.aA id a m))) (zI (D.aY id a m))/\zB w w':=by obtain ⟨B,E,st,e,h⟩:=h;rw [<-h.qp];exact Se.Cq h.ek h.e_ id a m hm
theorem Q3 {c:Int} (h:Wm n0 X w p dp qp mp D (D.cr c)):zF 21 #[zP mp,zI c] w λr w'=>r= zV (zI (D.gJ c)) (zI (D.fw c))/\Wm n0 X w' p dp qp mp (D.cr c) (D.cr c)/\Step n0 X w w':=by obtain ⟨B,E,st,e,h⟩:=h;rw [<-h.mp];refine zg (Sn.rC h.rk c h.doc.aj h.doc.used h.doc.rM) λw' hg=>?_;exact ⟨rfl,by rw [h.mp];exact h.oZ hg⟩
theorem Q4 {id:Int} (h:Wm n0 X w p dp qp mp D (D.del id)):zF 23 #[zP mp,zI id] w λr w'=>r= nf (zI (D.fv id))/\Wm n0 X w' p dp qp mp (D.del id) (D.del id)/\Step n0 X w w':=by obtain ⟨B,E,st,e,h⟩:=h;rw [<-h.mp];refine zg (Sn.P8 h.rk id) λw' hg=>?_;exact ⟨rfl,by rw [h.mp];exact h.oZ hg⟩
theorem Q5 {c:Int} (h:Wm n0 X w p dp qp mp D (D.fN c)):zF 27 #[zP mp,zI c] w λr w'=>r= nf (zI (D.iu c))/\Wm n0 X w' p dp qp mp (D.fN c) (D.fN c)/\Step n0 X w w':=by
 obtain ⟨B,E,st,e,h⟩:=h;rw [<-h.mp];by_cases b:0<=c/\c< (Em.parts D.n D.g:Int);·
  have a:D.iu c= 0:=by unfold Sn.En.iu;rw [if_pos b]
  obtain ⟨k,rfl⟩:∃k:Nat,c= (k:Int):=⟨c.toNat,by omega⟩;have h1:D.fN (k:Int)= D.save k:=by unfold Sn.En.fN;rw [if_pos a,Int.toNat_natCast]
  rw [a];rw [h1]at h⊢;refine zg (Sn.P5 h.rk k h.doc.right (by omega) h.doc.aS) λw' hg=>?_;exact ⟨rfl,by rw [h.mp];exact h.oZ hg⟩
 ·have a:D.iu c= 2:=by unfold Sn.En.iu;rw [if_neg b]
  have h1:D.fN c= D:=by unfold Sn.En.fN;rw [a];rfl
  rw [a];rw [h1]at h⊢;refine zg (Sn.PZ h.rk c h.doc.right (by omega)) λw' hb=>?_;exact ⟨rfl,by rw [h.mp];exact h.oZ (Sn.aT.ax h.rk hb)⟩
theorem Q6 {id a:Int} {d:zL} (h:Wm n0 X w p dp qp mp D (D.wr id a d)) (b:d.length<=1073741824) (c:a<=9223372036854775807):zF 25 #[zP mp,zI id,zI a, .string (Om.B d)] w λr w'=>r= nf (zI (D.cD id a d))/\Wm n0 X w' p dp qp mp (D.wr id a d) (D.wr id a d)/\Step n0 X w w':=by obtain ⟨B,E,st,e,h⟩:=h;rw [<-h.mp];refine zg (Sn.fC h.rk id a d h.doc.right b c h.doc.aS (h.doc.whole id)) λw' hg=>?_;exact ⟨rfl,by rw [h.mp];exact h.oZ hg⟩
theorem Cs (h:Wm n0 X w p dp qp mp D Dp) (id a m:Int):zF 24 #[zP mp,zI id,zI a,zI m] w λr w'=>r= zV (.string (Om.B (D.aA id a m))) (zI (D.aY id a m))/\zB w w':=by obtain ⟨B,E,st,e,h⟩:=h;rw [<-h.mp];have:=(Em.cM _ _).1 h.doc.right;exact Sn.kq h.rk id a m (by omega) (h.doc.whole id)
theorem Q7 (h:Wm n0 X w p dp qp mp D D):zF 13 #[zP dp] w λr w'=>∃q2,r= zV (zP q2) (zI 0)/\Wm n0 X w' p dp qp mp D D/\zB w w'/\Wm n0 X (w'.setCell ⟨p,1,none⟩ (zP q2)) p dp q2 mp D D:=by
 obtain ⟨B,E,st,e,h⟩:=h;rw [<-h.dp];refine (Se.QZ h.ek h.e_).mono ?_;rintro r w' ⟨l,rfl,hk,hd,m,o,n⟩;rw [h.dp];have i:=h.below n;have b:∀k,l.fp E k->k≠p/\¬e.fp k/\n0<=k/\(∀hx:X k,False):=λk hk2=>by
  rcases m k hk2 with c|c;· have g:B.fp E k:= .inr (.inr (.inl c));exact ⟨λe0=>h.px.1 (e0▸g),h.ap k g,h.base.2.1 k g,λhx=>(h.xs k hx).2.1 g⟩
  ·have s:=h.base.1;have hp:=h.iU;exact ⟨by omega,λhe=>by have:=h.rk.lt k he;omega,by omega,λhx=>by have:=(h.xs k hx).1;omega⟩
 have f:ae.Fr (λj=>j= p) w' (w'.setCell ⟨p,1,none⟩ (zP l.q)):=ae.Fr.setCell (F:=λj=>j= p) (ae.Fr.refl _ _) ⟨p,1,none⟩ rfl _;refine ⟨l.q,rfl,⟨B,E,st,e,i⟩,n,l,E,st,e,?_,by rw [hd];exact h.dp,rfl,h.mp,hk.keep f λk hk2=>(b k hk2).1,i.rk.keep f λk he e0=>h.px.2 (e0▸he),h.e_,h.doc,λk hk2=>(b k hk2).2.1,⟨λhk2=>(b p hk2).1 rfl,h.px.2⟩,λk hx=>?_,h.base.1,λk hk2=>(b k hk2).2.2.1,h.base.2.2⟩;· rw [heap_setCell_same _ _ _ _ _ _ i.head];rfl
 ·obtain ⟨a,_,c,d⟩:=i.xs k hx;refine ⟨by have:=f.size;omega,λhk2=>(b k hk2).2.2.2 hx,c,d⟩
end
end Sl
end
section
namespace Sl
open Go.RowKit
structure Ra (n0:Nat) (X:Nat->Prop) (w:World) (p dp qp mp:Nat) (D:Sn.En) (k:Nat) (ta:Option Addr) (tc:Nat) (sq:Nat) (lf:Int) (l:zX):Prop where
 cells:w.cell? (zD p 1)= some (zP qp)/\w.cell? (zD p 2)= some (zP mp)
 store:zF 81 #[zP qp,zI ((k:Int) +1)] w (zQ (zP sq) w)
 inv:zF 83 #[zP sq] w (zQ (.bool (D.one k).inv) w)
 left:zF 84 #[zP sq] w (zJ (zI lf) w)
 all:zF 86 #[zP sq] w (Tb.mF l w)
 len:zF 82 #[.slice ta (D.one k).t.length tc] w (zQ (zI ((Tb.used (D.one k).t).length:Int)) w)
 Rb:zF 87 #[.slice ta (D.one k).t.length tc] w (Tb.mF l w)
 m : w.cell? ⟨mp, 4 + k * 7, none⟩ = some (zI (D.one k).s) /\ w.cell? ⟨mp, 4 + k * 7 + 1, none⟩ = some (zI (D.one k).a) /\ w.cell? ⟨mp, 4 + k * 7 + 2, none⟩ = some (zI (D.one k).n) /\
 w.cell? ⟨mp,4+k*7+3,none⟩= some (zU ((D.one k).gen:Int))/\w.cell? ⟨mp,4+k*7+4,none⟩= some (.string (Om.B (D.one k).b))/\w.cell? ⟨mp,4+k*7+5,none⟩= some (.slice ta (D.one k).t.length tc)/\w.cell? ⟨mp,4+k*7+6,none⟩= some (.bool (D.one k).inv)
theorem Ct {m:zN} (h:∀x∈m,x= -1):Tb.all m= []/\Tb.used m= []:=by
 have a:Tb.used m= []:=List.filter_eq_nil_iff.2 λx hx=>by rw [h x hx];decide
 refine ⟨List.eq_nil_of_length_eq_zero ?_,a⟩;rw [Tb.mh,a];rfl
variable{n0 dp qp mp:Nat}{X:Nat→Prop}{w:World}{D:Sn.En}
theorem Re {p:Nat} (h:Wm n0 X w p dp qp mp D D) {k:Nat} (hk:k<16) (A:(D.one k).s≠0): ∃ta tc sq lf l,lf= (if (D.one k).inv= true then 0 else ((D.one k).t.length:Int) - ((Tb.used (D.one k).t).length:Int))/\(D.one k).t.length<=1048576/\l.length<=1048576/\(Tb.used (D.one k).t).length<=(D.one k).t.length/\∀W,zB w W->Ra n0 X W p dp qp mp D k ta tc sq lf l:=by
 have n:=h;obtain ⟨B,E,st,e,h⟩:=h;have y:=h.e_.bE.form;have v:=h.e_.rel;have d:(E.one k).t≠0:=by have:=(v.one k hk).1;omega
 obtain ⟨j,u⟩:=v.aK k hk d;have r:=y.fit k hk d;have z:=(y.pa k hk d).ag.N1;obtain ⟨ta,tc,f⟩:=ae.ck (h.rk.rows k hk);have o:(Tb.used (D.one k).t).length<=(D.one k).t.length:=List.length_filter_le _ _;have g:(D.one k).t.length<=1048576:=by rw [j,r.fD];exact z
 have i:Tb.all (E.one k).M.aK= Tb.all (D.one k).t:=by
  rw [j];unfold So.Ms.aK;by_cases hi:(E.one k).M.inv= true;· rw [if_pos hi,(Ct (r.off hi)).1,(Ct (m:= []) λx hx=>by cases hx).1]
  ·rw [if_neg hi]
 have q:((So.free (E.one k).M.aK:Nat):Int)= (if (D.one k).inv= true then 0 else ((D.one k).t.length:Int) - ((Tb.used (D.one k).t).length:Int)):=by
  rw [u];unfold So.Ms.aK;by_cases hi:(E.one k).M.inv= true;· rw [if_pos hi,if_pos hi];rfl
  ·rw [if_neg hi,if_neg hi,<-j];unfold So.free;omega
 refine ⟨ta,tc,B.sq k,_,Tb.all (D.one k).t,rfl,g,by rw [Tb.mh];omega,o,λW hW=>?_⟩;have c:=h.below hW;have b:=c.ek.sk k hk d;have a:=c.rk.rows k hk;rw [f]at a;obtain ⟨c0,c1,c2, -⟩:=(n.below hW).cells;refine ⟨⟨c1,c2⟩,?_,?_,?_,?_,?_,?_,?_⟩;· have:=Se.ox c.ek.head ((k:Int) +1);rw [c.ek.de hk rfl d,c.qp]at this;exact this
 ·have:=So.mN b;rw [<-u]at this;exact this
 ·have:=So.ow b;rw [q]at this;exact this
 ·have:=So.Ka b;rw [i]at this;exact this
 ·exact Tb.Jf a g
 ·exact Tb.Q_ a (by rw [j];exact r.tok)
 ·have:=c.rk.at hk;rw [c.mp,f]at this;exact this
theorem Rf {p:Nat} (h:Wm n0 X w p dp qp mp D D) {k:Nat} (hk:k<16) (h0:(D.one k).s≠0) (id:Int) (hid:id= (k:Int) +1): zF 39 #[zP p,zI id, .agg #[zI (D.one k).s,zI (D.one k).a,zI (D.one k).n,zU ((D.one k).gen:Int)]] w λr w'=>r= nf (.bool true)/\zB w w':=by
 obtain ⟨S,R,sq,lf,l,ad,hL,hl,hU,V⟩:=Re h hk h0;obtain ⟨s,hs⟩:=eX1 ((D.one k).s);obtain ⟨a,ha⟩:=eX1 ((D.one k).a);obtain ⟨n,hn⟩:=eX1 ((D.one k).n);obtain ⟨g,hg⟩:=eX1 ((D.one k).gen);obtain ⟨b,hb⟩:=eX1 ((D.one k).b);obtain ⟨v,hv⟩:=eX1 ((D.one k).inv);obtain ⟨L,A⟩:=eX1 ((D.one k).t.length);obtain ⟨U,N⟩:=eX1 ((Tb.used (D.one k).t).length);rw [<-hs,<-ha,<-hn,<-hg];rw [<-hv,<-A,<-N]at ad;rw [<-A]at hL hU;rw [<-N]at hU;have aw:∀W,zB w W->(W.cell? (zD p 1)= some (zP qp)/\W.cell? (zD p 2)= some (zP mp))/\(W.cell? ⟨mp,4+k*7,none⟩= some (zI s)/\W.cell? ⟨mp,4+k*7+1,none⟩= some (zI a)/\W.cell? ⟨mp,4+k*7+2,none⟩= some (zI n)/\ W.cell? ⟨mp,4+k*7+3,none⟩= some (zU g)/\W.cell? ⟨mp,4+k*7+4,none⟩= some (.string (Om.B b))/\W.cell? ⟨mp,4+k*7+5,none⟩= some (.slice S L R)/\W.cell? ⟨mp,4+k*7+6,none⟩= some (.bool v)):=λW hW=>by have:=V W hW;rw [hs,ha,hn,hg,hb,hv,A];exact ⟨this.cells,this.m⟩
 have ST:Hid (∀W,zB w W->zF 81 #[zP qp,zI id] W λe w'=>e= nf (zP sq)/\W= w'):=hT λW hW=>by rw [hid];exact (V W hW).store
 have IN:Hid (∀W,zB w W->zF 83 #[zP sq] W λe w'=>e= nf (.bool v)/\W= w'):=hT λW hW=>by rw [hv];exact (V W hW).inv
 have LE:=hT λW hW=>(V W hW).left;have AL:=hT λW hW=>(V W hW).all;have RL:Hid (∀W,zB w W->zF 82 #[.slice S L R] W λe w'=>e= nf (zI U)/\W= w'):=hT λW hW=>by rw [A,N];exact (V W hW).len
 have RA:Hid (∀W,zB w W->zF 87 #[.slice S L R] W (Tb.mF l W)):=hT λW hW=>by rw [A];exact (V W hW).Rb
 clear V;obtain ⟨W0,M⟩:=eX2 (w.alloc (hV #[zI s,zI a,zI n,zU g] 68));have af:zB w W0:=by rw [<-M];exact zA
 have bf:W0.heap[w.heap.size]?= some (hV #[zI s,zI a,zI n,zU g] 68 (0,0)):=by rw [<-M];exact heap_alloc_new w _
 have Y:W0.heap.size= w.heap.size+1:=by rw [<-M];simp
 obtain ⟨⟨c1,c2⟩,m0,m1,m2,m3,m4,m5,m6⟩:=aw W0 af;obtain ⟨H,K⟩:=eX2 (W0.alloc (hV #[zI s,zI a,zI n,zU g, .string (Om.B b), .slice S L R, .bool v] 71));have k0:(0:Int)<=(k:Int):=by omega
 have ba:(k:Int) <16:=by omega
 have T:lg.wrap (id - 1)= (k:Int):=by rw [rr _ (by omega)];omega
 have P:zB w H:=by rw [<-K];exact af.alloc (by omega) _
 have ab:H.heap[w.heap.size+1]?= some (hV #[zI s,zI a,zI n,zU g, .string (Om.B b), .slice S L R, .bool v] 71 (0,0)):=by rw [<-K,<-Y];exact heap_alloc_new W0 _
 have Z:H.heap[w.heap.size]?= some (hV #[zI s,zI a,zI n,zU g] 68 (0,0)):=by rw [<-K];exact (Below.heap_alloc _ _ _ (by omega)).trans bf
 have f:Hid (∀W,zB H W->zB w W/\W.cell? (zD p 1)= some (zP qp)/\(W.cell? (zz w 0)= some (zI s)/\W.cell? (zz w 1)= some (zI a)/\W.cell? (zz w 2)= some (zI n)/\W.cell? (zz w 3)= some (zU g))/\ W.cell? (zD (w.heap.size+1) 0)= some (zI s)/\W.cell? (zD (w.heap.size+1) 1)= some (zI a)/\W.cell? (zD (w.heap.size+1) 2)= some (zI n)/\W.cell? (zD (w.heap.size+1) 3)= some (zU g)/\W.cell? (zD (w.heap.size+1) 5)= some (.slice S L R)/\W.cell? (zD (w.heap.size+1) 6)= some (.bool v)):=hT λW hW=>by have hb:=P.trans (hW.mono P.size);have r1:=(hW.block _ (ae.lt_of_heap ab)).trans ab;have r2:=(hW.block _ (ae.lt_of_heap Z)).trans Z;refine ⟨hb,(aw W hb).1.1,⟨?_,?_,?_,?_⟩,?_,?_,?_,?_,?_,?_⟩<;>(first|(rw [cell_of_row _ _ _ _ _ _ r1];rfl)|(rw [cell_of_row _ _ _ _ _ _ r2];rfl))
 have O:=ad;have bb:lg.wrap ((L:Int) - (U:Int))= (L:Int) - (U:Int):=rr _ (by omega);have SA:Hid (∀W x c y d,Tb.f_ W x l->Tb.f_ W y l->zF 85 #[.slice x l.length c, .slice y l.length d] W λe w'=>e= nf (.bool true)/\zB W w'):=hT λW x c y d h1 h2=>Tb.Q8 h1 h2 (by omega);have Q:=hT P;obtain ⟨G,hG⟩:=eX1 w.heap.size;clear h hid hs ha hn hg hb hv A N h0 ab Z bf P aw ad;go_enter func39,ntmps39;go_upto_region 2 with fail;clear M K af c1 c2 m0 m1 m2 m3 m4 m5 m6;obtain ⟨-,c1, -, -⟩:=f.out H zR;go_upto_region 3 with fail;refine zh (ST.out _ Q.out) ?_;obtain ⟨-, -,⟨a0,a1,a2,a3⟩,b0,b1,b2,b3,b5,b6⟩:=f.out H zR;go_upto_region 3 with fail;go_quiet (first|(go_at_call 82;exact Calls.quiet_of_same ((RL.out _ (So.fc Q.out _)).mono λ_ _ h=>⟨h.1,h.2.symm⟩)));have C:Hid (zB H (H.drewN nq)):=hT (So.fc zR nq);generalize H.drewN nq= W2 at C⊢;clear c1 a0 a1 a2 a3 b0 b1 b2 b3 b5 b6 ST RL;obtain ⟨-, -,⟨a0,a1,a2,a3⟩,b0,b1,b2,b3,b5,b6⟩:=f.out W2 C.out;cases v with
  | true => have F:lf= 0:=O;subst F;clear O bb T k0 ba Y hG Q hU hL hk hl;go_upto_region 6 with fail;go_region_held3 (λw'=>(w'.cell? (zz w 0)= some (zI s)/\w'.cell? (zz w 1)= some (zI a)/\w'.cell? (zz w 2)= some (zI n)/\w'.cell? (zz w 3)= some (zU g))/\ w'.cell? (zD (w.heap.size+1) 0)= some (zI s)/\w'.cell? (zD (w.heap.size+1) 1)= some (zI a)/\w'.cell? (zD (w.heap.size+1) 2)= some (zI n)/\w'.cell? (zD (w.heap.size+1) 3)= some (zU g)/\w'.cell? (zD (w.heap.size+1) 5)= some (.slice S L R)/\w'.cell? (zD (w.heap.size+1) 6)= some (.bool true)) (first|(refine ⟨⟨?_,?_,?_,?_⟩,?_,?_,?_,?_,?_,?_⟩<;>with_reducible assumption)|(refine ⟨⟨?_,?_,?_,?_⟩,?_,?_,?_,?_,?_,?_⟩<;>(rw [So.cw];with_reducible assumption))) (first
  | (go_at_call 83;refine zg ((IN.out _ (f.out _ (C.out.trans zR.drew)).1)) λw3 hw3=>?_;have z:Hid (zB H w3):=hT (by rw [<-hw3];exact C.out.trans zR.drew);obtain ⟨-, -,⟨p0,p1,p2,p3⟩,q0,q1,q2,q3,q5,q6⟩:=f.out w3 z.out;clear hw3)
  | (go_at_call 84;refine zg (LE.out _ (f.out _ z.out).1) λw4 hw4=>?_;have u:=hT (So.bT hw4 z.out);obtain ⟨-, -,⟨r0,r1,r2,r3⟩,t0,t1,t2,t3,t5,t6⟩:=f.out w4 u.out;clear hw4)
  | (go_at_call 86;refine (AL.out _ (f.out _ u.out).1).mono ?_;rintro e w5 ⟨v5,rfl,j, -,E⟩;obtain ⟨x5,c5,rfl⟩:=ae.ck j;have R5:=hT (Tb.f_.own j);have q:=hT (So.bT E u.out);obtain ⟨-, -,⟨u0,u1,u2,u3⟩,y0,y1,y2,y3,y5,y6⟩:=f.out w5 q.out;clear E j)
  | (go_at_call 87;refine (RA.out _ (f.out _ q.out).1).mono ?_;rintro e w6 ⟨v6,rfl,i, -,o⟩;obtain ⟨x6,c6,rfl⟩:=ae.ck i;have R6:=hT (Tb.f_.own i);have ao:=hT (R5.out.below o);have J:=hT (So.bT o q.out);obtain ⟨-, -,⟨l0,l1,l2,l3⟩,z0,z1,z2,z3,z5,z6⟩:=f.out w6 J.out;clear o i)
  | (go_at_call 85;refine zg (SA.out _ _ _ _ _ ao.out R6.out) λw7 hb7=>?_;have I:=hT (So.bT hb7 J.out);obtain ⟨-, -,⟨n0,n1,n2,n3⟩,o0,o1,o2,o3,o5,o6⟩:=f.out w7 I.out;clear hb7));go_wp2_with fail;go_ret;exact ⟨rfl,(f.out _ I.out).1⟩
  | false => have F:lf= (L:Int) - (U:Int):=O;subst F;clear O bb T k0 ba Y hG Q hU hL hk hl;go_upto_region 6 with fail;go_region_held3 (λw'=>(w'.cell? (zz w 0)= some (zI s)/\w'.cell? (zz w 1)= some (zI a)/\w'.cell? (zz w 2)= some (zI n)/\w'.cell? (zz w 3)= some (zU g))/\ w'.cell? (zD (w.heap.size+1) 0)= some (zI s)/\w'.cell? (zD (w.heap.size+1) 1)= some (zI a)/\w'.cell? (zD (w.heap.size+1) 2)= some (zI n)/\w'.cell? (zD (w.heap.size+1) 3)= some (zU g)/\w'.cell? (zD (w.heap.size+1) 5)= some (.slice S L R)/\w'.cell? (zD (w.heap.size+1) 6)= some (.bool false)) (first|(refine ⟨⟨?_,?_,?_,?_⟩,?_,?_,?_,?_,?_,?_⟩<;>with_reducible assumption)|(refine ⟨⟨?_,?_,?_,?_⟩,?_,?_,?_,?_,?_,?_⟩<;>(rw [So.cw];with_reducible assumption))) (first
  | (go_at_call 83;refine zg ((IN.out _ (f.out _ (C.out.trans zR.drew)).1)) λw3 hw3=>?_;have z:Hid (zB H w3):=hT (by rw [<-hw3];exact C.out.trans zR.drew);obtain ⟨-, -,⟨p0,p1,p2,p3⟩,q0,q1,q2,q3,q5,q6⟩:=f.out w3 z.out;clear hw3)
  | (go_at_call 84;refine zg (LE.out _ (f.out _ z.out).1) λw4 hw4=>?_;have u:=hT (So.bT hw4 z.out);obtain ⟨-, -,⟨r0,r1,r2,r3⟩,t0,t1,t2,t3,t5,t6⟩:=f.out w4 u.out;clear hw4)
  | (go_at_call 86;refine (AL.out _ (f.out _ u.out).1).mono ?_;rintro e w5 ⟨v5,rfl,j, -,E⟩;obtain ⟨x5,c5,rfl⟩:=ae.ck j;have R5:=hT (Tb.f_.own j);have q:=hT (So.bT E u.out);obtain ⟨-, -,⟨u0,u1,u2,u3⟩,y0,y1,y2,y3,y5,y6⟩:=f.out w5 q.out;clear E j)
  | (go_at_call 87;refine (RA.out _ (f.out _ q.out).1).mono ?_;rintro e w6 ⟨v6,rfl,i, -,o⟩;obtain ⟨x6,c6,rfl⟩:=ae.ck i;have R6:=hT (Tb.f_.own i);have ao:=hT (R5.out.below o);have J:=hT (So.bT o q.out);obtain ⟨-, -,⟨l0,l1,l2,l3⟩,z0,z1,z2,z3,z5,z6⟩:=f.out w6 J.out;clear o i)
  | (go_at_call 85;refine zg (SA.out _ _ _ _ _ ao.out R6.out) λw7 hb7=>?_;have I:=hT (So.bT hb7 J.out);obtain ⟨-, -,⟨n0,n1,n2,n3⟩,o0,o1,o2,o3,o5,o6⟩:=f.out w7 I.out;clear hb7));go_wp2_with fail;go_ret;exact ⟨rfl,(f.out _ I.out).1⟩
theorem Rg {w2:World} {v:Value} {l:zN} (h:Tb.Ints w v l) (b:zB w w2):Tb.Ints w2 v l:=ae.bc h λj hj=>b.block j (by obtain ⟨cur,a⟩:=ae.bV h j hj;exact ae.lt_of_heap a)
structure Cu (w:World) (p qp mp:Nat) (D:Sn.En) (l:zN) (mgv frv:Int):Prop where
 c1:w.cell? (zD p 1)= some (zP qp)
 c2:w.cell? (zD p 2)= some (zP mp)
 d0:w.cell? (zD mp 0)= some (zI D.a)
 d1:w.cell? (zD mp 1)= some (zI D.n)
 d2:w.cell? (zD mp 2)= some (zI D.g)
 ids:zF 30 #[zP qp] w λ r w'=>Tb.lv l w r w'
 Rh:zF 31 #[zP mp] w λ r w'=>Tb.lv l w r w'
 mg:zF 32 #[zP qp] w λ r w'=>r= nf (zI mgv)/\zB w w'
 Ri:zF 33 #[zP mp] w λ r w'=>r= nf (zI mgv)/\zB w w'
 fr:zF 34 #[zP qp] w λ r w'=>r= nf (zI frv)/\zB w w'
 Rj:zF 35 #[zP mp] w λ r w'=>r= nf (zI frv)/\zB w w'
 su:zF 36 #[zP qp] w λ r w'=>r= nf (zO D.a D.n D.g)/\zB w w'
 th:∀id,zF 38 #[zP mp,zI id] w λ r w'=>r= nf (.bool (D.there id))/\zB w w'
 Rl:∀id,D.there id= false->zF 37 #[zP qp,zI id] w λ r w'=>r= zV (.agg #[zI 0,zI 0,zI 0,zU 0]) (zI 161)/\zB w w'
 Rm:∀(k:Nat) (id:Int),k<16->id= (k:Int) +1->(D.one k).s≠0->zF 37 #[zP qp,zI id] w λ r w'=>r= zV (.agg #[zI (D.one k).s,zI (D.one k).a,zI (D.one k).n,zU ((D.one k).gen:Int)]) (zI 0)/\zB w w'
variable{E:Se.En}
theorem Rn (h:∀i,i<16->(D.one i).s= ((E.one i).t:Int)) (k:Nat) (hk:k<=16):Sn.cn D k= Se.cn E k:=by induction k with
 | zero=>rfl
 | succ k ih =>
 rw [Sn.oL,Se.oL,ih (by omega),h k (by omega)];by_cases c:(E.one k).t= 0;· rw [if_neg (by omega),if_neg (by omega)]
 ·rw [if_pos (by omega),if_pos c];rfl
theorem Rp {p:Nat} (h:Wm n0 X w p dp qp mp D D):Cu w p qp mp D (Sn.cn D 16) (D.al:Int) D.free:=by
 have d:=h;obtain ⟨B,E,st,e,h⟩:=h;have b:=h.e_.rel;have f:=Rn (λi hi=>(b.one i hi).1) 16 (nm _);obtain ⟨-,c1,c2, -⟩:=d.cells;obtain ⟨d0,d1,d2, -⟩:=h.rk.low;have c:E.free= D.free:=by unfold Se.En.free Sn.En.free;rw [b.used,b.n,b.a]
 refine ⟨c1,c2,by rw [<-h.mp];exact d0,by rw [<-h.mp];exact d1,by rw [<-h.mp];exact d2,?_,?_,?_,?_,?_,?_,?_,?_,?_,?_⟩;· rw [f,<-h.qp];exact Se.OX h.ek.head
 ·rw [<-h.mp];exact Sn.PV h.rk
 ·rw [b.al,<-h.qp];exact Se.jB h.ek.head
 ·rw [<-h.mp];exact Sn.lK h.rk
 ·rw [<-c,<-h.qp];exact Se.O3 h.ek.head h.e_.aN
 ·rw [<-h.mp];exact Sn.Px h.rk h.doc.aj h.doc.used
 ·rw [b.a,b.n,b.g,<-h.qp];exact Se.OZ h.ek.head
 ·intro id;rw [<-h.mp];exact Sn.mZ h.rk id
 ·intro id hid;rw [<-h.qp];exact Se.O0 h.ek.head id (by rw [<-b.there];exact hid)
 ·intro k id hk hid j;obtain ⟨a1,a2,a3,l⟩:=b.one k hk;rw [a1]at j;rw [a1,a2,a3,l,<-h.qp];exact Se.O2 h.ek.head id k hk hid (by omega)
theorem Rq {p:Nat} (h:Wm n0 X w p dp qp mp D D): zF 8 #[zP p] w λr w'=>r= nf (.bool true)/\zB w w':=by
 obtain ⟨l,hl⟩:=eX1 (Sn.cn D 16);obtain ⟨mg,Z⟩:=eX1 (D.al:Int);obtain ⟨fr,af⟩:=eX1 D.free;have ad:l.length<=1099511627776:=by have:=Sn.rh D 16;rw [hl];omega
 have z:∀W,zB w W->Cu W p qp mp D l mg fr:=λW hW=>by rw [hl,Z,af];exact Rp (h.below hW)
 obtain ⟨a,ha⟩:=eX1 D.a;obtain ⟨n,hn⟩:=eX1 D.n;obtain ⟨g,hg⟩:=eX1 D.g;have o:Hid (∀W,zB w W->W.cell? (zD p 1)= some (zP qp)/\W.cell? (zD p 2)= some (zP mp)/\W.cell? (zD mp 0)= some (zI a)/\W.cell? (zD mp 1)= some (zI n)/\W.cell? (zD mp 2)= some (zI g)):=hT λW hW=>by have:=z W hW;rw [ha,hn,hg];exact ⟨this.c1,this.c2,this.d0,this.d1,this.d2⟩
 have SU:Hid (∀W,zB w W->zF 36 #[zP qp] W λr w'=>r= nf (zO a n g)/\zB W w'):=hT λW hW=>by rw [ha,hn,hg];exact (z W hW).su
 have ID:=hT (λW hW=>(z W hW).ids);have MI:=hT (λW hW=>(z W hW).Rh);have MG:=hT (λW hW=>(z W hW).mg);have MM:=hT (λW hW=>(z W hW).Ri);have FE:=hT (λW hW=>(z W hW).fr);have MF:=hT (λW hW=>(z W hW).Rj);have TH:=hT (λW hW=>(z W hW).th);have SN:=hT (λW hW=>(z W hW).Rl);have SY:=hT (λW hW=>(z W hW).Rm);have SI:Hid (∀W x c y d,Tb.Ints W (.slice x l.length c) l->Tb.Ints W (.slice y l.length d) l->zF 29 #[.slice x l.length c, .slice y l.length d] W λe w'=>e= nf (.bool true)/\zB W w'):=hT λW x c y d h1 h2=>Tb.Q9 h1 h2 ad;have PR:Hid (∀W id,zB w W->zF 18 #[zP qp,zI id,zI 0,zI n] W λr w'=>r= zV (.string (Om.B (D.aA id 0 n))) (zI (D.aY id 0 n))/\zB W w'):=hT λW id hW=>pread (h.below hW) id 0 n (by omega);have DR:Hid (∀W id,zB w W->zF 24 #[zP mp,zI id,zI 0,zI n] W λr w'=>r= zV (.string (Om.B (D.aA id 0 n))) (zI (D.aY id 0 n))/\zB W w'):=hT λW id hW=>Cs (h.below hW) id 0 n;have ON:Hid (∀W (k:Nat) (id:Int),zB w W->k<16->id= (k:Int) +1->(D.one k).s≠0->zF 39 #[zP p,zI id, .agg #[zI (D.one k).s,zI (D.one k).a,zI (D.one k).n,zU ((D.one k).gen:Int)]] W λr w'=>r= nf (.bool true)/\zB W w'):=hT λW k id hW hk hid R=>Rf (h.below hW) hk R id hid;obtain ⟨c0,c1,c2,c3,c4⟩:=o.out w zR;clear z h hl Z af ha hn hg ad;go_enter func8,ntmps8;go_upto_region 1 with fail;go_region_held3 (λw'=>w'.cell? (zD p 1)= some (zP qp)/\w'.cell? (zD p 2)= some (zP mp)/\w'.cell? (zD mp 0)= some (zI a)/\w'.cell? (zD mp 1)= some (zI n)/\w'.cell? (zD mp 2)= some (zI g)) (first|(refine ⟨?_,?_,?_,?_,?_⟩<;>with_reducible assumption)|(refine ⟨?_,?_,?_,?_,?_⟩<;>(rw [So.cw];with_reducible assumption))) (first
  | (go_at_call 30;refine (ID.out _ zR.drew).mono ?_;rintro e w1 ⟨v1,rfl,O, -,ao⟩;obtain ⟨x1,y1,rfl⟩:=ae.ck O;have I1:=hT O;clear O;have L:=hT (So.bT ao zR.drew);obtain ⟨e0,e1,e2,e3,e4⟩:=o.out w1 L.out;clear ao)
  | (go_at_call 31;refine (MI.out _ L.out).mono ?_;rintro e w2 ⟨v2,rfl,N, -,t⟩;obtain ⟨x2,y2,rfl⟩:=ae.ck N;have I2:=hT N;have bb:=hT (Rg I1.out t);clear N;have T:=hT (So.bT t L.out);obtain ⟨f0,f1,f2,f3,f4⟩:=o.out w2 T.out;clear t)
  | (go_at_call 29;refine zg (SI.out _ _ _ _ _ bb.out I2.out) λw3 hb3=>?_;have K:=hT (So.bT hb3 T.out);obtain ⟨g0,g1,g2,g3,g4⟩:=o.out w3 K.out;clear hb3 I1 I2 bb)
  | (go_at_call 32;refine zg (MG.out _ K.out) λw4 hb4=>?_;have J:=hT (So.bT hb4 K.out);obtain ⟨R,h1,h2,h3,h4⟩:=o.out w4 J.out;clear hb4)
  | (go_at_call 33;refine zg (MM.out _ J.out) λw5 hb5=>?_;have I:=hT (So.bT hb5 J.out);obtain ⟨i0,i1,i2,i3,i4⟩:=o.out w5 I.out;clear hb5)
  | (go_at_call 34;refine zg (FE.out _ I.out) λw6 hb6=>?_;have H:=hT (So.bT hb6 I.out);obtain ⟨j0,j1,j2,j3,j4⟩:=o.out w6 H.out;clear hb6)
  | (go_at_call 35;refine zg (MF.out _ H.out) λw7 hb7=>?_;have G:=hT (So.bT hb7 H.out);obtain ⟨k0,k1,k2,k3,k4⟩:=o.out w7 G.out;clear hb7)
  | (go_at_call 36;refine zg (SU.out _ G.out) λw8 hb8=>?_;have S:=hT (So.bT hb8 G.out);obtain ⟨m0,m1,m2,m3,m4⟩:=o.out w8 S.out;clear hb8));clear c0 c1 c2 c3 c4 e0 e1 e2 e3 e4 f0 f1 f2 f3 f4 g0 g1 g2 g3 g4 R h1 h2 h3 h4 i0 i1 i2 i3 i4 j0 j1 j2 j3 j4 k0 k1 k2 k3 k4 m0 m1 m2 m3 m4 ID MI MG MM FE MF SU SI L T K J I H G;go_wp2_with fail;go_loopw [3] (λi wr=>∃j:Nat,i= zI j/\j<=18/\Hid (zB w wr)) (λi _=>18 - (wo i).toNat);case atStart=>exact ⟨0,rfl,by omega,S⟩
 case round=>
  obtain ⟨j,rfl,hj,v⟩:=hrel;by_cases ab:j<18;·
   have d1:decide ((j:Int)<=17):=by simp;omega
   have A:lg.wrap ((j:Int) +1)= ((j+1:Nat):Int):=by rw [rr _ (by omega)];rfl
   obtain ⟨RS,P⟩:=eX1 (Om.B (D.aA (j:Int) 0 n));obtain ⟨RE,Q⟩:=eX1 (D.aY (j:Int) 0 n);have aw:Hid (∀W,zB w W->zF 18 #[zP qp,zI j,zI 0,zI n] W λr w'=>r= zV (.string RS) (zI RE)/\zB W w'):=hT λW hW=>by rw [P,Q];exact PR.out W _ hW
   have bf:Hid (∀W,zB w W->zF 24 #[zP mp,zI j,zI 0,zI n] W λr w'=>r= zV (.string RS) (zI RE)/\zB W w'):=hT λW hW=>by rw [P,Q];exact DR.out W _ hW
   obtain ⟨c0,c1,c2,c3,c4⟩:=o.out wr v.out;have M:=hT ab;have U:=hT A;clear P Q hj ab A S;go_upto_region 6 with fail;go_region_held3 (λw'=>w'.cell? (zD p 1)= some (zP qp)/\w'.cell? (zD p 2)= some (zP mp)/\w'.cell? (zD mp 0)= some (zI a)/\w'.cell? (zD mp 1)= some (zI n)/\w'.cell? (zD mp 2)= some (zI g)) (first|(refine ⟨?_,?_,?_,?_,?_⟩<;>with_reducible assumption)|(refine ⟨?_,?_,?_,?_,?_⟩<;>(rw [So.cw];with_reducible assumption))) (first
    | (go_at_call 18;refine zg ((aw.out _ (v.out.trans (zR.drew.mono v.out.size)))) λw2 t=>?_;have H2:=hT (So.bT t (v.out.trans (zR.drew.mono v.out.size)));obtain ⟨e0,e1,e2,e3,e4⟩:=o.out w2 H2.out;clear t));clear c0 c1 c2 c3 c4 aw;go_upto_region 7 with fail;go_region_held3 (λw'=>w'.cell? (zD p 1)= some (zP qp)/\w'.cell? (zD p 2)= some (zP mp)/\w'.cell? (zD mp 0)= some (zI a)/\w'.cell? (zD mp 1)= some (zI n)/\w'.cell? (zD mp 2)= some (zI g)) (first|(refine ⟨?_,?_,?_,?_,?_⟩<;>with_reducible assumption)|(refine ⟨?_,?_,?_,?_,?_⟩<;>(rw [So.cw];with_reducible assumption))) (first
    | (go_at_call 24;refine zg ((bf.out _ (H2.out.trans (zR.drew.mono H2.out.size)))) λw3 hb3=>?_;have H3:=hT (So.bT hb3 (H2.out.trans (zR.drew.mono H2.out.size)));obtain ⟨f0,f1,f2,f3,f4⟩:=o.out w3 H3.out;clear hb3));clear e0 e1 e2 e3 e4 bf;cases hth:D.there (j:Int) with
    | true =>
    obtain ⟨k,hk,hid,R⟩:=Sn.fb.1 hth;obtain ⟨s,hs⟩:=eX1 ((D.one k).s);obtain ⟨b,hb⟩:=eX1 ((D.one k).a);obtain ⟨m,hm⟩:=eX1 ((D.one k).n);obtain ⟨u,hu⟩:=eX1 ((D.one k).gen);have SL:Hid (∀W,zB w W->zF 37 #[zP qp,zI j] W λr w'=>r= zV (.agg #[zI s,zI b,zI m,zU u]) (zI 0)/\zB W w'):=hT λW hW=>by rw [hs,hb,hm,hu];exact SY.out W hW k _ hk hid R
    have C:=hT λW hW=>by have:=TH.out W hW (j:Int);rw [hth]at this;exact this
    have ba:Hid (∀W,zB w W->zF 39 #[zP p,zI j, .agg #[zI s,zI b,zI m,zU u]] W λr w'=>r= nf (.bool true)/\zB W w'):=hT λW hW=>by rw [hs,hb,hm,hu];exact ON.out W k _ hW hk hid R
    clear hs hb hm hu hk hid R hth TH SN SY ON PR DR;go_upto_region 9 with fail;refine zg (SL.out _ H3.out) λw4 hb4=>?_;have Y:=hT (So.bT hb4 H3.out);clear hb4 SL;obtain ⟨F,f⟩:=eX2 (w4.alloc (hV #[zI s,zI b,zI m,zU u] 68));have V:Hid (zB w F):=hT (by rw [<-f];exact Y.out.alloc (by have:=Y.out.size;omega) _);have q:F.heap[w4.heap.size]?= some (hV #[zI s,zI b,zI m,zU u] 68 (0,0)):=by rw [<-f];exact heap_alloc_new w4 _
    have BX:Hid (∀W,zB F W->W.cell? (zz w4 0)= some (zI s)/\W.cell? (zz w4 1)= some (zI b)/\W.cell? (zz w4 2)= some (zI m)/\W.cell? (zz w4 3)= some (zU u)):=hT λW hW=>by have r1:=(hW.block _ (ae.lt_of_heap q)).trans q;refine ⟨?_,?_,?_,?_⟩<;>(rw [cell_of_row _ _ _ _ _ _ r1];rfl)
    clear q;obtain ⟨q0,q1,q2,q3,q4⟩:=o.out w4 Y.out;obtain ⟨z0,z1,z2,z3,z4⟩:=o.out F V.out;have E:=hT f;clear f;go_upto_region 9 with fail;rw [E.out];clear E q0 q1 q2 q3 q4;go_wp2_with fail;refine zg (C.out _ V.out) λw6 hb6=>?_;obtain ⟨b0,b1,b2,b3⟩:=BX.out w6 hb6;have H6:=hT (So.bT hb6 V.out);clear hb6 BX C z0 z1 z2 z3 z4;have A:=U.out;go_wp2_with fail;refine zg (ba.out _ H6.out) λw7 hb7=>?_;have H7:=hT (So.bT hb7 H6.out);clear hb7 ba;have A:=U.out;go_wp2_with fail;go_roundw;case rel=>exact ⟨j+1,rfl,by have:=M.out;omega,H7⟩
    case measure=>have:=M.out;simp [wo];omega
    | false =>
    have SL:=hT λW hW=>SN.out W hW _ hth;have C:=hT λW hW=>by have:=TH.out W hW (j:Int);rw [hth]at this;exact this
    clear hth TH SN SY ON PR DR;go_upto_region 9 with fail;refine zg (SL.out _ H3.out) λw4 hb4=>?_;have Y:=hT (So.bT hb4 H3.out);clear hb4 SL;obtain ⟨F,f⟩:=eX2 (w4.alloc (hV #[zI 0,zI 0,zI 0,zU 0] 68));have V:Hid (zB w F):=hT (by rw [<-f];exact Y.out.alloc (by have:=Y.out.size;omega) _);have q:F.heap[w4.heap.size]?= some (hV #[zI 0,zI 0,zI 0,zU 0] 68 (0,0)):=by rw [<-f];exact heap_alloc_new w4 _
    have BX:Hid (∀W,zB F W->W.cell? (zz w4 0)= some (zI 0)/\W.cell? (zz w4 1)= some (zI 0)/\W.cell? (zz w4 2)= some (zI 0)/\W.cell? (zz w4 3)= some (zU 0)):=hT λW hW=>by have r1:=(hW.block _ (ae.lt_of_heap q)).trans q;refine ⟨?_,?_,?_,?_⟩<;>(rw [cell_of_row _ _ _ _ _ _ r1];rfl)
    clear q;obtain ⟨q0,q1,q2,q3,q4⟩:=o.out w4 Y.out;obtain ⟨z0,z1,z2,z3,z4⟩:=o.out F V.out;have E:=hT f;clear f;go_upto_region 9 with fail;rw [E.out];clear E q0 q1 q2 q3 q4;go_wp2_with fail;refine zg (C.out _ V.out) λw6 hb6=>?_;obtain ⟨b0,b1,b2,b3⟩:=BX.out w6 hb6;have H6:=hT (So.bT hb6 V.out);clear hb6 BX C z0 z1 z2 z3 z4;have A:=U.out;go_wp2_with fail;go_roundw;case rel=>exact ⟨j+1,rfl,by have:=M.out;omega,H6⟩
    case measure=>have:=M.out;simp [wo];omega
  ·obtain rfl:j= 18:=by omega
   go_wp2_with fail;go_ret;exact ⟨rfl,v.out⟩
def fa:Value->Nat
 | .string s=>s.size
 | _=>0
theorem RY (w:World):zF 14 #[.string ⟨#[121]⟩] w λe w'=>∃r,e= nf (zP r.p)/\ae.Rk w' r (Dm.load [121])/\(∀k,r.fp k->w.heap.size<=k)/\zB w w':=ae.CB [121] w (by decide)
theorem RZ {a:Nat} {b:zL} (d:b.length= 64*a):(Dm.load b).S.length= a:=by
 have c:Dm.pad b= b:=by unfold Dm.pad;rw [d,show (64 - 64*a % 64) % 64= 0 by omega];simp
 show (Dm.chunks (Dm.pad b)).length= a;rw [c,Dm.iV,d];omega
structure vC (n0:Nat) (w:World) (B:Se.Eb) (E:Se.En) (st:Dm.St) (e:Sn.Eb) (D:Sn.En):Prop where
 ek:Se.Ek w B E st
 rk:Sn.Ek w e D
 e_:Se.eY E st D
 ap:∀k,B.fp E k->¬e.fp k
 b1:∀k,B.fp E k->n0<=k
 b2:∀k,e.fp k->n0<=k
theorem vC.world {W:World} {B:Se.Eb} {st:Dm.St} {e:Sn.Eb} (h:vC n0 w B E st e D) (c:n0<=w.heap.size) (b:w.alloc (hV #[zP B.d.p,zP B.q,zP e.q] 56)= W):Wm n0 (λ_=>False) W w.heap.size B.d.p B.q e.q D D:=by
 have a:zB w W:=by rw [<-b];exact zA
 exact ⟨B,E,st,e,by rw [<-b];exact heap_alloc_new w _,rfl,rfl,rfl,h.ek.below a,h.rk.below a,h.e_,lM.of h.e_,h.ap,⟨λf=>by have:=h.ek.lt _ f;omega,λf=>by have:=h.rk.lt _ f;omega⟩,λk hk=>hk.elim,c,h.b1,h.b2⟩
theorem R4 (a n g:Nat) (b0:zL) (la:Option Addr) (ln lc:Nat) (w:World) (hu:Um.aj (a:Int) (n:Int) (g:Int)) (ha:a<=300) (aw:b0.length<=19200): zF 6 #[.agg #[zI a,zI n,zI g, .string (Om.B b0), .slice la ln lc]] w λr w'=>∃p dp qp mp D,r= nf (zP p)/\Wm w.heap.size (λ_=>False) w' p dp qp mp D D/\zB w w':=by
 have sm:1<=n/\n<=1048576/\1<=g/\g<=128/\n+17<=a/\a<=1048576:=by have:=Um.cT hu;omega
 obtain ⟨S,A⟩:=eX2 (w.alloc (hV #[zI a,zI n,zI g, .string (Om.B b0), .slice la ln lc] 26));have R:zB w S:=by rw [<-A];exact zA
 have x:S.heap[w.heap.size]?= some (hV #[zI a,zI n,zI g, .string (Om.B b0), .slice la ln lc] 26 (0,0)):=by rw [<-A];exact heap_alloc_new w _
 have Z:Hid (∀W,zB S W->W.cell? (zz w 0)= some (zI a)/\W.cell? (zz w 1)= some (zI n)/\W.cell? (zz w 2)= some (zI g)/\W.cell? (zz w 3)= some (.string (Om.B b0))):=hT λW hW=>by have r1:=(hW.block _ (ae.lt_of_heap x)).trans x;refine ⟨?_,?_,?_,?_⟩<;>(rw [cell_of_row _ _ _ _ _ _ r1];rfl)
 have ab:lg.wrap (64* (a:Int))= 64* (a:Int):=rr _ (by omega);have YL:=hT (λw1=>RY w1);obtain ⟨PY,t⟩:=eX1 (Om.B (Dm.pad [121]));have YB:Hid (∀w1 r,ae.Rk w1 r (Dm.load [121])->zF 15 #[zP r.p] w1 λe w'=>e= nf (.string PY)/\w1= w'):=hT λw1 r hr=>by have:=ae.BQ hr;rw [Dm.r_]at this;rw [t];exact this
 have YA:Hid (∀s:zL,Om.B s ++ PY= Om.B (s ++ Dm.pad [121])):=hT λs=>by rw [t];exact Om.fy _ _
 have y:(Dm.pad [121]).length= 64:=by decide
 have af:PY.size= 64:=by rw [t,Om.aG];exact y
 have v:=hT R;obtain ⟨c0,c1,c2,c3⟩:=Z.out S zR;have HU:=hT hu;have C:=hT y;clear R x t hu y;go_enter func6,ntmps6;go_upto_region 1 with fail;clear A;go_wp2_with fail;go_loopw [3] (λi wr=>∃s:zL,i= .string (Om.B s)/\s.length<=19264/\Hid (zB S wr)) (λi _=>64*a - fa i);case atStart=>exact ⟨b0,rfl,by omega,hT zR⟩
 case round=>
  obtain ⟨s,rfl,hs,m⟩:=hrel;obtain ⟨c0,c1,c2,c3⟩:=Z.out wr m.out;have ad:((Om.B s).size:Int)= (s.length:Int):=by rw [Om.aG]
  by_cases ao:s.length<64*a;·
   have t1:decide ((s.length:Int) <64* (a:Int)):=by simp;omega
   have ya:=YA.out s;go_wp2_with fail;refine (YL.out _).mono ?_;rintro e w1 ⟨r,rfl,hr, -,j⟩;have CY:=hT (YB.out _ _ hr);have H1:=hT (So.bT j m.out);clear hr j;go_wp2_with fail;refine zh CY.out ?_;go_wp2_with fail;go_roundw;case rel=>exact ⟨s ++ Dm.pad [121],rfl,by rw [DC,C.out];omega,H1⟩
   case measure=>simp only [fa,Om.aG,DC,C.out];omega
  ·have t1:decide ((s.length:Int) <64* (a:Int))= false:=by simp;omega
   obtain ⟨b,hb⟩:=eX1 (s.take (64*a));have l:b.length= 64*a:=by rw [hb,E4];omega
   have hx:(Om.B s).extract 0 (64*a)= Om.B b:=by rw [ae.rJ,hb];rfl
   have e0:(64* (a:Int)).toNat= 64*a:=by omega
   have e1:(0:Int)<=64* (a:Int):=by omega
   have e2:64* (a:Int)<=(s.length:Int):=by omega
   clear hb YL YB YA C af PY;go_upto_region 6 with fail;refine (ae.tE b wr (by omega)).mono ?_;rintro e w1 ⟨o,rfl,J,M,j⟩;have H1:=hT (So.bT j m.out);have F1:=hT λk hk=>A6 m.out.size (M k hk);obtain ⟨hz,f⟩:=Se.vB HU.out l;obtain ⟨D,hD⟩:=eX1 ((b.drop 1088).take (64*n));have Q:D.length= 64*n:=by rw [hD,E4,List.length_drop];omega
   rw [<-hD]at f;have E:=Se.CA J HU.out (by rw [RZ l];exact nm _) (yb _);rw [hz]at E;generalize (So.aa (Dm.load b) (Se.cQ a n g)).1= st at E f;have E:=hT E;have BS:=hT f;obtain ⟨c0,c1,c2, -⟩:=Z.out w1 H1.out;have bl:(Om.B b).extract 1088 (1088+64*n)= Om.B D:=by rw [ae.rJ,hD,show 1088+64*n - 1088= 64*n by omega]
   have bm:((Om.B b).size:Int)= 64* (a:Int):=by rw [Om.aG,l];omega
   have NW:=hT (λw1=>Sn.je a n g D w1 HU.out Q (by omega));clear hz f J M j Q hD hx l;go_upto_region 7 with fail;refine E.out.mono ?_;rintro e w2 ⟨rfl,o2,I,h⟩;have H2:=hT (H1.out.trans (h.fr.below H1.out.size λk hk=>F1.out k hk));have F2:=hT λk hk=>(h.fp k hk).elim (F1.out k) λc=>A6 H1.out.size c;have T:=Se.vx I (BS.out.bE.vy BS.out.aS) ⟨0,0, AF none 0 0, AF none 0 0⟩;rw [h.p]at T;have U:=hT h.p;have T:=hT T;clear I h E;go_upto_region 8 with fail;refine T.out.mono ?_;rintro e w3 ⟨B,rfl,H,O,L, -,P⟩;have H3:=hT (So.bT P H2.out);have F3:=hT λk hk=>(L k hk).elim (F2.out k) λc=>A6 H2.out.size c;have V:=hT H;have bb:Hid (B.d.p= o.p):=hT (by rw [O];exact U.out);clear H O L P T U F1 F2 H1 H2;clear c0 c1 c2 c3;obtain ⟨c0,c1,c2, -⟩:=Z.out w3 H3.out;have g1:lg.wrap (64* (n:Int))= 64* (n:Int):=rr _ (by omega);have g2:lg.wrap (1088+64* (n:Int))= 1088+64* (n:Int):=rr _ (by omega);have g3:(1088+64* (n:Int)).toNat= 1088+64*n:=by omega
   have g5:(1088:Int)<=1088+64* (n:Int):=by omega
   have g6:1088+64* (n:Int)<=64* (a:Int):=by omega
   have g7:1088+64*n<=(Om.B b).size:=by omega
   go_upto_region 8 with fail;clear e0 e1 e2 ab ad t1 ao hs sm ha aw;go_region_held3 (λw'=>w'.cell? (zz w 0)= some (zI a)/\w'.cell? (zz w 1)= some (zI n)/\w'.cell? (zz w 2)= some (zI g)) (first|(refine ⟨?_,?_,?_⟩<;>with_reducible assumption)|(refine ⟨?_,?_,?_⟩<;>(rw [So.cw];with_reducible assumption))) (first
    | (go_at_call 20;refine (NW.out _).mono ?_;rintro e F ⟨e5,rfl,G,K,z⟩;have bf:=hT z;have ba:=hT G;have X:=hT K;have H4:=hT (So.bT z (H3.out.trans (zR.drew.mono H3.out.size)));obtain ⟨k0,k1,k2, -⟩:=Z.out F H4.out;clear G K z));have Y:=So.bT bf.out zR.drew;have N:=((Below.refl w3.heap.size w3).drew).size;have M3:vC w.heap.size F B (Se.kK a n g) st e5 (Se.ju a n g D):=⟨V.out.below Y,ba.out,BS.out,λk hk he=>by have h1:=V.out.lt k hk;have h2:=X.out k he;omega,λk hk=>by have:=F3.out k hk;have:=v.out.size;omega,λk hk=>by have h2:=X.out k hk;have:=v.out.size;have:=H3.out.size;omega⟩;have u:=v.out.trans (H4.out.mono v.out.size);have bg:Hid (∃p dp qp mp D,nf (Value.pointer (some ⟨F.heap.size,0,none⟩))= nf (zP p)/\Wm w.heap.size (λ_=>False) (F.alloc (hV #[zP o.p,zP B.q,zP e5.q] 56)) p dp qp mp D D/\zB w (F.alloc (hV #[zP o.p,zP B.q,zP e5.q] 56))):=hT (by rw [<-bb.out];exact ⟨_,_,_,_,_,rfl,M3.world u.size rfl,u.alloc u.size _⟩);clear M3 u Y N;go_wp2_with fail;go_ret;exact bg.out
structure Ac where
 k:Nat
 id:Int
 at_:Int
 n:Int
 d:List UInt8
structure vG (x:Ac):Prop where
 k:x.k<256
 id: -9223372036854775808<=x.id/\x.id<=9223372036854775807
 at_: -9223372036854775808<=x.at_/\x.at_<=9223372036854775807
 n: -9223372036854775808<=x.n/\x.n<=9223372036854775807
 d:x.d.length<=3000
def fQ (D:Sn.En) (x:Ac):Sn.En:= if x.k % 6= 0 then D.cr x.n else if x.k % 6= 1 then D.del x.id else if x.k % 6= 2 then D else if x.k % 6= 3 then D.wr x.id x.at_ x.d else if x.k % 6= 4 then D.fN x.at_ else D
theorem Sg {p:Nat} (h:Wm n0 X w p dp qp mp D D): zF 28 #[zP p] w λr w'=>r= nf (.bool true)/\(∃q2,Wm n0 X w' p dp q2 mp D D)/\Step n0 X w w':=by obtain ⟨c0,c1,c2,i⟩:=h.cells;have l:=hT (Q7 h);have H:=hT h;clear h;go_enter func28,ntmps28;go_wp2_with fail;refine l.out.mono ?_;rintro r w1 ⟨q2,rfl,hm,g,a⟩;obtain ⟨d,t,s,q⟩:=hm.cells;have f:=hT a;have n:=hT g;have m:=hT hm;clear hm g a c0 c1 c2 i;go_wp2_with fail;go_ret;refine ⟨rfl,⟨q2,f.out⟩,?_⟩;have s1:=Step.ax H.out n.out;obtain ⟨B,E,st,e,c⟩:=m.out;have o:=c.base.1;have b:ae.Fr (λj=>j= p) w1 (w1.setCell ⟨p,1,none⟩ (zP q2)):=ae.Fr.setCell (F:=λj=>j= p) (ae.Fr.refl _ _) ⟨p,1,none⟩ rfl _;exact s1.trans ⟨b.below (by have:=c.iU;omega) λk d=>by have d:=d;omega,λk hx=>b.block k (c.xs k hx).1 (c.xs k hx).2.2.2⟩
theorem Sh {k:Nat} (hk:k<256) (r:Nat) (h:k % 6= r):(k:Int).tmod 6= (r:Int):=by rw [Int.tmod_eq_emod_of_nonneg (by omega)];omega
theorem Si {p:Nat} (h:Wm n0 (λ_=>False) w p dp qp mp D D) (x:Ac) (hx:vG x) (kv:Value) (bb:∃a n c,kv= .slice a n c): zF 7 #[zP p, .agg #[.int RC x.k,zI x.id,zI x.at_,zI x.n, .string (Om.B x.d),kv]] w λr w'=>r= nf (.bool true)/\(∃q2,Wm n0 (λ_=>False) w' p dp q2 mp (fQ D x) (fQ D x))/\Below n0 w w':=by
 obtain ⟨ka,kn,kc,rfl⟩:=bb;obtain ⟨k,id,a,n,d⟩:=x;obtain ⟨u,hid,ao,af,hd⟩:=hx;dsimp only at u hid ao af hd⊢;obtain ⟨W0,ad⟩:=eX2 (w.alloc (hV #[.int RC k,zI id,zI a,zI n, .string (Om.B d), .slice ka kn kc] 34));have v:zB w W0:=by rw [<-ad];exact zA
 have A:W0.heap[w.heap.size]?= some (hV #[.int RC k,zI id,zI a,zI n, .string (Om.B d), .slice ka kn kc] 34 (0,0)):=by rw [<-ad];exact heap_alloc_new w _
 have F:W0.heap.size= w.heap.size+1:=by rw [<-ad];simp
 have E:Hid (Wm n0 (λk=>k= w.heap.size) W0 p dp qp mp D D):=hT (h.more v λk hk=>⟨.inr (by omega),by omega⟩);have H:Hid (Below n0 w W0):=hT (v.mono (by have:=h.lt;omega));have I:Hid (∀w',Step n0 (λk=>k= w.heap.size) W0 w'->w'.cell? (zz w 0)= some (.int RC k)/\w'.cell? (zz w 1)= some (zI id)/\w'.cell? (zz w 2)= some (zI a)/\w'.cell? (zz w 3)= some (zI n)/\w'.cell? (zz w 4)= some (.string (Om.B d))):=hT λw' hs=>by refine ⟨?_,?_,?_,?_,?_⟩<;>(rw [hs.cell rfl,cell_of_row _ _ _ _ _ _ A];rfl)
 have aw:Hid (Step n0 (λk=>k= w.heap.size) W0 W0):=hT ⟨Below.refl _ _,λ_ _=>rfl⟩;have z:Hid (∀w1 w2 D1 D2 q3,Wm n0 (λk=>k= w.heap.size) w1 p dp q3 mp D1 D2->zB w1 w2->Step n0 (λk=>k= w.heap.size) w1 w2):=hT λw1 w2 D1 D2 q3 hm hb=>Step.ax hm hb;have hl:d.length<=1073741824:=by omega
 obtain ⟨g,hg⟩:=eX1 w.heap.size;rw [<-hg]at E I aw z;obtain ⟨t0,t1,t2,t3,t4⟩:=I.out W0 aw.out;obtain ⟨s0,s1,s2,sf⟩:=E.out.cells;have f:=λr C=>Sh u r C;by_cases C:k % 6= 0;·
  have hm:(k:Int).tmod 6= 0:=f 0 (by omega);have b:(k:Int) % 6= 0:=by omega
  have i:fQ D ⟨k,id,a,n,d⟩= D.cr n:=by unfold fQ;dsimp only;rw [if_pos C]
  rw [i];clear h hid hd v A F u f i C;go_enter func7,ntmps7;subst hg;go_wp2_with fail;have L:=hT (λw1 (hm:Wm n0 (λk=>k= w.heap.size) w1 p dp qp mp D D)=>Q0 hm n);go_region_held3 (λw'=>w'.cell? (zD p 1)= some (zP qp)/\w'.cell? (zz w 3)= some (zI n)) (first|(refine ⟨?_,?_⟩<;>with_reducible assumption)|(refine ⟨?_,?_⟩<;>(rw [So.cw];with_reducible assumption))) (first|(go_at_call 16;refine (L.out _ (E.out.below zR.drew)).mono ?_;rintro r w3 ⟨rfl,b,l⟩;have e:=hT b;have j:=hT ((z.out _ _ _ _ _ E.out zR.drew).trans l);obtain ⟨u0,u1,u2,u3,u4⟩:=I.out w3 j.out;obtain ⟨v0,Z,Y,X⟩:=e.out.cells;clear b l));clear s0 s1 s2 sf t0 t1 t2 t3 t4;have M:=hT (λw1 (hm:Wm n0 (λk=>k= w.heap.size) w1 p dp qp mp D (D.cr n))=>Q3 (c:=n) hm);go_wp2_with fail;go_region_held3 (λw'=>w'.cell? (zD p 2)= some (zP mp)/\w'.cell? (zz w 3)= some (zI n)) (first|(refine ⟨?_,?_⟩<;>with_reducible assumption)|(refine ⟨?_,?_⟩<;>(rw [So.cw];with_reducible assumption))) (first|(go_at_call 21;refine (M.out _ (e.out.below zR.drew)).mono ?_;rintro r W ⟨rfl,s,q⟩;have o:=hT s;have m:=hT (j.out.trans ((z.out _ _ _ _ _ e.out zR.drew).trans q));obtain ⟨V,U,T,S,R⟩:=I.out W m.out;obtain ⟨Q,P,O,N⟩:=o.out.cells;clear s q));clear u0 u1 u2 u3 u4 v0 Z Y X V U T S R Q P O N;go_wp2_with fail;go_ret;exact ⟨rfl,⟨qp,o.out.less⟩,H.out.trans m.out.aL⟩
 ·by_cases t:k % 6= 1;·
   have hm:(k:Int).tmod 6= 1:=f 1 (by omega);have b:(k:Int) % 6= 1:=by omega
   have i:fQ D ⟨k,id,a,n,d⟩= D.del id:=by unfold fQ;dsimp only;rw [if_neg C,if_pos t]
   rw [i];clear h hid hd v A F u f i C t;go_enter func7,ntmps7;subst hg;go_wp2_with fail;have L:=hT (λw1 (hm:Wm n0 (λk=>k= w.heap.size) w1 p dp qp mp D D)=>Q1 hm id);have M:=hT (λw1 (hm:Wm n0 (λk=>k= w.heap.size) w1 p dp qp mp D (D.del id))=>Q4 (id:=id) hm);go_region_held3 (λw'=>w'.cell? (zD p 1)= some (zP qp)/\w'.cell? (zD p 2)= some (zP mp)/\w'.cell? (zz w 1)= some (zI id)) (first|(refine ⟨?_,?_,?_⟩<;>with_reducible assumption)|(refine ⟨?_,?_,?_⟩<;>(rw [So.cw];with_reducible assumption))) (first|(go_at_call 22;refine (L.out _ (E.out.below zR.drew)).mono ?_;rintro r w3 ⟨rfl,b,l⟩;have e:=hT b;have j:=hT ((z.out _ _ _ _ _ E.out zR.drew).trans l);obtain ⟨u0,u1,u2,u3,u4⟩:=I.out w3 j.out;obtain ⟨v0,Z,Y,X⟩:=e.out.cells;clear b l)|(go_at_call 23;refine (M.out _ e.out).mono ?_;rintro r W ⟨rfl,s,q⟩;have o:=hT s;have m:=hT (j.out.trans q);obtain ⟨V,U,T,S,R⟩:=I.out W m.out;obtain ⟨Q,P,O,N⟩:=o.out.cells;clear s q));clear s0 s1 s2 sf t0 t1 t2 t3 t4 u0 u1 u2 u3 u4 v0 Z Y X V U T S R Q P O N;go_wp2_with fail;go_ret;exact ⟨rfl,⟨qp,o.out.less⟩,H.out.trans m.out.aL⟩
  ·by_cases y:k % 6= 2;·
    have hm:(k:Int).tmod 6= 2:=f 2 (by omega);have b:(k:Int) % 6= 2:=by omega
    have i:fQ D ⟨k,id,a,n,d⟩= D:=by unfold fQ;dsimp only;rw [if_neg C,if_neg t,if_pos y]
    rw [i];clear h hid hd v A F u f i C t y;go_enter func7,ntmps7;subst hg;go_wp2_with fail;have L:=hT (λw1 (hm:Wm n0 (λk=>k= w.heap.size) w1 p dp qp mp D D)=>pread hm id a n af.1);generalize hRS:D.aA id a n= RS at L;go_region_held3 (λw'=>w'.cell? (zD p 1)= some (zP qp)/\w'.cell? (zz w 1)= some (zI id)/\w'.cell? (zz w 2)= some (zI a)/\w'.cell? (zz w 3)= some (zI n)) (first|(refine ⟨?_,?_,?_,?_⟩<;>with_reducible assumption)|(refine ⟨?_,?_,?_,?_⟩<;>(rw [So.cw];with_reducible assumption))) (first|(go_at_call 18;refine zg (L.out _ (E.out.below zR.drew)) λw3 K=>?_;have K:=Og.dL K;have e:=hT (E.out.below K);have j:=hT (z.out _ _ _ _ _ E.out K);obtain ⟨u0,u1,u2,u3,u4⟩:=I.out w3 j.out;obtain ⟨v0,Z,Y,X⟩:=e.out.cells;clear K));clear s0 s1 s2 sf t0 t1 t2 t3 t4;have ba:=hT (λw1 (hm:Wm n0 (λk=>k= w.heap.size) w1 p dp qp mp D (D))=>Cs hm id a n);have M:=ba;rw [hRS]at M;clear hRS ba;go_wp2_with fail;go_region_held3 (λw'=>w'.cell? (zD p 2)= some (zP mp)/\w'.cell? (zz w 1)= some (zI id)/\w'.cell? (zz w 2)= some (zI a)/\w'.cell? (zz w 3)= some (zI n)) (first|(refine ⟨?_,?_,?_,?_⟩<;>with_reducible assumption)|(refine ⟨?_,?_,?_,?_⟩<;>(rw [So.cw];with_reducible assumption))) (first|(go_at_call 24;refine zg (M.out _ (e.out.below zR.drew)) λW J=>?_;have J:=Og.dL J;have o:=hT (e.out.below J);have m:=hT (j.out.trans (z.out _ _ _ _ _ e.out J));obtain ⟨V,U,T,S,R⟩:=I.out W m.out;obtain ⟨Q,P,O,N⟩:=o.out.cells;clear J));clear u0 u1 u2 u3 u4 v0 Z Y X V U T S R Q P O N;go_wp2_with fail;go_ret;exact ⟨rfl,⟨qp,o.out.less⟩,H.out.trans m.out.aL⟩
   ·by_cases G:k % 6= 3;·
     have hm:(k:Int).tmod 6= 3:=f 3 (by omega);have b:(k:Int) % 6= 3:=by omega
     have i:fQ D ⟨k,id,a,n,d⟩= D.wr id a d:=by unfold fQ;dsimp only;rw [if_neg C,if_neg t,if_neg y,if_pos G]
     rw [i];clear h hid hd v A F u f i C t y G;go_enter func7,ntmps7;subst hg;go_wp2_with fail;have L:=hT (λw1 (hm:Wm n0 (λk=>k= w.heap.size) w1 p dp qp mp D D)=>pwrite hm id a d hl);have M:=hT (λw1 (hm:Wm n0 (λk=>k= w.heap.size) w1 p dp qp mp D (D.wr id a d))=>Q6 (id:=id) (a:=a) (d:=d) hm hl ao.2);go_region_held3 (λw'=>w'.cell? (zD p 1)= some (zP qp)/\w'.cell? (zD p 2)= some (zP mp)/\w'.cell? (zz w 1)= some (zI id)/\w'.cell? (zz w 2)= some (zI a)/\w'.cell? (zz w 4)= some (.string (Om.B d))) (first|(refine ⟨?_,?_,?_,?_,?_⟩<;>with_reducible assumption)|(refine ⟨?_,?_,?_,?_,?_⟩<;>(rw [So.cw];with_reducible assumption))) (first|(go_at_call 17;refine (L.out _ (E.out.below zR.drew)).mono ?_;rintro r w3 ⟨rfl,b,l⟩;have e:=hT b;have j:=hT ((z.out _ _ _ _ _ E.out zR.drew).trans l);obtain ⟨u0,u1,u2,u3,u4⟩:=I.out w3 j.out;obtain ⟨v0,Z,Y,X⟩:=e.out.cells;clear b l)|(go_at_call 25;refine (M.out _ e.out).mono ?_;rintro r W ⟨rfl,s,q⟩;have o:=hT s;have m:=hT (j.out.trans q);obtain ⟨V,U,T,S,R⟩:=I.out W m.out;obtain ⟨Q,P,O,N⟩:=o.out.cells;clear s q));clear s0 s1 s2 sf t0 t1 t2 t3 t4 u0 u1 u2 u3 u4 v0 Z Y X V U T S R Q P O N;go_wp2_with fail;go_ret;exact ⟨rfl,⟨qp,o.out.less⟩,H.out.trans m.out.aL⟩
    ·by_cases ab:k % 6= 4;·
      have hm:(k:Int).tmod 6= 4:=f 4 (by omega);have b:(k:Int) % 6= 4:=by omega
      have i:fQ D ⟨k,id,a,n,d⟩= D.fN a:=by unfold fQ;dsimp only;rw [if_neg C,if_neg t,if_neg y,if_neg G,if_pos ab]
      rw [i];clear h hid hd v A F u f i C t y G ab;go_enter func7,ntmps7;subst hg;go_wp2_with fail;have L:=hT (λw1 (hm:Wm n0 (λk=>k= w.heap.size) w1 p dp qp mp D D)=>Q2 hm a);have M:=hT (λw1 (hm:Wm n0 (λk=>k= w.heap.size) w1 p dp qp mp D (D.fN a))=>Q5 (c:=a) hm);go_region_held3 (λw'=>w'.cell? (zD p 1)= some (zP qp)/\w'.cell? (zD p 2)= some (zP mp)/\w'.cell? (zz w 2)= some (zI a)) (first|(refine ⟨?_,?_,?_⟩<;>with_reducible assumption)|(refine ⟨?_,?_,?_⟩<;>(rw [So.cw];with_reducible assumption))) (first|(go_at_call 26;refine (L.out _ (E.out.below zR.drew)).mono ?_;rintro r w3 ⟨rfl,b,l⟩;have e:=hT b;have j:=hT ((z.out _ _ _ _ _ E.out zR.drew).trans l);obtain ⟨u0,u1,u2,u3,u4⟩:=I.out w3 j.out;obtain ⟨v0,Z,Y,X⟩:=e.out.cells;clear b l)|(go_at_call 27;refine (M.out _ e.out).mono ?_;rintro r W ⟨rfl,s,q⟩;have o:=hT s;have m:=hT (j.out.trans q);obtain ⟨V,U,T,S,R⟩:=I.out W m.out;obtain ⟨Q,P,O,N⟩:=o.out.cells;clear s q));clear s0 s1 s2 sf t0 t1 t2 t3 t4 u0 u1 u2 u3 u4 v0 Z Y X V U T S R Q P O N;go_wp2_with fail;go_ret;exact ⟨rfl,⟨qp,o.out.less⟩,H.out.trans m.out.aL⟩
     ·have hm:(k:Int).tmod 6= 5:=f 5 (by omega);have b:(k:Int) % 6= 5:=by omega
      have i:fQ D ⟨k,id,a,n,d⟩= D:=by unfold fQ;dsimp only;rw [if_neg C,if_neg t,if_neg y,if_neg G,if_neg ab]
      rw [i];clear h hid hd v A F u f i C t y G ab;have AG:=hT (Sg E.out);go_enter func7,ntmps7;subst hg;go_wp2_with fail;refine AG.out.mono ?_;rintro r w3 ⟨rfl,⟨q2,b⟩,l⟩;have e:=hT b;have j:=hT l;clear b l s0 s1 s2 sf t0 t1 t2 t3 t4;go_wp2_with fail;go_ret;exact ⟨rfl,⟨q2,e.out.less⟩,H.out.trans j.out.aL⟩
end Sl
end
section
namespace Sl
open Go.RowKit Go.ChangeShapes Go.WideShapes Go.Deep Go.WideElems Go.Maps
structure Al where
 kp:List Bool
 ka:Option Addr
 kc:Nat
instance:Inhabited Ac:=⟨⟨0,0,0,0, []⟩⟩
instance:Inhabited Al:=⟨⟨[],none,0⟩⟩
def Ac.bU (x:Ac) (y:Al):List Value:= [.int RC x.k,zI x.id,zI x.at_,zI x.n, .string (Om.B x.d), .slice y.ka y.kp.length y.kc]
structure pb (w:World) (x:Ac) (y:Al):Prop where
 k:x.k<256
 id:(Lit.int lg x.id).wf= true
 at_:(Lit.int lg x.at_).wf= true
 n:(Lit.int lg x.n).wf= true
 d:x.d.length<=9223372036854775807
 kp:y.kp.length<=9223372036854775807
 kr:ae.Kept w (λ k=>w.heap.size<=k) y.ka y.kp
section
variable {H:Type} {enc:TypeId×Value→H} {w:World} {spare:Nat→Bool} {held:Bool}
theorem Sj:prog.cellsOf 34= 6:=by kernel_rfl
variable{y:DataW H×List MemPlace}
theorem Sm {n:Nat} {cs:List Value} (A:cs.length= 6) (h:TI enc prog w 0 spare held n 34 cs= some y):∃x l,cs= Ac.bU x l/\pb w x l:=by obtain ⟨xs,m,_,_,_,b,a⟩:=Xj underlying34 h;match cs,A with
 | [v0, v1, v2, v3, v4, v5], _ =>
 have f0:TI enc prog w 0 spare held m 5 ((([v0,v1,v2,v3,v4,v5]:List Value).drop 0).take (prog.cellsOf 5))= xs[0]?:=a 0 _ rfl;have f1:TI enc prog w 0 spare held m 3 ((([v0,v1,v2,v3,v4,v5]:List Value).drop 1).take (prog.cellsOf 3))= xs[1]?:=a 1 _ rfl;have v:TI enc prog w 0 spare held m 3 ((([v0,v1,v2,v3,v4,v5]:List Value).drop 2).take (prog.cellsOf 3))= xs[2]?:=a 2 _ rfl;have u:TI enc prog w 0 spare held m 3 ((([v0,v1,v2,v3,v4,v5]:List Value).drop 3).take (prog.cellsOf 3))= xs[3]?:=a 3 _ rfl;have t:TI enc prog w 0 spare held m 9 ((([v0,v1,v2,v3,v4,v5]:List Value).drop 4).take (prog.cellsOf 9))= xs[4]?:=a 4 _ rfl;have r:TI enc prog w 0 spare held m 32 ((([v0,v1,v2,v3,v4,v5]:List Value).drop 5).take (prog.cellsOf 32))= xs[5]?:=a 5 _ rfl;have b:xs.length= 6:=b;rw [ae.Sd,C1 (by omega)]at f0;rw [ae.CF,C1 (by omega)]at f1 v u;rw [ae.CG,C1 (by omega)]at t;rw [ae.Sf,C1 (by omega)]at r;obtain ⟨k,j,_,z⟩:=U9 underlying5 f0;obtain ⟨o,i,_,w1⟩:=U9 underlying3 f1;obtain ⟨f,g,_,w2⟩:=U9 underlying3 v;obtain ⟨n,e,_,w3⟩:=U9 underlying3 u;obtain ⟨s,d,_,q⟩:=Yv underlying9 t;obtain ⟨ka,ks,kc,B,p,hk⟩:=ae.Sa r;have j:v0= .int RC k:=by simpa using j
 have i:v1= .int lg o:=by simpa using i
 have g:v2= .int lg f:=by simpa using g
 have e:v3= .int lg n:=by simpa using e
 have d:v4= .string s:=by simpa using d
 obtain ⟨k,rfl,c⟩:=ae.Sb z;refine ⟨⟨k,o,f,n,Om.L s⟩,⟨ks,ka,kc⟩,?_,⟨c,w1,w2,w3,?_,?_,hk⟩⟩;· rw [j,i,g,e,d,B];unfold Ac.bU;rw [Om.vP]
 ·show (Om.L s).length<=_;rw [Om.vQ];unfold maxLen at q;exact q
 ·unfold maxLen at p;exact p
def pd (w:World) (a:Option Addr) (xs:List (Ac×Al)):Prop:=xs≠ []->∃b off,a= some ⟨b,off,none⟩/\b<w.heap.size/\∀i x,xs[i]?= some x->(∀j v,(x.1.bU x.2)[j]?= some v->w.cell? ⟨b,off+i*6+j,none⟩= some v)/\pb w x.1 x.2
variable{v:Value}
theorem Sq {fuel:Nat} {x:DataW H×List MemPlace} (h:TI enc prog w 0 spare held fuel 24 [v]= some x): ∃(a:Option Addr) (xs:List (Ac×Al)) (c:Nat),v= .slice a xs.length c/\xs.length<=9223372036854775807/\pd w a xs:=by
 rcases open_slice underlying24 h with ⟨d,_⟩|⟨a,len,cap,m,n,D,Pl,k,_,E,u,hm,_,o⟩;· injection d with d;exact ⟨none, [],0,d,yb _,λh=>(h rfl).elim⟩
 ·injection k with k;have C:len<=m:=by rw [hm];split<;>omega
  rw [Sj]at o;by_cases B:len= 0;· subst B;exact ⟨some a, [],cap,k,yb _,λh=>(h rfl).elim⟩
  ·obtain ⟨z,f,_⟩:=o 0 (by omega);obtain ⟨_,_,g⟩:=Xk f;have d:=g 0 (by decide);have q:0<z.length:=by obtain ⟨_,A,_⟩:=Xk f;omega
   rw [C1 q]at d;rw [show (a.add (0*6)).add 0= a from rfl]at d;obtain ⟨b,off,rfl⟩:=ae.CD d;obtain ⟨X,F⟩:=choose_lt (α:=Ac×Al) (n:=m) (p:=λi x=>(∀j v,(x.1.bU x.2)[j]?= some v->w.cell? ⟨b,off+i*6+j,none⟩= some v)/\pb w x.1 x.2) (λi hi=>by
    obtain ⟨cs,h1,G⟩:=o i hi;rw [Xi]at h1;obtain ⟨_,A,y⟩:=Xk h1;obtain ⟨x,l,e,s⟩:=Sm A G;refine ⟨(x,l),λj v hj=>?_,s⟩;have r:j<6:=by have:=(C2.1 hj).1;simpa [Ac.bU] using this
    have:=y j r;rw [Xi,e]at this;rw [this];exact hj);refine ⟨some ⟨b,off,none⟩,(List.range len).map X,cap,by rw [k,PN,Tw],by rw [PN,Tw];unfold maxLen at u;omega,λhn=>⟨b,off,rfl,ae.nA d,λi x hi=>?_⟩⟩;have t:i<len:=by have:=(C2.1 hi).1;rwa [PN,Tw]at this
   rw [List.getElem?_map,List.getElem?_range t]at hi;injection hi with hi;rw [<-hi];exact F i (by omega)
theorem Sr:prog.cellsOf 26= 5:=by kernel_rfl
theorem Ss:prog.cellsOf 23= 3:=by kernel_rfl
theorem Su:prog.cellsOf 24= 1:=by kernel_rfl
theorem Sw {n:Nat} {v0 v1 v2:Value} (h:TI enc prog w 0 spare held n 23 [v0,v1,v2]= some y):∃a b c,v0= .int lg a/\v1= .int lg b/\v2= .int lg c:=by obtain ⟨xs,m,_,_,_,d,e⟩:=Xj underlying23 h;have d:xs.length= 3:=d;have f0:TI enc prog w 0 spare held m 3 ((([v0,v1,v2]:List Value).drop 0).take (prog.cellsOf 3))= xs[0]?:=e 0 _ rfl;have f1:TI enc prog w 0 spare held m 3 ((([v0,v1,v2]:List Value).drop 1).take (prog.cellsOf 3))= xs[1]?:=e 1 _ rfl;have f:TI enc prog w 0 spare held m 3 ((([v0,v1,v2]:List Value).drop 2).take (prog.cellsOf 3))= xs[2]?:=e 2 _ rfl;rw [ae.CF,C1 (by omega)]at f0 f1 f;obtain ⟨a,j,_,k⟩:=U9 underlying3 f0;obtain ⟨b,i,_,w1⟩:=U9 underlying3 f1;obtain ⟨c,g,_,w2⟩:=U9 underlying3 f;exact ⟨a,b,c,by simpa using j,by simpa using i,by simpa using g⟩
structure vH (w:World) (b:zL) (la:Option Addr) (xs:List (Ac×Al)):Prop where
 b:b.length<=9223372036854775807
 len:xs.length<=9223372036854775807
 Ti:pd w la xs
theorem Sx {r:Reach} {b0:Nat} {d:DataW H} {p:List MemPlace} (t:Value.okWide prog w r b0 26 v) (h:DataW.Trod enc prog w 0 spare held 26 v d p): ∃(a n g:Int) (b:zL) (la:Option Addr) (xs:List (Ac×Al)) (lc:Nat),v= .agg #[.int lg a, .int lg n, .int lg g, .string (Om.B b), .slice la xs.length lc]/\vH w b la xs:=by
 obtain ⟨cs,rfl,i⟩:=okWide_struct underlying26 t;obtain ⟨fuel,c⟩:=h;have j:cs.toList.length= 5:=by rw [Array.length_toList];exact i.trans Sr
 obtain ⟨l⟩:=cs;have j:l.length= 5:=j;match l,j with
  | [v0, v1, v2, v3, v4], _ =>
  have c:TI enc prog w 0 spare held fuel 26 [v0,v1,v2,v3,v4]= some _:=c;obtain ⟨f,k,_,_,_,e,m⟩:=Xj underlying26 c;have e:f.length= 3:=e;have f0:TI enc prog w 0 spare held k 23 ((([v0,v1,v2,v3,v4]:List Value).drop 0).take (prog.cellsOf 23))= f[0]?:=m 0 _ rfl;have f1:TI enc prog w 0 spare held k 9 ((([v0,v1,v2,v3,v4]:List Value).drop 3).take (prog.cellsOf 9))= f[1]?:=m 1 _ rfl;have q:TI enc prog w 0 spare held k 24 ((([v0,v1,v2,v3,v4]:List Value).drop 4).take (prog.cellsOf 24))= f[2]?:=m 2 _ rfl;rw [Ss,C1 (by omega)]at f0;rw [ae.CG,C1 (by omega)]at f1;rw [Su,C1 (by omega)]at q;obtain ⟨a,n,g,rfl,rfl,rfl⟩:=Sw f0;obtain ⟨s,o,_,w1⟩:=Yv underlying9 f1;obtain ⟨la,xs,lc,y,u,x⟩:=Sq q;have o:v3= .string s:=by simpa using o
  exact ⟨a,n,g,Om.L s,la,xs,lc,by rw [o,y,Om.vP],⟨by rw [Om.vQ];unfold maxLen at w1;exact w1,u,x⟩⟩
end
end Sl
end
section
namespace Sl
open Go.RowKit
def CI (x:Ac) (y:Al) (w:World) (e:Ending) (w':World):Prop:=∃res,e= nf (.bool res)/\zB w w'/\(res= true->x.d.length<=3000)
theorem Sy (x:Ac) (y:Al) (w:World):zF 10 #[.agg #[.int RC x.k,zI x.id,zI x.at_,zI x.n, .string (Om.B x.d), .slice y.ka y.kp.length y.kc]] w (CI x y w):=by
 obtain ⟨f,b⟩:=eX2 (w.alloc (hV #[.int RC x.k,zI x.id,zI x.at_,zI x.n, .string (Om.B x.d), .slice y.ka y.kp.length y.kc] 34));have c:=heap_alloc_new w (hV #[.int RC x.k,zI x.id,zI x.at_,zI x.n, .string (Om.B x.d), .slice y.ka y.kp.length y.kc] 34);have j:zB w f:=by rw [<-b];exact zA
 rw [b]at c;have c4:f.cell? (zz w 4)= some (.string (Om.B x.d)):=zW c;have c5:f.cell? (zz w 5)= some (.slice y.ka y.kp.length y.kc):=zW c;obtain ⟨S,e⟩:=eX1 (Om.B x.d);obtain ⟨L,g⟩:=eX1 x.d.length;obtain ⟨K,i⟩:=eX1 y.kp.length;have m:S.size= L:=by rw [e,Om.aG,g]
 have a:Hid (∀r:Bool,(r= true->L<=3000)->CI x y w (nf (.bool r)) f):=hT λr h=>⟨r,rfl,j,λl=>by rw [<-g];exact h l⟩;rw [<-e,<-i]at b⊢;rw [<-e]at c4;rw [<-i]at c5;clear c j e g i;by_cases h1:L<=3000;·
  have d1:decide ((L:Int)<=3000):=by simp;omega
  by_cases l:K<=1000;·
   have d3:decide ((K:Int)<=1000):=by simp;omega
   have F:=hT (a.out true λ_=>h1);clear a;go_enter func10,ntmps10;go_wp2_with fail;go_ret;exact F.out
  ·have d3:decide ((K:Int)<=1000)= false:=by simp;omega
   have F:=hT (a.out false λh=>by cases h);clear a;go_enter func10,ntmps10;go_wp2_with fail;go_ret;exact F.out
 ·have d1:decide ((L:Int)<=3000)= false:=by simp;omega
  have F:=hT (a.out false λh=>by cases h);clear a;go_enter func10,ntmps10;go_wp2_with fail;go_ret;exact F.out
def nh (a n g:Int) (b:zL) (xs:List (Ac×Al)) (w:World) (e:Ending) (w':World):Prop:=∃res,e= nf (.bool res)/\zB w w'/\(res= true->Um.aj a n g= true/\a<=300/\b.length<=19200/\xs.length<=30/\∀x∈xs,x.1.d.length<=3000)
variable{xs:List (Ac×Al)}{w:World}
theorem nh.no {a n g:Int} {b:zL} {w':World} (c:zB w w'):nh a n g b xs w (nf (.bool false)) w':=⟨false,rfl,c,λh=>by cases h⟩
structure oU (xs:List (Ac×Al)) (k:Nat):Prop where
 all:∀i x,i<k->xs[i]?= some x->x.1.d.length<=3000
theorem qO {la:Option Addr} (a n g:Int) (b:zL) (N lc:Nat) (U:N= xs.length) (af:N<=9223372036854775807) (l:b.length<=9223372036854775807) (h:pd w la xs): zF 4 #[.agg #[zI a,zI n,zI g, .string (Om.B b), .slice la N lc]] w (nh a n g b xs w):=by
 obtain ⟨C,m⟩:=eX2 (w.alloc (hV #[zI a,zI n,zI g, .string (Om.B b), .slice la N lc] 26));have M:=heap_alloc_new w (hV #[zI a,zI n,zI g, .string (Om.B b), .slice la N lc] 26);have A:zB w C:=by rw [<-m];exact zA
 rw [m]at M;have X:Hid (∀W,zB C W->W.cell? (zz w 0)= some (zI a)/\W.cell? (zz w 1)= some (zI n)/\W.cell? (zz w 2)= some (zI g)/\W.cell? (zz w 3)= some (.string (Om.B b))/\W.cell? (zz w 4)= some (.slice la N lc)):=hT λW hW=>by have r1:=(hW.block _ (ae.lt_of_heap M)).trans M;refine ⟨?_,?_,?_,?_,?_⟩<;>(rw [cell_of_row _ _ _ _ _ _ r1];rfl)
 have HN:=hT U;have AT:Hid (∀W,zB C W->∀k x,xs[k]?= some x->∃q off,la= some ⟨q,off,none⟩/\W.cell? ⟨q,off+k*6,none⟩= some (.int RC x.1.k)/\W.cell? ⟨q,off+k*6+1,none⟩= some (zI x.1.id)/\W.cell? ⟨q,off+k*6+2,none⟩= some (zI x.1.at_)/\W.cell? ⟨q,off+k*6+3,none⟩= some (zI x.1.n)/\ W.cell? ⟨q,off+k*6+4,none⟩= some (.string (Om.B x.1.d))/\W.cell? ⟨q,off+k*6+5,none⟩= some (.slice x.2.ka x.2.kp.length x.2.kc)):=hT λW hW k x f=>by obtain ⟨q,off,e,s,I⟩:=h (λe=>by rw [e]at f;simp at f);obtain ⟨E,ad⟩:=I k x f;have R:=A.trans (hW.mono A.size);have D:∀j v,w.cell? (zD q j)= some v->W.cell? (zD q j)= some v:=λj v hv=>(R.cell (p:=(zD q j)) s).trans hv;exact ⟨q,off,e,D _ _ (E 0 _ rfl),D _ _ (E 1 _ rfl),D _ _ (E 2 _ rfl),D _ _ (E 3 _ rfl),D _ _ (E 4 _ rfl),D _ _ (E 5 _ rfl)⟩
 have J:Hid (∀W,zB C W->nh a n g b xs w (nf (.bool false)) W):=hT λW hW=>nh.no (A.trans (hW.mono A.size));obtain ⟨S,T⟩:=eX1 (Om.B b);obtain ⟨L,H⟩:=eX1 b.length;have hs:S.size= L:=by rw [T,Om.aG,H]
 rw [<-H]at l;have o:Hid (∀W,zB C W->Um.aj a n g= true->oU xs N->N<=30->a<=300->L<=19200->nh a n g b xs w (nf (.bool true)) W):=hT λW hW hu hf h24 G hl=>⟨true,rfl,A.trans (hW.mono A.size),λ_=>⟨hu,G,by omega,by omega,λx f=>by obtain ⟨i,hi⟩:=List.getElem?_of_mem f;exact hf.all i x (by rw [U];exact (C2.1 hi).1) hi⟩⟩;obtain ⟨u,hu⟩:=eX1 (Um.aj a n g);have Z:Hid (∀w1,zF 9 #[zO a n g] w1 λe w'=>e= nf (.bool u)/\zB w1 w'):=hT λw1=>by rw [hu];exact BF a n g w1
 rw [<-hu]at o;have V:=hT (λw1 x y=>Sy x y w1);rw [<-T]at m⊢X;obtain ⟨c0,c1,c2,c3,c4⟩:=X.out C zR;clear h M A U T H hu;go_enter func4,ntmps4;go_wp2_with fail;clear m;refine zg (Z.out _) λw1 hb1=>?_;have H1:=hT hb1;clear hb1 Z;go_wp2_with fail;go_loopw [4] (λi wr=>∃k:Nat,i= zI k/\k<=N/\k<=31/\Hid (zB C wr)/\Hid (oU xs k)) (λi _=>N - (wo i).toNat);case atStart=>exact ⟨0,rfl,yb _,by omega,H1,hT ⟨λi x hi=>absurd hi (by omega)⟩⟩
 case round=>
  obtain ⟨k,rfl,hk,Y,c,t⟩:=hrel;obtain ⟨e0,e1,e2,e3,e4⟩:=X.out wr c.out;by_cases Q:k<N/\k<=30;·
   obtain ⟨s,ao⟩:=Q;have d3:decide ((k:Int)<=30):=by simp;omega
   have b1:(0:Int)<=(k:Int):=by omega
   have b2:(k:Int) < (N:Int):=by omega
   have ab:lg.wrap ((k:Int) +1)= ((k+1:Nat):Int):=by rw [rr _ (by omega)];rfl
   obtain ⟨x,f⟩:∃x,xs[k]?= some x:=⟨xs[k]'(by have:=HN.out;omega),C1 _⟩;obtain ⟨q,off,O,g0,g1,g2,g3,g4,g5⟩:=AT.out wr c.out k x f;subst O;have NX:Hid (x.1.d.length<=3000->oU xs (k+1)):=hT λh1=>⟨λi z hi hz=>by
    by_cases e:i= k;· rw [e,f]at hz;injection hz with hz;subst hz;exact h1
    ·exact t.out.all i z (by omega) hz⟩;have O1:=hT (V.out wr x.1 x.2);clear f t;generalize x.1.k= xk at *;go_upto_region 6 with fail;refine O1.out.mono ?_;rintro e w2 ⟨res,rfl,l,r⟩;have H2:=zT c l;clear l O1;cases res with
    | false => go_wp2_with fail;go_ret;exact J.out _ H2.out
    | true =>
    have F:=hT (NX.out (r rfl));clear NX r;go_wp2_with fail;go_roundw;case rel=>exact ⟨k+1,rfl,by omega,by omega,H2,F⟩
    case measure=>simp [wo];omega
  ·by_cases s:k<N;·
    have d3:decide ((k:Int)<=30)= false:=by simp;omega
    have d5:decide ((N:Int)<=30)= false:=by simp;omega
    have F:=hT (J.out _ c.out);clear J o AT V;cases u with
     | false => go_wp2_with fail;go_ret;exact F.out
     | true =>
     by_cases G:a<=300;·
      by_cases H:L<=19200;·
       have t2:decide ((L:Int)<=19200):=by simp;omega
       go_wp2_with fail;go_ret;exact F.out
      ·have t2:decide ((L:Int)<=19200)= false:=by simp;omega
       go_wp2_with fail;go_ret;exact F.out
     ·go_wp2_with fail;go_ret;exact F.out
   ·obtain rfl:k= N:=by omega
    have K:=hT (J.out _ c.out);have FY:=hT (λhu hk G hl=>o.out _ c.out hu t.out hk G hl);clear J o AT V;cases u with
     | false => go_wp2_with fail;go_ret;exact K.out
     | true =>
     by_cases G:a<=300;·
      by_cases H:L<=19200;·
       have t2:decide ((L:Int)<=19200):=by simp;omega
       by_cases P:k<=30;·
        have t4:decide ((k:Int)<=30):=by simp;omega
        have F:=hT (FY.out rfl P G H);clear K FY;go_wp2_with fail;go_ret;exact F.out
       ·have t4:decide ((k:Int)<=30)= false:=by simp;omega
        go_wp2_with fail;go_ret;exact K.out
      ·have t2:decide ((L:Int)<=19200)= false:=by simp;omega
       go_wp2_with fail;go_ret;exact K.out
     ·go_wp2_with fail;go_ret;exact K.out
def gZ:zL:=Dm.pad [97]
def aZ:zL:=vw 3840 0
def ni:Sn.En:=Se.ju 60 8 2 ((aZ.drop 1088).take (64*8))
def rU:Sn.En:=ni.cr 2
def iv:Sn.En:=rU.wr 0 1 (gZ ++ gZ)
def pe:Sn.En:=iv.wr 0 4 gZ
theorem CJ:Dm.fresh 60= Dm.load aZ:=by kernel_rfl
theorem CK:ni.gJ 2= 1/\ni.fw 2= 0:=by constructor<;>kernel_rfl
theorem Sz:rU.cD 0 1 (gZ ++ gZ)= 0:=by kernel_rfl
theorem CM:iv.aY 1 1 2= 0/\iv.aA 1 1 2= vw 128 0:=by constructor<;>kernel_rfl
theorem CN:iv.aY 0 2 1= 0/\iv.aA 0 2 1= gZ:=by constructor<;>kernel_rfl
theorem SJ:iv.cD 0 4 gZ= 0:=by kernel_rfl
theorem SQ:pe.aY 1 0 1= 162:=by kernel_rfl
def Lv (n0:Nat) (w:World) (q:Nat) (D:Sn.En):Prop:=n0<=w.heap.size/\∃B E st,B.q= q/\Se.Ek w B E st/\Se.eY E st D/\∀k,B.fp E k->n0<=k
variable{n0:Nat}
theorem CP {w':World} {B:Se.Eb} {E:Se.En} {D':Sn.En} (b:n0<=w.heap.size) (d:∀k,B.fp E k->n0<=k) (e:Se.fL B E D' w w'):Lv n0 w' B.q D'/\Below n0 w w':=by
 obtain ⟨E',st',⟨g,hk,a⟩,f⟩:=e;refine ⟨⟨A6 b a.fr.size,g,E',st',a.q,hk,f,λk hk2=>?_⟩,a.fr.below b λk hk2=>d k hk2⟩;rcases a.fp k hk2 with c|c;· exact d k c
 ·omega
variable{q:Nat}{D:Sn.En}
theorem Lv.below {w':World} (h:Lv n0 w q D) (a:zB w w'):Lv n0 w' q D:=by obtain ⟨b,B,E,st,e,hk,h1,c⟩:=h;exact ⟨A6 b a.size,B,E,st,e,hk.below a,h1,c⟩
theorem SX (h:Lv n0 w q D) (c:Int):zF 16 #[zP q,zI c] w λr w'=>r= zV (zI (D.gJ c)) (zI (D.fw c))/\Lv n0 w' q (D.cr c)/\Below n0 w w':=by obtain ⟨a,B,E,st,rfl,hk,h1,b⟩:=h;refine zg (Se.Cp hk h1 c) λw' hg=>?_;exact ⟨rfl,CP a b hg⟩
theorem CQ (h:Lv n0 w q D) (id a:Int) (d:zL) (c:d.length<=1073741824):zF 17 #[zP q,zI id,zI a, .string (Om.B d)] w λr w'=>r= nf (zI (D.cD id a d))/\Lv n0 w' q (D.wr id a d)/\Below n0 w w':=by obtain ⟨b,B,E,st,rfl,hk,h1,e⟩:=h;refine zg (Se.Cr hk h1 id a d c) λw' hg=>?_;exact ⟨rfl,CP b e hg⟩
theorem vI (h:Lv n0 w q D) (id a m:Int) (hm: -9223372036854775808<=m):zF 18 #[zP q,zI id,zI a,zI m] w λr w'=>r= zV (.string (Om.B (D.aA id a m))) (zI (D.aY id a m))/\Lv n0 w' q D/\Below n0 w w':=by have c:=h;obtain ⟨b,B,E,st,rfl,hk,h1,d⟩:=h;refine zg (Se.Cq hk h1 id a m hm) λw' hb=>?_;exact ⟨rfl,c.below hb,hb.mono b⟩
def Fd (n0:Nat) (w:World) (q:Nat):Prop:=n0<=w.heap.size/\∃o E st,ae.Ob.p o= q/\ae.Dk w o st/\Se.eY E st ni/\∀k,o.fp k->n0<=k
theorem S4 {o:ae.Ob} (f:n0<=w.heap.size) (hk:ae.Dk w o (Dm.fresh 60)) (g:∀k,o.fp k->n0<=k):zF 12 #[zP o.p, zO 60 8 2] w λe w'=>e= nf (zI 0)/\Fd n0 w' o.p/\Below n0 w w':=by
 have hu:Um.aj ((60:Nat):Int) ((8:Nat):Int) ((2:Nat):Int):=by decide
 rw [CJ]at hk;have m:(Dm.load aZ).S.length= 60:=by rw [<-CJ];simp [Dm.fresh]
 obtain ⟨l,n⟩:=Se.vB (b:=aZ) hu (by simp [aZ]);have i:=Se.CA hk hu (by rw [m];exact nm _) (yb _);rw [l]at i;refine Calls.mono i ?_;rintro e w' ⟨rfl,j,d,a⟩;refine ⟨rfl,⟨A6 f a.fr.size,j,_,_,a.p,d,n,λk h=>?_⟩,a.fr.below f λk h=>g k h⟩;rcases a.fp k h with c|c;· exact g k c
 ·omega
theorem S5 (h:Fd n0 w q):zF 13 #[zP q] w λe w'=>∃q2,e= zV (zP q2) (zI 0)/\Lv n0 w' q2 ni/\Below n0 w w':=by obtain ⟨b,o,E,st,rfl,hk,g,i⟩:=h;refine (Se.vx hk (g.bE.vy g.aS) ⟨0,0, AF none 0 0, AF none 0 0⟩).mono ?_;rintro e w' ⟨B,rfl,d,hd,f, -,a⟩;exact ⟨B.q,rfl,⟨A6 b a.size,B,E,st,rfl,d,g,λk h=>(f k h).elim (i k) λc=>A6 b c⟩,a.mono b⟩
theorem S6 {X:ByteArray} (e:X= Om.B (vw 128 0)) (hh:0<X.size):(X[0]'hh).toNat= 0:=by subst e;rfl
theorem S7 (w:World):zF 5 #[] w (zJ (.bool true) w):=by
 have W:Hid (∀w1,zB w w1->zF 11 #[zI 60] w1 λe w'=>∃o,e= nf (zP o.p)/\ae.Dk w' o (Dm.fresh 60)/\(∀k,o.fp k->w.heap.size<=k)/\zB w w'):=hT λw1 h1=>by refine (ae.je 60 w1 (by decide)).mono ?_;rintro e w' ⟨o,rfl,a,b,c⟩;exact ⟨o,rfl,a,λk hk=>A6 h1.size (b k hk),h1.trans (c.mono h1.size)⟩
 have Z:Hid (∀w1,zF 14 #[.string ⟨#[97]⟩] w1 λe w'=>∃r,e= nf (zP r.p)/\ae.Rk w' r (Dm.load [97])/\(∀k,r.fp k->w1.heap.size<=k)/\zB w1 w'):=hT λw1=>ae.CB [97] w1 (by decide);obtain ⟨P,m⟩:=eX1 (Om.B gZ);obtain ⟨U,l⟩:=eX1 (Om.B (gZ ++ gZ));obtain ⟨X,J⟩:=eX1 (Om.B (vw 128 0));have BY:Hid (∀w1 r,ae.Rk w1 r (Dm.load [97])->zF 15 #[zP r.p] w1 λe w'=>e= nf (.string P)/\w1= w'):=hT λw1 r H=>by have:=ae.BQ H;rw [Dm.r_]at this;rw [m];exact this
 have ao:P ++ P= U:=by rw [m,l];exact Om.fy _ _
 have af:¬9223372036854775807<P.size+P.size:=by rw [m,Om.aG];decide
 have aw:X.size= 128:=by rw [J,Om.aG];simp
 have FM:=hT (λw1 o (hn:w.heap.size<=w1.heap.size) hk I=>S4 (n0:=w.heap.size) (w:=w1) (o:=o) hn hk I);have V:=hT (λw1 q (h:Fd w.heap.size w1 q)=>S5 h);have CR:Hid (∀w1 q,Lv w.heap.size w1 q ni->zF 16 #[zP q,zI 2] w1 λr w'=>r= zV (zI 1) (zI 0)/\Lv w.heap.size w' q rU/\Below w.heap.size w1 w'):=hT λw1 q h=>by have:=SX h 2;rw [CK.1,CK.2]at this;exact this
 have Q:Hid (∀w1 q,Lv w.heap.size w1 q rU->zF 17 #[zP q,zI 0,zI 1, .string U] w1 λr w'=>r= nf (zI 0)/\Lv w.heap.size w' q iv/\Below w.heap.size w1 w'):=hT λw1 q h=>by have:=CQ h 0 1 (gZ ++ gZ) (by decide);rw [Sz,<-l]at this;exact this
 have T:Hid (∀w1 q,Lv w.heap.size w1 q iv->zF 18 #[zP q,zI 1,zI 1,zI 2] w1 λr w'=>r= zV (.string X) (zI 0)/\Lv w.heap.size w' q iv/\Below w.heap.size w1 w'):=hT λw1 q h=>by have:=vI h 1 1 2 (by decide);rw [CM.1,CM.2,<-J]at this;exact this
 have S:Hid (∀w1 q,Lv w.heap.size w1 q iv->zF 18 #[zP q,zI 0,zI 2,zI 1] w1 λr w'=>r= zV (.string P) (zI 0)/\Lv w.heap.size w' q iv/\Below w.heap.size w1 w'):=hT λw1 q h=>by have:=vI h 0 2 1 (by decide);rw [CN.1,CN.2,<-m]at this;exact this
 have O:Hid (∀w1 q,Lv w.heap.size w1 q iv->zF 17 #[zP q,zI 0,zI 4, .string P] w1 λr w'=>r= nf (zI 0)/\Lv w.heap.size w' q pe/\Below w.heap.size w1 w'):=hT λw1 q h=>by have:=CQ h 0 4 gZ (by decide);rw [SJ,<-m]at this;exact this
 obtain ⟨Y,M⟩:=eX1 (Om.B (pe.aA 1 0 1));have R:Hid (∀w1 q,Lv w.heap.size w1 q pe->zF 18 #[zP q,zI 1,zI 0,zI 1] w1 λr w'=>r= zV (.string Y) (zI 162)/\Lv w.heap.size w' q pe/\Below w.heap.size w1 w'):=hT λw1 q h=>by have:=vI h 1 0 1 (by decide);rw [SQ,<-M]at this;exact this
 have HX:=hT J;clear m l J M;go_enter func5,ntmps5;go_wp2_with fail;refine (W.out _ zR).mono ?_;rintro e w1 ⟨o,rfl,hk,I,j⟩;have B1:=hT j;have F1:=hT (FM.out w1 o j.size hk I);clear hk I j FM W;go_wp2_with fail;refine F1.out.mono ?_;rintro e w2 ⟨rfl,y,F⟩;have B2:=hT (B1.out.trans F);have F2:=hT (V.out w2 _ y);clear y F F1 V;go_wp2_with fail;refine F2.out.mono ?_;rintro e w3 ⟨q,rfl,v,E⟩;have B3:=hT (B2.out.trans E);have L3:=hT v;clear v E F2;go_wp2_with fail;refine (Z.out w3).mono ?_;rintro e w4 ⟨r,rfl,H, -,i⟩;have B4:=zT B3 i;have L4:=hT (L3.out.below i);have N:=hT (BY.out _ _ H);clear H i L3 Z BY;go_wp2_with fail;refine zh N.out ?_;have C4:=hT (CR.out _ _ L4.out);clear CR N L4;go_wp2_with fail;refine C4.out.mono ?_;rintro e w6 ⟨rfl,u,D⟩;have B6:=hT (B4.out.trans D);have L6:=hT (Q.out _ _ u);clear u D C4 Q;go_wp2_with fail;refine L6.out.mono ?_;rintro e w7 ⟨rfl,t,C⟩;have B7:=hT (B6.out.trans C);have L7:=hT (T.out _ _ t);clear t C L6 T;go_wp2_with fail;refine L7.out.mono ?_;rintro e w8 ⟨rfl,s,A⟩;have B8:=hT (B7.out.trans A);have L8:=hT (S.out _ _ s);clear s A L7 S;go_wp2_with fail;refine L8.out.mono ?_;rintro e w9 ⟨rfl,n,z⟩;have B9:=hT (B8.out.trans z);have L9:=hT (O.out _ _ n);clear n z L8 O;go_wp2_with fail;refine L9.out.mono ?_;rintro e ad ⟨rfl,d,g⟩;have L:=hT (B9.out.trans g);have G:=hT (R.out _ _ d);clear d g L9 R;go_wp2_with fail;refine G.out.mono ?_;rintro e ab ⟨rfl,x,f⟩;have K:=hT (L.out.trans f);clear x f G;go_wp2_with fail;· go_ret;exact ⟨rfl,K.out⟩
 ·rename_i hx;exact absurd (S6 HX.out _) hx
end Sl
end
end Go.Proofs.YtchihokmgmchcaaGreat
